import PyProof.Rows.All
import Wide.All
import OpenK.AllK
import Wide.FinOn
import Lean
import PyProof.EqAt
import PyProof.EqKinds
import PyProof.TupleCall
import PySem.Challenge.RW_atonce_k03_units_posted
set_option Elab.async false
set_option linter.all false
set_option maxRecDepth 100000
/-! THE HAND LAYER, for ints, bools, texts, own classes, LISTS and tuples (index, slices, in, append, pop ..), calls, loops. Paste it whole ahead of your own text; what your proof does not reach may be deleted. -/
namespace L2
open PySem PySem.Spec PyProof.Rows

/-- a key: an int or a str -/
abbrev Key := Sum Int Str
def keyIs : Key → Value → Bool
  | .inl k, v => Value.isInt k v
  | .inr x, v => Value.isStrOf x v
def keyH (w : World) : Key → Int
  | .inl k => hashInt k
  | .inr x => hashStr w x
theorem keyIs_shape : ∀ {k : Key} {v : Value}, keyIs k v = true → (∃ i t, k = Sum.inl i ∧ v = Value.int i t) ∨ (∃ x t, k = Sum.inr x ∧ v = Value.str x t)
  | .inl i, v, h => by
    obtain ⟨t, e⟩ := Value.isInt_shape (k := i) (v := v) h
    exact .inl ⟨i, t, rfl, e⟩
  | .inr x, v, h => by
    obtain ⟨t, e⟩ := Value.isStrOf_shape (x := x) (v := v) h
    exact .inr ⟨x, t, rfl, e⟩
theorem keyIs_int (i : Int) (t : Tok) : keyIs (.inl i) (.int i t) = true := by simp [keyIs, Value.isInt]
theorem keyIs_str (x : Str) (t : Tok) : keyIs (.inr x) (.str x t) = true := by simp [keyIs, Value.isStrOf]
theorem key_ll (a b : Int) : decide ((Sum.inl a : Key) = Sum.inl b) = (a == b) := by
  by_cases e : a = b
  · subst e; simp
  · have h : ¬ (Sum.inl a : Key) = Sum.inl b := fun q => e (Sum.inl.inj q)
    rw [decide_eq_false h]
    exact (beq_eq_false_iff_ne.mpr e).symm
theorem key_rr (a b : Str) : decide ((Sum.inr a : Key) = Sum.inr b) = decide (a = b) := by
  by_cases e : a = b
  · subst e; simp
  · have h : ¬ (Sum.inr a : Key) = Sum.inr b := fun q => e (Sum.inr.inj q)
    rw [decide_eq_false h, decide_eq_false e]
theorem key_lr (a : Int) (b : Str) : decide ((Sum.inl a : Key) = Sum.inr b) = false := decide_eq_false (fun q => nomatch q)
theorem key_rl (a : Str) (b : Int) : decide ((Sum.inr a : Key) = Sum.inl b) = false := decide_eq_false (fun q => nomatch q)

def mixKind (prog : Program) (w : World) : PySem.KeyKind prog w Key where
  is := keyIs
  hash := keyH w
  inj := fun v a b ha hb => by
    rcases keyIs_shape ha with ⟨i, t, rfl, rfl⟩ | ⟨x, t, rfl, rfl⟩
    · rcases keyIs_shape hb with ⟨j, u, rfl, e⟩ | ⟨y, u, rfl, e⟩
      · injection e with e1 _; rw [e1]
      · exact nomatch e
    · rcases keyIs_shape hb with ⟨j, u, rfl, e⟩ | ⟨y, u, rfl, e⟩
      · exact nomatch e
      · injection e with e1 _; rw [e1]
  byValue := fun k v h => by
    rcases keyIs_shape h with ⟨i, t, rfl, rfl⟩ | ⟨x, t, rfl, rfl⟩ <;> rfl
  pyHash := fun hv h => by
    rcases keyIs_shape hv with ⟨i, t, rfl, rfl⟩ | ⟨x, t, rfl, rfl⟩
    · exact wpAny_pyHash_int h
    · exact wpAny_pyHash_str h
  eqBool := fun hu hv h => by
    rcases keyIs_shape hu with ⟨i, t, rfl, rfl⟩ | ⟨x, t, rfl, rfl⟩
    · rcases keyIs_shape hv with ⟨j, u, rfl, rfl⟩ | ⟨y, u, rfl, rfl⟩
      · rw [key_ll] at h; exact wpAny_eqBool_int h
      · rw [key_lr] at h; exact SeqAt.EqAt.int_str i t y u _ _ _ _ h
    · rcases keyIs_shape hv with ⟨j, u, rfl, rfl⟩ | ⟨y, u, rfl, rfl⟩
      · rw [key_rl] at h; exact SeqAt.EqAt.str_int x t j u _ _ _ _ h
      · rw [key_rr] at h; exact wpAny_eqBool_str h
  «strs» := fun k x t v h => by
    rcases keyIs_shape h with ⟨i, u, rfl, e⟩ | ⟨y, u, rfl, e⟩
    · exact nomatch e
    · injection e with e1 _
      subst e1
      cases v <;> rfl

theorem mixKind_is (prog : Program) (w : World) (k : Key) (v : Value) : (mixKind prog w).is k v = keyIs k v := rfl
theorem mixKind_int (prog : Program) (w : World) (i : Int) (t : Tok) : (mixKind prog w).is (.inl i) (.int i t) = true := keyIs_int i t
theorem mixKind_str (prog : Program) (w : World) (x : Str) (t : Tok) : (mixKind prog w).is (.inr x) (.str x t) = true := keyIs_str x t
end L2

namespace L2
open PySem PySem.Spec PyProof.Rows

/-- a value, without the heap -/
inductive V where
  | non | bl (b : Bool) | int (i : Int) | str (x : Str) | byt (b : Array UInt8) | flt (b : UInt64) | ref (a : Addr) | ty (n : String)
  deriving DecidableEq

def RelV : V → Value → Prop
  | .non, u => u = Value.none
  | .bl b, u => u = Value.bool b
  | .int i, u => ∃ t, u = Value.int i t
  | .str x, u => ∃ t, u = Value.str x t
  | .byt b, u => ∃ t, u = Value.bytes b t
  | .flt b, u => ∃ t, u = Value.float b t
  | .ref a, u => u = Value.ref a
  | .ty n, u => u = Value.type n

abbrev Vals : List V → List Value → Prop := Paired RelV
theorem Vals.length {xs : List V} {us : List Value} (r : Vals xs us) : xs.length = us.length := Paired.length r
theorem Vals.get : ∀ {xs : List V} {us : List Value} {i : Nat} {x : V}, Vals xs us → xs[i]? = some x → ∃ u, us[i]? = some u ∧ RelV x u
  | _, _, _, _, .nil, e => by simp at e
  | _, _, 0, _, .cons r _, e => by simp at e; subst e; exact ⟨_, rfl, r⟩
  | _, _, i + 1, x, .cons _ t, e => by
    obtain ⟨u, h1, h2⟩ := Vals.get (i := i) (x := x) t (by simpa using e)
    exact ⟨u, by simpa using h1, h2⟩
theorem Vals.set {x : V} {u : Value} (r : RelV x u) : ∀ {xs : List V} {us : List Value} (i : Nat), Vals xs us → Vals (xs.set i x) (us.set i u)
  | _, _, _, .nil => .nil
  | _, _, 0, .cons _ t => .cons r t
  | _, _, i + 1, .cons q t => .cons q (Vals.set r i t)
theorem Vals.append : ∀ {xs ys : List V} {us ws : List Value}, Vals xs us → Vals ys ws → Vals (xs ++ ys) (us ++ ws)
  | _, _, _, _, .nil, s => s
  | _, _, _, _, .cons r t, s => .cons r (Vals.append t s)
theorem Vals.take : ∀ {xs : List V} {us : List Value} (n : Nat), Vals xs us → Vals (xs.take n) (us.take n)
  | _, _, 0, _ => .nil
  | _, _, _ + 1, .nil => .nil
  | _, _, n + 1, .cons r t => .cons r (Vals.take n t)
theorem Vals.drop : ∀ {xs : List V} {us : List Value} (n : Nat), Vals xs us → Vals (xs.drop n) (us.drop n)
  | _, _, 0, r => r
  | _, _, _ + 1, .nil => .nil
  | _, _, n + 1, .cons _ t => Vals.drop n t
theorem Vals.none_of : ∀ {xs : List V} {us : List Value} {i : Nat}, Vals xs us → xs[i]? = none → us[i]? = none := fun {xs us i} r e => by
  have h1 := r.length
  have h2 : xs.length ≤ i := List.getElem?_eq_none_iff.mp e
  exact List.getElem?_eq_none_iff.mpr (by omega)

def RelO : Option V → Option Value → Prop
  | some v, some u => RelV v u
  | none, none => True
  | _, _ => False
def KV {κ : Type} : List (κ × V) → List (κ × Value) → Prop := Paired fun (p : κ × V) (q : κ × Value) => p.1 = q.1 ∧ RelV p.2 q.2

/-- a key of a dict (00_mix): an int or a text -/
def kV : Key → V
  | .inl i => .int i
  | .inr x => .str x

/-- what stands at a tracked address -/
inductive HO where
  /-- a list -/
  | lst (xs : List V)
  /-- a tuple (never changes) -/
  | tup (xs : List V)
  /-- a dict whose keys are ints and texts; one whose keys are tuples of ints and texts (the empty one is both) -/
  | dK (kvs : List (Key × V)) | dT (kvs : List (List Key × V))
  /-- a set of ints: its members, its size -/
  | set (S : Int → Bool) (n : Nat)
  /-- an instance of the class at C, its dict at dx, its attributes -/
  | ins (C dx : Addr) (fs : List (Str × V))
  /-- the dict of the instance at x -/
  | own (x : Addr)
  /-- the dict of an exception -/
  | xd (fs : List (Str × V))
  /-- a bound method, f of x -/
  | met (f x : Addr)
  /-- a range object lo, lo + 1, .. below hi -/
  | rng (lo hi : Int)
  /-- a thing that is known to the object (the script; a dict while a loop walks it): read, never written while it is so -/
  | frz (o : Obj) (u : HO)
  /-- a code object's table -/
  | tbl (ps : Array Value)
  /-- any other thing, by what is true of its one object (a def of one's own: SetO a S n := HO.ext fun h => ..) -/
  | ext (φ : Heap → Prop)

abbrev Hp := Addr → Option HO
def upd (H : Hp) (a : Addr) (o : HO) : Hp := fun b => if b = a then some o else H b
theorem upd_same {H : Hp} {a : Addr} {o : HO} : upd H a o a = some o := by unfold upd; rw [if_pos rfl]
theorem upd_ne {H : Hp} {a b : Addr} {o : HO} (h : b ≠ a) : upd H a o b = H b := by unfold upd; rw [if_neg h]
theorem upd_upd {H : Hp} {a : Addr} {o u : HO} : upd (upd H a o) a u = upd H a u := by
  funext b; unfold upd; split <;> rfl
/-- two objects of different content stand apart -/
theorem ne_of {H : Hp} {a b : Addr} {o u : HO} (h : H a = some o) (h' : H b = some u) (d : o ≠ u) : a ≠ b := by
  intro e; subst e; rw [h] at h'; exact d (Option.some.inj h')
theorem ne_of_none {H : Hp} {a b : Addr} {o : HO} (h : H a = some o) (h' : H b = none) : a ≠ b := by
  intro e; subst e; rw [h] at h'; cases h'

section
variable (P : Program) (w : World)
def ObjOk (H : Hp) (h : Heap) (a : Addr) : HO → Prop
  | .lst xs => xs.length ≤ sizeLine ∧ ∃ (its : List Value) (n : Nat), Vals xs its ∧ h.get? a = some { cls := .type "list", data := .seq its.toArray n }
  | .tup xs => xs.length ≤ sizeLine ∧ ∃ its : List Value, Vals xs its ∧ IsTup h a its.toArray
  | .dK kvs => kvs.length ≤ sizeLine ∧ (a == sysModules) = false ∧ ∃ vs, KV kvs vs ∧ h.DictOf (mixKind P w) a vs
  | .dT kvs => kvs.length ≤ sizeLine ∧ (a == sysModules) = false ∧ ∃ xs : List (List Key × Addr × Value),
      Paired (fun (p : List Key × V) (q : List Key × Addr × Value) => p.1 = q.1 ∧ H q.2.1 = some (.tup (p.1.map kV)) ∧ RelV p.2 q.2.2) kvs xs ∧
      ∃ o es ep, h.get? a = some o ∧ o.ExactDict ∧ o.data = .dict es ep ∧ es.toList = xs.map (entryOfKey (tupleKind (mixKind P w))) ∧ (xs.map (·.1)).Nodup
  | .set S n => h.SetOf (intKind P w) a S n
  | .ins C dx fs => H dx = some (.own a) ∧ fs.length ≤ 1000 ∧ dx ≠ a ∧ h.get? a = some (PySem.W.instObj C dx) ∧
      ∃ mA, h.Ns1 dx mA ∧ (∀ f, RelO (fs.lookup f) (mA f)) ∧ PySem.Within mA (fs.map (·.1))
  | .own _ => ∃ o, h.get? a = some o
  | .xd fs => ∃ mA, h.Ns1 a mA ∧ ∀ f, RelO (fs.lookup f) (mA f)
  | .rng lo hi => ∃ t u v, h.get? a = some { cls := .type "range", data := .fields #[.int lo t, .int hi u, .int 1 v] }
  | .frz o u => h.get? a = some o ∧ ObjOk H h a u
  | .tbl ps => h.get? a = some { cls := .none, data := .fields ps }
  | .met f x => h.get? a = some (PySem.W.methodObj (.ref f) (.ref x))
  | .ext φ => φ h ∧ (∃ o, h.get? a = some o) ∧ ∀ h1 h2 : Heap, φ h1 → (∀ o, h1.get? a = some o → h2.get? a = some o) → φ h2
/-- the abstract heap is held -/
def HOk (H : Hp) (h : Heap) : Prop := ∀ a o, H a = some o → ObjOk P w H h a o
end

section
variable {P : Program} {w : World} {H H' : Hp} {h h' : Heap} {a : Addr} {o : HO}
theorem ObjOk.lt (x : ObjOk P w H h a o) : a < h.objs.size := by
  cases o with
  | lst xs => obtain ⟨_, _, _, _, e⟩ := x; exact Heap.lt_size e
  | tup xs => obtain ⟨_, _, _, p⟩ := x; exact p.lt
  | dK kvs => obtain ⟨_, _, _, _, o, _, _, e, _⟩ := x; exact Heap.lt_size e
  | dT kvs => obtain ⟨_, _, _, _, o, _, _, e, _⟩ := x; exact Heap.lt_size e
  | set S n => obtain ⟨o, _, _, _, e, _⟩ := x; exact Heap.lt_size e
  | ins C dx fs => obtain ⟨_, _, _, e, _⟩ := x; exact Heap.lt_size e
  | own y => obtain ⟨_, e⟩ := x; exact Heap.lt_size e
  | xd fs => obtain ⟨_, ⟨_, _, _, e, _⟩, _⟩ := x; exact Heap.lt_size e
  | rng lo hi => obtain ⟨_, _, _, e⟩ := x; exact Heap.lt_size e
  | frz ob u => obtain ⟨e, _⟩ := x; exact Heap.lt_size e
  | tbl ps => exact Heap.lt_size (show h.get? a = some _ from x)
  | met f y => exact Heap.lt_size (show h.get? a = some _ from x)
  | ext φ => obtain ⟨_, ⟨_, e⟩, _⟩ := x; exact Heap.lt_size e
theorem Paired.mapP {α β : Type} {F G : α → β → Prop} : ∀ {l₁ : List α} {l₂ : List β}, Paired F l₁ l₂ → (∀ a b, F a b → G a b) → Paired G l₁ l₂
  | _, _, .nil, _ => .nil
  | _, _, .cons r t, f => .cons (f _ _ r) (Paired.mapP t f)
theorem Paired.imp' {α β : Type} {F G : α → β → Prop} (f : ∀ a b, F a b → G a b) {l₁ : List α} {l₂ : List β} (r : Paired F l₁ l₂) : Paired G l₁ l₂ := Paired.mapP r f
/-- what an object's description leans on: its own object, its own dict, the tuples -/
theorem ObjOk.stay (x : ObjOk P w H h a o) (k : ∀ b u, (b = a ∨ H b = some (.own a)) → h.get? b = some u → h'.get? b = some u)
    (ho : ∀ b, H b = some (.own a) → H' b = some (.own a)) (ht : ∀ b xs, H b = some (.tup xs) → H' b = some (.tup xs)) : ObjOk P w H' h' a o := by
  induction o with
  | lst xs => obtain ⟨z, its, n, r, e⟩ := x; exact ⟨z, its, n, r, k _ _ (.inl rfl) e⟩
  | tup xs => obtain ⟨z, its, r, ob, e, c⟩ := x; exact ⟨z, its, r, ob, k _ _ (.inl rfl) e, c⟩
  | dK kvs => obtain ⟨z, y, vs, r, ob, es, ep, e, c⟩ := x; exact ⟨z, y, vs, r, ob, es, ep, k _ _ (.inl rfl) e, c⟩
  | dT kvs =>
    obtain ⟨z, y, xs, r, ob, es, ep, e, c⟩ := x
    exact ⟨z, y, xs, Paired.mapP r fun p q z => ⟨z.1, ht _ _ z.2.1, z.2.2⟩, ob, es, ep, k _ _ (.inl rfl) e, c⟩
  | set S n => obtain ⟨ob, es, ep, t, e, c⟩ := x; exact ⟨ob, es, ep, t, k _ _ (.inl rfl) e, c⟩
  | ins C dx fs =>
    obtain ⟨d, z, ne, e, mA, ⟨od, es, ep, e2, c⟩, r⟩ := x
    exact ⟨ho _ d, z, ne, k _ _ (.inl rfl) e, mA, ⟨od, es, ep, k _ _ (.inr d) e2, c⟩, r⟩
  | own y => obtain ⟨ob, e⟩ := x; exact ⟨ob, k _ _ (.inl rfl) e⟩
  | xd fs => obtain ⟨mA, ⟨od, es, ep, e, c⟩, r⟩ := x; exact ⟨mA, ⟨od, es, ep, k _ _ (.inl rfl) e, c⟩, r⟩
  | rng lo hi => obtain ⟨t, u, v, e⟩ := x; exact ⟨t, u, v, k _ _ (.inl rfl) e⟩
  | frz ob u ih => obtain ⟨e, q⟩ := x; exact ⟨k _ _ (.inl rfl) e, ih q⟩
  | tbl ps =>
    have e : h.get? a = some { cls := .none, data := .fields ps } := x
    show h'.get? a = some { cls := .none, data := .fields ps }
    exact k a _ (.inl rfl) e
  | met f y =>
    have e : h.get? a = some (PySem.W.methodObj (.ref f) (.ref y)) := x
    show h'.get? a = some (PySem.W.methodObj (.ref f) (.ref y))
    exact k a _ (.inl rfl) e
  | ext φ => obtain ⟨p, ⟨o, e⟩, st⟩ := x; exact ⟨st _ _ p fun o q => k _ _ (.inl rfl) q, ⟨o, k _ _ (.inl rfl) e⟩, st⟩
theorem HOk.lt (x : HOk P w H h) (e : H a = some o) : a < h.objs.size := (x a o e).lt
theorem HOk.fresh (x : HOk P w H h) (e : h.objs.size ≤ a) : H a = none := by
  cases q : H a with
  | none => rfl
  | some u => exact absurd (Nat.lt_of_lt_of_le (x.lt q) e) (Nat.lt_irrefl _)
/-- every object of the heap is kept -/
theorem HOk.kept (x : HOk P w H h) (k : ∀ b u, h.get? b = some u → h'.get? b = some u) : HOk P w H h' := fun a o e =>
  (x a o e).stay (fun b u _ q => k b u q) (fun _ q => q) fun _ _ q => q
/-- a new object is laid and tracked -/
theorem HOk.laid (x : HOk P w H h) (k : ∀ b u, h.get? b = some u → h'.get? b = some u) (hp : h.objs.size ≤ a) (new : ObjOk P w (upd H a o) h' a o) : HOk P w (upd H a o) h' := fun b u e => by
  have hn := x.fresh hp
  by_cases hb : b = a
  · subst hb; rw [upd_same] at e; cases e; exact new
  · rw [upd_ne hb] at e
    exact (x b u e).stay (fun c v _ q => k c v q) (fun c q => by rw [upd_ne (ne_of_none q hn)]; exact q) fun c xs q => by rw [upd_ne (ne_of_none q hn)]; exact q
end

/-- what may be read as u: it is u, or a known u -/
def Rd (H : Hp) (a : Addr) (u : HO) : Prop := H a = some u ∨ ∃ o, H a = some (.frz o u)
theorem Rd.of {H : Hp} {a : Addr} {u : HO} (h : H a = some u) : Rd H a u := .inl h
theorem Rd.ok {P : Program} {w : World} {H : Hp} {h : Heap} {a : Addr} {u : HO} (r : Rd H a u) (x : HOk P w H h) : ObjOk P w H h a u := by
  rcases r with r | ⟨o, r⟩
  · exact x a u r
  · obtain ⟨_, q⟩ := x a _ r
    exact q
/-- what may be written -/
def Mut : Option HO → Prop
  | some (.lst _) => True
  | some (.dK _) => True
  | some (.dT _) => True
  | some (.set _ _) => True
  | some (.ins _ _ _) => True
  | some (.ext _) => True
  | _ => False
section
variable {P : Program} {w : World} {H : Hp} {h h' : Heap} {x e : Addr} {o' : HO}
/-- the object at e is changed: x itself, or the dict of the instance x -/
theorem HOk.write (ok : HOk P w H h) (mu : Mut (H x)) (he : e = x ∨ H e = some (.own x)) (k : ∀ b u, b ≠ e → h.get? b = some u → h'.get? b = some u) (heo : ∃ u, h'.get? e = some u)
    (new : ObjOk P w (upd H x o') h' x o') : HOk P w (upd H x o') h' := fun b u q => by
  have nown : ∀ c y, H c = some (.own y) → c ≠ x := fun c y r z => by subst z; rw [r] at mu; exact mu
  have ntup : ∀ c xs, H c = some (.tup xs) → c ≠ x := fun c xs r z => by subst z; rw [r] at mu; exact mu
  by_cases hb : b = x
  · subst hb; rw [upd_same] at q; cases q; exact new
  · rw [upd_ne hb] at q
    by_cases hbe : b = e
    · have q' : H b = some (.own x) := by
        rcases he with z | z
        · exact absurd (hbe.trans z) hb
        · rw [hbe]; exact z
      rw [q] at q'; cases q'
      obtain ⟨v, hv⟩ := heo
      exact ⟨v, by rw [hbe]; exact hv⟩
    · refine (ok b u q).stay (fun c v hc r => k c v ?_ r) (fun c r => by rw [upd_ne (nown c b r)]; exact r) fun c xs r => by rw [upd_ne (ntup c xs r)]; exact r
      rcases hc with rfl | hc
      · exact hbe
      · rintro rfl
        rcases he with z | z
        · exact nown c b hc z
        · rw [hc] at z; cases z; exact hb rfl
end

/-! ### kept unless tracked; of the frames at fs (the callers') the slots may change (an exception that passes writes there); of the records at ex (iterators) nothing is said -/
structure Un (fs ex : List Addr) (H H' : Hp) (h h' : Heap) : Prop where
  keep : ∀ b o, h.get? b = some o → H b = none → b ∉ fs → b ∉ ex → h'.get? b = some o
  slot : ∀ b o, h.get? b = some o → H b = none → b ∈ fs → b ∉ ex → ∃ sl, h'.get? b = some { o with slots := sl }
  free : ∀ b o, h.get? b = some o → H b = none → b ∉ ex → H' b = none
  there : ∀ b o, h.get? b = some o → b ∉ ex → ∃ o', h'.get? b = some o'
  tups : ∀ b xs, H b = some (.tup xs) → H' b = some (.tup xs)
  frzs : ∀ b o u, H b = some (.frz o u) → H' b = some (.frz o u)
  tbls : ∀ b ps, H b = some (.tbl ps) → ∃ more, H' b = some (.tbl (ps ++ more))
section
variable {fs fs' ex ex' : List Addr} {H H1 H2 : Hp} {h h1 h2 h' : Heap} {a x e : Addr} {o : HO}
theorem Un.any (u : Un fs ex H H1 h h1) {b : Addr} {ob : Obj} (q : h.get? b = some ob) (n : H b = none) (hx : b ∉ ex) : ∃ sl, h1.get? b = some { ob with slots := sl } := by
  by_cases hb : b ∈ fs
  · exact u.slot b ob q n hb hx
  · exact ⟨ob.slots, u.keep b ob q n hb hx⟩
theorem Un.trans (a : Un fs ex H H1 h h1) (b : Un fs ex H1 H2 h1 h2) : Un fs ex H H2 h h2 where
  keep := fun c ob q n hc hx => b.keep c ob (a.keep c ob q n hc hx) (a.free c ob q n hx) hc hx
  slot := fun c ob q n hc hx => by
    obtain ⟨sl, e1⟩ := a.slot c ob q n hc hx
    obtain ⟨sl', e2⟩ := b.slot c _ e1 (a.free c ob q n hx) hc hx
    exact ⟨sl', e2⟩
  free := fun c ob q n hx => by
    obtain ⟨o', e1⟩ := a.there c ob q hx
    exact b.free c o' e1 (a.free c ob q n hx) hx
  there := fun c ob q hx => by
    obtain ⟨o', e1⟩ := a.there c ob q hx
    exact b.there c o' e1 hx
  tups := fun c xs q => b.tups c xs (a.tups c xs q)
  frzs := fun c ob xs q => b.frzs c ob xs (a.frzs c ob xs q)
  tbls := fun c ps q => by
    obtain ⟨m1, e1⟩ := a.tbls c ps q
    obtain ⟨m2, e2⟩ := b.tbls c _ e1
    exact ⟨m1 ++ m2, by rw [e2, Array.append_assoc]⟩
theorem Un.kept (k : ∀ b u, h.get? b = some u → h'.get? b = some u) : Un fs ex H H h h' :=
  ⟨fun b ob q _ _ _ => k b ob q, fun b ob q _ _ _ => ⟨ob.slots, k b ob q⟩, fun _ _ _ n _ => n, fun b ob q _ => ⟨ob, k b ob q⟩, fun _ _ q => q, fun _ _ _ q => q, fun _ ps q => ⟨#[], by rw [q]; simp⟩⟩
theorem Un.refl : Un fs ex H H h h := Un.kept fun _ _ q => q
theorem Un.laid (k : ∀ b u, h.get? b = some u → h'.get? b = some u) (hp : h.objs.size ≤ a) (hn : H a = none) : Un fs ex H (upd H a o) h h' where
  keep := fun b u q _ _ _ => k b u q
  slot := fun b u q _ _ _ => ⟨u.slots, k b u q⟩
  free := fun b u q n _ => by rw [upd_ne (Nat.ne_of_lt (Nat.lt_of_lt_of_le (Heap.lt_size q) hp))]; exact n
  there := fun b u q _ => ⟨u, k b u q⟩
  tups := fun b xs q => by rw [upd_ne (ne_of_none q hn)]; exact q
  frzs := fun b u xs q => by rw [upd_ne (ne_of_none q hn)]; exact q
  tbls := fun b ps q => ⟨#[], by rw [upd_ne (ne_of_none q hn), q]; simp⟩
theorem Un.write (mu : Mut (H x)) (he : e = x ∨ H e = some (.own x)) (k : ∀ b u, b ≠ e → h.get? b = some u → h'.get? b = some u) (heo : ∃ u, h'.get? e = some u) : Un fs ex H (upd H x o) h h' := by
  have hx : ∀ b, H b = none → b ≠ x := fun b n z => by subst z; rw [n] at mu; exact mu
  have hb : ∀ b, H b = none → b ≠ e := fun b n z => by
    subst z
    rcases he with r | r
    · exact hx b n r
    · rw [n] at r; cases r
  have hm : ∀ b u, H b = some u → ¬ Mut (some u) → b ≠ x := fun b u q nm z => by subst z; rw [q] at mu; exact nm mu
  refine ⟨fun b u q n _ _ => k b u (hb b n) q, fun b u q n _ _ => ⟨u.slots, k b u (hb b n) q⟩, fun b u q n _ => by rw [upd_ne (hx b n)]; exact n, fun b u q _ => ?_,
    fun b xs q => by rw [upd_ne (hm b _ q fun z => z)]; exact q, fun b u xs q => by rw [upd_ne (hm b _ q fun z => z)]; exact q, fun b ps q => ⟨#[], by rw [upd_ne (hm b _ q fun z => z), q]; simp⟩⟩
  by_cases hbe : b = e
  · subst hbe; exact heo
  · exact ⟨u, k b u hbe q⟩
theorem Un.mono (u : Un fs ex H H1 h h1) (hs : ∀ b ∈ fs, b ∈ fs') (hx : ∀ b ∈ ex, b ∈ ex') : Un fs' ex' H H1 h h1 :=
  ⟨fun b ob q n hb he => u.keep b ob q n (fun z => hb (hs b z)) fun z => he (hx b z), fun _ _ q n _ he => u.any q n fun z => he (hx _ z), fun b ob q n he => u.free b ob q n fun z => he (hx b z), fun b ob q he => u.there b ob q fun z => he (hx b z), u.tups, u.frzs, u.tbls⟩
end

/-! ### the heap without what is tracked -/
def trk (h : Heap) (H : Hp) : List Addr := (List.range h.objs.size).filter fun a => (H a).isSome
def hidT (h : Heap) (H : Hp) : Heap := PySem.W.hideAll h (trk h H)
theorem hidT_size (h : Heap) (H : Hp) : (hidT h H).objs.size = h.objs.size := PySem.W.hideAll_size _ _
theorem hidT_get {h : Heap} {H : Hp} {b : Addr} {o : Obj} (e : h.get? b = some o) (n : H b = none) : (hidT h H).get? b = some o :=
  PySem.W.hideAll_get _ e fun hm => by
    have q : (H b).isSome = true := (List.mem_filter.mp hm).2
    rw [n] at q; simp at q
theorem of_hidT {h : Heap} {H : Hp} {b : Addr} {o : Obj} (e : (hidT h H).get? b = some o) : h.get? b = some o ∧ H b = none := by
  have e' : h.get? b = some o := PySem.W.of_hideAll (trk h H) e
  refine ⟨e', ?_⟩
  cases q : H b with
  | none => rfl
  | some x =>
    have hm : b ∈ trk h H := List.mem_filter.mpr ⟨List.mem_range.mpr (Heap.lt_size e'), by simp [q]⟩
    have z : (hidT h H).get? b = none := PySem.W.hideAll_none (trk h H) hm
    rw [z] at e; cases e

/-! ### OpenK's ledger, filled with every new object but one -/
def allNews (g h : Heap) (L : Addr) : List (Addr × Obj) := (List.range h.objs.size).filterMap fun a => if a = L ∨ (g.get? a).isSome = true then none else (h.get? a).map fun o => (a, o)
theorem mem_allNews {g h : Heap} {L a : Addr} {o : Obj} (h1 : a ≠ L) (h2 : g.get? a = none) (h3 : h.get? a = some o) : (a, o) ∈ allNews g h L :=
  List.mem_filterMap.mpr ⟨a, List.mem_range.mpr (Heap.lt_size h3), by simp [h1, h2, h3]⟩
theorem of_mem_allNews {g h : Heap} {L : Addr} {p : Addr × Obj} (hp : p ∈ allNews g h L) : p.1 ≠ L ∧ g.get? p.1 = none ∧ h.get? p.1 = some p.2 := by
  obtain ⟨b, _, e⟩ := List.mem_filterMap.mp hp
  split at e
  · cases e
  · rename_i hn
    cases q : h.get? b with
    | none => rw [q] at e; simp at e
    | some u =>
      rw [q] at e
      simp only [Option.map_some, Option.some.injEq] at e
      subst e
      refine ⟨fun z => hn (.inl z), ?_, q⟩
      show g.get? b = none
      cases r : g.get? b with
      | none => rfl
      | some v => exact (hn (.inr (by simp [r]))).elim
def rest (g h : Heap) (L d : Addr) : List (Addr × Obj) := (allNews g h L).filter fun p => decide (p.1 ≠ d)
theorem rest_ne {g h : Heap} {L d : Addr} : ∀ p ∈ rest g h L d, p.1 ≠ d := fun p hp => of_decide_eq_true (List.mem_filter.mp hp).2
theorem mem_rest {g h : Heap} {L d a : Addr} {o : Obj} (h1 : a ≠ L) (h2 : g.get? a = none) (h3 : h.get? a = some o) (h4 : a ≠ d) : (a, o) ∈ rest g h L d :=
  List.mem_filter.mpr ⟨mem_allNews h1 h2 h3, decide_eq_true h4⟩
theorem news_all {g h : Heap} {L : Addr} : News g L h (allNews g h L) := fun p hp => let ⟨a, b, c⟩ := of_mem_allNews hp; ⟨c, a, b⟩
theorem news_at {g h : Heap} {L d : Addr} {o : Obj} (h1 : d ≠ L) (h2 : g.get? d = none) (h3 : h.get? d = some o) : News g L h ((d, o) :: rest g h L d) := fun p hp => by
  rcases List.mem_cons.mp hp with rfl | hp
  · exact ⟨h3, h1, h2⟩
  · exact news_all p (List.mem_filter.mp hp).1
/-- behind a rule that changed d alone: all else but the frame is kept -/
theorem kept_of_news {g h h' : Heap} {L d : Addr} {m : Str → Option Value} (k : ∀ b o, g.get? b = some o → h.get? b = some o) (F : Fr g L h' m) (N : News g L h' (rest g h L d)) :
    ∀ b o, b ≠ L → b ≠ d → h.get? b = some o → h'.get? b = some o := fun b o h1 h2 e => by
  cases q : g.get? b with
  | some u =>
    have := k b u q
    rw [e] at this; cases this
    exact F.keep b _ q
  | none => exact (N (b, o) (mem_rest h1 q e h2)).1
end L2

namespace L2
open PySem PySem.Spec PyProof.Rows

/-- the module's facts, over the base: the heap at the law's entry without what is tracked there -/
structure Mod (K : PySem.W.Frag) (mg : Str → Option Value) (base : Heap) : Prop where
  kin : K.In base
  glob : base.Ns mainGlobals mg
  blt : ∃ mb, base.Ns builtinsNs mb ∧ ∀ x : Str, x ≠ "__name__" → mb x = bootBuiltins x
  nolimit : base.NoLimit

/-- the context: a def's body (or a comprehension's block) running. base: fixed through the whole law; s₀, H₀: the entry; outer: the frames whose slots others may change (a def's callers); stack: all frames that run;
   ex: iterators that were made ahead of the entry and are walked here (a comprehension's); fn: the names whose cells were made at the entry (a def: all; a comprehension's block: its own); calm: not within an except suite; pn: pins that every state bears; xe: what is wanted of an exception that leaves the code -/
structure Cx where
  prog : Program
  w : World
  K : PySem.W.Frag
  mg : Str → Option Value
  base : Heap
  A : Around
  N : List Str
  s₀ : Shared
  H₀ : Hp
  env : Env
  outer : List Env
  stack : List Env
  ex : List Addr
  fn : Str → Bool
  calm : Bool
  pn : List (Addr × Obj)
  xe : Value → Shared → Prop
/-- the callers' frames -/
def frs (l : List Env) : List Addr := l.filterMap (·.frame)
abbrev Cx.fs (X : Cx) : List Addr := frs X.outer

def Vis (sc : Scope) (x : Str) : Prop := sc.names.lookup x = some .local ∨ sc.names.lookup x = some .cell ∨ sc.names.lookup x = some .free
def Loc (sc : Scope) (x : Str) : Prop := sc.names.lookup x = some .local ∨ sc.names.lookup x = some .cell
def Look (env : Env) (h : Heap) (m : Str → Option Value) (x : Str) (u : Value) : Prop :=
  (env.kindOf x = some .local ∧ m x = some u) ∨ ((env.kindOf x = some .cell ∨ env.kindOf x = some .free) ∧ ∃ c, env.cells.lookup x = some c ∧ h.IsCell c (some u))

structure Cx.Ok (X : Cx) : Prop where
  mod : Mod X.K X.mg X.base
  kind : X.env.scope.kind = .function
  glob : X.env.globals = mainGlobals
  blt : X.env.builtins = builtinsNs
  above : X.s₀.heap.objs.size ≤ X.env.locals
  inj : ∀ x y c, X.env.cells.lookup x = some c → X.env.cells.lookup y = some c → x = y
  has : ∀ x, (X.env.kindOf x = some .cell ∨ X.env.kindOf x = some .free) → ∃ c, X.env.cells.lookup x = some c
  cab : ∀ x c, X.fn x = true → X.env.cells.lookup x = some c → X.s₀.heap.objs.size ≤ c
  hd : X.calm = true → X.A.handled = none
  frames : X.A.frames = some X.stack
  stk : X.stack = X.outer ∨ (X.stack = X.env :: X.outer ∧ X.env.frame = some X.env.locals)
  exf : ∀ b ∈ X.ex, b ≠ X.env.locals ∧ ∀ x c, X.env.cells.lookup x = some c → c ≠ b
  bs : ∀ b o, X.base.get? b = some o → X.s₀.heap.get? b = some o ∧ X.H₀ b = none
  bsz : X.base.objs.size ≤ X.s₀.heap.objs.size
  noex : ∀ b o, X.base.get? b = some o → b ∉ X.ex
  exfs : ∀ b ∈ X.ex, b ∉ X.fs
  funs : X.s₀.heap.FunFrames X.base X.outer
  frf : ∀ b ∈ X.fs, X.H₀ b = none

structure Inv (X : Cx) (pins : List (Addr × Obj)) (σ : List (Option V)) (H : Hp) (s : Shared) : Prop where
  ok : X.Ok
  os : s.os = X.s₀.os
  bare : AllBare s.gens
  base : Un X.fs X.ex X.H₀ H X.s₀.heap s.heap
  loc : ∃ m, s.heap.Ns X.env.locals m ∧ ∀ (i : Nat) (x : Str) (v : V), X.N[i]? = some x → σ[i]? = some (some v) → Vis X.env.scope x → ∃ u, RelV v u ∧ Look X.env s.heap m x u
  cell : ∀ x c, X.env.cells.lookup x = some c → ∃ v, s.heap.IsCell c v
  free : H X.env.locals = none
  freeC : ∀ x c, X.env.cells.lookup x = some c → H c = none
  pin : ∀ p ∈ X.pn ++ pins, s.heap.get? p.1 = some p.2 ∧ H p.1 = none ∧ p.1 ≠ X.env.locals ∧ p.1 ∉ X.fs ∧ ∀ v, p.2.data ≠ .cell v
  hok : HOk X.prog X.w H s.heap
  len : σ.length = X.N.length

section
variable {X : Cx} {pins : List (Addr × Obj)} {σ : List (Option V)} {H H' : Hp} {s : Shared} {h' : Heap}

theorem Cx.Ok.nofr (ok : X.Ok) {b : Addr} {o : Obj} (e : X.base.get? b = some o) : b ∉ X.fs := fun hb => by
  have := (ok.funs.mem hb).1
  rw [e] at this; cases this
theorem Inv.bs (I : Inv X pins σ H s) : ∀ b o, X.base.get? b = some o → s.heap.get? b = some o ∧ H b = none := fun b o e =>
  ⟨I.base.keep b o (I.ok.bs b o e).1 (I.ok.bs b o e).2 (I.ok.nofr e) (I.ok.noex b o e), I.base.free b o (I.ok.bs b o e).1 (I.ok.bs b o e).2 (I.ok.noex b o e)⟩
theorem Inv.bk (I : Inv X pins σ H s) : ∀ b o, X.base.get? b = some o → s.heap.get? b = some o := fun b o e => (I.bs b o e).1
theorem Inv.mod (I : Inv X pins σ H s) : Mod X.K X.mg X.base := I.ok.mod
theorem Inv.kIn (I : Inv X pins σ H s) : X.K.In s.heap := I.ok.mod.kin.keeps I.bk
theorem Inv.nolimit (I : Inv X pins σ H s) : s.heap.NoLimit := I.ok.mod.nolimit.keeps I.bk
/-- the frame over the base: for OpenK's rules (K.In X.base is I.mod.kin) -/
theorem Inv.fr (I : Inv X pins σ H s) : ∃ m, Fr X.base X.env.locals s.heap m :=
  let ⟨m, hn, _⟩ := I.loc
  ⟨m, hn, I.bk, Nat.le_trans I.ok.bsz I.ok.above⟩
theorem Inv.lt (I : Inv X pins σ H s) : X.env.locals < s.heap.objs.size := let ⟨_, hn, _⟩ := I.loc; hn.lt
theorem Inv.sz (I : Inv X pins σ H s) : X.s₀.heap.objs.size ≤ s.heap.objs.size := Nat.le_trans I.ok.above (Nat.le_of_lt I.lt)
theorem Inv.nofs (I : Inv X pins σ H s) {a : Addr} (h : s.heap.objs.size ≤ a) : a ∉ X.fs := fun hb => by
  obtain ⟨_, o, ho, _⟩ := I.ok.funs.mem hb
  exact absurd (Nat.lt_of_lt_of_le (Heap.lt_size ho) (Nat.le_trans I.sz h)) (Nat.lt_irrefl _)
theorem Inv.cne (I : Inv X pins σ H s) : ∀ x c, X.env.cells.lookup x = some c → c ≠ X.env.locals := fun x c e z => by
  obtain ⟨v, o, ho, hd⟩ := I.cell x c e
  obtain ⟨m, ⟨o', es, ep, ho', hd', _⟩, _⟩ := I.loc
  rw [z, ho'] at ho; cases ho; rw [hd'] at hd; cases hd
theorem Inv.funs (I : Inv X pins σ H s) : s.heap.FunFrames X.base X.outer := by
  have all : ∀ (l : List Env), (∀ b ∈ frs l, b ∈ X.fs) → X.s₀.heap.FunFrames X.base l → s.heap.FunFrames X.base l := by
    intro l
    induction l with
    | nil => intro _ _; trivial
    | cons env r ih =>
      intro hs hl
      obtain ⟨hk, ⟨L, o, hf, hn, ho, hd⟩, hr⟩ := hl
      have hL : L ∈ X.fs := hs L (by unfold frs; rw [List.filterMap_cons, hf]; exact List.mem_cons_self)
      obtain ⟨sl, e⟩ := I.base.slot L o ho (I.ok.frf L hL) hL fun z => I.ok.exfs L z hL
      exact ⟨hk, ⟨L, _, hf, hn, e, hd⟩, ih (fun b hb => hs b (by unfold frs; rw [List.filterMap_cons, hf]; exact List.mem_cons_of_mem _ hb)) hr⟩
  exact all X.outer (fun _ hb => hb) I.ok.funs

/-- the frames that run, for a call -/
theorem Inv.stack (I : Inv X pins σ H s) : s.heap.FunFrames X.base X.stack := by
  rcases I.ok.stk with e | ⟨e, hf⟩
  · rw [e]; exact I.funs
  · rw [e]
    obtain ⟨m, hn, _⟩ := I.loc
    refine .cons (by rw [I.ok.kind]; decide) hf hn ?_ I.funs
    exact Heap.get?_none_of_le (Nat.le_trans I.ok.bsz I.ok.above)
theorem Inv.stkSub (I : Inv X pins σ H s) : ∀ b ∈ frs X.stack, b ∈ X.env.locals :: X.fs := fun b hb => by
  rcases I.ok.stk with e | ⟨e, hf⟩
  · rw [e] at hb; exact List.mem_cons_of_mem _ hb
  · rw [e] at hb
    unfold frs at hb
    rw [List.filterMap_cons, hf] at hb
    exact hb
theorem Inv.stkFree (I : Inv X pins σ H s) : ∀ b ∈ frs X.stack, H b = none := fun b hb => by
  rcases List.mem_cons.mp (I.stkSub b hb) with e | hb
  · rw [e]; exact I.free
  · obtain ⟨_, o, ho, _⟩ := I.ok.funs.mem hb
    exact I.base.free b o ho (I.ok.frf b hb) fun z => I.ok.exfs b z hb

/-- THE STEP: the untracked objects but the frame and the records at ch are kept (the callers' frames up to slots), the frame's map is kept, the new abstract heap is held -/
theorem Inv.step {g' : Array GenState} {t' : Nat} {d' : Drawn} {ch : List Addr} (I : Inv X pins σ H s)
    (hch : ∀ b ∈ ch, (b ∈ X.ex ∨ X.s₀.heap.objs.size ≤ b) ∧ b ≠ X.env.locals ∧ (∀ x c, X.env.cells.lookup x = some c → c ≠ b) ∧ ∀ p ∈ X.pn ++ pins, p.1 ≠ b)
    (keep : ∀ b o, b ≠ X.env.locals → b ∉ X.fs → b ∉ ch → s.heap.get? b = some o → H b = none → h'.get? b = some o)
    (slot : ∀ b o, b ≠ X.env.locals → b ∈ X.fs → b ∉ ch → s.heap.get? b = some o → H b = none → ∃ sl, h'.get? b = some { o with slots := sl }) (free : ∀ b o, b ∉ ch → s.heap.get? b = some o → H b = none → H' b = none)
    (there : ∀ b o, b ∉ ch → s.heap.get? b = some o → ∃ o', h'.get? b = some o')
    (tups : ∀ b xs, H b = some (.tup xs) → H' b = some (.tup xs)) (frzs : ∀ b o u, H b = some (.frz o u) → H' b = some (.frz o u)) (tbls : ∀ b ps, H b = some (.tbl ps) → ∃ more, H' b = some (.tbl (ps ++ more)))
    (ns : ∀ m, s.heap.Ns X.env.locals m → h'.Ns X.env.locals m) (hok : HOk X.prog X.w H' h') (hg : AllBare g') :
    Inv X pins σ H' { s with heap := h', gens := g', drawn := d', toks := t' } := by
  have neL : ∀ b o, X.s₀.heap.get? b = some o → b ≠ X.env.locals := fun b o e => Nat.ne_of_lt (Nat.lt_of_lt_of_le (Heap.lt_size e) I.ok.above)
  have neC : ∀ b o, X.s₀.heap.get? b = some o → b ∉ X.ex → b ∉ ch := fun b o e hx hb => by
    rcases (hch b hb).1 with z | z
    · exact hx z
    · exact absurd (Nat.lt_of_lt_of_le (Heap.lt_size e) z) (Nat.lt_irrefl _)
  have cellK : ∀ x c, X.env.cells.lookup x = some c → ∀ v, s.heap.IsCell c v → h'.IsCell c v := fun x c e v ⟨o, ho, hd⟩ => by
    have nch : c ∉ ch := fun z => (hch c z).2.2.1 x c e rfl
    by_cases hc : c ∈ X.fs
    · obtain ⟨sl, q⟩ := slot c o (I.cne x c e) hc nch ho (I.freeC x c e)
      exact ⟨_, q, hd⟩
    · exact ⟨o, keep c o (I.cne x c e) hc nch ho (I.freeC x c e), hd⟩
  refine ⟨I.ok, I.os, hg, ⟨fun b o e n hb hx => ?_, fun b o e n hb hx => ?_, fun b o e n hx => ?_, fun b o e hx => ?_, fun b xs e => tups b xs (I.base.tups b xs e), fun b o xs e => frzs b o xs (I.base.frzs b o xs e), fun b ps e => ?_⟩, ?_, fun x c e => ?_, ?_, fun x c e => ?_, fun p hp => ?_, hok, I.len⟩
  · exact keep b o (neL b o e) hb (neC b o e hx) (I.base.keep b o e n hb hx) (I.base.free b o e n hx)
  · obtain ⟨sl, e1⟩ := I.base.slot b o e n hb hx
    obtain ⟨sl', e2⟩ := slot b _ (neL b o e) hb (neC b o e hx) e1 (I.base.free b o e n hx)
    exact ⟨sl', e2⟩
  · obtain ⟨o', e1⟩ := I.base.there b o e hx
    exact free b o' (neC b o e hx) e1 (I.base.free b o e n hx)
  · obtain ⟨o', e1⟩ := I.base.there b o e hx
    exact there b o' (neC b o e hx) e1
  · obtain ⟨m1, e1⟩ := I.base.tbls b ps e
    obtain ⟨m2, e2⟩ := tbls b _ e1
    exact ⟨m1 ++ m2, by rw [e2, Array.append_assoc]⟩
  · obtain ⟨m, hn, hl⟩ := I.loc
    refine ⟨m, ns m hn, fun i x v e1 e2 e3 => ?_⟩
    obtain ⟨u, r, l⟩ := hl i x v e1 e2 e3
    refine ⟨u, r, ?_⟩
    rcases l with l | ⟨k, c, e, z⟩
    · exact .inl l
    · exact .inr ⟨k, c, e, cellK x c e _ z⟩
  · obtain ⟨v, z⟩ := I.cell x c e
    exact ⟨v, cellK x c e v z⟩
  · obtain ⟨m, ⟨o, _, _, ho, _⟩, _⟩ := I.loc
    exact free _ o (fun z => (hch _ z).2.1 rfl) ho I.free
  · obtain ⟨v, o, ho, hd⟩ := I.cell x c e
    exact free c o (fun z => (hch c z).2.2.1 x c e rfl) ho (I.freeC x c e)
  · obtain ⟨e, n, ne, nf, d⟩ := I.pin p hp
    have nch : p.1 ∉ ch := fun z => (hch p.1 z).2.2.2 p hp rfl
    exact ⟨keep p.1 p.2 ne nf nch e n, free p.1 p.2 nch e n, ne, nf, d⟩
/-- .. where the frame's own object is kept too -/
theorem Inv.un {t' : Nat} (I : Inv X pins σ H s) (u : Un X.fs [] H H' s.heap h') (hok : HOk X.prog X.w H' h') : Inv X pins σ H' { s with heap := h', toks := t' } := by
  obtain ⟨m, ⟨o, es, ep, ho, r⟩, _⟩ := id I.loc
  obtain ⟨sl, hL⟩ := u.any ho I.free (by simp)
  exact I.step (g' := s.gens) (d' := s.drawn) (ch := []) (fun _ z => nomatch z) (fun b o _ hb _ e n => u.keep b o e n hb (by simp)) (fun b o _ hb _ e n => u.slot b o e n hb (by simp)) (fun b o _ e n => u.free b o e n (by simp)) (fun b o _ e => u.there b o e (by simp)) u.tups u.frzs u.tbls (fun m' hm => by
    obtain ⟨o', es', ep', ho', r'⟩ := hm
    rw [ho] at ho'; cases ho'
    exact ⟨_, es', ep', hL, r'⟩) hok I.bare
/-- behind a call (or a comprehension's block): the slots of this frame may have changed too, the records at ch may have turned -/
theorem Inv.call {g' : Array GenState} {t' : Nat} {d' : Drawn} {ch : List Addr} (I : Inv X pins σ H s) (u : Un (frs X.stack) ch H H' s.heap h') (hok : HOk X.prog X.w H' h') (hg : AllBare g')
    (hch : ∀ b ∈ ch, (b ∈ X.ex ∨ X.s₀.heap.objs.size ≤ b) ∧ b ≠ X.env.locals ∧ (∀ x c, X.env.cells.lookup x = some c → c ≠ b) ∧ ∀ p ∈ X.pn ++ pins, p.1 ≠ b) :
    Inv X pins σ H' { s with heap := h', gens := g', drawn := d', toks := t' } := by
  obtain ⟨m, ⟨o, es, ep, ho, r⟩, _⟩ := id I.loc
  obtain ⟨sl, hL⟩ := u.any ho I.free fun z => (hch _ z).2.1 rfl
  exact I.step (ch := ch) hch (fun b o hL hb hc e n => u.keep b o e n (fun z => (List.mem_cons.mp (I.stkSub b z)).elim hL hb) hc) (fun b o _ _ hc e n => u.any e n hc) (fun b o hc e n => u.free b o e n hc) (fun b o hc e => u.there b o e hc) u.tups u.frzs u.tbls (fun m' hm => by
    obtain ⟨o', es', ep', ho', r'⟩ := hm
    rw [ho] at ho'; cases ho'
    exact ⟨_, es', ep', hL, r'⟩) hok hg
/-- an untracked record of ours (an iterator) has turned -/
theorem Inv.turned {t' : Nat} {it : Addr} (I : Inv X pins σ H s) (k : ∀ b o, b ≠ it → s.heap.get? b = some o → h'.get? b = some o) (hn : H it = none) (hL : it ≠ X.env.locals)
    (h1 : it ∈ X.ex ∨ X.s₀.heap.objs.size ≤ it) (h2 : ∀ x c, X.env.cells.lookup x = some c → c ≠ it) (h3 : ∀ p ∈ X.pn ++ pins, p.1 ≠ it) : Inv X pins σ H { s with heap := h', toks := t' } := by
  have nit : ∀ b u, H b = some u → b ≠ it := fun b u e z => by rw [z, hn] at e; cases e
  refine I.step (g' := s.gens) (d' := s.drawn) (ch := [it]) (fun b hb => ?_) (fun b o _ _ hc e _ => k b o (fun z => hc (by simp [z])) e) (fun b o _ _ hc e _ => ⟨o.slots, k b o (fun z => hc (by simp [z])) e⟩) (fun _ _ _ _ n => n)
    (fun b o hc e => ⟨o, k b o (fun z => hc (by simp [z])) e⟩) (fun _ _ e => e) (fun _ _ _ e => e) (fun b ps e => ⟨#[], by rw [e]; simp⟩) (fun m hm => ?_) (fun b u e => ?_) I.bare
  · have e : b = it := by simpa using hb
    subst e
    exact ⟨h1, hL, h2, h3⟩
  · obtain ⟨o, es, ep, ho, r⟩ := hm
    exact ⟨o, es, ep, k _ o (Ne.symm hL) ho, r⟩
  · refine (I.hok b u e).stay (fun c v hc q => k c v ?_ q) (fun _ q => q) fun _ _ q => q
    rcases hc with z | z
    · rw [z]; exact nit b u e
    · exact nit c _ z
theorem Inv.tok (I : Inv X pins σ H s) (t : Nat) : Inv X pins σ H { s with toks := t } := I.un (h' := s.heap) (t' := t) Un.refl I.hok
/-- all objects kept -/
theorem Inv.kept {t' : Nat} (I : Inv X pins σ H s) (k : ∀ b u, s.heap.get? b = some u → h'.get? b = some u) : Inv X pins σ H { s with heap := h', toks := t' } := I.un (Un.kept k) (I.hok.kept k)
/-- a new object laid and tracked -/
theorem Inv.laid {a : Addr} {o : HO} {t' : Nat} (I : Inv X pins σ H s) (k : ∀ b u, s.heap.get? b = some u → h'.get? b = some u) (hp : s.heap.objs.size ≤ a) (new : ObjOk X.prog X.w (upd H a o) h' a o) :
    Inv X pins σ (upd H a o) { s with heap := h', toks := t' } := I.un (Un.laid k hp (I.hok.fresh hp)) (I.hok.laid k hp new)
/-- an object written -/
theorem Inv.write {x e : Addr} {o : HO} {t' : Nat} (I : Inv X pins σ H s) (mu : Mut (H x)) (he : e = x ∨ H e = some (.own x)) (k : ∀ b u, b ≠ e → s.heap.get? b = some u → h'.get? b = some u) (heo : ∃ u, h'.get? e = some u)
    (new : ObjOk X.prog X.w (upd H x o) h' x o) : Inv X pins σ (upd H x o) { s with heap := h', toks := t' } := I.un (Un.write mu he k heo) (I.hok.write mu he k heo new)
/-- forgetting slots, pins -/
theorem Inv.weak {σ' : List (Option V)} (I : Inv X pins σ H s) (hl : σ'.length = σ.length) (w : ∀ (i : Nat) v, σ'[i]? = some (some v) → σ[i]? = some (some v)) : Inv X pins σ' H s :=
  ⟨I.ok, I.os, I.bare, I.base, let ⟨m, hn, hl'⟩ := I.loc; ⟨m, hn, fun i x v e1 e2 e3 => hl' i x v e1 (w i v e2) e3⟩, I.cell, I.free, I.freeC, I.pin, I.hok, hl.trans I.len⟩
theorem Inv.pins_of {pins' : List (Addr × Obj)} (I : Inv X pins σ H s) (h : ∀ p ∈ pins', s.heap.get? p.1 = some p.2 ∧ H p.1 = none ∧ p.1 ≠ X.env.locals ∧ p.1 ∉ X.fs ∧ ∀ v, p.2.data ≠ .cell v) : Inv X pins' σ H s :=
  ⟨I.ok, I.os, I.bare, I.base, I.loc, I.cell, I.free, I.freeC, fun p hp => (List.mem_append.mp hp).elim (fun z => I.pin p (List.mem_append_left _ z)) (h p), I.hok, I.len⟩

theorem nodup_ix {N : List Str} (hN : N.Nodup) {i j : Nat} {x : Str} (a : N[i]? = some x) (b : N[j]? = some x) : i = j := by
  obtain ⟨h1, e1⟩ := List.getElem?_eq_some_iff.mp a
  obtain ⟨h2, e2⟩ := List.getElem?_eq_some_iff.mp b
  exact (List.getElem_inj hN).mp (e1.trans e2.symm)

/-- a name is stored; what changed -/
theorem store_ok2 {M : Model} {A : Around} {E : Value → Shared → Prop} {i : Nat} {x : Str} {v : V} {u : Value} {Q : Unit → Shared → Prop} (I : Inv X pins σ H s) (hN : X.N.Nodup) (hi : X.N[i]? = some x) (hx : Loc X.env.scope x) (r : RelV v u)
    (h : ∀ s', Inv X pins (σ.set i (some v)) H s' → (∃ a, Heap.SameBut a s.heap s'.heap ∧ (a = X.env.locals ∨ X.env.cells.lookup x = some a)) → Q () s') (hf : X.fn x = true ∨ X.env.scope.names.lookup x = some .local := by first | exact .inl rfl | exact .inr rfl | assumption) : wpAny M A (storeName X.env x u) Q E s := by
  obtain ⟨m, hn, hl⟩ := id I.loc
  have hcls : (X.env.scope.kind == .class || (X.env.scope.kind == .module && X.env.locals != X.env.globals)) = false := by rw [I.ok.kind]; rfl
  have hiσ : i < σ.length := by rw [I.len]; exact (List.getElem?_eq_some_iff.mp hi).1
  have cne := I.cne
  have tracked : ∀ {a : Addr} {h' : Heap}, (∃ o, s.heap.get? a = some o ∧ H a = none) → Heap.SameBut a s.heap h' → HOk X.prog X.w H h' := fun {a h'} ha hs b ob e => by
    obtain ⟨_, _, hfree⟩ := ha
    refine (I.hok b ob e).stay (fun c w' hc q => (hs.2 c ?_).trans q) (fun _ q => q) fun _ _ q => q
    rintro rfl
    rcases hc with rfl | hc
    · rw [hfree] at e; cases e
    · rw [hfree] at hc; cases hc
  rcases hx with hk | hk
  · refine wpAny_storeName_local hk hn (fun h' hn' hs => ?_) hcls
    obtain ⟨oL, _, _, hoL, _⟩ := id hn
    refine h _ ⟨I.ok, I.os, I.bare, ⟨fun b o e n hb hx => ?_, fun b o e n hb hx => ?_, I.base.free, fun b o e hx => ?_, I.base.tups, I.base.frzs, I.base.tbls⟩, ⟨_, hn', fun j y v' e1 e2 e3 => ?_⟩, fun y c e => ?_, I.free, I.freeC, fun p hp => ?_, tracked ⟨oL, hoL, I.free⟩ hs, by simpa using I.len⟩ ⟨_, hs, .inl rfl⟩
    · exact (hs.2 b (Nat.ne_of_lt (Nat.lt_of_lt_of_le (Heap.lt_size e) I.ok.above))).trans (I.base.keep b o e n hb hx)
    · obtain ⟨sl, e1⟩ := I.base.slot b o e n hb hx
      exact ⟨sl, (hs.2 b (Nat.ne_of_lt (Nat.lt_of_lt_of_le (Heap.lt_size e) I.ok.above))).trans e1⟩
    · obtain ⟨o', e1⟩ := I.base.there b o e hx
      exact ⟨o', (hs.2 b (Nat.ne_of_lt (Nat.lt_of_lt_of_le (Heap.lt_size e) I.ok.above))).trans e1⟩
    · by_cases hj : j = i
      · subst hj
        rw [hi] at e1; cases e1
        rw [List.getElem?_set_self hiσ] at e2
        cases e2
        exact ⟨u, r, .inl ⟨hk, by simp⟩⟩
      · rw [List.getElem?_set_ne (Ne.symm hj)] at e2
        obtain ⟨u', r', q⟩ := hl j y v' e1 e2 e3
        refine ⟨u', r', ?_⟩
        rcases q with ⟨k, e⟩ | ⟨k, c, e, z⟩
        · refine .inl ⟨k, ?_⟩
          have : y ≠ x := fun e => hj (nodup_ix hN e1 (e ▸ hi))
          simp [this, e]
        · exact .inr ⟨k, c, e, z.sameBut hs (cne y c e)⟩
    · obtain ⟨w', z⟩ := I.cell y c e
      exact ⟨w', z.sameBut hs (cne y c e)⟩
    · obtain ⟨e, n, ne, nf, d⟩ := I.pin p hp
      exact ⟨(hs.2 p.1 ne).trans e, n, ne, nf, d⟩
  · have hfn : X.fn x = true := by
      rcases hf with z | z
      · exact z
      · rw [z] at hk; cases hk
    obtain ⟨c, hc⟩ := I.ok.has x (.inl hk)
    obtain ⟨w', z⟩ := I.cell x c hc
    refine wpAny_storeName_cell I.ok.kind hk hc z (fun h' hc' hs => ?_)
    obtain ⟨oc, hoc, hocd⟩ := id z
    refine h { s with heap := h' } ⟨I.ok, I.os, I.bare, ⟨fun b o e n hb hx => ?_, fun b o e n hb hx => ?_, I.base.free, fun b o e hx => ?_, I.base.tups, I.base.frzs, I.base.tbls⟩, ⟨m, hn.sameBut hs (Ne.symm (cne x c hc)), fun j y v' e1 e2 e3 => ?_⟩, fun y c' e => ?_, I.free, I.freeC, fun p hp => ?_, tracked ⟨oc, hoc, I.freeC x c hc⟩ hs, by simpa using I.len⟩ ⟨c, hs, .inr hc⟩
    · exact (hs.2 b (Nat.ne_of_lt (Nat.lt_of_lt_of_le (Heap.lt_size e) (I.ok.cab x c hfn hc)))).trans (I.base.keep b o e n hb hx)
    · obtain ⟨sl, e1⟩ := I.base.slot b o e n hb hx
      exact ⟨sl, (hs.2 b (Nat.ne_of_lt (Nat.lt_of_lt_of_le (Heap.lt_size e) (I.ok.cab x c hfn hc)))).trans e1⟩
    · obtain ⟨o', e1⟩ := I.base.there b o e hx
      exact ⟨o', (hs.2 b (Nat.ne_of_lt (Nat.lt_of_lt_of_le (Heap.lt_size e) (I.ok.cab x c hfn hc)))).trans e1⟩
    · by_cases hj : j = i
      · subst hj
        rw [hi] at e1; cases e1
        rw [List.getElem?_set_self hiσ] at e2
        cases e2
        exact ⟨u, r, .inr ⟨.inl hk, c, hc, hc'⟩⟩
      · rw [List.getElem?_set_ne (Ne.symm hj)] at e2
        obtain ⟨u', r', q⟩ := hl j y v' e1 e2 e3
        refine ⟨u', r', ?_⟩
        rcases q with q | ⟨k, c', e, z'⟩
        · exact .inl q
        · refine .inr ⟨k, c', e, z'.sameBut hs ?_⟩
          rintro rfl
          exact hj (nodup_ix hN e1 (I.ok.inj _ _ _ e hc ▸ hi))
    · by_cases hcc : c' = c
      · subst hcc; exact ⟨_, hc'⟩
      · obtain ⟨w2, z2⟩ := I.cell y c' e
        exact ⟨w2, z2.sameBut hs hcc⟩
    · obtain ⟨e, n, ne, nf, d⟩ := I.pin p hp
      refine ⟨(hs.2 p.1 ?_).trans e, n, ne, nf, d⟩
      intro q
      rw [q, hoc] at e
      have q' : oc = p.2 := Option.some.inj e
      exact d w' (by rw [← q']; exact hocd)
theorem store_ok {M : Model} {A : Around} {E : Value → Shared → Prop} {i : Nat} {x : Str} {v : V} {u : Value} {Q : Unit → Shared → Prop} (I : Inv X pins σ H s) (hN : X.N.Nodup) (hi : X.N[i]? = some x) (hx : Loc X.env.scope x) (r : RelV v u)
    (h : ∀ s', Inv X pins (σ.set i (some v)) H s' → Q () s') (hf : X.fn x = true ∨ X.env.scope.names.lookup x = some .local := by first | exact .inl rfl | exact .inr rfl | assumption) : wpAny M A (storeName X.env x u) Q E s :=
  store_ok2 I hN hi hx r (fun s' I' _ => h s' I') hf
/-- behind a call or a block, the state as it is -/
theorem Inv.call' {s' : Shared} {ch : List Addr} (I : Inv X pins σ H s) (ho : s'.os = s.os) (u : Un (frs X.stack) ch H H' s.heap s'.heap) (hok : HOk X.prog X.w H' s'.heap) (hg : AllBare s'.gens)
    (hch : ∀ b ∈ ch, (b ∈ X.ex ∨ X.s₀.heap.objs.size ≤ b) ∧ b ≠ X.env.locals ∧ (∀ x c, X.env.cells.lookup x = some c → c ≠ b) ∧ ∀ p ∈ X.pn ++ pins, p.1 ≠ b) : Inv X pins σ H' s' := by
  obtain ⟨h', g', d', t', o'⟩ := s'
  have e : o' = s.os := ho
  subst e
  exact I.call (g' := g') (t' := t') (d' := d') u hok hg hch
end

/-! ### the judgements -/
/-- an exception: its class, its own dict's address (where it has one), the abstract heap behind it -/
abbrev XK := Value → Option Addr → Hp → Prop
abbrev St := List (Option V)
abbrev VK := V → Hp → Prop
/-- an expression's reading; a test's; an argument list's -/
abbrev TE := St → Hp → VK → Prop
abbrev TT := St → Hp → (Bool → Hp → Prop) → Prop
abbrev TA := St → Hp → (List V → Hp → Prop) → Prop
/-- what is wanted behind a statement -/
structure Ends where
  nx : St → Hp → Prop
  rt : VK
  bk : St → Hp → Prop := fun _ _ => False
  ct : St → Hp → Prop := fun _ _ => False
abbrev TS := Ends → St → Hp → Prop

def EP (X : Cx) (pins : List (Addr × Obj)) (σ : St) (Q : VK) (u : Value) (s' : Shared) : Prop := ∃ v H', Inv X pins σ H' s' ∧ RelV v u ∧ Q v H'
def TP (X : Cx) (pins : List (Addr × Obj)) (σ : St) (Q : Bool → Hp → Prop) (b : Bool) (s' : Shared) : Prop := ∃ H', Inv X pins σ H' s' ∧ Q b H'
def AP (X : Cx) (pins : List (Addr × Obj)) (σ : St) (Q : List V → Hp → Prop) (us : List Value) (s' : Shared) : Prop := ∃ vs H', Inv X pins σ H' s' ∧ Vals vs us ∧ Q vs H'
def SP (X : Cx) (pins : List (Addr × Obj)) (D : Ends) (f : Flow) (s' : Shared) : Prop :=
  match f with
  | .next => ∃ σ' H', Inv X pins σ' H' s' ∧ D.nx σ' H'
  | .brk => ∃ σ' H', Inv X pins σ' H' s' ∧ D.bk σ' H'
  | .cont => ∃ σ' H', Inv X pins σ' H' s' ∧ D.ct σ' H'
  | .ret u => ∃ v σ' H', Inv X pins σ' H' s' ∧ RelV v u ∧ D.rt v H'

def PE (X : Cx) (e : Expr) (t : TE) : Prop :=
  ∀ (pins : List (Addr × Obj)) (s : Shared) (σ : St) (H : Hp) (Q : VK), Inv X pins σ H s → t σ H Q → wpAny (model X.prog X.w) X.A (eval e X.env) (EP X pins σ Q) X.xe s
def PT (X : Cx) (e : Expr) (t : TT) : Prop :=
  ∀ (pins : List (Addr × Obj)) (s : Shared) (σ : St) (H : Hp) (Q : Bool → Hp → Prop), Inv X pins σ H s → t σ H Q → wpAny (model X.prog X.w) X.A (isTrue e X.env (eval e X.env)) (TP X pins σ Q) X.xe s
/-- a test whatever its 'whole' is (and, or) -/
def PW (X : Cx) (e : Expr) (t : TT) : Prop :=
  ∀ (whole : Sem Value) (pins : List (Addr × Obj)) (s : Shared) (σ : St) (H : Hp) (Q : Bool → Hp → Prop), Inv X pins σ H s → t σ H Q → wpAny (model X.prog X.w) X.A (isTrue e X.env whole) (TP X pins σ Q) X.xe s
theorem PW.pt {X : Cx} {e : Expr} {t : TT} (h : PW X e t) : PT X e t := h _
/-- an argument list (no star), from the left -/
def PA (X : Cx) (es : List Expr) (t : TA) : Prop :=
  ∀ (pos : Pos) (pins : List (Addr × Obj)) (s : Shared) (σ : St) (H : Hp) (Q : List V → Hp → Prop), Inv X pins σ H s → t σ H Q → wpAny (model X.prog X.w) X.A (spliced (backTo pos (starEach es X.env))) (AP X pins σ Q) X.xe s
def PS (X : Cx) (st : Stmt) (t : TS) : Prop :=
  ∀ (pins : List (Addr × Obj)) (s : Shared) (σ : St) (H : Hp) (D : Ends), Inv X pins σ H s → t D σ H → wpAny (model X.prog X.w) X.A (exec st X.env) (SP X pins D) X.xe s
def PSs (X : Cx) (st : List Stmt) (t : TS) : Prop :=
  ∀ (pins : List (Addr × Obj)) (s : Shared) (σ : St) (H : Hp) (D : Ends), Inv X pins σ H s → t D σ H → wpAny (model X.prog X.w) X.A (execs st X.env) (SP X pins D) X.xe s
/-- weaken the end -/
theorem thn {α : Type} {t : Sem α} {Q Q' : α → Shared → Prop} {M : Model} {A : Around} {E : Value → Shared → Prop} {s : Shared} (h : wpAny M A t Q E s) (hQ : ∀ a s, Q a s → Q' a s) : wpAny M A t Q' E s := wpAny_mono h hQ fun _ _ x => x
end L2

namespace L2
open PySem PySem.Spec PyProof.Rows
section
variable {X : Cx}

/-- two expressions in a row -/
theorem bin {a b : Expr} {ta tb : TE} (ha : PE X a ta) (hb : PE X b tb) {pins : List (Addr × Obj)} {s : Shared} {σ : St} {H : Hp} {R : V → V → Hp → Prop} (I : Inv X pins σ H s) (h : ta σ H fun x H1 => tb σ H1 fun y H2 => R x y H2)
    {α : Type} {Q : α → Shared → Prop} {f : Value → Value → Sem α}
    (hf : ∀ v u s2 x y H2, Inv X pins σ H2 s2 → RelV x v → RelV y u → R x y H2 → wpAny (model X.prog X.w) X.A (f v u) Q X.xe s2) :
    wpAny (model X.prog X.w) X.A (eval a X.env) (fun v s₁ => wpAny (model X.prog X.w) X.A (eval b X.env) (fun u s₂ => wpAny (model X.prog X.w) X.A (f v u) Q X.xe s₂) X.xe s₁) X.xe s := by
  refine thn (ha pins s σ H _ I h) fun v s1 ⟨x, H1, I1, r1, q1⟩ => ?_
  refine thn (hb pins s1 σ H1 _ I1 q1) fun u s2 ⟨y, H2, I2, r2, q2⟩ => ?_
  exact hf v u s2 x y H2 I2 r1 r2 q2

/-! ### names and constants -/
def tVar (i : Nat) : TE := fun σ H Q => ∃ v, σ[i]? = some (some v) ∧ Q v H
def tC (v : V) : TE := fun _ H Q => Q v H
theorem pe_var {i : Nat} {x : Str} {pos : Pos} (hN : X.N[i]? = some x) (hv : Vis X.env.scope x) (hd : (x == ("__debug__" : Str)) = false := by decide) (hcd : (x == ("__classdict__" : Str)) = false := by decide) : PE X (.Name x pos) (tVar i) := by
  intro pins s σ H Q I h
  obtain ⟨v, e, h⟩ := h
  obtain ⟨m, hn, hl⟩ := I.loc
  obtain ⟨u, r, l⟩ := hl i x v hN e hv
  have fin : EP X pins σ Q u s := ⟨v, H, I, r, h⟩
  rcases l with ⟨hk, hm⟩ | ⟨hk, c, hc, hcell⟩
  · exact wpAny_Name (wpAny_loadName_local I.ok.kind hk hn hm fin) hd
  · rcases hk with hk | hk
    · exact wpAny_Name (wpAny_loadName_cell I.ok.kind hk hc hcell fin) hd
    · exact wpAny_Name (wpAny_loadName_free I.ok.kind hk hc hcell fin hcd) hd
theorem pe_int {i j pos} : PE X (.Constant (.int i) j pos) (tC (.int i)) := fun _ _ _ H _ I h => wpAny_Constant_int ⟨.int i, H, I.tok _, ⟨_, rfl⟩, h⟩
theorem pe_bl {b j pos} : PE X (.Constant (.bool b) j pos) (tC (.bl b)) := fun _ _ _ H _ I h => Constant_bool ⟨.bl b, H, I, rfl, h⟩
theorem pe_non {j pos} : PE X (.Constant .none j pos) (tC .non) := fun _ _ _ H _ I h => Constant_none ⟨.non, H, I, rfl, h⟩
theorem pe_str {x j pos} : PE X (.Constant (.str x) j pos) (tC (.str x)) := fun _ _ _ H _ I h => Calls.Constant_str ⟨.str x, H, I.tok _, ⟨_, rfl⟩, h⟩

/-- a global name of the def -/
def Gl (X : Cx) (x : Str) : Prop := X.env.kindOf x = some .globalImplicit
theorem ld_glob {E : Value → Shared → Prop} {pins : List (Addr × Obj)} {s : Shared} {σ : St} {H : Hp} {x : Str} {u : Value} {pos : Pos} {Q : Value → Shared → Prop} (I : Inv X pins σ H s) (hg : Gl X x) (hm : X.mg x = some u) (h : Q u s)
    (hd : (x == ("__debug__" : Str)) = false := by decide) : wpAny (model X.prog X.w) X.A (eval (.Name x pos) X.env) Q E s :=
  Calls.Name_function_global I.ok.kind hg (Calls.loadGlobal_global (by rw [I.ok.glob]; exact I.mod.glob.keeps I.bk) hm h) hd
theorem ld_blt {E : Value → Shared → Prop} {pins : List (Addr × Obj)} {s : Shared} {σ : St} {H : Hp} {x : Str} {u : Value} {pos : Pos} {Q : Value → Shared → Prop} (I : Inv X pins σ H s) (hg : Gl X x) (hm : X.mg x = none) (hv : bootBuiltins x = some u) (h : Q u s)
    (hn : x ≠ "__name__" := by decide) (hd : (x == ("__debug__" : Str)) = false := by decide) : wpAny (model X.prog X.w) X.A (eval (.Name x pos) X.env) Q E s := by
  obtain ⟨mb, h1, h2⟩ := I.mod.blt
  exact Calls.Name_function_global I.ok.kind hg (Calls.loadGlobal_builtin (by rw [I.ok.glob]; exact I.mod.glob.keeps I.bk) hm (by rw [I.ok.blt]; exact h1.keeps I.bk) ((h2 x hn).trans hv) h) hd
/-- a module's constant, a class, a function, as a value -/
theorem pe_glob {x : Str} {v : V} {u : Value} {pos : Pos} (hg : Gl X x) (hm : X.mg x = some u) (r : RelV v u) (hd : (x == ("__debug__" : Str)) = false := by decide) : PE X (.Name x pos) (tC v) :=
  fun _ _ _ H _ I h => ld_glob I hg hm ⟨v, H, I, r, h⟩ hd
theorem pe_bltn {x : Str} {v : V} {u : Value} {pos : Pos} (hg : Gl X x) (hm : X.mg x = none) (hv : bootBuiltins x = some u) (r : RelV v u) (hn : x ≠ "__name__" := by decide) (hd : (x == ("__debug__" : Str)) = false := by decide) : PE X (.Name x pos) (tC v) :=
  fun _ _ _ H _ I h => ld_blt I hg hm hv ⟨v, H, I, r, h⟩ hn hd

/-! ### arithmetic -/
/-- two ints -/
def t2I (ta tb : TE) (k : Int → Int → Hp → Prop) : St → Hp → Prop := fun σ H => ta σ H fun x H1 => tb σ H1 fun y H2 => ∃ i j, x = .int i ∧ y = .int j ∧ k i j H2
def tAdd (ta tb : TE) : TE := fun σ H Q => t2I ta tb (fun i j H2 => Q (.int (i + j)) H2) σ H
def tSub (ta tb : TE) : TE := fun σ H Q => t2I ta tb (fun i j H2 => Q (.int (i - j)) H2) σ H
/-- the left factor below 2^64 -/
def tMul (ta tb : TE) : TE := fun σ H Q => t2I ta tb (fun i j H2 => (-(2 ^ 64) < i ∧ i < 2 ^ 64) ∧ Q (.int (i * j)) H2) σ H
variable {a b : Expr} {ta tb : TE} {pos : Pos}
theorem pe_add (ha : PE X a ta) (hb : PE X b tb) : PE X (.BinOp a .Add b pos) (tAdd ta tb) := by
  intro pins s σ H Q I h
  refine wpAny_BinOp (bin ha hb I h fun v u s2 x y H2 I2 rx ry q => ?_)
  obtain ⟨i, j, rfl, rfl, q⟩ := q
  obtain ⟨t, rfl⟩ := rx
  obtain ⟨t', rfl⟩ := ry
  exact add_int ⟨.int _, H2, I2.tok _, ⟨_, rfl⟩, q⟩
theorem pe_sub (ha : PE X a ta) (hb : PE X b tb) : PE X (.BinOp a .Sub b pos) (tSub ta tb) := by
  intro pins s σ H Q I h
  refine wpAny_BinOp (bin ha hb I h fun v u s2 x y H2 I2 rx ry q => ?_)
  obtain ⟨i, j, rfl, rfl, q⟩ := q
  obtain ⟨t, rfl⟩ := rx
  obtain ⟨t', rfl⟩ := ry
  exact sub_int ⟨.int _, H2, I2.tok _, ⟨_, rfl⟩, q⟩
theorem pe_mul (ha : PE X a ta) (hb : PE X b tb) : PE X (.BinOp a .Mult b pos) (tMul ta tb) := by
  intro pins s σ H Q I h
  refine wpAny_BinOp (bin ha hb I h fun v u s2 x y H2 I2 rx ry q => ?_)
  obtain ⟨i, j, rfl, rfl, ⟨q1, q2⟩, q⟩ := q
  obtain ⟨t, rfl⟩ := rx
  obtain ⟨t', rfl⟩ := ry
  exact mul_int ⟨.int _, H2, I2.tok _, ⟨_, rfl⟩, q⟩ (.of_left (intBits_le_64 q1 q2))

/-! ### comparisons -/
def PC (X : Cx) (op : CmpOp) (a b : Expr) (t : TE) : Prop :=
  ∀ (pins : List (Addr × Obj)) (s : Shared) (σ : St) (H : Hp) (Q : VK), Inv X pins σ H s → t σ H Q →
    wpAny (model X.prog X.w) X.A (eval a X.env) (fun v s₁ => wpAny (model X.prog X.w) X.A (eval b X.env) (fun u s₂ => wpAny (model X.prog X.w) X.A (compareOp op v u) (EP X pins σ Q) X.xe s₂) X.xe s₁) X.xe s
theorem nobehind (b : Expr) {op : CmpOp} (h : op ≠ .In) (h2 : op ≠ .NotIn) : behindInMarks op b = false := by
  have e1 : (op == CmpOp.In) = false := by cases op <;> first | rfl | exact absurd rfl h
  have e2 : (op == CmpOp.NotIn) = false := by cases op <;> first | rfl | exact absurd rfl h2
  cases b <;> simp [behindInMarks, e1, e2]
def tCmp (p : Int → Int → Bool) (ta tb : TE) : TE := fun σ H Q => t2I ta tb (fun i j H2 => Q (.bl (p i j)) H2) σ H
abbrev tLt : TE → TE → TE := tCmp fun i j => decide (i < j)
abbrev tLe : TE → TE → TE := tCmp fun i j => decide (i ≤ j)
abbrev tGt : TE → TE → TE := tCmp fun i j => decide (j < i)
abbrev tGe : TE → TE → TE := tCmp fun i j => decide (j ≤ i)
abbrev tEqI : TE → TE → TE := tCmp fun i j => decide (i = j)
abbrev tNeI : TE → TE → TE := tCmp fun i j => !decide (i = j)
/-- a comparison of two ints, by its rule -/
theorem pc_int {op : CmpOp} {p : Int → Int → Bool} (ha : PE X a ta) (hb : PE X b tb)
    (rule : ∀ (i j : Int) (t u : Tok) (Q : Value → Shared → Prop) (s : Shared), Q (.bool (p i j)) s → wpAny (model X.prog X.w) X.A (compareOp op (.int i t) (.int j u)) Q X.xe s) : PC X op a b (tCmp p ta tb) := by
  intro pins s σ H Q I h
  refine bin ha hb I h fun v u s2 x y H2 I2 rx ry q => ?_
  obtain ⟨i, j, rfl, rfl, q⟩ := q
  obtain ⟨t, rfl⟩ := rx
  obtain ⟨t', rfl⟩ := ry
  exact rule i j t t' _ s2 ⟨.bl _, H2, I2, rfl, q⟩
theorem pc_lt (ha : PE X a ta) (hb : PE X b tb) : PC X .Lt a b (tLt ta tb) := pc_int ha hb fun _ _ _ _ _ _ h => lt_int h
theorem pc_le (ha : PE X a ta) (hb : PE X b tb) : PC X .LtE a b (tLe ta tb) := pc_int ha hb fun _ _ _ _ _ _ h => le_int h
theorem pc_gt (ha : PE X a ta) (hb : PE X b tb) : PC X .Gt a b (tGt ta tb) := pc_int ha hb fun _ _ _ _ _ _ h => gt_int h
theorem pc_ge (ha : PE X a ta) (hb : PE X b tb) : PC X .GtE a b (tGe ta tb) := pc_int ha hb fun _ _ _ _ _ _ h => ge_int h
theorem pc_eqI (ha : PE X a ta) (hb : PE X b tb) : PC X .Eq a b (tEqI ta tb) := pc_int ha hb fun _ _ _ _ _ _ h => eq_int (by rw [Bool.beq_eq_decide_eq]; exact h)
theorem pc_neI (ha : PE X a ta) (hb : PE X b tb) : PC X .NotEq a b (tNeI ta tb) := pc_int ha hb fun _ _ _ _ _ _ h => ne_int (by rw [bne, Bool.beq_eq_decide_eq]; exact h)
/-- is None -/
def tIsN (ta : TE) : TE := fun σ H Q => ta σ H fun x H1 => Q (.bl (decide (x = .non))) H1
def tNotN (ta : TE) : TE := fun σ H Q => ta σ H fun x H1 => Q (.bl (!decide (x = .non))) H1
theorem RelV.none_iff {x : V} {v : Value} (r : RelV x v) : (v == Value.none) = decide (x = .non) := by
  cases x with
  | non => cases r; rfl
  | bl _ => cases r; rfl
  | int _ => obtain ⟨t, rfl⟩ := r; rfl
  | str _ => obtain ⟨t, rfl⟩ := r; rfl
  | byt _ => obtain ⟨t, rfl⟩ := r; rfl
  | flt _ => obtain ⟨t, rfl⟩ := r; rfl
  | ref _ => cases r; rfl
  | ty _ => cases r; rfl
theorem pc_isN {j pos'} (ha : PE X a ta) : PC X .Is a (.Constant .none j pos') (tIsN ta) := by
  intro pins s σ H Q I h
  refine thn (ha pins s σ H _ I h) fun v s1 ⟨x, H1, I1, r1, q1⟩ => ?_
  exact Constant_none (is_none_gen ⟨.bl _, H1, I1, by rw [r1.none_iff]; rfl, q1⟩)
theorem pc_notN {j pos'} (ha : PE X a ta) : PC X .IsNot a (.Constant .none j pos') (tNotN ta) := by
  intro pins s σ H Q I h
  refine thn (ha pins s σ H _ I h) fun v s1 ⟨x, H1, I1, r1, q1⟩ => ?_
  exact Constant_none (isnot_none_gen ⟨.bl _, H1, I1, by rw [r1.none_iff]; rfl, q1⟩)
/-- a comparison as a value, as a test -/
def tB (t : TE) : TT := fun σ H Q => t σ H fun x H1 => ∃ c, x = .bl c ∧ Q c H1
theorem pe_cmp {op : CmpOp} {t : TE} (h : PC X op a b t) (h1 : behindInMarks op b = false := by first | exact nobehind _ (by decide) (by decide) | rfl) : PE X (.Compare a [op] [b] pos) t := fun pins s σ H Q I hw => wpAny_Compare1 (h pins s σ H Q I hw) h1
theorem pt_cmp {op : CmpOp} {t : TE} (h : PC X op a b t) (h1 : behindInMarks op b = false := by first | exact nobehind _ (by decide) (by decide) | rfl) : PT X (.Compare a [op] [b] pos) (tB t) := by
  intro pins s σ H Q I hw
  refine wpAny_isTrue_Compare1 (thn (h pins s σ H _ I hw) fun v s1 h1 => thn h1 fun u s2 h2 => thn h2 fun c s3 ⟨x, H1, I1, r1, q1⟩ => ?_) h1
  obtain ⟨d, rfl, q⟩ := q1
  cases r1
  exact wpAny_truthy_bool ⟨H1, I1, q⟩
/-- an expression whose value is a bool, as a test -/
theorem pt_val {e : Expr} {t : TE} (h : PE X e t) (he : ∀ whole, isTrue e X.env whole = (do let v ← whole; standAt e.pos; holding [v] (truthy v)) := by intro _; rfl) : PT X e (tB t) := by
  intro pins s σ H Q I hw
  refine isTrue_plain (thn (h pins s σ H _ I hw) fun v s1 ⟨x, H1, I1, r1, q1⟩ => ?_) (he _)
  obtain ⟨d, rfl, q⟩ := q1
  cases r1
  exact wpAny_truthy_bool ⟨H1, I1, q⟩

/-! ### and, or, not -/
variable {tA tB' : TT} {rest : List Expr}
def tAnd (t u : TT) : TT := fun σ H Q => t σ H fun c H1 => if c = true then u σ H1 Q else Q false H1
def tOr (t u : TT) : TT := fun σ H Q => t σ H fun c H1 => if c = true then Q true H1 else u σ H1 Q
def tNot (t : TT) : TT := fun σ H Q => t σ H fun c H1 => Q (!c) H1
theorem pw_and1 (ha : PT X a tA) : PW X (.BoolOp .And [a] pos) tA := by
  intro wh pins s σ H Q I h
  refine isTrue_and (thn (ha pins s σ H Q I h) fun c s1 e => ?_)
  cases c with
  | true => exact isTrue_and_nil e
  | false => exact e
theorem pw_or1 (ha : PT X a tA) : PW X (.BoolOp .Or [a] pos) tA := by
  intro wh pins s σ H Q I h
  refine isTrue_or (thn (ha pins s σ H Q I h) fun c s1 e => ?_)
  cases c with
  | false => exact isTrue_or_nil e
  | true => exact e
theorem pw_and (ha : PT X a tA) (hb : PW X (.BoolOp .And (b :: rest) pos) tB') : PW X (.BoolOp .And (a :: b :: rest) pos) (tAnd tA tB') := by
  intro wh pins s σ H Q I h
  refine isTrue_and (thn (ha pins s σ H _ I h) fun c s1 ⟨H1, I1, q1⟩ => ?_)
  cases c with
  | true => exact hb wh pins s1 σ H1 Q I1 q1
  | false => exact ⟨H1, I1, q1⟩
theorem pw_or (ha : PT X a tA) (hb : PW X (.BoolOp .Or (b :: rest) pos) tB') : PW X (.BoolOp .Or (a :: b :: rest) pos) (tOr tA tB') := by
  intro wh pins s σ H Q I h
  refine isTrue_or (thn (ha pins s σ H _ I h) fun c s1 ⟨H1, I1, q1⟩ => ?_)
  cases c with
  | true => exact ⟨H1, I1, q1⟩
  | false => exact hb wh pins s1 σ H1 Q I1 q1
theorem pt_not (ha : PT X a tA) : PT X (.UnaryOp .Not a pos) (tNot tA) := by
  intro pins s σ H Q I h
  exact isTrue_not (ha pins s σ H (fun c H1 => Q (!c) H1) I h)
/-- .. as values (bools) -/
def tAndV (ta tb : TE) : TE := fun σ H Q => ta σ H fun x H1 => ∃ c, x = .bl c ∧ if c = true then tb σ H1 Q else Q (.bl false) H1
def tOrV (ta tb : TE) : TE := fun σ H Q => ta σ H fun x H1 => ∃ c, x = .bl c ∧ if c = true then Q (.bl true) H1 else tb σ H1 Q
def tNotV (ta : TE) : TE := fun σ H Q => ta σ H fun x H1 => ∃ c, x = .bl c ∧ Q (.bl (!c)) H1
theorem pe_one {op} {t : TE} (h : PE X a t) : PE X (.BoolOp op [a] pos) t := fun pins s σ H Q I hw => BoolOp_one (h pins s σ H Q I hw)
theorem pe_and (ha : PE X a ta) (hb : PE X (.BoolOp .And (b :: rest) pos) tb) : PE X (.BoolOp .And (a :: b :: rest) pos) (tAndV ta tb) := by
  intro pins s σ H Q I h
  refine BoolOp_and (thn (ha pins s σ H _ I h) fun v s1 ⟨x, H1, I1, r1, q1⟩ => ?_)
  obtain ⟨c, rfl, q1⟩ := q1
  cases r1
  refine wpAny_truthy_bool ?_
  cases c with
  | true => exact hb pins s1 σ H1 Q I1 q1
  | false => exact ⟨.bl false, H1, I1, rfl, q1⟩
theorem pe_or (ha : PE X a ta) (hb : PE X (.BoolOp .Or (b :: rest) pos) tb) : PE X (.BoolOp .Or (a :: b :: rest) pos) (tOrV ta tb) := by
  intro pins s σ H Q I h
  refine BoolOp_or (thn (ha pins s σ H _ I h) fun v s1 ⟨x, H1, I1, r1, q1⟩ => ?_)
  obtain ⟨c, rfl, q1⟩ := q1
  cases r1
  refine wpAny_truthy_bool ?_
  cases c with
  | false => exact hb pins s1 σ H1 Q I1 q1
  | true => exact ⟨.bl true, H1, I1, rfl, q1⟩
theorem pe_not (ha : PE X a ta) : PE X (.UnaryOp .Not a pos) (tNotV ta) := by
  intro pins s σ H Q I h
  refine UnaryOp_ (thn (ha pins s σ H _ I h) fun v s1 ⟨x, H1, I1, r1, q1⟩ => ?_)
  obtain ⟨c, rfl, q1⟩ := q1
  cases r1
  exact not_of (wpAny_truthy_bool ⟨.bl (!c), H1, I1, rfl, q1⟩)
/-- a if t else b -/
def tIf (t : TT) (ta tb : TE) : TE := fun σ H Q => t σ H fun c H1 => if c = true then ta σ H1 Q else tb σ H1 Q
theorem pe_ifExp {c : Expr} (hc : PT X c tA) (ha : PE X a ta) (hb : PE X b tb) : PE X (.IfExp c a b pos) (tIf tA ta tb) := by
  intro pins s σ H Q I h
  refine wpAny_IfExp (thn (hc pins s σ H _ I h) fun d s1 ⟨H1, I1, q1⟩ => ?_)
  cases d with
  | true => exact ha pins s1 σ H1 Q I1 q1
  | false => exact hb pins s1 σ H1 Q I1 q1
end
end L2

namespace L2
open PySem PySem.Spec PyProof.Rows

/-! ### a list, a tuple that is read: tracked, frozen, or an object of the module -/
def SqL (K : PySem.W.Frag) (H : Hp) (a : Addr) (xs : List V) : Prop :=
  Rd H a (.lst xs) ∨
    ∃ (o : Obj) (its : Array Value) (n : Nat), K.lookup a = some o ∧ o.cls = .type "list" ∧ o.dict = none ∧ o.data = .seq its n ∧ its.size ≤ sizeLine ∧ Vals xs its.toList
def SqT (K : PySem.W.Frag) (H : Hp) (a : Addr) (xs : List V) : Prop :=
  Rd H a (.tup xs) ∨
    ∃ (o : Obj) (its : Array Value) (n : Nat), K.lookup a = some o ∧ o.cls = .type "tuple" ∧ o.data = .seq its n ∧ its.size ≤ sizeLine ∧ Vals xs its.toList
def absV : Value → Option V
  | .none => some .non
  | .bool b => some (.bl b)
  | .int i _ => some (.int i)
  | .str x _ => some (.str x)
  | .bytes b _ => some (.byt b)
  | .float b _ => some (.flt b)
  | .ref a => some (.ref a)
  | .type n => some (.ty n)
  | _ => none
theorem RelV.abs {x : V} {u : Value} (r : RelV x u) : absV u = some x := by
  cases x with
  | non => cases r; rfl
  | bl _ => cases r; rfl
  | int _ => obtain ⟨t, rfl⟩ := r; rfl
  | str _ => obtain ⟨t, rfl⟩ := r; rfl
  | byt _ => obtain ⟨t, rfl⟩ := r; rfl
  | flt _ => obtain ⟨t, rfl⟩ := r; rfl
  | ref _ => cases r; rfl
  | ty _ => cases r; rfl
theorem RelV.inj {x y : V} {u : Value} (r : RelV x u) (q : RelV y u) : x = y := Option.some.inj (r.abs.symm.trans q.abs)
theorem Vals.inj : ∀ {xs ys : List V} {us : List Value}, Vals xs us → Vals ys us → xs = ys
  | _, _, _, .nil, .nil => rfl
  | _, _, _, .cons r t, .cons r' t' => by rw [r.inj r', Vals.inj t t']
section
variable {X : Cx} {pins : List (Addr × Obj)} {σ : St} {H : Hp} {s : Shared} {a : Addr} {xs ys : List V}
theorem SqL.of {K : PySem.W.Frag} (h : H a = some (.lst xs)) : SqL K H a xs := .inl (.inl h)
theorem SqT.of {K : PySem.W.Frag} (h : H a = some (.tup xs)) : SqT K H a xs := .inl (.inl h)
theorem Inv.list (I : Inv X pins σ H s) (h : SqL X.K H a xs) : ∃ its : List Value, Vals xs its ∧ PlainL s.heap a its.toArray ∧ xs.length ≤ sizeLine := by
  rcases h with h | ⟨o, its, n, hk, hc, hd, hs, hz, r⟩
  · obtain ⟨z, its, n, r, e⟩ := h.ok I.hok
    exact ⟨its, r, ⟨_, n, e, rfl, rfl, rfl⟩, z⟩
  · refine ⟨its.toList, r, ⟨o, n, I.kIn a o hk, hc, hd, by simpa using hs⟩, ?_⟩
    have e := r.length
    simp only [Array.length_toList] at e
    omega
theorem Inv.tuple (I : Inv X pins σ H s) (h : SqT X.K H a xs) : ∃ its : List Value, Vals xs its ∧ IsTup s.heap a its.toArray ∧ xs.length ≤ sizeLine := by
  rcases h with h | ⟨o, its, n, hk, hc, hs, hz, r⟩
  · obtain ⟨z, its, r, p⟩ := h.ok I.hok
    exact ⟨its, r, p, z⟩
  · refine ⟨its.toList, r, ⟨o, I.kIn a o hk, hc, n, by simpa using hs⟩, ?_⟩
    have e := r.length
    simp only [Array.length_toList] at e
    omega
theorem Inv.list_inj (I : Inv X pins σ H s) (h : SqL X.K H a xs) (h' : SqL X.K H a ys) : xs = ys := by
  obtain ⟨its, r, ⟨o, n, e, _, _, d⟩, _⟩ := I.list h
  obtain ⟨its', r', ⟨o', n', e', _, _, d'⟩, _⟩ := I.list h'
  rw [e] at e'; cases e'
  rw [d] at d'
  injection d' with d1 _
  have : its = its' := by simpa using congrArg Array.toList d1
  subst this
  exact r.inj r'
theorem Inv.tuple_inj (I : Inv X pins σ H s) (h : SqT X.K H a xs) (h' : SqT X.K H a ys) : xs = ys := by
  obtain ⟨its, r, ⟨o, e, _, n, d⟩, _⟩ := I.tuple h
  obtain ⟨its', r', ⟨o', e', _, n', d'⟩, _⟩ := I.tuple h'
  rw [e] at e'; cases e'
  rw [d] at d'
  injection d' with d1 _
  have : its = its' := by simpa using congrArg Array.toList d1
  subst this
  exact r.inj r'
end

/-! ### another wish about exceptions -/
abbrev Cx.wish (X : Cx) (E : Value → Shared → Prop) : Cx := { X with xe := E }
/-- no exception leaves -/
abbrev Cx.nox (X : Cx) : Cx := X.wish fun _ _ => False
theorem Cx.Ok.wish {X : Cx} (ok : X.Ok) (E : Value → Shared → Prop) : (X.wish E).Ok :=
  ⟨ok.mod, ok.kind, ok.glob, ok.blt, ok.above, ok.inj, ok.has, ok.cab, ok.hd, ok.frames, ok.stk, ok.exf, ok.bs, ok.bsz, ok.noex, ok.exfs, ok.funs, ok.frf⟩
theorem Cx.Ok.unwish {X : Cx} {E : Value → Shared → Prop} (ok : (X.wish E).Ok) : X.Ok :=
  ⟨ok.mod, ok.kind, ok.glob, ok.blt, ok.above, ok.inj, ok.has, ok.cab, ok.hd, ok.frames, ok.stk, ok.exf, ok.bs, ok.bsz, ok.noex, ok.exfs, ok.funs, ok.frf⟩
section
variable {X : Cx} {pins : List (Addr × Obj)} {σ : St} {H : Hp} {s : Shared} {E : Value → Shared → Prop}
theorem Inv.wish (I : Inv X pins σ H s) (E : Value → Shared → Prop) : Inv (X.wish E) pins σ H s := ⟨I.ok.wish E, I.os, I.bare, I.base, I.loc, I.cell, I.free, I.freeC, I.pin, I.hok, I.len⟩
theorem Inv.unwish (I : Inv (X.wish E) pins σ H s) : Inv X pins σ H s := ⟨I.ok.unwish, I.os, I.bare, I.base, I.loc, I.cell, I.free, I.freeC, I.pin, I.hok, I.len⟩
theorem SP.unwish {D : Ends} {f : Flow} {s' : Shared} (h : SP (X.wish E) pins D f s') : SP X pins D f s' := by
  cases f with
  | next => obtain ⟨σ', H', I, q⟩ := h; exact ⟨σ', H', I.unwish, q⟩
  | brk => obtain ⟨σ', H', I, q⟩ := h; exact ⟨σ', H', I.unwish, q⟩
  | cont => obtain ⟨σ', H', I, q⟩ := h; exact ⟨σ', H', I.unwish, q⟩
  | ret u => obtain ⟨v, σ', H', I, r, q⟩ := h; exact ⟨v, σ', H', I.unwish, r, q⟩
theorem PE.nox {e : Expr} {t : TE} (h : PE X.nox e t) : PE X e t := fun pins s σ H Q I hw =>
  wpAny_mono (h pins s σ H Q (I.wish _) hw) (fun _ _ ⟨v, H', I', r, q⟩ => ⟨v, H', I'.unwish, r, q⟩) fun _ _ z => False.elim z
theorem PT.nox {e : Expr} {t : TT} (h : PT X.nox e t) : PT X e t := fun pins s σ H Q I hw =>
  wpAny_mono (h pins s σ H Q (I.wish _) hw) (fun _ _ ⟨H', I', q⟩ => ⟨H', I'.unwish, q⟩) fun _ _ z => False.elim z
theorem PSs.nox {st : List Stmt} {t : TS} (h : PSs X.nox st t) : PSs X st t := fun pins s σ H D I hw =>
  wpAny_mono (h pins s σ H D (I.wish _) hw) (fun _ _ q => q.unwish) fun _ _ z => False.elim z
end

/-! ### blocks and small statements -/
section
variable {X : Cx} {st : Stmt} {rest : List Stmt} {t u : TS} {e : Expr} {te : TE} {pos : Pos}
def tNext : TS := fun D σ H => D.nx σ H
def tSeq (t u : TS) : TS := fun D σ H => t { D with nx := u D } σ H
theorem pss_nil : PSs X [] tNext := fun _ _ σ H _ I h => wpAny_execs_nil ⟨σ, H, I, h⟩
theorem pss_cons (h1 : PS X st t) (h2 : PSs X rest u) : PSs X (st :: rest) (tSeq t u) := by
  intro pins s σ H D I h
  refine wpAny_execs_cons (thn (h1 pins s σ H { D with nx := u D } I h) fun f s1 q => ?_)
  cases f with
  | next =>
    obtain ⟨σ', H', I', q⟩ := q
    exact h2 pins s1 σ' H' D I' q
  | ret v => exact q
  | brk => exact q
  | cont => exact q
theorem pss_one (h1 : PS X st t) : PSs X [st] t := by
  intro pins s σ H D I h
  refine wpAny_execs_cons (thn (h1 pins s σ H D I h) fun f s1 q => ?_)
  cases f with
  | next => exact wpAny_execs_nil q
  | ret v => exact q
  | brk => exact q
  | cont => exact q
def tBreak : TS := fun D σ H => D.bk σ H
def tCont : TS := fun D σ H => D.ct σ H
theorem ps_pass : PS X (.Pass pos) tNext := fun _ _ σ H _ I h => wpAny_Pass ⟨σ, H, I, h⟩
theorem ps_break : PS X (.Break pos) tBreak := fun _ _ σ H _ I h => wpAny_Break ⟨σ, H, I, h⟩
theorem ps_continue : PS X (.Continue pos) tCont := fun _ _ σ H _ I h => wpAny_Continue ⟨σ, H, I, h⟩
/-- in a def's body nothing is shown -/
theorem Inv.quiet {pins : List (Addr × Obj)} {σ : St} {H : Hp} {s : Shared} (I : Inv X pins σ H s) : interactive X.env = false := by simp [interactive, I.ok.kind]
/-- a docstring -/
theorem ps_doc {x j pos pos'} : PS X (.Expr (.Constant (.str x) j pos) pos') tNext := fun _ s σ H _ I h => wpAny_Expr (Calls.Constant_str (show SP X _ _ .next { s with toks := s.toks + 1 } from ⟨σ, H, I.tok _, h⟩)) I.quiet
/-- an expression whose value is dropped -/
def tDrop (te : TE) : TS := fun D σ H => te σ H fun _ H1 => D.nx σ H1
theorem ps_expr (he : PE X e te) (hs : swapsWith e none pos.line X.env = pure false := by rfl) : PS X (.Expr e pos) (tDrop te) := by
  intro pins s σ H D I h
  exact wpAny_Expr_any (thn (he pins s σ H _ I h) fun v s1 ⟨x, H1, I1, r1, q1⟩ => ⟨σ, H1, I1, q1⟩) I.quiet hs
def tRet (te : TE) : TS := fun D σ H => te σ H D.rt
theorem ps_ret (he : PE X e te) : PS X (.Return (some e) pos) (tRet te) := by
  intro pins s σ H D I h
  exact wpAny_Return_some (thn (he pins s σ H _ I h) fun v s1 ⟨x, H1, I1, r1, q1⟩ => ⟨x, σ, H1, I1, r1, q1⟩)
def tRetN : TS := fun D _ H => D.rt .non H
theorem ps_retN : PS X (.Return none pos) tRetN := fun _ _ σ H _ I h => wpAny_Return_none ⟨.non, σ, H, I, rfl, h⟩
def tIfS (c : TT) (t u : TS) : TS := fun D σ H => c σ H fun b H1 => if b = true then t D σ H1 else u D σ H1
theorem ps_if {c : Expr} {a b : List Stmt} {tc : TT} (hc : PT X c tc) (ha : PSs X a t) (hb : PSs X b u) : PS X (.If c a b pos) (tIfS tc t u) := by
  intro pins s σ H D I h
  refine wpAny_If (thn (hc pins s σ H _ I h) fun d s1 ⟨H1, I1, q1⟩ => ?_)
  cases d with
  | true => exact ha pins s1 σ H1 D I1 q1
  | false => exact hb pins s1 σ H1 D I1 q1
/-- code that the proof never comes to -/
def tNever : TS := fun _ _ _ => False
theorem ps_never : PS X st tNever := fun _ _ _ _ _ _ h => h.elim
theorem pss_never {sts : List Stmt} : PSs X sts tNever := fun _ _ _ _ _ _ h => h.elim
end

/-! ### targets -/
abbrev TG := V → St → Hp → (St → Hp → Prop) → Prop
abbrev TGs := List V → St → Hp → (St → Hp → Prop) → Prop
def PG (X : Cx) (target : Expr) (t : TG) : Prop :=
  ∀ (pins : List (Addr × Obj)) (s : Shared) (σ : St) (H : Hp) (v : V) (u : Value) (Q : St → Hp → Prop), Inv X pins σ H s → RelV v u → t v σ H Q →
    wpAny (model X.prog X.w) X.A (assign target X.env u) (fun _ s' => ∃ σ' H', Inv X pins σ' H' s' ∧ Q σ' H') X.xe s
/-- several targets, one after another -/
def PGs (X : Cx) (ts : List Expr) (t : TGs) : Prop :=
  ∀ (pins : List (Addr × Obj)) (s : Shared) (σ : St) (H : Hp) (vs : List V) (us : List Value) (Q : St → Hp → Prop), Inv X pins σ H s → Vals vs us → t vs σ H Q →
    wpAny (model X.prog X.w) X.A (assignInOrder ((assignEach ts X.env).map (·.2)) us) (fun _ s' => ∃ σ' H', Inv X pins σ' H' s' ∧ Q σ' H') X.xe s
/-- o[i] = v, by values -/
abbrev TSet := V → V → V → Hp → (Hp → Prop) → Prop
def PSet (X : Cx) (t : TSet) : Prop :=
  ∀ (pins : List (Addr × Obj)) (s : Shared) (σ : St) (H : Hp) (o i v : V) (ov iv u : Value) (Q : Hp → Prop), Inv X pins σ H s → RelV o ov → RelV i iv → RelV v u → t o i v H Q →
    wpAny (model X.prog X.w) X.A (setItem ov iv u) (fun _ s' => ∃ H', Inv X pins σ H' s' ∧ Q H') X.xe s
/-- a op= b, by values -/
abbrev TIp := V → V → Hp → VK → Prop
def PIp (X : Cx) (op : Operator) (t : TIp) : Prop :=
  ∀ (pins : List (Addr × Obj)) (s : Shared) (σ : St) (H : Hp) (x y : V) (v u : Value) (Q : VK), Inv X pins σ H s → RelV x v → RelV y u → t x y H Q →
    wpAny (model X.prog X.w) X.A (inplaceOp op v u) (EP X pins σ Q) X.xe s
section
variable {X : Cx} {pos : Pos}
def gName (i : Nat) : TG := fun v σ H Q => Q (σ.set i (some v)) H
theorem pg_name {i : Nat} {x : Str} (hN : X.N.Nodup) (hi : X.N[i]? = some x) (hx : Loc X.env.scope x) (hf : X.fn x = true ∨ X.env.scope.names.lookup x = some .local := by first | exact .inl rfl | exact .inr rfl | assumption) : PG X (.Name x pos) (gName i) := by
  intro pins s σ H v u Q I r h
  exact wpAny_assign_Name (store_ok I hN hi hx r (fun s' I' => ⟨_, H, I', h⟩) hf)
def gNil : TGs := fun vs σ H Q => vs = [] ∧ Q σ H
def gCons (t : TG) (u : TGs) : TGs := fun vs σ H Q => ∃ v r, vs = v :: r ∧ t v σ H fun σ' H' => u r σ' H' Q
theorem pgs_nil : PGs X [] gNil := by
  intro pins s σ H vs us Q I r h
  obtain ⟨e, h⟩ := h
  subst e
  cases r
  exact assignInOrder_nil ⟨σ, H, I, h⟩
theorem pgs_cons {e : Expr} {es : List Expr} {t : TG} {u : TGs} (h1 : PG X e t) (h2 : PGs X es u)
    (hs : (assignEach (e :: es) X.env).map (·.2) = assign e X.env :: (assignEach es X.env).map (·.2) := by rfl) : PGs X (e :: es) (gCons t u) := by
  intro pins s σ H vs us Q I r h
  obtain ⟨v, vr, e1, h⟩ := h
  subst e1
  cases r with
  | cons r rr =>
    rw [hs]
    refine assignInOrder_cons (thn (h1 pins s σ H _ _ _ I r h) fun _ s1 ⟨σ1, H1, I1, q1⟩ => ?_)
    exact h2 pins s1 σ1 H1 _ _ Q I1 rr q1
/-- (a, b, ..) = a tuple of that length -/
def gTup (K : PySem.W.Frag) (n : Nat) (t : TGs) : TG := fun v σ H Q => ∃ a xs, v = .ref a ∧ SqT K H a xs ∧ xs.length = n ∧ t xs σ H Q
theorem pg_tup {es : List Expr} {k : Nat} {t : TGs} {n : Nat} (hc : X.calm = true) (h : PGs X es t)
    (hn : (assignEach es X.env).length = n := by rfl) (hst : (assignEach es X.env).findIdx? (·.1) = none := by rfl) : PG X (.Tuple es k pos) (gTup X.K n t) := by
  intro pins s σ H v u Q I r hw
  obtain ⟨a, xs, e1, hq, hl, hw⟩ := hw
  subst e1
  cases r
  obtain ⟨its, rv, ht, hz⟩ := I.tuple hq
  refine assign_Tuple_tuple (I.ok.hd hc) ht (by simp [hn, ← hl, rv.length]) hst fun h' hx => ?_
  have I1 : Inv X pins σ H { s with heap := h' } := I.kept (t' := s.toks) fun b o e => hx b o (Nat.ne_of_lt (Heap.lt_size e)) e
  exact h pins _ σ H xs _ Q I1 (by simpa using rv) hw
/-- o[i] = .. -/
def gSub (to ti : TE) (t : TSet) : TG := fun v σ H Q => to σ H fun o H1 => ti σ H1 fun i H2 => t o i v H2 fun H3 => Q σ H3
theorem pg_sub {o i : Expr} {to ti : TE} {t : TSet} (ho : PE X o to) (hi : PE X i ti) (hs : PSet X t)
    (ha : ∀ v, assign (.Subscript o i pos) X.env v = (do
      let ov ← holding [v] (eval o X.env)
      let iv ← holding [v, ov] (eval i X.env)
      standAt pos
      holding [v, ov, iv] (setItem ov iv v)
      release [v, ov, iv] []) := by intro _; rfl) : PG X (.Subscript o i pos) (gSub to ti t) := by
  intro pins s σ H v u Q I r h
  rw [ha]
  refine wpAny_bind (wpAny_holding (thn (ho pins s σ H _ I h) fun ov s1 ⟨x, H1, I1, r1, q1⟩ => ?_))
  refine wpAny_bind (wpAny_holding (thn (hi pins s1 σ H1 _ I1 q1) fun iv s2 ⟨y, H2, I2, r2, q2⟩ => ?_))
  refine wpAny_bind (wpAny_standAt (wpAny_bind (wpAny_holding (thn (hs pins s2 σ H2 x y v ov iv u _ I2 r1 r2 r q2) fun _ s3 ⟨H3, I3, q3⟩ => ?_))))
  exact wpAny_release ⟨σ, H3, I3, q3⟩
/-- target = value -/
def tAsg (te : TE) (g : TG) : TS := fun D σ H => te σ H fun x H1 => g x σ H1 D.nx
theorem ps_asg {tg e : Expr} {te : TE} {g : TG} (he : PE X e te) (hg : PG X tg g) (hs : swapsWithSole [tg] e pos.line X.env = pure false := by rfl) (hw : swappedStores [tg] e X.env = pure none := by rfl)
    (h1 : (assignEach [tg] X.env).map (·.2) = [assign tg X.env] := by rfl) : PS X (.Assign [tg] e pos) (tAsg te g) := by
  intro pins s σ H D I h
  refine wpAny_Assign_stores (thn (he pins s σ H _ I h) fun v s1 ⟨x, H1, I1, r1, q1⟩ => ?_) hs hw
  rw [h1]
  exact thn (hg pins s1 σ H1 x v _ I1 r1 q1) fun _ s2 q => q
/-- name = value -/
theorem ps_set {i : Nat} {x : Str} {e : Expr} {te : TE} {pos' : Pos} (hN : X.N.Nodup) (hi : X.N[i]? = some x) (hx : Loc X.env.scope x) (he : PE X e te) (hs : swapsWith e (some (.Name x pos')) pos.line X.env = pure false := by rfl) (hf : X.fn x = true ∨ X.env.scope.names.lookup x = some .local := by first | exact .inl rfl | exact .inr rfl | assumption) :
    PS X (.Assign [.Name x pos'] e pos) (tAsg te (gName i)) := by
  intro pins s σ H D I h
  refine wpAny_Assign_Name (thn (he pins s σ H _ I h) fun v s1 ⟨y, H1, I1, r1, q1⟩ => ?_) hs
  exact store_ok I1 hN hi hx r1 (fun s2 I2 => ⟨_, H1, I2, q1⟩) hf
/-- a, b = x, y with plain local names: stored from the right; the pair itself is not tracked (the opening rows as in PyProof/Rows/TupAssign.lean:23) -/
def tPar (i j : Nat) (ta : TA) : TS := fun D σ H => ta σ H fun vs H1 => ∃ v w, vs = [v, w] ∧ D.nx ((σ.set i (some v)).set j (some w)) H1
theorem ps_par {i j : Nat} {x y : Str} {a b : Expr} {ta : TA} {px py pt : Pos} {kt k2 pt2} (hc : X.calm = true) (hN : X.N.Nodup) (hi : X.N[i]? = some x) (hj : X.N[j]? = some y) (hij : i ≠ j)
    (hx : X.env.scope.names.lookup x = some .local) (hy : X.env.scope.names.lookup y = some .local) (ha : PA X [a, b] ta)
    (hw : swappedStores [.Tuple [.Name x px, .Name y py] kt pt] (.Tuple [a, b] k2 pt2) X.env = pure (some [x, y]))
    (hs : swapsWithSole [.Tuple [.Name x px, .Name y py] kt pt] (.Tuple [a, b] k2 pt2) pos.line X.env = pure false := by rfl) :
    PS X (.Assign [.Tuple [.Name x px, .Name y py] kt pt] (.Tuple [a, b] k2 pt2) pos) (tPar i j ta) := by
  intro pins s σ H D I h
  rw [exec_Assign_arm]
  refine wpAny_bind (wpAny_standAt ?_)
  rw [hs]
  refine wpAny_bind (wpAny_pure ?_)
  rw [if_neg (by decide)]
  refine wpAny_bind (Tuple_ (thn (ha _ pins s σ H _ I h) fun us s1 ⟨vs, H1, I1, r1, q1⟩ => ?_))
  obtain ⟨v, w, e1, q1⟩ := q1
  subst e1
  obtain ⟨u1, u2, rfl, rv, rw'⟩ : ∃ u1 u2, us = [u1, u2] ∧ RelV v u1 ∧ RelV w u2 := by
    cases r1 with
    | cons p q =>
      cases q with
      | cons p' q' =>
        cases q'
        exact ⟨_, _, rfl, p, p'⟩
  refine wpAny_newObj_type ?_ (by show 2 ≤ sizeLine; decide)
  have I2 : Inv X pins σ H1 { s1 with heap := s1.heap.push { cls := .type "tuple", data := .seq [u1, u2].toArray } } := I1.kept (t' := s1.toks) fun b o e => Heap.get?_push_of_some _ e
  rw [hw]
  refine wpAny_bind (wpAny_pure ?_)
  show wpAny (model X.prog X.w) X.A (do rule "assign.swapped-stores"; let items ← unpackItems (.ref s1.heap.objs.size) 2 none; assignInOrder [fun v => bindName X.env y v, fun v => bindName X.env x v] items.reverse; pure Flow.next) _ _ _
  refine wpAny_bind (wpAny_rule (wpAny_bind (unpackItems_tuple (items := #[u1, u2]) (I.ok.hd hc) (IsTup.new s1.heap _) fun h' hx' => ?_)))
  have I3 := I2.kept (h' := h') (t' := s1.toks) fun b o e => hx' b o (Nat.ne_of_lt (Heap.lt_size e)) e
  show wpAny _ _ (assignInOrder [fun v => bindName X.env y v, fun v => bindName X.env x v] [u2, u1] >>= fun _ => pure Flow.next) _ _ _
  refine wpAny_bind (assignInOrder_cons (wpAny_bindName (store_ok I3 hN hj (.inl hy) rw' (fun s2 I4 => ?_) (.inr hy))))
  refine assignInOrder_cons (wpAny_bindName (store_ok I4 hN hi (.inl hx) rv (fun s3 I5 => assignInOrder_nil (wpAny_pure ?_)) (.inr hx)))
  rw [List.set_comm _ _ (Ne.symm hij)] at I5
  exact ⟨_, H1, I5, q1⟩
/-- name op= e -/
def tAug (i : Nat) (te : TE) (ti : TIp) : TS := fun D σ H => ∃ x, σ[i]? = some (some x) ∧ te σ H fun y H1 => ti x y H1 fun z H2 => D.nx (σ.set i (some z)) H2
theorem ps_aug {i : Nat} {x : Str} {e : Expr} {te : TE} {op : Operator} {ti : TIp} {pos' : Pos} (hN : X.N.Nodup) (hi : X.N[i]? = some x) (hx : Loc X.env.scope x) (he : PE X e te) (ho : PIp X op ti) (hf : X.fn x = true ∨ X.env.scope.names.lookup x = some .local := by first | exact .inl rfl | exact .inr rfl | assumption) :
    PS X (.AugAssign (.Name x pos') op e pos) (tAug i te ti) := by
  intro pins s σ H D I h
  obtain ⟨v, e1, h⟩ := h
  obtain ⟨m, hn, hl⟩ := I.loc
  have vis : Vis X.env.scope x := by rcases hx with k | k; exact .inl k; exact .inr (.inl k)
  obtain ⟨u, r, l⟩ := hl i x v hi e1 vis
  refine wpAny_AugAssign_Name ?_
  have go : wpAny (model X.prog X.w) X.A (eval e X.env) (fun w s₂ => wpAny (model X.prog X.w) X.A (inplaceOp op u w) (fun r s₃ => wpAny (model X.prog X.w) X.A (storeName X.env x r) (fun _ => SP X pins D .next) X.xe s₃) X.xe s₂) X.xe s := by
    refine thn (he pins s σ H _ I h) fun w s1 ⟨y, H1, I1, r1, q1⟩ => ?_
    refine thn (ho pins s1 σ H1 v y u w _ I1 r r1 q1) fun z s2 ⟨zv, H2, I2, r2, q2⟩ => ?_
    exact store_ok I2 hN hi hx r2 (fun s3 I3 => ⟨_, H2, I3, q2⟩) hf
  rcases l with ⟨hk, hm⟩ | ⟨hk, c, hc, hcell⟩
  · exact wpAny_loadName_local I.ok.kind hk hn hm go
  · rcases hk with hk | hk
    · exact wpAny_loadName_cell I.ok.kind hk hc hcell go
    · rcases hx with k | k
      · have : X.env.scope.names.lookup x = some .free := hk
        rw [k] at this; cases this
      · have : X.env.scope.names.lookup x = some .free := hk
        rw [k] at this; cases this
/-- o[i] op= e -/
def tAugS (to ti te : TE) (tget : V → V → Hp → VK → Prop) (tip : TIp) (tset : TSet) : TS := fun D σ H => to σ H fun o H1 => ti σ H1 fun i H2 => tget o i H2 fun x H3 => te σ H3 fun y H4 => tip x y H4 fun z H5 => tset o i z H5 fun H6 => D.nx σ H6
/-- o[i], by values -/
def PGet (X : Cx) (t : V → V → Hp → VK → Prop) : Prop :=
  ∀ (pins : List (Addr × Obj)) (s : Shared) (σ : St) (H : Hp) (o i : V) (ov iv : Value) (Q : VK), Inv X pins σ H s → RelV o ov → RelV i iv → t o i H Q →
    wpAny (model X.prog X.w) X.A (getItem ov iv) (EP X pins σ Q) X.xe s
theorem ps_augS {o i e : Expr} {to ti te : TE} {tget : V → V → Hp → VK → Prop} {tip : TIp} {tset : TSet} {op : Operator} {tpos : Pos} (ho : PE X o to) (hi : PE X i ti) (hg : PGet X tget) (he : PE X e te) (hp : PIp X op tip) (hs : PSet X tset)
    (ha : ∀ ov iv new, augStore i ov iv new = (do holding [new, ov, iv] (setItem ov iv new); release [new, ov, iv] []; pure .next) := by intros; rfl) : PS X (.AugAssign (.Subscript o i tpos) op e pos) (tAugS to ti te tget tip tset) := by
  intro pins s σ H D I h
  refine wpAny_AugAssign_SubscriptAny (thn (ho pins s σ H _ I h) fun ov s1 ⟨x1, H1, I1, r1, q1⟩ => ?_) ha
  refine thn (hi pins s1 σ H1 _ I1 q1) fun iv s2 ⟨x2, H2, I2, r2, q2⟩ => ?_
  refine thn (hg pins s2 σ H2 x1 x2 ov iv _ I2 r1 r2 q2) fun old s3 ⟨x3, H3, I3, r3, q3⟩ => ?_
  refine thn (he pins s3 σ H3 _ I3 q3) fun v s4 ⟨x4, H4, I4, r4, q4⟩ => ?_
  refine thn (hp pins s4 σ H4 x3 x4 old v _ I4 r3 r4 q4) fun new s5 ⟨x5, H5, I5, r5, q5⟩ => ?_
  exact thn (hs pins s5 σ H5 x1 x2 x5 ov iv new _ I5 r1 r2 r5 q5) fun _ s6 ⟨H6, I6, q6⟩ => ⟨σ, H6, I6, q6⟩
/-- ints -/
def ipI (f : Int → Int → Int) : TIp := fun x y H Q => ∃ i j, x = .int i ∧ y = .int j ∧ Q (.int (f i j)) H
theorem ip_add : PIp X .Add (ipI fun i j => i + j) := by
  intro pins s σ H x y v u Q I r1 r2 h
  obtain ⟨i, j, e1, e2, q⟩ := h
  subst e1; subst e2
  obtain ⟨t, rfl⟩ := r1
  obtain ⟨t', rfl⟩ := r2
  exact iadd_int ⟨.int _, H, I.tok _, ⟨_, rfl⟩, q⟩
theorem ip_sub : PIp X .Sub (ipI fun i j => i - j) := by
  intro pins s σ H x y v u Q I r1 r2 h
  obtain ⟨i, j, e1, e2, q⟩ := h
  subst e1; subst e2
  obtain ⟨t, rfl⟩ := r1
  obtain ⟨t', rfl⟩ := r2
  exact isub_int ⟨.int _, H, I.tok _, ⟨_, rfl⟩, q⟩
end

/-! ### while -/
section
variable {X : Cx} {pos : Pos}
/-- the invariant W with its measure -/
def tWhile (c : TT) (tb : TS) : TS := fun D σ H => ∃ W : Nat → St → Hp → Prop, (∃ m, W m σ H) ∧ ∀ m σ H, W m σ H →
  c σ H fun b H1 => if b = true then ∃ N : St → Hp → Prop, (∀ σ' H', N σ' H' → ∃ m', m' < m ∧ W m' σ' H') ∧ tb { D with nx := N, ct := N, bk := D.nx } σ H1 else D.nx σ H1
theorem ps_while {c : Expr} {body : List Stmt} {tc : TT} {tb : TS} (hp : PassesOwn (model X.prog X.w) X.A X.env X.xe) (hc : PT X c tc) (hb : PSs X body tb) : PS X (.While c body [] pos) (tWhile tc tb) := by
  intro pins s σ H D I h
  obtain ⟨W, ⟨m0, w0⟩, turn⟩ := h
  refine wpAny_While (codeAny_whileLoop (fun n s' => ∃ σ' H', Inv X pins σ' H' s' ∧ W n σ' H') ?_ m0 ⟨σ, H, I, w0⟩)
  rintro n s1 ⟨σ1, H1, I1, w1⟩
  refine wpAny_passesOwn hp (thn (hc pins s1 σ1 H1 _ I1 (turn n σ1 H1 w1)) fun b s2 ⟨H2, I2, q2⟩ => ?_)
  cases b with
  | true =>
    obtain ⟨N, hN, q2⟩ := q2
    rw [if_pos rfl]
    refine wpAny_passesOwn hp (thn (hb pins s2 σ1 H2 _ I2 q2) fun f s3 q3 => ?_)
    cases f with
    | next =>
      obtain ⟨σ3, H3, I3, n3⟩ := q3
      obtain ⟨m', hm, w3⟩ := hN σ3 H3 n3
      exact ⟨m', hm, σ3, H3, I3, w3⟩
    | cont =>
      obtain ⟨σ3, H3, I3, n3⟩ := q3
      obtain ⟨m', hm, w3⟩ := hN σ3 H3 n3
      exact ⟨m', hm, σ3, H3, I3, w3⟩
    | brk => exact q3
    | ret v => exact q3
  | false =>
    rw [if_neg Bool.false_ne_true]
    exact wpAny_execs_nil ⟨σ1, H2, I2, q2⟩
end

/-! ### what a loop or a comprehension walks -/
/-- at turn i: it yields x (the heap may grow), or it stops -/
structure It where
  go : Nat → Hp → Prop
  yld : Nat → Hp → V → Hp → Prop
  stop : Nat → Hp → Prop
/-- the iterator's own objects may turn: they are not the frame's, not pinned, younger than the entry (or a comprehension's own) -/
def FpOk (X : Cx) (pins : List (Addr × Obj)) (H : Hp) (b : Addr) : Prop :=
  H b = none ∧ b ≠ X.env.locals ∧ b ∉ X.fs ∧ (b ∈ X.ex ∨ X.s₀.heap.objs.size ≤ b) ∧ (∀ x c, X.env.cells.lookup x = some c → c ≠ b) ∧ ∀ p ∈ X.pn ++ pins, p.1 ≠ b
theorem Inv.fpOk {X : Cx} {pins : List (Addr × Obj)} {σ : St} {H H' : Hp} {s : Shared} {b : Addr} (I : Inv X pins σ H s) (hb : s.heap.objs.size ≤ b) (hn : H' b = none) : FpOk X pins H' b := by
  refine ⟨hn, Nat.ne_of_gt (Nat.lt_of_lt_of_le I.lt hb), I.nofs hb, .inr (Nat.le_trans I.sz hb), fun x c e z => ?_, fun p hp z => ?_⟩
  · obtain ⟨v, q⟩ := I.cell x c e
    exact absurd (Nat.lt_of_lt_of_le q.lt (by rw [z]; exact hb)) (Nat.lt_irrefl _)
  · exact absurd (Nat.lt_of_lt_of_le (Heap.lt_size (I.pin p hp).1) (by rw [z]; exact hb)) (Nat.lt_irrefl _)
structure Turn (P : Program) (w : World) (K : PySem.W.Frag) (tg : Expr) (J : It) (fp : List Addr) (it : Addr) (tn : Nat → Heap → Prop) : Prop where
  mem : it ∈ fp
  obj : ∀ i h, tn i h → ∀ b ∈ fp, ∃ o, h.get? b = some o ∧ ∀ v, o.data ≠ .cell v
  keep : ∀ i h h', tn i h → (∀ b ∈ fp, ∀ o, h.get? b = some o → h'.get? b = some o) → tn i h'
  item : ∀ (X : Cx), X.prog = P → X.w = w → X.K = K → X.calm = true → ∀ (i : Nat) (pins : List (Addr × Obj)) (s : Shared) (σ : St) (H : Hp) (E : Value → Shared → Prop), Inv X pins σ H s → (∀ b ∈ fp, FpOk X pins H b) → tn i s.heap → J.go i H →
    wpAny (model P w) X.A (pyNext (.ref it)) (fun r s1 => ∃ u, r = some u ∧
      wpAny (model P w) X.A (letOwnedTupleGo tg (.ref it) u) (fun _ s2 => ∃ x H', Inv X pins σ H' s2 ∧ RelV x u ∧ J.yld i H x H' ∧ tn (i + 1) s2.heap ∧ ∀ b ∈ fp, H' b = none) E s1) E s
  done : ∀ (X : Cx), X.prog = P → X.w = w → X.K = K → X.calm = true → ∀ (i : Nat) (pins : List (Addr × Obj)) (s : Shared) (σ : St) (H : Hp) (E : Value → Shared → Prop), Inv X pins σ H s → (∀ b ∈ fp, FpOk X pins H b) → tn i s.heap → J.stop i H →
    wpAny (model P w) X.A (pyNext (.ref it)) (fun r s1 => r = none ∧ Inv X pins σ H s1) E s
  self : ∀ (A : Around) (i : Nat) (s : Shared) (Q : Value → Shared → Prop) (E : Value → Shared → Prop), tn i s.heap → Q (.ref it) s → wpAny (model P w) A (pyIter (.ref it)) Q E s
abbrev TI := St → Hp → (It → Hp → Prop) → Prop
/-- an iterator has come -/
def PIE (X : Cx) (pins : List (Addr × Obj)) (σ : St) (tg : Expr) (R : It → Hp → Prop) (itv : Value) (s2 : Shared) : Prop :=
  ∃ (it : Addr) (fp : List Addr) (tn : Nat → Heap → Prop) (J : It) (H' : Hp), itv = .ref it ∧ Inv X pins σ H' s2 ∧ Turn X.prog X.w X.K tg J fp it tn ∧ tn 0 s2.heap ∧ (∀ b ∈ fp, FpOk X pins H' b) ∧ R J H'
def PI (X : Cx) (tg iter : Expr) (wi : TI) : Prop :=
  ∀ (pins : List (Addr × Obj)) (s : Shared) (σ : St) (H : Hp) (R : It → Hp → Prop), Inv X pins σ H s → wi σ H R →
    wpAny (model X.prog X.w) X.A (eval iter X.env) (fun v s1 => wpAny (model X.prog X.w) X.A (pyIter v) (PIE X pins σ tg R) X.xe s1) X.xe s

/-- the step ahead of the store is nothing for an iterator that keeps no tuple -/
theorem go_of {M : Model} {A : Around} {E : Value → Shared → Prop} {s : Shared} {tg : Expr} {it : Addr} {u : Value} {o : Obj} {n : String} {vs : Array Value} {Q : Unit → Shared → Prop} (ho : s.heap.get? it = some o) (hc : o.cls = .type n) (hd : o.data = .fields vs)
    (hn : ["enumerate", "zip", "dict_itemiterator", "dict_reverseitemiterator", "odict_iterator", "itertools.zip_longest", "itertools.pairwise"].contains n = false) (hQ : Q () s) : wpAny M A (letOwnedTupleGo tg (.ref it) u) Q E s := by
  unfold letOwnedTupleGo
  cases tg <;> first
    | exact wpAny_pure hQ
    | (cases u <;> first
        | exact wpAny_pure hQ
        | (refine wpAny_bind (wpAny_load ho ?_)
           rw [hc, hd]
           show wpAny M A (if (["enumerate", "zip", "dict_itemiterator", "dict_reverseitemiterator", "odict_iterator", "itertools.zip_longest", "itertools.pairwise"].contains n && vs[0]? == some (rawInt _)) = true then _ else _) Q E s
           rw [if_neg (by intro h; rw [hn, Bool.false_and] at h; cases h)]
           exact wpAny_pure hQ))

/-- the list at a, as it stands at each turn (a loop may append to it) -/
def Itl (K : PySem.W.Frag) (a : Addr) : It :=
  ⟨fun i H => ∃ xs x, SqL K H a xs ∧ xs[i]? = some x, fun i H x H' => H' = H ∧ ∀ xs, SqL K H a xs → xs[i]? = some x, fun i H => ∃ xs, SqL K H a xs ∧ xs.length ≤ i⟩
def Itt (K : PySem.W.Frag) (a : Addr) : It :=
  ⟨fun i H => ∃ xs x, SqT K H a xs ∧ xs[i]? = some x, fun i H x H' => H' = H ∧ ∀ xs, SqT K H a xs → xs[i]? = some x, fun i H => ∃ xs, SqT K H a xs ∧ xs.length ≤ i⟩
/-- lo, lo + 1, .. (n of them) -/
def Itr (lo : Int) (n : Nat) : It := ⟨fun i _ => i < n, fun i H x H' => H' = H ∧ x = .int (lo + i), fun i _ => n ≤ i⟩
theorem turn_list {P : Program} {w : World} {K : PySem.W.Frag} {tg : Expr} (a it : Addr) : Turn P w K tg (Itl K a) [it] it (fun i h => h.IsListIter it a i) where
  mem := by simp
  obj := fun i h st b hb => by
    have e : b = it := by simpa using hb
    subst e
    obtain ⟨o, e, c, d⟩ := st
    exact ⟨o, e, fun v z => by rw [d] at z; cases z⟩
  keep := fun i h h' st k => st.at fun o e => k it (by simp) o e
  item := by
    intro X hP hw hK hc i pins s σ H E I hf st hg
    subst hP hw hK
    obtain ⟨xs, x, hq, hx⟩ := hg
    obtain ⟨its, rv, p, hz⟩ := I.list hq
    obtain ⟨u, hu, ru⟩ := rv.get hx
    obtain ⟨f0, f1, f2, f3, f4, f5⟩ := hf it (by simp)
    refine wpAny_pyNext_list_item st p.isList (x := u) (by simpa using hu) fun h' st' sb => ?_
    have I1 : Inv X pins σ H { s with heap := h' } := I.turned (t' := s.toks) (fun b o hb e => (sb.2 b hb).trans e) f0 f1 f3 f4 f5
    obtain ⟨o, e, c, d⟩ := id st'
    exact ⟨u, rfl, go_of (s := { s with heap := h' }) e c d (by decide) ⟨x, H, I1, ru, ⟨rfl, fun ys hy => by rw [I.list_inj hy hq]; exact hx⟩, st', fun b hb => (hf b hb).1⟩⟩
  done := by
    intro X hP hw hK hc i pins s σ H E I hf st hg
    subst hP hw hK
    obtain ⟨xs, hq, hx⟩ := hg
    obtain ⟨its, rv, p, hz⟩ := I.list hq
    obtain ⟨f0, f1, f2, f3, f4, f5⟩ := hf it (by simp)
    have hl := rv.length
    exact wpAny_pyNext_list_end (I.ok.hd hc) st p.isList (by simp; omega) fun h' eb => ⟨rfl, I.turned (t' := s.toks) (fun b o hb e => eb b o hb e) f0 f1 f3 f4 f5⟩
  self := fun _ _ _ _ _ st h => wpAny_pyIter_listiter st h
theorem turn_tuple {P : Program} {w : World} {K : PySem.W.Frag} {tg : Expr} (a it : Addr) : Turn P w K tg (Itt K a) [it] it (fun i h => h.IsTupleIter it a i) where
  mem := by simp
  obj := fun i h st b hb => by
    have e : b = it := by simpa using hb
    subst e
    obtain ⟨o, e, c, d⟩ := st
    exact ⟨o, e, fun v z => by rw [d] at z; cases z⟩
  keep := fun i h h' st k => st.at fun o e => k it (by simp) o e
  item := by
    intro X hP hw hK hc i pins s σ H E I hf st hg
    subst hP hw hK
    obtain ⟨xs, x, hq, hx⟩ := hg
    obtain ⟨its, rv, p, hz⟩ := I.tuple hq
    obtain ⟨u, hu, ru⟩ := rv.get hx
    obtain ⟨f0, f1, f2, f3, f4, f5⟩ := hf it (by simp)
    refine wpAny_pyNext_tuple_item st (show s.heap.IsTuple a its.toArray from p) (x := u) (by simpa using hu) fun h' st' sb => ?_
    have I1 : Inv X pins σ H { s with heap := h' } := I.turned (t' := s.toks) (fun b o hb e => (sb.2 b hb).trans e) f0 f1 f3 f4 f5
    obtain ⟨o, e, c, d⟩ := id st'
    exact ⟨u, rfl, go_of (s := { s with heap := h' }) e c d (by decide) ⟨x, H, I1, ru, ⟨rfl, fun ys hy => by rw [I.tuple_inj hy hq]; exact hx⟩, st', fun b hb => (hf b hb).1⟩⟩
  done := by
    intro X hP hw hK hc i pins s σ H E I hf st hg
    subst hP hw hK
    obtain ⟨xs, hq, hx⟩ := hg
    obtain ⟨its, rv, p, hz⟩ := I.tuple hq
    obtain ⟨f0, f1, f2, f3, f4, f5⟩ := hf it (by simp)
    have hl := rv.length
    exact wpAny_pyNext_tuple_end (I.ok.hd hc) st (show s.heap.IsTuple a its.toArray from p) (by simp; omega) fun h' eb => ⟨rfl, I.turned (t' := s.toks) (fun b o hb e => eb b o hb e) f0 f1 f3 f4 f5⟩
  self := fun _ _ _ _ _ st h => wpAny_pyIter_tupleiter st h
theorem turn_range {P : Program} {w : World} {K : PySem.W.Frag} {tg : Expr} (it : Addr) (lo : Int) (n : Nat) : Turn P w K tg (Itr lo n) [it] it (fun i h => IsRangeIter h it (lo + (i : Nat) * 1) ((n : Int) - (i : Nat)) 1) where
  mem := by simp
  obj := fun i h st b hb => by
    have e : b = it := by simpa using hb
    subst e
    exact ⟨_, st, fun v z => by
      have z' : Data.fields _ = Data.cell v := z
      cases z'⟩
  keep := fun i h h' st k => k it (by simp) _ st
  item := by
    intro X hP hw hK hc i pins s σ H E I hf st hg
    subst hP hw hK
    obtain ⟨f0, f1, f2, f3, f4, f5⟩ := hf it (by simp)
    have W := Walks.range (prog := X.prog) (w := X.w) (I.ok.hd hc) it lo 1 n
    refine W.item i s _ _ hg st fun v h' tk hv st' kk => ?_
    obtain ⟨t, rfl⟩ := hv
    have I1 : Inv X pins σ H { s with heap := h', toks := tk } := I.turned (fun b o hb e => kk b o (by simpa using hb) e) f0 f1 f3 f4 f5
    refine ⟨_, rfl, go_of (s := { s with heap := h', toks := tk }) (n := "range_iterator") st' rfl rfl (by decide) ⟨.int (lo + i), H, I1, ⟨t, ?_⟩, ⟨rfl, rfl⟩, st', fun b hb => (hf b hb).1⟩⟩
    rw [Int.mul_one]
  done := by
    intro X hP hw hK hc i pins s σ H E I hf st hg
    subst hP hw hK
    obtain ⟨f0, f1, f2, f3, f4, f5⟩ := hf it (by simp)
    exact wpAny_pyNext_range_end (I.ok.hd hc) st (by have : n ≤ i := hg; omega) fun h' eb => ⟨rfl, I.turned (t' := s.toks) (fun b o hb e => eb b o hb e) f0 f1 f3 f4 f5⟩
  self := fun _ _ _ _ _ st h => wpAny_pyIter_rangeiter st h
end L2

namespace L2
open PySem PySem.Spec PyProof.Rows
section
variable {X : Cx} {tg : Expr}
def iList (K : PySem.W.Frag) (tl : TE) : TI := fun σ H R => tl σ H fun x H1 => ∃ a, x = .ref a ∧ (∃ xs, SqL K H1 a xs) ∧ R (Itl K a) H1
def iTup (K : PySem.W.Frag) (tl : TE) : TI := fun σ H R => tl σ H fun x H1 => ∃ a, x = .ref a ∧ (∃ xs, SqT K H1 a xs) ∧ R (Itt K a) H1
theorem pi_list {l : Expr} {tl : TE} (hl : PE X l tl) : PI X tg l (iList X.K tl) := by
  intro pins s σ H R I h
  refine thn (hl pins s σ H _ I h) fun v s1 ⟨x, H1, I1, r1, q1⟩ => ?_
  obtain ⟨a, e, ⟨xs, hq⟩, q⟩ := q1
  subst e
  cases r1
  obtain ⟨its, rv, p, hz⟩ := I1.list hq
  refine wpAny_pyIter_list p.isList ?_
  refine ⟨s1.heap.objs.size, [s1.heap.objs.size], _, _, H1, rfl, I1.kept (t' := s1.toks) fun b o e => Heap.get?_push_of_some _ e, turn_list a _, ⟨_, Heap.get?_push_size _ rfl, rfl, rfl⟩, fun b hb => ?_, q⟩
  have e : b = s1.heap.objs.size := by simpa using hb
  subst e
  exact I1.fpOk (Nat.le_refl _) (I1.hok.fresh (Nat.le_refl _))
theorem pi_tup {l : Expr} {tl : TE} (hl : PE X l tl) : PI X tg l (iTup X.K tl) := by
  intro pins s σ H R I h
  refine thn (hl pins s σ H _ I h) fun v s1 ⟨x, H1, I1, r1, q1⟩ => ?_
  obtain ⟨a, e, ⟨xs, hq⟩, q⟩ := q1
  subst e
  cases r1
  obtain ⟨its, rv, p, hz⟩ := I1.tuple hq
  refine wpAny_pyIter_tuple (show s1.heap.IsTuple a its.toArray from p) ?_
  refine ⟨s1.heap.objs.size, [s1.heap.objs.size], _, _, H1, rfl, I1.kept (t' := s1.toks) fun b o e => Heap.get?_push_of_some _ e, turn_tuple a _, ⟨_, Heap.get?_push_size _ rfl, rfl, rfl⟩, fun b hb => ?_, q⟩
  have e : b = s1.heap.objs.size := by simpa using hb
  subst e
  exact I1.fpOk (Nat.le_refl _) (I1.hok.fresh (Nat.le_refl _))
/-- a range object just made, walked -/
theorem range_it {pins : List (Addr × Obj)} {σ : St} {H : Hp} {s : Shared} {R : It → Hp → Prop} {E : Value → Shared → Prop} {lo hi : Int} {t u v : Tok} {tk : Nat} (I : Inv X pins σ H s) (h1 : -(2 ^ 62) ≤ lo) (h2 : lo < 2 ^ 62) (h3 : -(2 ^ 62) ≤ hi) (h4 : hi < 2 ^ 62)
    (q : R (Itr lo (hi - lo).toNat) H) : wpAny (model X.prog X.w) X.A (pyIter (.ref s.heap.objs.size)) (PIE X pins σ tg R) E { s with heap := s.heap.push { cls := .type "range", data := .fields #[.int lo t, .int hi u, .int 1 v] }, toks := tk } := by
  refine wpAny_pyIter_range (IsRange.new ..) (small_one h1 h2 h3 h4) ?_
  have I1 : Inv X pins σ H { s with heap := s.heap.push { cls := .type "range", data := .fields #[.int lo t, .int hi u, .int 1 v] }, toks := tk } := I.kept fun b o e => Heap.get?_push_of_some _ e
  refine ⟨(s.heap.push { cls := .type "range", data := .fields #[.int lo t, .int hi u, .int 1 v] }).objs.size, [(s.heap.push { cls := .type "range", data := .fields #[.int lo t, .int hi u, .int 1 v] }).objs.size], _, _, H, rfl,
    I1.kept (t' := tk) fun b o e => Heap.get?_push_of_some _ e, turn_range _ lo (hi - lo).toNat, ?_, fun b hb => ?_, q⟩
  · have e1 : lo + ((0 : Nat) : Int) * 1 = lo := by simp
    have e2 : (((hi - lo).toNat : Nat) : Int) - ((0 : Nat) : Int) = Builtin.Range.rangeSize lo hi 1 := by rw [rangeSize_one]; split <;> omega
    show IsRangeIter _ _ (lo + ((0 : Nat) : Int) * 1) ((((hi - lo).toNat : Nat) : Int) - ((0 : Nat) : Int)) 1
    rw [e1, e2]
    exact Heap.get?_push_size _ rfl
  · have e : b = (s.heap.push { cls := .type "range", data := .fields #[.int lo t, .int hi u, .int 1 v] }).objs.size := by simpa using hb
    subst e
    exact I1.fpOk (Nat.le_refl _) (I1.hok.fresh (Nat.le_refl _))
def iRng1 (ta : TA) : TI := fun σ H R => ta σ H fun vs H1 => ∃ j : Int, vs = [.int j] ∧ -(2 ^ 62) ≤ j ∧ j < 2 ^ 62 ∧ R (Itr 0 j.toNat) H1
def iRng2 (ta : TA) : TI := fun σ H R => ta σ H fun vs H1 => ∃ i j : Int, vs = [.int i, .int j] ∧ (-(2 ^ 62) ≤ i ∧ i < 2 ^ 62 ∧ -(2 ^ 62) ≤ j ∧ j < 2 ^ 62) ∧ R (Itr i (j - i).toNat) H1
theorem pi_range1 {a : Expr} {ta : TA} {p pos : Pos} (hg : Gl X "range") (hm : X.mg "range" = none) (ha : PA X [a] ta) (hs : starEach [a] X.env = [(false, eval a X.env)] := by rfl) : PI X tg (.Call (.Name "range" p) [a] [] pos) (iRng1 ta) := by
  intro pins s σ H R I h
  refine Call_ (ld_blt I hg hm boot_range (PyProof.Rows.callWith_type1 (thn (ha pos pins s σ H _ I h) fun us s1 ⟨vs, H1, I1, r1, q1⟩ => ?_) hs rfl))
  obtain ⟨j, e, q1, q2, q⟩ := q1
  subst e
  cases r1 with
  | cons r rr =>
    cases rr
    obtain ⟨t, rfl⟩ := r
    exact call_range_1 (range_it I1 (by omega) (by omega) q1 q2 (by simpa using q))
theorem pi_range2 {a b : Expr} {ta : TA} {p pos : Pos} (hg : Gl X "range") (hm : X.mg "range" = none) (ha : PA X [a, b] ta) (hs : starEach [a, b] X.env = [(false, eval a X.env), (false, eval b X.env)] := by rfl) (hs2 : starEach [b] X.env = [(false, eval b X.env)] := by rfl) :
    PI X tg (.Call (.Name "range" p) [a, b] [] pos) (iRng2 ta) := by
  intro pins s σ H R I h
  refine Call_ (ld_blt I hg hm boot_range (PyProof.Rows.callWith_type1 (thn (ha pos pins s σ H _ I h) fun us s1 ⟨vs, H1, I1, r1, q1⟩ => ?_) (by rw [hs, hs2]) (by rw [hs2]; rfl)))
  obtain ⟨i, j, e, ⟨q1, q2, q3, q4⟩, q⟩ := q1
  subst e
  cases r1 with
  | cons r rr =>
    cases rr with
    | cons r' rr =>
      cases rr
      obtain ⟨t, rfl⟩ := r
      obtain ⟨t', rfl⟩ := r'
      exact call_range_2 (range_it I1 q1 q2 q3 q4 q)

/-! ### for -/
/-- W: the invariant by the turn and a measure; N: what the body is to reach -/
def tFor (wi : TI) (g : TG) (tb : TS) : TS := fun D σ H => wi σ H fun J H1 => ∃ W : Nat → Nat → St → Hp → Prop, (∃ m, W 0 m σ H1) ∧ ∀ i m σ H, W i m σ H →
  (J.stop i H ∧ D.nx σ H) ∨ (J.go i H ∧ ∃ N : St → Hp → Prop, (∀ σ' H', N σ' H' → ∃ m', m' < m ∧ W (i + 1) m' σ' H') ∧ ∀ x H', J.yld i H x H' → g x σ H' fun σ2 H2 => tb { D with nx := N, ct := N, bk := D.nx } σ2 H2)
/-- the records at fp as they stand -/
def pinsAt (fp : List Addr) (h : Heap) : List (Addr × Obj) := fp.filterMap fun b => (h.get? b).map fun o => (b, o)
theorem mem_pinsAt {fp : List Addr} {h : Heap} {b : Addr} {o : Obj} (hb : b ∈ fp) (e : h.get? b = some o) : (b, o) ∈ pinsAt fp h := List.mem_filterMap.mpr ⟨b, hb, by rw [e]; rfl⟩
theorem of_pinsAt {fp : List Addr} {h : Heap} {p : Addr × Obj} (hp : p ∈ pinsAt fp h) : p.1 ∈ fp ∧ h.get? p.1 = some p.2 := by
  obtain ⟨b, hb, e⟩ := List.mem_filterMap.mp hp
  cases q : h.get? b with
  | none => rw [q] at e; cases e
  | some o =>
    rw [q] at e
    have e' : (b, o) = p := Option.some.inj e
    subst e'
    exact ⟨hb, q⟩
theorem Inv.pinned {pins : List (Addr × Obj)} {σ : St} {H : Hp} {s : Shared} {fp : List Addr} (I : Inv X pins σ H s) (hf : ∀ b ∈ fp, FpOk X pins H b) (ho : ∀ b ∈ fp, ∃ o, s.heap.get? b = some o ∧ ∀ v, o.data ≠ .cell v) : Inv X (pins ++ pinsAt fp s.heap) σ H s :=
  I.pins_of fun p hp => (List.mem_append.mp hp).elim (fun z => I.pin p (List.mem_append_right _ z)) fun z => by
    obtain ⟨hb, e⟩ := of_pinsAt z
    obtain ⟨f0, f1, f2, _⟩ := hf p.1 hb
    obtain ⟨o, e', d⟩ := ho p.1 hb
    rw [e] at e'; cases e'
    exact ⟨e, f0, f1, f2, d⟩
theorem Inv.unpinned {pins pl : List (Addr × Obj)} {σ : St} {H : Hp} {s : Shared} (I : Inv X (pins ++ pl) σ H s) : Inv X pins σ H s := I.pins_of fun p hp => I.pin p (List.mem_append_right _ (List.mem_append_left _ hp))
theorem ps_for {iter : Expr} {body : List Stmt} {wi : TI} {g : TG} {tb : TS} {pos : Pos} (hp : PassesOwn (model X.prog X.w) X.A X.env X.xe) (hc : X.calm = true) (hi : PI X tg iter wi) (hg : PG X tg g) (hb : PSs X body tb)
    (hs : ∀ x, foldedSetIterable iter X.env x = pure x := by intro _; rfl) : PS X (.For tg iter body [] pos) (tFor wi g tb) := by
  intro pins s σ H D I h
  refine wpAny_For (thn (hi pins s σ H _ I h) fun v s1 h1 => thn h1 fun itv s2 h2 => ?_) hs
  obtain ⟨it, fp, tn, J, H2, e, I2, T, st2, f2, W, ⟨m0, w0⟩, turn⟩ := h2
  subst e
  -- what stays true of the iterator's objects through the loop
  have stat : ∀ {H' : Hp}, (∀ b ∈ fp, H' b = none) → ∀ b ∈ fp, FpOk X pins H' b := fun hn b hb => ⟨hn b hb, (f2 b hb).2⟩
  refine codeAny_forLoop_any (fun n s' => ∃ i σ' H', Inv X pins σ' H' s' ∧ tn i s'.heap ∧ (∀ b ∈ fp, H' b = none) ∧ W i n σ' H') ?_ m0 ⟨0, σ, H2, I2, st2, fun b hb => (f2 b hb).1, w0⟩
  rintro n s3 ⟨i, σ3, H3, I3, st3, fr3, w3⟩
  rcases turn i n σ3 H3 w3 with ⟨stop, qn⟩ | ⟨go, N, hN, step⟩
  · refine wpAny_passesOwn hp (thn (T.done X rfl rfl rfl hc i pins s3 σ3 H3 X.xe I3 (stat fr3) st3 stop) fun r s4 ⟨hr, I4⟩ => ?_)
    subst hr
    exact wpAny_execs_nil ⟨σ3, H3, I4, qn⟩
  · refine wpAny_passesOwn hp (thn (T.item X rfl rfl rfl hc i pins s3 σ3 H3 X.xe I3 (stat fr3) st3 go) fun r s4 ⟨u, hr, h4⟩ => ?_)
    subst hr
    refine wpAny_passesOwn hp (thn h4 fun _ s5 ⟨x, H5, I5, r5, y5, st5, fr5⟩ => ?_)
    have I5' := I5.pinned (stat fr5) (T.obj _ _ st5)
    refine wpAny_passesOwn hp (thn (hg _ s5 σ3 H5 x u _ I5' r5 (step x H5 y5)) fun _ s6 ⟨σ6, H6, I6, q6⟩ => ?_)
    refine wpAny_passesOwn hp (thn (hb _ s6 σ6 H6 _ I6 q6) fun f s7 q7 => ?_)
    have again : ∀ {σ7 : St} {H7 : Hp}, Inv X (pins ++ pinsAt fp s5.heap) σ7 H7 s7 → N σ7 H7 → ∃ m, m < n ∧ ∃ i σ' H', Inv X pins σ' H' s7 ∧ tn i s7.heap ∧ (∀ b ∈ fp, H' b = none) ∧ W i m σ' H' := fun {σ7 H7} I7 n7 => by
      obtain ⟨m', hm, w7⟩ := hN σ7 H7 n7
      refine ⟨m', hm, i + 1, σ7, H7, I7.unpinned, T.keep _ _ _ st5 fun b hb o e => (I7.pin (b, o) (List.mem_append_right _ (List.mem_append_right _ (mem_pinsAt hb e)))).1, fun b hb => ?_, w7⟩
      obtain ⟨o, e, d⟩ := T.obj _ _ st5 b hb
      exact (I7.pin (b, o) (List.mem_append_right _ (List.mem_append_right _ (mem_pinsAt hb e)))).2.1
    cases f with
    | next => obtain ⟨σ7, H7, I7, n7⟩ := q7; exact again I7 n7
    | cont => obtain ⟨σ7, H7, I7, n7⟩ := q7; exact again I7 n7
    | brk => obtain ⟨σ7, H7, I7, q7⟩ := q7; exact ⟨σ7, H7, I7.unpinned, q7⟩
    | ret v => obtain ⟨x7, σ7, H7, I7, r7, q7⟩ := q7; exact ⟨x7, σ7, H7, I7.unpinned, r7, q7⟩
end

/-! ### the forms one uses -/
/-- over a list that the body leaves as it is -/
theorem for_list {K : PySem.W.Frag} {a : Addr} {xs : List V} {g : TG} {tb : TS} {D : Ends} {σ : St} {H : Hp} (Pv : Nat → St → Hp → Prop) (h0 : Pv 0 σ H) (hl : ∀ i σ H, i ≤ xs.length → Pv i σ H → SqL K H a xs)
    (hs : ∀ i x σ H, xs[i]? = some x → Pv i σ H → g x σ H fun σ2 H2 => tb { D with nx := Pv (i + 1), ct := Pv (i + 1), bk := D.nx } σ2 H2) (hd : ∀ σ H, Pv xs.length σ H → D.nx σ H) :
    ∃ W : Nat → Nat → St → Hp → Prop, (∃ m, W 0 m σ H) ∧ ∀ i m σ H, W i m σ H →
      ((Itl K a).stop i H ∧ D.nx σ H) ∨ ((Itl K a).go i H ∧ ∃ N : St → Hp → Prop, (∀ σ' H', N σ' H' → ∃ m', m' < m ∧ W (i + 1) m' σ' H') ∧ ∀ x H', (Itl K a).yld i H x H' → g x σ H' fun σ2 H2 => tb { D with nx := N, ct := N, bk := D.nx } σ2 H2) := by
  refine ⟨fun i m σ H => m = xs.length - i ∧ i ≤ xs.length ∧ Pv i σ H, ⟨xs.length, by simp, Nat.zero_le _, h0⟩, ?_⟩
  rintro i m σ H ⟨rfl, hi, p⟩
  have q := hl i σ H hi p
  by_cases hlt : i < xs.length
  · refine .inr ⟨⟨xs, xs[i], q, by simp [hlt]⟩, Pv (i + 1), fun σ' H' p' => ⟨xs.length - (i + 1), by omega, rfl, hlt, p'⟩, fun x H' y => ?_⟩
    obtain ⟨e, y⟩ := y
    subst e
    exact hs i x σ _ (y xs q) p
  · have e : i = xs.length := by omega
    subst e
    exact .inl ⟨⟨xs, q, Nat.le_refl _⟩, hd σ H p⟩
theorem for_tup {K : PySem.W.Frag} {a : Addr} {xs : List V} {g : TG} {tb : TS} {D : Ends} {σ : St} {H : Hp} (Pv : Nat → St → Hp → Prop) (h0 : Pv 0 σ H) (hl : ∀ i σ H, i ≤ xs.length → Pv i σ H → SqT K H a xs)
    (hs : ∀ i x σ H, xs[i]? = some x → Pv i σ H → g x σ H fun σ2 H2 => tb { D with nx := Pv (i + 1), ct := Pv (i + 1), bk := D.nx } σ2 H2) (hd : ∀ σ H, Pv xs.length σ H → D.nx σ H) :
    ∃ W : Nat → Nat → St → Hp → Prop, (∃ m, W 0 m σ H) ∧ ∀ i m σ H, W i m σ H →
      ((Itt K a).stop i H ∧ D.nx σ H) ∨ ((Itt K a).go i H ∧ ∃ N : St → Hp → Prop, (∀ σ' H', N σ' H' → ∃ m', m' < m ∧ W (i + 1) m' σ' H') ∧ ∀ x H', (Itt K a).yld i H x H' → g x σ H' fun σ2 H2 => tb { D with nx := N, ct := N, bk := D.nx } σ2 H2) := by
  refine ⟨fun i m σ H => m = xs.length - i ∧ i ≤ xs.length ∧ Pv i σ H, ⟨xs.length, by simp, Nat.zero_le _, h0⟩, ?_⟩
  rintro i m σ H ⟨rfl, hi, p⟩
  have q := hl i σ H hi p
  by_cases hlt : i < xs.length
  · refine .inr ⟨⟨xs, xs[i], q, by simp [hlt]⟩, Pv (i + 1), fun σ' H' p' => ⟨xs.length - (i + 1), by omega, rfl, hlt, p'⟩, fun x H' y => ?_⟩
    obtain ⟨e, y⟩ := y
    subst e
    exact hs i x σ _ (y xs q) p
  · have e : i = xs.length := by omega
    subst e
    exact .inl ⟨⟨xs, q, Nat.le_refl _⟩, hd σ H p⟩
theorem for_range {lo : Int} {n : Nat} {g : TG} {tb : TS} {D : Ends} {σ : St} {H : Hp} (Pv : Nat → St → Hp → Prop) (h0 : Pv 0 σ H)
    (hs : ∀ i σ H, i < n → Pv i σ H → g (.int (lo + i)) σ H fun σ2 H2 => tb { D with nx := Pv (i + 1), ct := Pv (i + 1), bk := D.nx } σ2 H2) (hd : ∀ σ H, Pv n σ H → D.nx σ H) :
    ∃ W : Nat → Nat → St → Hp → Prop, (∃ m, W 0 m σ H) ∧ ∀ i m σ H, W i m σ H →
      ((Itr lo n).stop i H ∧ D.nx σ H) ∨ ((Itr lo n).go i H ∧ ∃ N : St → Hp → Prop, (∀ σ' H', N σ' H' → ∃ m', m' < m ∧ W (i + 1) m' σ' H') ∧ ∀ x H', (Itr lo n).yld i H x H' → g x σ H' fun σ2 H2 => tb { D with nx := N, ct := N, bk := D.nx } σ2 H2) := by
  refine ⟨fun i m σ H => m = n - i ∧ i ≤ n ∧ Pv i σ H, ⟨n, by simp, Nat.zero_le _, h0⟩, ?_⟩
  rintro i m σ H ⟨rfl, hi, p⟩
  by_cases hlt : i < n
  · refine .inr ⟨hlt, Pv (i + 1), fun σ' H' p' => ⟨n - (i + 1), by omega, rfl, hlt, p'⟩, fun x H' y => ?_⟩
    obtain ⟨e, y⟩ := y
    subst e y
    exact hs i σ _ hlt p
  · have e : i = n := by omega
    subst e
    exact .inl ⟨Nat.le_refl _, hd σ H p⟩
/-- while, by a word and a measure of the state -/
theorem while_by {c : TT} {tb : TS} {D : Ends} {σ : St} {H : Hp} (Pv : St → Hp → Prop) (μ : St → Hp → Nat) (h0 : Pv σ H)
    (hs : ∀ σ H, Pv σ H → c σ H fun b H1 => if b = true then tb { D with nx := fun σ' H' => Pv σ' H' ∧ μ σ' H' < μ σ H, ct := fun σ' H' => Pv σ' H' ∧ μ σ' H' < μ σ H, bk := D.nx } σ H1 else D.nx σ H1)
    (mono : ∀ σ H Q Q', (∀ b H1, Q b H1 → Q' b H1) → c σ H Q → c σ H Q') : tWhile c tb D σ H := by
  refine ⟨fun m σ H => m = μ σ H ∧ Pv σ H, ⟨_, rfl, h0⟩, ?_⟩
  rintro m σ H ⟨rfl, p⟩
  refine mono σ H _ _ (fun b H1 q => ?_) (hs σ H p)
  cases b with
  | true => exact ⟨_, fun σ' H' ⟨p', l⟩ => ⟨_, l, rfl, p'⟩, q⟩
  | false => exact q
end L2

namespace L2
open PySem PySem.Spec PyProof.Rows

abbrev R2 := V → V → Hp → VK → Prop
/-- a two-place operation on values: f is binaryOp op, inplaceOp op or compareOp op -/
def OpR (X : Cx) (f : Value → Value → Sem Value) (r : R2) : Prop :=
  ∀ (pins : List (Addr × Obj)) (s : Shared) (σ : St) (H : Hp) (x y : V) (v u : Value) (Q : VK), Inv X pins σ H s → RelV x v → RelV y u → r x y H Q →
    wpAny (model X.prog X.w) X.A (f v u) (EP X pins σ Q) X.xe s
/-- a one-place operation -/
def UnR (X : Cx) (f : Value → Sem Value) (r : V → Hp → VK → Prop) : Prop :=
  ∀ (pins : List (Addr × Obj)) (s : Shared) (σ : St) (H : Hp) (x : V) (v : Value) (Q : VK), Inv X pins σ H s → RelV x v → r x H Q →
    wpAny (model X.prog X.w) X.A (f v) (EP X pins σ Q) X.xe s
/-- a call of a value that is known (a builtin, a type) with values -/
def CallR (X : Cx) (f : Value) (r : List V → Hp → VK → Prop) : Prop :=
  ∀ (pins : List (Addr × Obj)) (s : Shared) (σ : St) (H : Hp) (xs : List V) (us : List Value) (Q : VK), Inv X pins σ H s → Vals xs us → r xs H Q →
    wpAny (model X.prog X.w) X.A (call f us) (EP X pins σ Q) X.xe s
/-- a value's truth -/
def TruR (X : Cx) (r : V → Hp → (Bool → Hp → Prop) → Prop) : Prop :=
  ∀ (pins : List (Addr × Obj)) (s : Shared) (σ : St) (H : Hp) (x : V) (v : Value) (Q : Bool → Hp → Prop), Inv X pins σ H s → RelV x v → r x H Q →
    wpAny (model X.prog X.w) X.A (truthy v) (TP X pins σ Q) X.xe s

def tOp (r : R2) (ta tb : TE) : TE := fun σ H Q => ta σ H fun x H1 => tb σ H1 fun y H2 => r x y H2 Q
def tUn (r : V → Hp → VK → Prop) (ta : TE) : TE := fun σ H Q => ta σ H fun x H1 => r x H1 Q
/-- ints in, under C, and a value out -/
def rI (C : Int → Int → Prop) (g : Int → Int → V) : R2 := fun x y H Q => ∃ i j, x = .int i ∧ y = .int j ∧ C i j ∧ Q (g i j) H
def rI0 (g : Int → Int → V) : R2 := fun x y H Q => ∃ i j, x = .int i ∧ y = .int j ∧ Q (g i j) H
def rU (g : Int → V) : V → Hp → VK → Prop := fun x H Q => ∃ i, x = .int i ∧ Q (g i) H

section
variable {X : Cx} {a b c : Expr} {ta tb tc : TE} {pos : Pos}

theorem binT (ha : PE X a ta) (hb : PE X b tb) {pins : List (Addr × Obj)} {s : Shared} {σ : St} {H : Hp} {R : V → V → Hp → Prop} (I : Inv X pins σ H s)
    (h : ta σ H fun x H1 => tb σ H1 fun y H2 => R x y H2) {Q : Value → Shared → Prop} {f : Value → Value → Sem Value}
    (hf : ∀ v u s2 x y H2, Inv X pins σ H2 s2 → RelV x v → RelV y u → R x y H2 → wpAny (model X.prog X.w) X.A (f v u) Q X.xe s2) :
    wpAny (model X.prog X.w) X.A (eval a X.env) (fun v s₁ => wpAny (model X.prog X.w) X.A (eval b X.env) (fun u s₂ => wpAny (model X.prog X.w) X.A (f v u) Q X.xe s₂) X.xe s₁) X.xe s := by
  refine thn (ha pins s σ H _ I h) fun v s1 ⟨x, H1, I1, r1, q1⟩ => ?_
  refine thn (hb pins s1 σ H1 _ I1 q1) fun u s2 ⟨y, H2, I2, r2, q2⟩ => ?_
  exact hf v u s2 x y H2 I2 r1 r2 q2

theorem pe_op {op : Operator} {r : R2} (ho : OpR X (binaryOp op) r) (ha : PE X a ta) (hb : PE X b tb) : PE X (.BinOp a op b pos) (tOp r ta tb) := by
  intro pins s σ H Q I h
  exact wpAny_BinOp (binT ha hb I h fun v u s2 x y H2 I2 rx ry q => ho pins s2 σ H2 x y v u Q I2 rx ry q)
theorem pe_un {op : UnaryOp} {r : V → Hp → VK → Prop} (ho : UnR X (unaryOp op) r) (ha : PE X a ta) : PE X (.UnaryOp op a pos) (tUn r ta) := by
  intro pins s σ H Q I h
  exact UnaryOp_ (thn (ha pins s σ H _ I h) fun v s1 ⟨x, H1, I1, r1, q1⟩ => ho pins s1 σ H1 x v Q I1 r1 q1)
/-- a op= e at a name: the name's slot i -/
theorem augR {op : Operator} {r : R2} (ho : OpR X (inplaceOp op) r) {pins : List (Addr × Obj)} {s : Shared} {σ : St} {H : Hp} {x y : V} {v u : Value} {Q : VK} (I : Inv X pins σ H s)
    (rx : RelV x v) (ry : RelV y u) (q : r x y H Q) : wpAny (model X.prog X.w) X.A (inplaceOp op v u) (EP X pins σ Q) X.xe s := ho pins s σ H x y v u Q I rx ry q

/-! ### ints -/
theorem opI {f : Value → Value → Sem Value} {C : Int → Int → Prop} {g : Int → Int → Int}
    (rule : ∀ (i j : Int) (t u : Tok) (s : Shared) (Q : Value → Shared → Prop) (E : Value → Shared → Prop), C i j → Q (.int (g i j) s.toks) { s with toks := s.toks + 1 } → wpAny (model X.prog X.w) X.A (f (.int i t) (.int j u)) Q E s) :
    OpR X f (rI C fun i j => .int (g i j)) := by
  intro pins s σ H x y v u Q I rx ry h
  obtain ⟨i, j, rfl, rfl, hc, q⟩ := h
  obtain ⟨t, rfl⟩ := rx
  obtain ⟨t', rfl⟩ := ry
  exact rule i j t t' s _ _ hc ⟨.int (g i j), H, I.tok _, ⟨_, rfl⟩, q⟩
theorem opI0 {f : Value → Value → Sem Value} {g : Int → Int → Int}
    (rule : ∀ (i j : Int) (t u : Tok) (s : Shared) (Q : Value → Shared → Prop) (E : Value → Shared → Prop), Q (.int (g i j) s.toks) { s with toks := s.toks + 1 } → wpAny (model X.prog X.w) X.A (f (.int i t) (.int j u)) Q E s) :
    OpR X f (rI0 fun i j => .int (g i j)) := by
  intro pins s σ H x y v u Q I rx ry h
  obtain ⟨i, j, rfl, rfl, q⟩ := h
  obtain ⟨t, rfl⟩ := rx
  obtain ⟨t', rfl⟩ := ry
  exact rule i j t t' s _ _ ⟨.int (g i j), H, I.tok _, ⟨_, rfl⟩, q⟩
theorem opB0 {f : Value → Value → Sem Value} {g : Int → Int → Bool}
    (rule : ∀ (i j : Int) (t u : Tok) (s : Shared) (Q : Value → Shared → Prop) (E : Value → Shared → Prop), Q (.bool (g i j)) s → wpAny (model X.prog X.w) X.A (f (.int i t) (.int j u)) Q E s) :
    OpR X f (rI0 fun i j => .bl (g i j)) := by
  intro pins s σ H x y v u Q I rx ry h
  obtain ⟨i, j, rfl, rfl, q⟩ := h
  obtain ⟨t, rfl⟩ := rx
  obtain ⟨t', rfl⟩ := ry
  exact rule i j t t' s _ _ ⟨.bl (g i j), H, I, rfl, q⟩

def CDiv (i j : Int) : Prop := 0 < j ∧ j < 1073741824
def CDivN (i j : Int) : Prop := j ≠ 0 ∧ j.natAbs < 1073741824
def CPow (i j : Int) : Prop := 0 ≤ j ∧ j ≤ 1000000 ∧ i.natAbs < 2 ^ 64
def CMul (i j : Int) : Prop := (-(2 ^ 64) < i ∧ i < 2 ^ 64) ∨ (-(2 ^ 64) < j ∧ j < 2 ^ 64)
theorem CMul.ok {i j : Int} (h : CMul i j) : IntMulOk i j := by
  rcases h with ⟨h1, h2⟩ | ⟨h1, h2⟩
  · exact .of_left (intBits_le_64 h1 h2)
  · exact .of_right (intBits_le_64 h1 h2)
theorem two_pow_nn (k : Nat) : (0 : Int) ≤ 2 ^ k := by
  rw [two_pow_cast]
  exact Int.natCast_nonneg _

theorem op_add : OpR X (binaryOp .Add) (rI0 fun i j => .int (i + j)) := opI0 fun _ _ _ _ _ _ _ q => add_int q
theorem op_sub : OpR X (binaryOp .Sub) (rI0 fun i j => .int (i - j)) := opI0 fun _ _ _ _ _ _ _ q => sub_int q
theorem op_mul : OpR X (binaryOp .Mult) (rI CMul fun i j => .int (i * j)) := opI fun _ _ _ _ _ _ _ hc q => mul_int q hc.ok
/-- // by a positive divisor -/
theorem op_fdiv : OpR X (binaryOp .FloorDiv) (rI CDiv fun i j => .int (i / j)) := opI fun i j _ _ _ _ _ hc q => by
  have h1 : (0 : Int) < j := hc.1
  have h2 : j < 1073741824 := hc.2
  exact floordiv_int (by omega) (by rw [Int.fdiv_eq_ediv_of_nonneg i (by omega)]; exact q) (.inl (PyProof.noPylong_small (by omega)))
theorem op_fdivN : OpR X (binaryOp .FloorDiv) (rI CDivN fun i j => .int (i.fdiv j)) := opI fun _ _ _ _ _ _ _ hc q => floordiv_int hc.1 q (.inl (PyProof.noPylong_small hc.2))
/-- % by a positive divisor of any size -/
theorem op_mod : OpR X (binaryOp .Mod) (rI (fun _ j => 0 < j) fun i j => .int (i % j)) := opI fun i j _ _ _ _ _ hc q => by
  have h1 : (0 : Int) < j := hc
  exact mod_int' (by omega) (by rw [Int.fmod_eq_emod_of_nonneg i (by omega)]; exact q)
theorem op_modN : OpR X (binaryOp .Mod) (rI (fun _ j => j ≠ 0) fun i j => .int (i.fmod j)) := opI fun _ _ _ _ _ _ _ hc q => mod_int' hc q
theorem op_pow : OpR X (binaryOp .Pow) (rI CPow fun i j => .int (i ^ j.toNat)) := opI fun _ _ _ _ _ _ _ hc q => pow_int_small hc.1 hc.2.1 hc.2.2 q
theorem op_shl : OpR X (binaryOp .LShift) (rI CPow fun i j => .int (i * 2 ^ j.toNat)) := opI fun _ _ _ _ _ _ _ hc q => lshift_int_small hc.1 hc.2.1 hc.2.2 q
theorem op_shr : OpR X (binaryOp .RShift) (rI (fun _ j => 0 ≤ j) fun i j => .int (i / 2 ^ j.toNat)) := opI fun i j _ _ _ _ _ hc q =>
  rshift_int hc (by rw [Int.fdiv_eq_ediv_of_nonneg i (two_pow_nn _)]; exact q)
theorem op_and : OpR X (binaryOp .BitAnd) (rI0 fun i j => .int (Builtin.bitAnd i j)) := opI0 fun _ _ _ _ _ _ _ q => and_int q
theorem op_or : OpR X (binaryOp .BitOr) (rI0 fun i j => .int (Builtin.bitOr i j)) := opI0 fun _ _ _ _ _ _ _ q => or_int q
theorem op_xor : OpR X (binaryOp .BitXor) (rI0 fun i j => .int (Builtin.bitXor i j)) := opI0 fun _ _ _ _ _ _ _ q => xor_int q

theorem iop_add : OpR X (inplaceOp .Add) (rI0 fun i j => .int (i + j)) := opI0 fun _ _ _ _ _ _ _ q => iadd_int q
theorem iop_sub : OpR X (inplaceOp .Sub) (rI0 fun i j => .int (i - j)) := opI0 fun _ _ _ _ _ _ _ q => isub_int q
theorem iop_mul : OpR X (inplaceOp .Mult) (rI CMul fun i j => .int (i * j)) := opI fun _ _ _ _ _ _ _ hc q => imul_int q hc.ok
theorem iop_fdiv : OpR X (inplaceOp .FloorDiv) (rI CDiv fun i j => .int (i / j)) := opI fun i j _ _ _ _ _ hc q => by
  have h1 : (0 : Int) < j := hc.1
  have h2 : j < 1073741824 := hc.2
  exact ifloordiv_int (by omega) (by rw [Int.fdiv_eq_ediv_of_nonneg i (by omega)]; exact q) (.inl (PyProof.noPylong_small (by omega)))
theorem iop_mod : OpR X (inplaceOp .Mod) (rI (fun _ j => 0 < j) fun i j => .int (i % j)) := opI fun i j _ _ _ _ _ hc q => by
  have h1 : (0 : Int) < j := hc
  exact imod_int (by omega) (by rw [Int.fmod_eq_emod_of_nonneg i (by omega)]; exact q)
theorem iop_shl : OpR X (inplaceOp .LShift) (rI CPow fun i j => .int (i * 2 ^ j.toNat)) := opI fun _ _ _ _ _ _ _ hc q => ilshift_int_small hc.1 hc.2.1 hc.2.2 q
theorem iop_shr : OpR X (inplaceOp .RShift) (rI (fun _ j => 0 ≤ j) fun i j => .int (i / 2 ^ j.toNat)) := opI fun i j _ _ _ _ _ hc q =>
  irshift_int hc (by rw [Int.fdiv_eq_ediv_of_nonneg i (two_pow_nn _)]; exact q)
theorem iop_and : OpR X (inplaceOp .BitAnd) (rI0 fun i j => .int (Builtin.bitAnd i j)) := opI0 fun _ _ _ _ _ _ _ q => iand_int q
theorem iop_or : OpR X (inplaceOp .BitOr) (rI0 fun i j => .int (Builtin.bitOr i j)) := opI0 fun _ _ _ _ _ _ _ q => ior_int q
theorem iop_xor : OpR X (inplaceOp .BitXor) (rI0 fun i j => .int (Builtin.bitXor i j)) := opI0 fun _ _ _ _ _ _ _ q => ixor_int q

theorem unI {f : Value → Sem Value} {g : Int → Int}
    (rule : ∀ (i : Int) (t : Tok) (s : Shared) (Q : Value → Shared → Prop) (E : Value → Shared → Prop), Q (.int (g i) s.toks) { s with toks := s.toks + 1 } → wpAny (model X.prog X.w) X.A (f (.int i t)) Q E s) :
    UnR X f (rU fun i => .int (g i)) := by
  intro pins s σ H x v Q I rx h
  obtain ⟨i, rfl, q⟩ := h
  obtain ⟨t, rfl⟩ := rx
  exact rule i t s _ _ ⟨.int (g i), H, I.tok _, ⟨_, rfl⟩, q⟩
theorem un_neg : UnR X (unaryOp .USub) (rU fun i => .int (-i)) := unI fun _ _ _ _ _ q => neg_int q
theorem un_inv : UnR X (unaryOp .Invert) (rU fun i => .int (Builtin.bitNot i)) := unI fun _ _ _ _ _ q => invert_int q

/-! ### bools among ints: n += (a < b) -/
theorem op_add_ib : OpR X (binaryOp .Add) (fun x y H Q => ∃ i k, x = .int i ∧ y = .bl k ∧ Q (.int (i + b2i k)) H) := by
  intro pins s σ H x y v u Q I rx ry h
  obtain ⟨i, k, rfl, rfl, q⟩ := h
  obtain ⟨t, rfl⟩ := rx
  cases ry
  exact add_int_bool ⟨.int (i + b2i k), H, I.tok _, ⟨_, rfl⟩, q⟩
end

/-! ### comparisons -/
/-- the scalars that == tells apart as data does -/
def scal : V → V → Bool
  | .non, .non => true | .non, .int _ => true | .int _, .non => true | .non, .bl _ => true | .bl _, .non => true | .non, .str _ => true | .str _, .non => true
  | .int _, .int _ => true | .bl _, .bl _ => true | .str _, .str _ => true | .byt _, .byt _ => true
  | .int _, .str _ => true | .str _, .int _ => true | .bl _, .str _ => true | .str _, .bl _ => true
  | _, _ => false
def rEq : R2 := fun x y H Q => scal x y = true ∧ Q (.bl (decide (x = y))) H
def rNe : R2 := fun x y H Q => scal x y = true ∧ Q (.bl (!decide (x = y))) H

theorem dec_int {i j : Int} : decide (V.int i = V.int j) = (i == j) := by
  rw [Bool.eq_iff_iff]
  simp
theorem dec_bl {i j : Bool} : decide (V.bl i = V.bl j) = (i == j) := by
  rw [Bool.eq_iff_iff]
  simp
theorem dec_str {i j : Str} : decide (V.str i = V.str j) = (i == j) := by
  rw [Bool.eq_iff_iff]
  simp
theorem dec_byt {i j : Array UInt8} : decide (V.byt i = V.byt j) = (i.toList == j.toList) := by
  rw [Bool.eq_iff_iff]
  cases i
  cases j
  simp

section
variable {X : Cx} {a b c : Expr} {ta tb tc : TE} {pos : Pos}
theorem fin_bl {pins : List (Addr × Obj)} {σ : St} {H : Hp} {s : Shared} {Q : VK} {k k' : Bool} (I : Inv X pins σ H s) (q : Q (.bl k) H) (e : k = k') : EP X pins σ Q (.bool k') s := by
  subst e
  exact ⟨.bl k, H, I, rfl, q⟩
theorem op_eq : OpR X (compareOp .Eq) rEq := by
  intro pins s σ H x y v u Q I rx ry h
  obtain ⟨hs, q⟩ := h
  cases x with
  | non =>
    cases rx
    cases y with
    | non => cases ry; exact PySem.EqNone.eq_none_none (fin_bl I q (by simp))
    | bl j => cases ry; exact PySem.EqNone.eq_none_bool (fin_bl I q (by simp))
    | int j => obtain ⟨t', rfl⟩ := ry; exact PySem.EqNone.eq_none_int (fin_bl I q (by simp))
    | str j => obtain ⟨t', rfl⟩ := ry; exact PySem.EqNone.eq_none_str (fin_bl I q (by simp))
    | _ => exact absurd (show false = true from hs) Bool.false_ne_true
  | bl i =>
    cases rx
    cases y with
    | non => cases ry; exact PySem.EqNone.eq_bool_none (fin_bl I q (by simp))
    | bl j => cases ry; exact eq_bool (fin_bl I q dec_bl)
    | str j => obtain ⟨t', rfl⟩ := ry; exact PySem.EqMixed.eq_bool_str (fin_bl I q (by simp))
    | _ => exact absurd (show false = true from hs) Bool.false_ne_true
  | int i =>
    obtain ⟨t, rfl⟩ := rx
    cases y with
    | non => cases ry; exact PySem.EqNone.eq_int_none (fin_bl I q (by simp))
    | int j => obtain ⟨t', rfl⟩ := ry; exact eq_int (fin_bl I q dec_int)
    | str j => obtain ⟨t', rfl⟩ := ry; exact PySem.EqMixed.eq_int_str (fin_bl I q (by simp))
    | _ => exact absurd (show false = true from hs) Bool.false_ne_true
  | str i =>
    obtain ⟨t, rfl⟩ := rx
    cases y with
    | non => cases ry; exact PySem.EqNone.eq_str_none (fin_bl I q (by simp))
    | bl j => cases ry; exact PySem.EqMixed.eq_str_bool (fin_bl I q (by simp))
    | int j => obtain ⟨t', rfl⟩ := ry; exact PySem.EqMixed.eq_str_int (fin_bl I q (by simp))
    | str j => obtain ⟨t', rfl⟩ := ry; exact eq_str (fin_bl I q dec_str)
    | _ => exact absurd (show false = true from hs) Bool.false_ne_true
  | byt i =>
    obtain ⟨t, rfl⟩ := rx
    cases y with
    | byt j => obtain ⟨t', rfl⟩ := ry; exact PySem.W.eq_bytes (fin_bl I q dec_byt)
    | _ => exact absurd (show false = true from hs) Bool.false_ne_true
  | _ => cases y <;> exact absurd (show false = true from hs) Bool.false_ne_true
theorem op_ne : OpR X (compareOp .NotEq) rNe := by
  intro pins s σ H x y v u Q I rx ry h
  obtain ⟨hs, q⟩ := h
  cases x with
  | non =>
    cases rx
    cases y with
    | non => cases ry; exact PySem.EqNone.ne_none_none (fin_bl I q (by simp))
    | bl j => cases ry; exact PySem.EqNone.ne_none_bool (fin_bl I q (by simp))
    | int j => obtain ⟨t', rfl⟩ := ry; exact PySem.EqNone.ne_none_int (fin_bl I q (by simp))
    | str j => obtain ⟨t', rfl⟩ := ry; exact PySem.EqNone.ne_none_str (fin_bl I q (by simp))
    | _ => exact absurd (show false = true from hs) Bool.false_ne_true
  | bl i =>
    cases rx
    cases y with
    | non => cases ry; exact PySem.EqNone.ne_bool_none (fin_bl I q (by simp))
    | bl j => cases ry; exact ne_bool (fin_bl I q (congrArg not dec_bl))
    | str j => obtain ⟨t', rfl⟩ := ry; exact PySem.EqMixed.ne_bool_str (fin_bl I q (by simp))
    | _ => exact absurd (show false = true from hs) Bool.false_ne_true
  | int i =>
    obtain ⟨t, rfl⟩ := rx
    cases y with
    | non => cases ry; exact PySem.EqNone.ne_int_none (fin_bl I q (by simp))
    | int j => obtain ⟨t', rfl⟩ := ry; exact ne_int (fin_bl I q (congrArg not dec_int))
    | str j => obtain ⟨t', rfl⟩ := ry; exact PySem.EqMixed.ne_int_str (fin_bl I q (by simp))
    | _ => exact absurd (show false = true from hs) Bool.false_ne_true
  | str i =>
    obtain ⟨t, rfl⟩ := rx
    cases y with
    | non => cases ry; exact PySem.EqNone.ne_str_none (fin_bl I q (by simp))
    | bl j => cases ry; exact PySem.EqMixed.ne_str_bool (fin_bl I q (by simp))
    | int j => obtain ⟨t', rfl⟩ := ry; exact PySem.EqMixed.ne_str_int (fin_bl I q (by simp))
    | str j => obtain ⟨t', rfl⟩ := ry; exact ne_str (fin_bl I q (congrArg not dec_str))
    | _ => exact absurd (show false = true from hs) Bool.false_ne_true
  | byt i =>
    obtain ⟨t, rfl⟩ := rx
    cases y with
    | byt j => obtain ⟨t', rfl⟩ := ry; exact PySem.W.ne_bytes (fin_bl I q (congrArg not dec_byt))
    | _ => exact absurd (show false = true from hs) Bool.false_ne_true
  | _ => cases y <;> exact absurd (show false = true from hs) Bool.false_ne_true

theorem op_lt : OpR X (compareOp .Lt) (rI0 fun i j => .bl (decide (i < j))) := opB0 fun _ _ _ _ _ _ _ q => lt_int q
theorem op_le : OpR X (compareOp .LtE) (rI0 fun i j => .bl (decide (i ≤ j))) := opB0 fun _ _ _ _ _ _ _ q => le_int q
theorem op_gt : OpR X (compareOp .Gt) (rI0 fun i j => .bl (decide (j < i))) := opB0 fun _ _ _ _ _ _ _ q => gt_int q
theorem op_ge : OpR X (compareOp .GtE) (rI0 fun i j => .bl (decide (j ≤ i))) := opB0 fun _ _ _ _ _ _ _ q => ge_int q
theorem op_lt_str : OpR X (compareOp .Lt) (fun x y H Q => ∃ i j, x = .str i ∧ y = .str j ∧ Q (.bl (decide (i.cps.toList < j.cps.toList))) H) := by
  intro pins s σ H x y v u Q I rx ry h
  obtain ⟨i, j, rfl, rfl, q⟩ := h
  obtain ⟨t, rfl⟩ := rx
  obtain ⟨t', rfl⟩ := ry
  exact lt_str (fin_bl I q rfl)
/-- the one string within the other -/
theorem op_in_str : OpR X (compareOp .In) (fun x y H Q => ∃ i j, x = .str i ∧ y = .str j ∧ Q (.bl (!(Builtin.Str.occurrences j i 0 j.length 1).isEmpty)) H) := by
  intro pins s σ H x y v u Q I rx ry h
  obtain ⟨i, j, rfl, rfl, q⟩ := h
  obtain ⟨t, rfl⟩ := rx
  obtain ⟨t', rfl⟩ := ry
  exact in_str (fin_bl I q rfl)

/-- is None, is not None: the right side a value none -/
theorem op_isN : OpR X (compareOp .Is) (fun x y H Q => y = .non ∧ Q (.bl (decide (x = .non))) H) := by
  intro pins s σ H x y v u Q I rx ry h
  obtain ⟨rfl, q⟩ := h
  cases ry
  refine is_none_gen (fin_bl I q ?_)
  cases x <;> first
    | (cases rx; rfl)
    | (obtain ⟨t, rfl⟩ := rx; rfl)
theorem op_notN : OpR X (compareOp .IsNot) (fun x y H Q => y = .non ∧ Q (.bl (!decide (x = .non))) H) := by
  intro pins s σ H x y v u Q I rx ry h
  obtain ⟨rfl, q⟩ := h
  cases ry
  refine isnot_none_gen (fin_bl I q ?_)
  cases x <;> first
    | (cases rx; rfl)
    | (obtain ⟨t, rfl⟩ := rx; rfl)

theorem op_notin_str : OpR X (compareOp .NotIn) (fun x y H Q => ∃ i j, x = .str i ∧ y = .str j ∧ Q (.bl (!(!(Builtin.Str.occurrences j i 0 j.length 1).isEmpty))) H) := by
  intro pins s σ H x y v u Q I rx ry h
  obtain ⟨i, j, rfl, rfl, q⟩ := h
  obtain ⟨t, rfl⟩ := rx
  obtain ⟨t', rfl⟩ := ry
  exact notIn_str (fin_bl I q rfl)
/-- is, is not of two objects that are tracked lists or instances -/
def isObj : HO → Bool
  | .lst _ => true
  | .ins _ _ _ => true
  | _ => false
theorem obj_there {pins : List (Addr × Obj)} {s : Shared} {σ : St} {H : Hp} {a : Addr} {o : HO} (I : Inv X pins σ H s) (h : H a = some o) (p : isObj o = true) : ∃ ob, s.heap.get? a = some ob ∧ ob.cls ≠ .type "tuple" := by
  cases o with
  | lst xs =>
    obtain ⟨_, its, n, _, e⟩ : xs.length ≤ sizeLine ∧ ∃ (its : List Value) (n : Nat), Vals xs its ∧ s.heap.get? a = some { cls := .type "list", data := .seq its.toArray n } := I.hok a _ h
    exact ⟨_, e, (by show Value.type "list" ≠ .type "tuple"; decide +kernel)⟩
  | ins C dx fs =>
    have x := I.hok a _ h
    obtain ⟨_, _, _, e, _⟩ := x
    exact ⟨_, e, (by show Value.ref C ≠ .type "tuple"; exact fun z => by cases z)⟩
  | _ => exact absurd (show false = true from p) Bool.false_ne_true
theorem op_is_ref : OpR X (compareOp .Is) (fun x y H Q => ∃ a b oa ob, x = .ref a ∧ y = .ref b ∧ H a = some oa ∧ isObj oa = true ∧ H b = some ob ∧ isObj ob = true ∧ Q (.bl (decide (a = b))) H) := by
  intro pins s σ H x y v u Q I rx ry h
  obtain ⟨a, b, oa, ob, rfl, rfl, ha, pa, hb, pb, q⟩ := h
  cases rx
  cases ry
  obtain ⟨o1, e1, n1⟩ := obj_there I ha pa
  obtain ⟨o2, e2, _⟩ := obj_there I hb pb
  by_cases z : a = b
  · subst z
    exact wpAny_is_ref_self (fin_bl I q (by simp))
  · exact wpAny_is_ref_other z e1 e2 n1 (fin_bl I q (by simp [z]))
theorem op_isnot_ref : OpR X (compareOp .IsNot) (fun x y H Q => ∃ a b oa ob, x = .ref a ∧ y = .ref b ∧ H a = some oa ∧ isObj oa = true ∧ H b = some ob ∧ isObj ob = true ∧ Q (.bl (!decide (a = b))) H) := by
  intro pins s σ H x y v u Q I rx ry h
  obtain ⟨a, b, oa, ob, rfl, rfl, ha, pa, hb, pb, q⟩ := h
  cases rx
  cases ry
  obtain ⟨o1, e1, n1⟩ := obj_there I ha pa
  obtain ⟨o2, e2, _⟩ := obj_there I hb pb
  by_cases z : a = b
  · subst z
    exact wpAny_isNot_ref_self (fin_bl I q (by simp))
  · exact wpAny_isNot_ref_other z e1 e2 n1 (fin_bl I q (by simp [z]))

/-- two rules for one operation: by cases -/
theorem OpR.or {f : Value → Value → Sem Value} {r r' : R2} (h : OpR X f r) (h' : OpR X f r') : OpR X f (fun x y H Q => r x y H Q ∨ r' x y H Q) := by
  intro pins s σ H x y v u Q I rx ry q
  rcases q with q | q
  · exact h pins s σ H x y v u Q I rx ry q
  · exact h' pins s σ H x y v u Q I rx ry q

theorem nomark (b : Expr) {op : CmpOp} (h : op ≠ .In := by decide) (h2 : op ≠ .NotIn := by decide) : behindInMarks op b = false := by
  have e1 : (op == CmpOp.In) = false := by cases op <;> first | rfl | exact absurd rfl h
  have e2 : (op == CmpOp.NotIn) = false := by cases op <;> first | rfl | exact absurd rfl h2
  cases b <;> simp [behindInMarks, e1, e2]
/-- a comparison as a value; hm: nomark b, or (for in, not in) by with_unfolding_all rfl -/
theorem pe_cmpR {op : CmpOp} {r : R2} (ho : OpR X (compareOp op) r) (ha : PE X a ta) (hb : PE X b tb) (hm : behindInMarks op b = false) : PE X (.Compare a [op] [b] pos) (tOp r ta tb) := by
  intro pins s σ H Q I h
  exact wpAny_Compare1 (binT ha hb I h fun v u s2 x y H2 I2 rx ry q => ho pins s2 σ H2 x y v u Q I2 rx ry q) hm
/-- a reading of a value as a test -/
def tTest (t : TE) : TT := fun σ H Q => t σ H fun x H' => ∃ k, x = .bl k ∧ Q k H'
theorem pt_cmpR {op : CmpOp} {r : R2} (ho : OpR X (compareOp op) r) (ha : PE X a ta) (hb : PE X b tb) (hm : behindInMarks op b = false) : PT X (.Compare a [op] [b] pos) (tTest (tOp r ta tb)) := by
  intro pins s σ H Q I h
  refine wpAny_isTrue_Compare1 (thn (ha pins s σ H _ I h) fun v s1 ⟨x, H1, I1, r1, q1⟩ => thn (hb pins s1 σ H1 _ I1 q1) fun u s2 ⟨y, H2, I2, r2, q2⟩ =>
    thn (ho pins s2 σ H2 x y v u _ I2 r1 r2 q2) fun c s3 ⟨z, H3, I3, r3, k, e, q3⟩ => ?_) hm
  subst e
  cases r3
  exact wpAny_truthy_bool ⟨H3, I3, q3⟩
/-- a op1 b op2 c -/
def tChain (r r' : R2) (ta tb tc : TE) : TE := fun σ H Q => ta σ H fun x H1 => tb σ H1 fun y H2 => r x y H2 fun z H3 => ∃ k, z = .bl k ∧
  (if k = true then tc σ H3 fun w' H4 => r' y w' H4 Q else Q (.bl false) H3)
theorem pe_chain {op op' : CmpOp} {r r' : R2} (ho : OpR X (compareOp op) r) (ho' : OpR X (compareOp op') r') (ha : PE X a ta) (hb : PE X b tb) (hc : PE X c tc)
    (hm : lastMarks [op, op'] [b, c] = false := by with_unfolding_all rfl) : PE X (.Compare a [op, op'] [b, c] pos) (tChain r r' ta tb tc) := by
  intro pins s σ H Q I h
  refine Compare_chain (thn (ha pins s σ H _ I h) fun v s1 ⟨x, H1, I1, r1, q1⟩ => chain_link (thn (hb pins s1 σ H1 _ I1 q1) fun u s2 ⟨y, H2, I2, r2, q2⟩ =>
    thn (ho pins s2 σ H2 x y v u _ I2 r1 r2 q2) fun d s3 ⟨z, H3, I3, r3, k, e, q3⟩ => ?_)) hm
  subst e
  cases r3
  refine wpAny_truthy_bool ?_
  cases k with
  | false => exact ite_ff ⟨.bl false, H3, I3, rfl, q3⟩
  | true => exact ite_tt (chain_last (thn (hc pins s3 σ H3 _ I3 q3) fun w' s4 ⟨z', H4, I4, r4, q4⟩ => ho' pins s4 σ H4 y z' u w' Q I4 r2 r4 q4))
theorem pt_chain {op op' : CmpOp} {r r' : R2} (ho : OpR X (compareOp op) r) (ho' : OpR X (compareOp op') r') (ha : PE X a ta) (hb : PE X b tb) (hc : PE X c tc)
    (hm : lastMarks [op, op'] [b, c] = false := by with_unfolding_all rfl) : PT X (.Compare a [op, op'] [b, c] pos) (tTest (tChain r r' ta tb tc)) := by
  intro pins s σ H Q I h
  refine isTrue_chain (thn (ha pins s σ H _ I h) fun v s1 ⟨x, H1, I1, r1, q1⟩ => test_link (thn (hb pins s1 σ H1 _ I1 q1) fun u s2 ⟨y, H2, I2, r2, q2⟩ =>
    thn (ho pins s2 σ H2 x y v u _ I2 r1 r2 q2) fun d s3 ⟨z, H3, I3, r3, k, e, q3⟩ => ?_)) hm
  subst e
  cases r3
  refine wpAny_truthy_bool ?_
  cases k with
  | false =>
    obtain ⟨k', e', q'⟩ := q3
    cases e'
    exact ite_ff ⟨H3, I3, q'⟩
  | true =>
    refine ite_tt (test_last (thn (hc pins s3 σ H3 _ I3 q3) fun w' s4 ⟨z', H4, I4, r4, q4⟩ => thn (ho' pins s4 σ H4 y z' u w' _ I4 r2 r4 q4) fun d' s5 ⟨z2, H5, I5, r5, k2, e2, q5⟩ => ?_))
    subst e2
    cases r5
    exact wpAny_truthy_bool ⟨H5, I5, q5⟩

/-! ### truth -/
/-- a value's truth by the abstract heap -/
def TruV (K : PySem.W.Frag) (x : V) (H : Hp) (k : Bool) : Prop :=
  match x with
  | .non => k = false
  | .bl b => k = b
  | .int i => k = (i != 0)
  | .str y => y.length ≤ sizeLine ∧ k = ((y.length : Int) != 0)
  | .byt y => y.size ≤ sizeLine ∧ k = ((y.size : Int) != 0)
  | .ref p => (∃ xs, SqL K H p xs ∧ k = !xs.isEmpty) ∨ (∃ xs, SqT K H p xs ∧ k = !xs.isEmpty) ∨ ∃ kvs, H p = some (.dK kvs) ∧ k = !kvs.isEmpty
  | _ => False
theorem isEmpty_kv {κ : Type} {kvs : List (κ × V)} {vs : List (κ × Value)} (r : KV kvs vs) : (!vs.isEmpty) = !kvs.isEmpty := by
  cases r <;> rfl
theorem isEmpty_of {xs : List V} {its : List Value} (r : Vals xs its) : (!its.toArray.isEmpty) = !xs.isEmpty := by
  cases r <;> simp
theorem line63 : (sizeLine : Nat) < 2 ^ 63 := by rw [sizeLine_eq]; decide
theorem tru_ok : TruR X (fun x H Q => ∃ k, TruV X.K x H k ∧ Q k H) := by
  intro pins s σ H x v Q I rx h
  obtain ⟨k, e, q⟩ := h
  have hl := line63
  have hs : sizeLine = 16777216 := sizeLine_eq
  cases x with
  | non =>
    cases rx
    have e' : k = false := e
    subst e'
    exact truthy_none ⟨H, I, q⟩
  | bl b =>
    cases rx
    have e' : k = b := e
    subst e'
    exact wpAny_truthy_bool ⟨H, I, q⟩
  | int i =>
    obtain ⟨t, rfl⟩ := rx
    have e' : k = (i != 0) := e
    subst e'
    exact PySem.P.truthy_int ⟨H, I, q⟩
  | str y =>
    obtain ⟨t, rfl⟩ := rx
    obtain ⟨hy, e'⟩ : y.length ≤ sizeLine ∧ k = ((y.length : Int) != 0) := e
    subst e'
    exact PySem.P.truthy_str (by omega) ⟨H, I.tok _, q⟩
  | byt y =>
    obtain ⟨t, rfl⟩ := rx
    obtain ⟨hy, e'⟩ : y.size ≤ sizeLine ∧ k = ((y.size : Int) != 0) := e
    subst e'
    exact PySem.W.truthy_bytes (by omega) ⟨H, I.tok _, q⟩
  | ref p =>
    cases rx
    have e' : (∃ xs, SqL X.K H p xs ∧ k = !xs.isEmpty) ∨ (∃ xs, SqT X.K H p xs ∧ k = !xs.isEmpty) ∨ ∃ kvs, H p = some (.dK kvs) ∧ k = !kvs.isEmpty := e
    rcases e' with ⟨xs, hx, e'⟩ | ⟨xs, hx, e'⟩ | ⟨kvs, hx, e'⟩
    · subst e'
      obtain ⟨its, r, pl, hz⟩ := I.list hx
      have hlen := r.length
      exact wpAny_truthy_list pl.isList (by simp only [List.size_toArray]; omega) ⟨H, I.tok _, by rw [isEmpty_of r]; exact q⟩
    · subst e'
      obtain ⟨its, r, pl, hz⟩ := I.tuple hx
      have hlen := r.length
      exact truthy_tuple pl (by simp only [List.size_toArray]; omega) ⟨H, I.tok _, by rw [isEmpty_of r]; exact q⟩
    · subst e'
      obtain ⟨hz, hS, vs, r, m⟩ : kvs.length ≤ sizeLine ∧ (p == sysModules) = false ∧ ∃ vs, KV kvs vs ∧ s.heap.DictOf (mixKind X.prog X.w) p vs := I.hok p _ hx
      have hlen : kvs.length = vs.length := Paired.length r
      exact wpAny_truthy_dict hS m (by omega) ⟨H, I.tok _, by rw [isEmpty_kv r]; exact q⟩
  | _ => exact (show False from e).elim
/-- any expression whose test is its value's truth (a name, a call, a subscript, a field ..: he by fun _ => rfl) -/
theorem pt_truth (ha : PE X a ta) (he : ∀ whole, isTrue a X.env whole = (do let v ← whole; standAt a.pos; holding [v] (truthy v))) :
    PT X a (fun σ H Q => ta σ H fun x H' => ∃ k, TruV X.K x H' k ∧ Q k H') := by
  intro pins s σ H Q I h
  exact isTrue_plain (thn (ha pins s σ H _ I h) fun v s1 ⟨x, H1, I1, r1, q1⟩ => tru_ok pins s1 σ H1 x v Q I1 r1 q1) (he _)

/-! ### strs and bytes -/
theorem pe_byt {x : List UInt8} {k : Nat} : PE X (.Constant (.bytes x) k pos) (fun _ H Q => Q (.byt x.toArray) H) := fun _ _ _ H _ I h => PySem.W.Constant_bytes ⟨.byt x.toArray, H, I.tok _, ⟨_, rfl⟩, h⟩
theorem op_add_str : OpR X (binaryOp .Add) (fun x y H Q => ∃ i j, x = .str i ∧ y = .str j ∧ i.length + j.length ≤ sizeLine ∧ Q (.str (i ++ j)) H) := by
  intro pins s σ H x y v u Q I rx ry h
  obtain ⟨i, j, rfl, rfl, hz, q⟩ := h
  obtain ⟨t, rfl⟩ := rx
  obtain ⟨t', rfl⟩ := ry
  exact add_str (fun t' tk => ⟨.str (i ++ j), H, I.tok _, ⟨_, rfl⟩, q⟩) hz
theorem iop_add_str : OpR X (inplaceOp .Add) (fun x y H Q => ∃ i j, x = .str i ∧ y = .str j ∧ i.length + j.length ≤ sizeLine ∧ Q (.str (i ++ j)) H) := by
  intro pins s σ H x y v u Q I rx ry h
  obtain ⟨i, j, rfl, rfl, hz, q⟩ := h
  obtain ⟨t, rfl⟩ := rx
  obtain ⟨t', rfl⟩ := ry
  exact iadd_str (fun t' tk => ⟨.str (i ++ j), H, I.tok _, ⟨_, rfl⟩, q⟩) hz
theorem op_add_byt : OpR X (binaryOp .Add) (fun x y H Q => ∃ i j, x = .byt i ∧ y = .byt j ∧ i.size + j.size ≤ 16777216 ∧ Q (.byt (i ++ j)) H) := by
  intro pins s σ H x y v u Q I rx ry h
  obtain ⟨i, j, rfl, rfl, hz, q⟩ := h
  obtain ⟨t, rfl⟩ := rx
  obtain ⟨t', rfl⟩ := ry
  exact PySem.W.KBy.add_bytes hz (fun t' tk => ⟨.byt (i ++ j), H, I.tok _, ⟨_, rfl⟩, q⟩)

def PlainIxT (b : Expr) : Prop := ∀ o i, subscripted b false o i = operate [o, i] (getItem o i)
/-- s[i], 0 ≤ i < len -/
theorem pe_item_str (ha : PE X a ta) (hb : PE X b tb) (hs : PlainIxT b) :
    PE X (.Subscript a b pos) (tOp (fun x y H Q => ∃ z i c, x = .str z ∧ y = .int i ∧ 0 ≤ i ∧ i < 2 ^ 63 ∧ i < z.length ∧ z.cps[i.toNat]? = some c ∧ Q (.str ⟨#[c]⟩) H) ta tb) := by
  intro pins s σ H Q I h
  refine Subscript_ (binT ha hb I h fun v u s2 x y H2 I2 rx ry q => ?_)
  obtain ⟨z, i, c, rfl, rfl, h0, h63, h1, hc, q⟩ := q
  obtain ⟨t, rfl⟩ := rx
  obtain ⟨t', rfl⟩ := ry
  have e : seqIndex? i z.length = some i.toNat := PySem.StrLaws.seqIndex_nonneg h0 h1
  exact tail_any (typeIs_str s2 z t) slot_str_getitem.lookup (getItem_str (c := c) (by
    have e1 : decide (i < -(2 ^ 63 : Int)) = false := decide_eq_false (by omega)
    have e2 : decide (i ≥ 2 ^ 63) = false := decide_eq_false (by omega)
    rw [e1, e2] <;> rfl) (by rw [e]; exact hc) ⟨.str ⟨#[c]⟩, H2, I2.tok _, ⟨_, rfl⟩, q⟩) (hs _ _)
/-- b[i], 0 ≤ i < len -/
theorem pe_item_byt (ha : PE X a ta) (hb : PE X b tb) (hs : PlainIxT b) :
    PE X (.Subscript a b pos) (tOp (fun x y H Q => ∃ (z : List UInt8) (i : Int), x = .byt z.toArray ∧ y = .int i ∧ z.length ≤ sizeLine ∧ 0 ≤ i ∧ i < z.length ∧ Q (.int ((z.getD i.toNat 0).toNat : Nat)) H) ta tb) := by
  intro pins s σ H Q I h
  refine Subscript_ (binT ha hb I h fun v u s2 x y H2 I2 rx ry q => ?_)
  obtain ⟨z, i, rfl, rfl, hz, h0, h1, q⟩ := q
  obtain ⟨t, rfl⟩ := rx
  obtain ⟨t', rfl⟩ := ry
  have hl : sizeLine = 16777216 := sizeLine_eq
  exact tail_any (PySem.W.typeIs_bytes s2 z.toArray t) PySem.W.FB.slot_bytes_getitem.lookup (PySem.W.getItem_bytes (by omega) h0 h1 ⟨.int ((z.getD i.toNat 0).toNat : Nat), H2, I2.tok _, ⟨_, rfl⟩, q⟩) (hs _ _)

/-! ### scalar builtins, by CallR -/
theorem vals1 {x : V} {us : List Value} (r : Vals [x] us) : ∃ u, us = [u] ∧ RelV x u := by
  cases r with
  | cons r1 r2 => cases r2; exact ⟨_, rfl, r1⟩
theorem vals2 {x y : V} {us : List Value} (r : Vals [x, y] us) : ∃ u w', us = [u, w'] ∧ RelV x u ∧ RelV y w' := by
  cases r with
  | cons r1 r2 =>
    cases r2 with
    | cons r3 r4 => cases r4; exact ⟨_, _, rfl, r1, r3⟩
theorem call_abs : CallR X (.builtin "abs") (fun xs H Q => ∃ i, xs = [.int i] ∧ Q (.int (if i < 0 then -i else i)) H) := by
  intro pins s σ H xs us Q I r h
  obtain ⟨i, rfl, q⟩ := h
  obtain ⟨u, rfl, t, rfl⟩ := vals1 r
  exact call_abs_int fun u tk => ⟨.int (if i < 0 then -i else i), H, I.tok _, ⟨_, rfl⟩, q⟩
theorem call_max2 (hc : X.calm = true) : CallR X (.builtin "max") (fun xs H Q => ∃ i j, xs = [.int i, .int j] ∧ Q (.int (if j > i then j else i)) H) := by
  intro pins s σ H xs us Q I r h
  obtain ⟨i, j, rfl, q⟩ := h
  obtain ⟨u, w', rfl, ⟨t, rfl⟩, ⟨t', rfl⟩⟩ := vals2 r
  refine max_two_ints (I.ok.hd hc) fun h' tk k => ⟨_, H, I.kept k, ?_, q⟩
  by_cases hj : j > i
  · rw [if_pos hj, if_pos hj]; exact ⟨_, rfl⟩
  · rw [if_neg hj, if_neg hj]; exact ⟨_, rfl⟩
theorem call_min2 (hc : X.calm = true) : CallR X (.builtin "min") (fun xs H Q => ∃ i j, xs = [.int i, .int j] ∧ Q (.int (if j < i then j else i)) H) := by
  intro pins s σ H xs us Q I r h
  obtain ⟨i, j, rfl, q⟩ := h
  obtain ⟨u, w', rfl, ⟨t, rfl⟩, ⟨t', rfl⟩⟩ := vals2 r
  refine min_two_ints (I.ok.hd hc) fun h' tk k => ⟨_, H, I.kept k, ?_, q⟩
  by_cases hj : j < i
  · rw [if_pos hj, if_pos hj]; exact ⟨_, rfl⟩
  · rw [if_neg hj, if_neg hj]; exact ⟨_, rfl⟩
theorem call_int1 : CallR X (.type "int") (fun xs H Q => (∃ i, xs = [.int i] ∧ Q (.int i) H) ∨ ∃ k, xs = [.bl k] ∧ Q (.int (if k then 1 else 0)) H) := by
  intro pins s σ H xs us Q I r h
  rcases h with ⟨i, rfl, q⟩ | ⟨k, rfl, q⟩
  · obtain ⟨u, rfl, t, rfl⟩ := vals1 r
    exact call_int_int ⟨.int i, H, I, ⟨_, rfl⟩, q⟩
  · obtain ⟨u, rfl, r1⟩ := vals1 r
    cases r1
    exact call_int_bool ⟨.int (if k then 1 else 0), H, I.tok _, ⟨_, rfl⟩, q⟩
theorem call_bool1 : CallR X (.type "bool") (fun xs H Q => (∃ i, xs = [.int i] ∧ Q (.bl (i != 0)) H) ∨ ∃ k, xs = [.bl k] ∧ Q (.bl k) H) := by
  intro pins s σ H xs us Q I r h
  rcases h with ⟨i, rfl, q⟩ | ⟨k, rfl, q⟩
  · obtain ⟨u, rfl, t, rfl⟩ := vals1 r
    exact call_bool_int ⟨.bl (i != 0), H, I, rfl, q⟩
  · obtain ⟨u, rfl, r1⟩ := vals1 r
    cases r1
    exact call_bool_bool ⟨.bl k, H, I, rfl, q⟩
theorem call_str_int : CallR X (.type "str") (fun xs H Q => ∃ i, xs = [.int i] ∧ i.natAbs.log2 < 1920 ∧ Q (.str (toString i)) H) := by
  intro pins s σ H xs us Q I r h
  obtain ⟨i, rfl, hz, q⟩ := h
  obtain ⟨u, rfl, t, rfl⟩ := vals1 r
  exact PySem.P.str_of_int hz ⟨.str _, H, I.tok _, ⟨_, rfl⟩, q⟩
theorem call_ord : CallR X (.builtin "ord") (fun xs H Q => ∃ x, xs = [.str x] ∧ x.length = 1 ∧ Q (.int (x.cps.getD 0 0 : Nat)) H) := by
  intro pins s σ H xs us Q I r h
  obtain ⟨x, rfl, hz, q⟩ := h
  obtain ⟨u, rfl, t, rfl⟩ := vals1 r
  exact ord_of_one hz ⟨.int _, H, I.tok _, ⟨_, rfl⟩, q⟩
theorem call_chr : CallR X (.builtin "chr") (fun xs H Q => ∃ i, xs = [.int i] ∧ 0 ≤ i ∧ i ≤ 1114111 ∧ Q (.str ⟨#[i.toNat]⟩) H) := by
  intro pins s σ H xs us Q I r h
  obtain ⟨i, rfl, h0, h1, q⟩ := h
  obtain ⟨u, rfl, t, rfl⟩ := vals1 r
  exact chr_of_range h0 h1 ⟨.str _, H, I.tok _, ⟨_, rfl⟩, q⟩
/-- len of a str, a bytes, a list, a tuple -/
def LenV (K : PySem.W.Frag) (x : V) (H : Hp) (n : Nat) : Prop :=
  match x with
  | .str y => y.length ≤ sizeLine ∧ n = y.length
  | .byt y => y.size ≤ sizeLine ∧ n = y.size
  | .ref p => (∃ xs, SqL K H p xs ∧ n = xs.length) ∨ ∃ xs, SqT K H p xs ∧ n = xs.length
  | _ => False
theorem call_len : CallR X (.builtin "len") (fun xs H Q => ∃ x n, xs = [x] ∧ LenV X.K x H n ∧ Q (.int n) H) := by
  intro pins s σ H xs us Q I r h
  obtain ⟨x, n, rfl, e, q⟩ := h
  obtain ⟨u, rfl, rx⟩ := vals1 r
  have hl := line63
  have hs : sizeLine = 16777216 := sizeLine_eq
  cases x with
  | str y =>
    obtain ⟨t, rfl⟩ := rx
    obtain ⟨hy, e'⟩ : y.length ≤ sizeLine ∧ n = y.length := e
    subst e'
    exact len_str (by omega) ⟨.int _, H, I.tok _, ⟨_, rfl⟩, q⟩
  | byt y =>
    obtain ⟨t, rfl⟩ := rx
    obtain ⟨hy, e'⟩ : y.size ≤ sizeLine ∧ n = y.size := e
    subst e'
    exact PySem.W.len_bytes (by omega) ⟨.int _, H, I.tok _, ⟨_, rfl⟩, q⟩
  | ref p =>
    cases rx
    have e' : (∃ xs, SqL X.K H p xs ∧ n = xs.length) ∨ ∃ xs, SqT X.K H p xs ∧ n = xs.length := e
    rcases e' with ⟨xs, hx, e'⟩ | ⟨xs, hx, e'⟩
    · subst e'
      obtain ⟨its, r', pl, hz⟩ := I.list hx
      have hlen := r'.length
      exact Calls.call_len_list pl.isList (by simp only [List.size_toArray]; omega) ⟨.int xs.length, H, I.tok _, ⟨_, by simp only [List.size_toArray]; rw [hlen]⟩, q⟩
    · subst e'
      obtain ⟨its, r', pl, hz⟩ := I.tuple hx
      have hlen := r'.length
      exact len_tuple pl (by simp only [List.size_toArray]; omega) ⟨.int xs.length, H, I.tok _, ⟨_, by simp only [List.size_toArray]; rw [hlen]⟩, q⟩
  | _ => exact (show False from e).elim
/-- divmod: a new tuple -/
theorem call_divmod : CallR X (.builtin "divmod") (fun xs H Q => ∃ i j, xs = [.int i, .int j] ∧ CDiv i j ∧ ∀ p, H p = none → Q (.ref p) (upd H p (.tup [.int (i / j), .int (i % j)]))) := by
  intro pins s σ H xs us Q I r h
  obtain ⟨i, j, rfl, ⟨h1, h2⟩, q⟩ := h
  obtain ⟨u, w', rfl, ⟨t, rfl⟩, ⟨t', rfl⟩⟩ := vals2 r
  refine divmod_int (by omega) ?_ (.inl (PyProof.noPylong_small (by omega)))
  rw [Int.fdiv_eq_ediv_of_nonneg i (by omega), Int.fmod_eq_emod_of_nonneg i (by omega)]
  have hn : H s.heap.objs.size = none := I.hok.fresh (Nat.le_refl _)
  refine ⟨.ref s.heap.objs.size, _, ?_, rfl, q _ hn⟩
  refine I.laid (fun b o e => Heap.get?_push_of_some _ e) (Nat.le_refl _) ⟨by simp only [List.length_cons, List.length_nil]; rw [sizeLine_eq]; decide, [.int (i / j) s.toks, .int (i % j) (s.toks + 1)], .cons ⟨_, rfl⟩ (.cons ⟨_, rfl⟩ .nil), ?_⟩
  exact ⟨_, Heap.get?_push_size s.heap rfl, rfl, 0, rfl⟩
end
end L2

namespace L2
open PySem PySem.Spec PyProof.Rows

/-! ### an instance, its attributes a map -/
structure ObjM (h : Heap) (x dx C : Addr) (mA : Str → Option Value) : Prop where
  obj : h.get? x = some (PySem.W.instObj C dx)
  ns : h.Ns1 dx mA
  ne : dx ≠ x

theorem lookIn_ns {h : Heap} {dx : Addr} {mA : Str → Option Value} (n : h.Ns1 dx mA) : ∃ od, h.get? dx = some od ∧ ∀ name, PySem.W.lookIn name od = some (mA name) := by
  obtain ⟨o, es, ep, ho, hd, hk, _, hm⟩ := n
  refine ⟨o, ho, fun name => ?_⟩
  have e := hm name
  unfold nsFind findBy at e
  rw [← Array.find?_toList] at e
  unfold PySem.W.lookIn
  rw [hd]
  dsimp only
  split
  · rename_i y q
    rw [q] at e
    exact congrArg some e
  · rename_i q
    rw [q] at e
    have a : es.toList.any (·.refKey) = false := by
      rw [List.any_eq_false]
      intro y hy
      obtain ⟨z, t, hkey⟩ := hk y (Array.mem_toList_iff.mp hy)
      simp [DictEntry.refKey, hkey]
    have a' : ¬ es.toList.any (·.refKey) = true := by rw [a]; exact Bool.false_ne_true
    rw [if_neg a']
    exact congrArg some e

theorem ObjM.look {h : Heap} {x dx C : Addr} {mA : Str → Option Value} (I : ObjM h x dx C mA) : ∃ od, PySem.W.InstAt h x (PySem.W.instObj C dx) C (some od) ∧ ∀ name, PySem.W.lookIn name od = some (mA name) :=
  let ⟨od, ho, hl⟩ := lookIn_ns I.ns
  ⟨od, ⟨I.obj, rfl, rfl, ho⟩, hl⟩

section
variable {prog : Program} {w : World} {A : Around} {E : Value → Shared → Prop} {s : Shared} {K : PySem.W.Frag} {x dx C f : Addr} {mA : Str → Option Value} {name : Str} {v : Value}

theorem get_map {expr : Bool} {Q : Value → Shared → Prop} (X : K.In s.heap) (I : ObjM s.heap x dx C mA) (hg : PySem.W.plainGet K C name = true) (hh : PySem.W.hasDictIn K C = true)
    (ha : PySem.W.findIn K (.ref C) name = some none) (hv : mA name = some v) (hv' : PySem.W.handedIn v = true) (h : Q v { s with toks := s.toks + 1 }) :
    wpAny (model prog w) A (getAttr (.ref x) name expr) Q E s := by
  obtain ⟨od, J, hl⟩ := I.look
  exact PySem.W.get_value X J (PySem.W.plainGet_of hg).1 (PySem.W.findObj_own hh ha rfl (by rw [hl, hv])) hv' h

theorem get_const {expr : Bool} {a : Value} {Q : Value → Shared → Prop} (X : K.In s.heap) (I : ObjM s.heap x dx C mA) (hg : PySem.W.plainGet K C name = true) (hh : PySem.W.hasDictIn K C = true)
    (ha : PySem.W.findIn K (.ref C) name = some (some a)) (hn : PySem.W.specialIn K a "__get__" = some none) (hc : PySem.W.copiedNames.contains name = false) (hv : mA name = none) (hv' : PySem.W.handedIn a = true)
    (h : Q a { s with toks := s.toks + 1 }) : wpAny (model prog w) A (getAttr (.ref x) name expr) Q E s := by
  obtain ⟨od, J, hl⟩ := I.look
  exact PySem.W.get_value X J (PySem.W.plainGet_of hg).1 (PySem.W.findObj_cls hh ha hn hv' hc (by rw [hl, hv])) hv' h

theorem get_meth {pl : Sem Bool} {Q : Value × List Value → Shared → Prop} (X : K.In s.heap) (I : ObjM s.heap x dx C mA) (hg : PySem.W.plainGet K C name = true)
    (hf : PySem.W.findIn K (.ref C) name = some (some (.ref f))) (ht : PySem.W.isFn K (.ref f) = true) (hv : mA name = none) (h : Q (.ref f, [.ref x]) s) :
    wpAny (model prog w) A (getMethod (.ref x) name pl) Q E s := by
  obtain ⟨od, J, hl⟩ := I.look
  exact PySem.W.method_fn X J (PySem.W.plainGet_of hg).1 (PySem.W.plainGet_of hg).2 hf (beq_iff_eq.mp ht) (by show (PySem.W.lookIn name od).map (·.isSome) = some false; rw [hl, hv]; rfl) h

theorem set_map {ns : List Str} {Q : Unit → Shared → Prop} (X : K.In s.heap) (I : ObjM s.heap x dx C mA)
    (hs : PySem.W.findIn K (.ref C) "__setattr__" = some (some (.builtin "object.__setattr__"))) (hp : PySem.W.plainOver K C = true) (ht : PySem.W.takerIn K C name = some none) (hh : PySem.W.hasDictIn K C = true)
    (hw : PySem.Within mA ns) (hsz : ns.length ≤ sizeLine)
    (h : ∀ h', ObjM h' x dx C (fun y => if y = name then some v else mA y) → Heap.SameBut dx s.heap h' → Q () { s with heap := h', toks := s.toks + 2 }) :
    wpAny (model prog w) A (setAttr (.ref x) name v) Q E s := by
  obtain ⟨od, J, hl⟩ := I.look
  refine PySem.W.set_plain X J hs (PySem.W.osa_open (s := { s with toks := s.toks + 1 }) (r := none) X J hp ht fun b => ?_)
  obtain ⟨cd, hc, hd'⟩ := PySem.W.any_some hh
  have hx : s.heap.get? x = some ⟨.ref C, some dx, .plain, #[]⟩ := I.obj
  refine wpAny_bind (wpAny_pure (wpAny_bind (wpAny_bind (wpAny_loadPart hx (wpAny_bind (PySem.W.Looks.here (s := { s with toks := s.toks + 1 }) (PySem.W.looks_clsIn X hc) ?_))))))
  rw [hd']
  refine wpAny_pure (a := some dx) (wpAny_bind (wpAny_pure (wpAny_bind ?_)))
  refine wpAny_nsSet1 (s := { s with toks := s.toks + 1 }) I.ns fun h' hn2 hs2 => ?_
  obtain ⟨oD, esD, epD, hoD, hdD, hcD⟩ := hn2.count (PySem.Within.cons name v hw)
  refine wpAny_bind (wpAny_lookBehind hoD (by rw [hdD]; exact pastItsLine_dict (Nat.le_trans hcD (by rw [List.length_cons]; omega))) ?_)
  exact wpAny_pure (h _ ⟨(hs2.2 _ (Ne.symm I.ne)).trans I.obj, hn2, I.ne⟩ hs2)

/-- C(..): the dict at the heap's end, the instance behind it; then its __init__ -/
theorem make_map {R : Result → Shared → Prop} {vs : List Value} {kw : List (Str × Value)} (X : K.In s.heap) (hm : PySem.W.makesIn K C = true)
    (hi : PySem.W.findIn K (.ref C) "__init__" = some (some (.ref f))) (hf : PySem.W.typeIn K (.ref f) = some (.type "function"))
    (h : codeAny (model prog w) (A.under (.builtin "type.__call__" ⟨.ref C :: vs, kw⟩)) (.call (.ref f) ⟨.ref (s.heap.objs.size + 1) :: vs, kw⟩) (PySem.W.InitBack (s.heap.objs.size + 1) R)
      { s with heap := (s.heap.push PySem.W.emptyDict).push (PySem.W.instObj C s.heap.objs.size) }) :
    codeAny (model prog w) A (.call (.ref C) ⟨vs, kw⟩) R s := by
  obtain ⟨hh, g, d, t, os⟩ := s
  exact PySem.W.make_core (PySem.W.makes_of X hm) (PySem.W.looks_findIn X hi) (fun self => PySem.W.bind_fn X self hf) (.inl rfl) h
/-- C() where there is no __init__ but object's -/
theorem make_map0 {R : Result → Shared → Prop} (X : K.In s.heap) (hm : PySem.W.makesIn K C = true)
    (hi : PySem.W.findIn K (.ref C) "__init__" = some (some (.builtin "object.__init__")))
    (hb : ∀ self, PySem.W.Looks (model prog w) s.heap (bindSpecial (.builtin "object.__init__") self) (.builtin "object.__init__", [self]))
    (h : codeAny (model prog w) (A.under (.builtin "type.__call__" ⟨[.ref C], []⟩)) (.call (.builtin "object.__init__") ⟨[.ref (s.heap.objs.size + 1)], []⟩) (PySem.W.InitBack (s.heap.objs.size + 1) R)
      { s with heap := (s.heap.push PySem.W.emptyDict).push (PySem.W.instObj C s.heap.objs.size) }) :
    codeAny (model prog w) A (.call (.ref C) ⟨[], []⟩) R s := by
  obtain ⟨hh, g, d, t, os⟩ := s
  exact PySem.W.make_core (PySem.W.makes_of X hm) (PySem.W.looks_findIn X hi) hb (.inr ⟨rfl, rfl⟩) h
end

/-! ### the attributes as a list of pairs -/
def putF (f : Str) (v : V) : List (Str × V) → List (Str × V)
  | [] => [(f, v)]
  | (g, x) :: r => if g = f then (g, v) :: r else (g, x) :: putF f v r
theorem lookup_putF (f g : Str) (v : V) : ∀ fs : List (Str × V), (putF f v fs).lookup g = if g = f then some v else fs.lookup g
  | [] => by
    show List.lookup g [(f, v)] = _
    by_cases h : g = f
    · have hb : (g == f) = true := beq_iff_eq.mpr h
      simp only [List.lookup, hb, if_pos h]
    · have hb : (g == f) = false := beq_eq_false_iff_ne.mpr h
      simp only [List.lookup, hb, if_neg h]
  | (k, x) :: r => by
    have ih := lookup_putF f g v r
    rw [show putF f v ((k, x) :: r) = (if k = f then (k, v) :: r else (k, x) :: putF f v r) from rfl]
    by_cases hk : k = f
    · rw [if_pos hk]
      by_cases h : g = k
      · have hb : (g == k) = true := beq_iff_eq.mpr h
        simp only [List.lookup, hb, if_pos (h.trans hk)]
      · have hb : (g == k) = false := beq_eq_false_iff_ne.mpr h
        simp only [List.lookup, hb, if_neg (fun e : g = f => h (e.trans hk.symm))]
    · rw [if_neg hk]
      by_cases h : g = k
      · have hb : (g == k) = true := beq_iff_eq.mpr h
        simp only [List.lookup, hb, if_neg (fun e : g = f => hk (h.symm.trans e))]
      · have hb : (g == k) = false := beq_eq_false_iff_ne.mpr h
        simp only [List.lookup, hb]
        exact ih
theorem keys_putF (f : Str) (v : V) : ∀ fs : List (Str × V), f ∈ (putF f v fs).map (·.1) ∧ ∀ g, g ∈ fs.map (·.1) → g ∈ (putF f v fs).map (·.1)
  | [] => ⟨by simp [putF], fun g h => by simp at h⟩
  | (k, x) :: r => by
    obtain ⟨i1, i2⟩ := keys_putF f v r
    rw [show putF f v ((k, x) :: r) = (if k = f then (k, v) :: r else (k, x) :: putF f v r) from rfl]
    by_cases hk : k = f
    · rw [if_pos hk]
      subst hk
      exact ⟨by simp, fun g h => by simpa using h⟩
    · rw [if_neg hk]
      refine ⟨?_, fun g h => ?_⟩
      · rw [List.map_cons]
        exact List.mem_cons_of_mem _ i1
      · rw [List.map_cons] at h ⊢
        rcases List.mem_cons.mp h with e | e
        · exact List.mem_cons.mpr (.inl e)
        · exact List.mem_cons_of_mem _ (i2 g e)
theorem length_putF (f : Str) (v : V) : ∀ fs : List (Str × V), (putF f v fs).length ≤ fs.length + 1
  | [] => by simp [putF]
  | (k, x) :: r => by
    have ih := length_putF f v r
    rw [show putF f v ((k, x) :: r) = (if k = f then (k, v) :: r else (k, x) :: putF f v r) from rfl]
    by_cases hk : k = f
    · rw [if_pos hk, List.length_cons, List.length_cons]; omega
    · rw [if_neg hk, List.length_cons, List.length_cons]; omega

theorem RelO.some_of {v : V} {o : Option Value} (r : RelO (some v) o) : ∃ u, o = some u ∧ RelV v u := by
  cases o with
  | none => exact (show False from r).elim
  | some u => exact ⟨u, rfl, r⟩
theorem RelO.none_of {o : Option Value} (r : RelO none o) : o = none := by
  cases o with
  | none => rfl
  | some u => exact (show False from r).elim
theorem handed_of {v : V} {u : Value} (r : RelV v u) : PySem.W.handedIn u = true := by
  cases v with
  | non => cases (show u = Value.none from r); rfl
  | bl b => cases (show u = Value.bool b from r); rfl
  | int i => obtain ⟨t, e⟩ := (show ∃ t, u = Value.int i t from r); cases e; rfl
  | str x => obtain ⟨t, e⟩ := (show ∃ t, u = Value.str x t from r); cases e; rfl
  | byt b => obtain ⟨t, e⟩ := (show ∃ t, u = Value.bytes b t from r); cases e; rfl
  | flt b => obtain ⟨t, e⟩ := (show ∃ t, u = Value.float b t from r); cases e; rfl
  | ref a => cases (show u = Value.ref a from r); rfl
  | ty n => cases (show u = Value.type n from r); rfl

section
variable {P : Program} {w : World} {H H' : Hp} {h h' : Heap} {a C dx : Addr} {fs fs' : List (Str × V)}
theorem ins_get (hok : HOk P w H h) (e : H a = some (.ins C dx fs)) : ∃ mA, ObjM h a dx C mA ∧ (∀ f, RelO (fs.lookup f) (mA f)) ∧ PySem.Within mA (fs.map (·.1)) ∧ fs.length ≤ 1000 ∧ H dx = some (.own a) := by
  obtain ⟨d, z, ne, ob, mA, n, r, q⟩ := (show ObjOk P w H h a (.ins C dx fs) from hok a _ e)
  exact ⟨mA, ⟨ob, n, ne⟩, r, q, z, d⟩
end

/-! ### what of the text a class must have -/
structure Cls (K : PySem.W.Frag) (C : Addr) : Prop where
  pg : PySem.W.plainGet K C Str.empty = true
  hd : PySem.W.hasDictIn K C = true
  po : PySem.W.plainOver K C = true
  sa : PySem.W.findIn K (.ref C) "__setattr__" = some (some (.builtin "object.__setattr__"))
theorem Cls.get {K : PySem.W.Frag} {C : Addr} (c : Cls K C) (f : Str) : PySem.W.plainGet K C f = true := c.pg
/-- no class of it has the name -/
def NoAttr (K : PySem.W.Frag) (C : Addr) (f : Str) : Prop := PySem.W.findIn K (.ref C) f = some none
theorem NoAttr.taker {K : PySem.W.Frag} {C : Addr} {f : Str} (n : NoAttr K C f) : PySem.W.takerIn K C f = some none := by
  unfold PySem.W.takerIn
  rw [show PySem.W.findIn K (.ref C) f = some none from n]
  rfl
/-- a constant of the class -/
structure Con (K : PySem.W.Frag) (C : Addr) (f : Str) (v : V) (u : Value) : Prop where
  at_ : PySem.W.findIn K (.ref C) f = some (some u)
  rel : RelV v u
  get : PySem.W.specialIn K u "__get__" = some none
  cp : PySem.W.copiedNames.contains f = false
/-- a method: a plain def of the class or of one above it -/
structure Meth (K : PySem.W.Frag) (C : Addr) (m : Str) (f : Addr) : Prop where
  at_ : PySem.W.findIn K (.ref C) m = some (some (.ref f))
  fn : PySem.W.isFn K (.ref f) = true
  kp : PySem.W.keepIn K (.ref f) = true

section
variable {X : Cx} {pins : List (Addr × Obj)} {σ : St} {H : Hp} {s : Shared} {a C dx : Addr} {fs : List (Str × V)} {f : Str} {v : V} {A : Around} {E : Value → Shared → Prop}

theorem getattr_ok {b : Bool} {Q : Value → Shared → Prop} (I : Inv X pins σ H s) (e : H a = some (.ins C dx fs)) (c : Cls X.K C) (n : NoAttr X.K C f) (l : fs.lookup f = some v)
    (h : ∀ u s', Inv X pins σ H s' → RelV v u → Q u s') : wpAny (model X.prog X.w) A (getAttr (.ref a) f b) Q E s := by
  obtain ⟨mA, O, r, _, _, _⟩ := ins_get I.hok e
  obtain ⟨u, hu, ru⟩ := RelO.some_of (v := v) (o := mA f) (by rw [← l]; exact r f)
  exact get_map I.kIn O (c.get f) c.hd n hu (handed_of ru) (h u _ (I.tok _) ru)

theorem getcon_ok {b : Bool} {u : Value} {Q : Value → Shared → Prop} (I : Inv X pins σ H s) (e : H a = some (.ins C dx fs)) (c : Cls X.K C) (k : Con X.K C f v u) (l : fs.lookup f = none)
    (h : ∀ s', Inv X pins σ H s' → Q u s') : wpAny (model X.prog X.w) A (getAttr (.ref a) f b) Q E s := by
  obtain ⟨mA, O, r, _, _, _⟩ := ins_get I.hok e
  have hn : mA f = none := RelO.none_of (by rw [← l]; exact r f)
  exact get_const I.kIn O (c.get f) c.hd k.at_ k.get k.cp hn (handed_of k.rel) (h _ (I.tok _))

theorem getmeth_ok {m : Str} {g : Addr} {pl : Sem Bool} {Q : Value × List Value → Shared → Prop} (I : Inv X pins σ H s) (e : H a = some (.ins C dx fs)) (c : Cls X.K C) (k : Meth X.K C m g) (l : fs.lookup m = none)
    (h : Q (.ref g, [.ref a]) s) : wpAny (model X.prog X.w) A (getMethod (.ref a) m pl) Q E s := by
  obtain ⟨mA, O, r, _, _, _⟩ := ins_get I.hok e
  have hn : mA m = none := RelO.none_of (by rw [← l]; exact r m)
  exact get_meth I.kIn O (c.get m) k.at_ k.fn hn h

theorem setattr_ok {y : V} {u : Value} {Q : Unit → Shared → Prop} (I : Inv X pins σ H s) (e : H a = some (.ins C dx fs)) (c : Cls X.K C) (n : NoAttr X.K C f) (hl : fs.length < 1000) (ry : RelV y u)
    (h : ∀ s', Inv X pins σ (upd H a (.ins C dx (putF f y fs))) s' → Q () s') : wpAny (model X.prog X.w) A (setAttr (.ref a) f u) Q E s := by
  obtain ⟨mA, O, r, wi, _, ho⟩ := ins_get I.hok e
  have hz : (fs.map (·.1)).length ≤ sizeLine := by rw [List.length_map, sizeLine_eq]; omega
  refine set_map I.kIn O c.sa c.po n.taker c.hd wi hz fun h' O' sb => h _ ?_
  have hd : ∃ o, h'.get? dx = some o := let ⟨o, _, _, e', _⟩ := O'.ns; ⟨o, e'⟩
  refine I.write (x := a) (e := dx) (by rw [e]; exact True.intro) (.inr ho) (fun b q hb z => (sb.2 b hb).trans z) hd ?_
  refine ⟨by rw [upd_ne O.ne]; exact ho, ?_, O.ne, O'.obj, _, O'.ns, fun g => ?_, fun g hg => ?_⟩
  · have := length_putF f y fs; omega
  · show RelO ((putF f y fs).lookup g) (if g = f then some u else mA g)
    rw [lookup_putF]
    by_cases q : g = f
    · rw [if_pos q, if_pos q]; exact ry
    · rw [if_neg q, if_neg q]; exact r g
  · by_cases q : g = f
    · rw [q]; exact (keys_putF f y fs).1
    · refine (keys_putF f y fs).2 g (wi g fun z => hg ?_)
      show (if g = f then some u else mA g) = none
      rw [if_neg q]; exact z

/-- a new instance, tracked, without attributes -/
theorem Inv.made (I : Inv X pins σ H s) : Inv X pins σ (upd (upd H s.heap.objs.size (.own (s.heap.objs.size + 1))) (s.heap.objs.size + 1) (.ins C s.heap.objs.size []))
    { s with heap := (s.heap.push PySem.W.emptyDict).push (PySem.W.instObj C s.heap.objs.size) } := by
  have e1 : (s.heap.push PySem.W.emptyDict).get? s.heap.objs.size = some PySem.W.emptyDict := Heap.get?_push_size s.heap rfl
  have e2 : ((s.heap.push PySem.W.emptyDict).push (PySem.W.instObj C s.heap.objs.size)).get? (s.heap.objs.size + 1) = some (PySem.W.instObj C s.heap.objs.size) := by
    have := Heap.get?_push_size (s.heap.push PySem.W.emptyDict) (o := PySem.W.instObj C s.heap.objs.size) rfl
    rwa [Heap.size_push] at this
  have e3 : (s.heap.push PySem.W.emptyDict).Ns s.heap.objs.size (fun _ => none) := ⟨PySem.W.emptyDict, #[], _, e1, rfl, (fun e he => absurd he (by simp)), fun _ => rfl⟩
  have I1 := I.laid (a := s.heap.objs.size) (o := .own (s.heap.objs.size + 1)) (h' := s.heap.push PySem.W.emptyDict) (t' := s.toks) (fun b u q => Heap.get?_push_of_some _ q) (Nat.le_refl _) ⟨_, e1⟩
  refine I1.laid (a := s.heap.objs.size + 1) (o := .ins C s.heap.objs.size []) (t' := s.toks) (fun b u q => Heap.get?_push_of_some _ q) (Nat.le_of_eq (Heap.size_push _ _)) ?_
  have ne : s.heap.objs.size ≠ s.heap.objs.size + 1 := Nat.ne_of_lt (Nat.lt_succ_self _)
  refine ⟨by rw [upd_ne ne, upd_same], Nat.zero_le _, ne, e2, fun _ => none, (Heap.Ns1.of_empty e3).at fun o q => Heap.get?_push_of_some _ q, fun _ => True.intro, fun y hy => absurd rfl hy⟩

/-- e.f where nothing but the object is asked: through attributeBase (super) and the last hold -/
theorem attr_of {prog : Program} {w : World} {env : Env} {e : Expr} {f : Str} {pos : Pos} {s : Shared} {Q : Value → Shared → Prop} (hb : attributeBase e f env (eval e env) = eval e env)
    (h : wpAny (model prog w) A (eval e env) (fun o s₁ => wpAny (model prog w) A (getAttr o f true) Q E s₁) E s) : wpAny (model prog w) A (eval (.Attribute e f pos) env) Q E s :=
  Attribute_any_ h (by rw [arm_eval_Attribute, hb])
end

/-! ### readings and rules -/
/-- e.f, an attribute of the instance -/
def tFld (K : PySem.W.Frag) (ta : TE) (f : Str) : TE := fun σ H Q => ta σ H fun x H1 => ∃ a C dx fs v, x = .ref a ∧ H1 a = some (.ins C dx fs) ∧ Cls K C ∧ NoAttr K C f ∧ fs.lookup f = some v ∧ Q v H1
/-- e.f, a constant of the class -/
def tCon (K : PySem.W.Frag) (ta : TE) (f : Str) : TE := fun σ H Q => ta σ H fun x H1 => ∃ a C dx fs v u, x = .ref a ∧ H1 a = some (.ins C dx fs) ∧ Cls K C ∧ Con K C f v u ∧ fs.lookup f = none ∧ Q v H1
/-- e.f = value -/
def sFld (K : PySem.W.Frag) (ta tv : TE) (f : Str) : TS := fun D σ H => tv σ H fun y H1 => ta σ H1 fun x H2 => ∃ a C dx fs, x = .ref a ∧ H2 a = some (.ins C dx fs) ∧ Cls K C ∧ NoAttr K C f ∧ fs.length < 1000 ∧
  D.nx σ (upd H2 a (.ins C dx (putF f y fs)))
/-- an augmented operator on two values -/
def InOp (X : Cx) (op : Operator) (rd : V → V → Hp → VK → Prop) : Prop :=
  ∀ (pins : List (Addr × Obj)) (s : Shared) (σ : St) (H : Hp) (x y : V) (u v : Value) (Q : VK), Inv X pins σ H s → RelV x u → RelV y v → rd x y H Q → wpAny (model X.prog X.w) X.A (inplaceOp op u v) (EP X pins σ Q) X.xe s
/-- e.f op= value -/
def sFldAug (K : PySem.W.Frag) (ta tv : TE) (rd : V → V → Hp → VK → Prop) (f : Str) : TS := fun D σ H => ta σ H fun x H1 => ∃ a C dx fs v, x = .ref a ∧ H1 a = some (.ins C dx fs) ∧ Cls K C ∧ NoAttr K C f ∧ fs.lookup f = some v ∧
  tv σ H1 fun y H2 => rd v y H2 fun z H3 => ∃ dx' fs', H3 a = some (.ins C dx' fs') ∧ fs'.length < 1000 ∧ D.nx σ (upd H3 a (.ins C dx' (putF f z fs')))

section
variable {X : Cx} {o e value : Expr} {f : Str} {pos pos' tpos : Pos} {ta tv : TE}
theorem pe_fld (he : PE X e ta) (hb : attributeBase e f X.env (eval e X.env) = eval e X.env) : PE X (.Attribute e f pos) (tFld X.K ta f) := by
  intro pins s σ H Q I h
  refine attr_of hb (thn (he pins s σ H _ I h) fun u s1 ⟨x, H1, I1, rx, a, C, dx, fs, v, ex, ea, c, n, l, q⟩ => ?_)
  subst ex
  obtain rfl : u = Value.ref a := rx
  exact getattr_ok I1 ea c n l fun u' s2 I2 ru => ⟨v, H1, I2, ru, q⟩
theorem pe_con (he : PE X e ta) (hb : attributeBase e f X.env (eval e X.env) = eval e X.env) : PE X (.Attribute e f pos) (tCon X.K ta f) := by
  intro pins s σ H Q I h
  refine attr_of hb (thn (he pins s σ H _ I h) fun u s1 ⟨x, H1, I1, rx, a, C, dx, fs, v, u0, ex, ea, c, k, l, q⟩ => ?_)
  subst ex
  obtain rfl : u = Value.ref a := rx
  exact getcon_ok I1 ea c k l fun s2 I2 => ⟨v, H1, I2, k.rel, q⟩
theorem ps_fld (ha : PE X o ta) (hv : PE X value tv) (hs : swapsWith value (some (.Attribute o f pos')) pos.line X.env = pure false) : PS X (.Assign [.Attribute o f pos'] value pos) (sFld X.K ta tv f) := by
  intro pins s σ H D I h
  refine plainObj_wpAny_Assign_Attribute (thn (hv pins s σ H _ I h) fun u s1 ⟨y, H1, I1, ry, q⟩ => thn (ha pins s1 σ H1 _ I1 q) fun ov s2 ⟨x, H2, I2, rx, a, C, dx, fs, ex, ea, c, n, l, q2⟩ => ?_) hs
  subst ex
  obtain rfl : ov = Value.ref a := rx
  exact setattr_ok I2 ea c n l ry fun s3 I3 => ⟨σ, _, I3, q2⟩
theorem ps_fldaug {op : Operator} {rd : V → V → Hp → VK → Prop} (ha : PE X o ta) (hv : PE X value tv) (hop : InOp X op rd) : PS X (.AugAssign (.Attribute o f tpos) op value pos) (sFldAug X.K ta tv rd f) := by
  intro pins s σ H D I h
  refine wpAny_AugAssign_AttributeAny (thn (ha pins s σ H _ I h) fun ov s1 ⟨x, H1, I1, rx, a, C, dx, fs, v, ex, ea, c, n, l, q⟩ => ?_)
  subst ex
  obtain rfl : ov = Value.ref a := rx
  refine getattr_ok I1 ea c n l fun u s2 I2 ru => thn (hv pins s2 σ H1 _ I2 q) fun w3 s3 ⟨y, H2, I3, ry, q3⟩ => thn (hop pins s3 σ H2 v y u w3 _ I3 ru ry q3) fun w4 s4 ⟨z, H3, I4, rz, dx', fs', ea', l', q4⟩ => ?_
  exact setattr_ok I4 ea' c n l' rz fun s5 I5 => ⟨σ, _, I5, q4⟩
def rAdd : V → V → Hp → VK → Prop := fun x y H Q => ∃ i j, x = .int i ∧ y = .int j ∧ Q (.int (i + j)) H
def rSub : V → V → Hp → VK → Prop := fun x y H Q => ∃ i j, x = .int i ∧ y = .int j ∧ Q (.int (i - j)) H
theorem in_add : InOp X .Add rAdd := by
  rintro pins s σ H x y u v Q I rx ry ⟨i, j, rfl, rfl, q⟩
  obtain ⟨t, rfl⟩ := (show ∃ t, u = Value.int i t from rx)
  obtain ⟨t', rfl⟩ := (show ∃ t', v = Value.int j t' from ry)
  exact PyProof.Rows.iadd_int ⟨.int (i + j), H, I.tok _, ⟨_, rfl⟩, q⟩
theorem in_sub : InOp X .Sub rSub := by
  rintro pins s σ H x y u v Q I rx ry ⟨i, j, rfl, rfl, q⟩
  obtain ⟨t, rfl⟩ := (show ∃ t, u = Value.int i t from rx)
  obtain ⟨t', rfl⟩ := (show ∃ t', v = Value.int j t' from ry)
  exact PyProof.Rows.isub_int ⟨.int (i - j), H, I.tok _, ⟨_, rfl⟩, q⟩

/-- what is between an instance and its method: the tree of a method call -/
theorem methcall_of {pl : Sem Bool} {m : Str} {apos : Pos} {args : List Expr} {pins : List (Addr × Obj)} {s : Shared} {σ : St} {H : Hp} {Q : Value → Shared → Prop} {te : TE} (he : PE X e te) (I : Inv X pins σ H s)
    (h : te σ H fun x H1 => ∃ a C dx fs g, x = .ref a ∧ H1 a = some (.ins C dx fs) ∧ Cls X.K C ∧ Meth X.K C m g ∧ fs.lookup m = none ∧
      ∀ s1, Inv X pins σ H1 s1 → wpAny (model X.prog X.w) X.A (callWith pos (.ref g) [.ref a] (backTo pos (starEach args X.env)) (backToKw pos (keywordEach [] X.env))) Q X.xe s1)
    (ht : eval (.Call (.Attribute e m apos) args [] pos) X.env = (do
      let ov ← eval e X.env
      standAt apos.atName
      let (f, first) ← holding [ov] (getMethod ov m pl)
      callWith pos f first (backTo pos (starEach args X.env)) (backToKw pos (keywordEach [] X.env)))) :
    wpAny (model X.prog X.w) X.A (eval (.Call (.Attribute e m apos) args [] pos) X.env) Q X.xe s := by
  refine PySem.W.methodCall_KW (pl := pl) (thn (he pins s σ H _ I h) fun u s1 ⟨x, H1, I1, rx, a, C, dx, fs, g, ex, ea, c, k, l, q⟩ => ?_) ht
  subst ex
  obtain rfl : u = Value.ref a := rx
  exact getmeth_ok I1 ea c k l (q s1 I1)
end

/-! ### isinstance -/
section
variable {X : Cx} {pins : List (Addr × Obj)} {σ : St} {H : Hp} {s : Shared} {A : Around} {E : Value → Shared → Prop} {Q : Value → Shared → Prop} {c : Value} {b : Bool}
/-- the type of a value, as the fragment's deciders take it; for an instance its class -/
inductive TyOf (K : PySem.W.Frag) (H : Hp) : V → Value → Prop where
  | non : TyOf K H .non (.type "NoneType")
  | bl (x : Bool) : TyOf K H (.bl x) (.type "bool")
  | int (i : Int) : TyOf K H (.int i) (.type "int")
  | str (x : Str) : TyOf K H (.str x) (.type "str")
  | flt (x : UInt64) : TyOf K H (.flt x) (.type "float")
  | lst {a : Addr} {xs : List V} (e : H a = some (.lst xs)) : TyOf K H (.ref a) (.type "list")
  | frz {a : Addr} {o : Obj} {xs : List V} (e : H a = some (.frz o (.lst xs))) : TyOf K H (.ref a) (.type "list")
  | tup {a : Addr} {xs : List V} (e : H a = some (.tup xs)) : TyOf K H (.ref a) (.type "tuple")
  | dK {a : Addr} {kvs : List (Key × V)} (e : H a = some (.dK kvs)) : TyOf K H (.ref a) (.type "dict")
  | dT {a : Addr} {kvs : List (List Key × V)} (e : H a = some (.dT kvs)) : TyOf K H (.ref a) (.type "dict")
  | ins {a C dx : Addr} {fs : List (Str × V)} (e : H a = some (.ins C dx fs)) (cl : Cls K C) (ha : PySem.W.findIn K (.ref C) "__class__" = some (some (.builtin "object.__class__")))
      (hn : PySem.W.specialIn K (.builtin "object.__class__") "__get__" = some (some (.builtin "getset_descriptor.__get__"))) (htk : PySem.W.takesIn K (.builtin "object.__class__") = some true)
      (hm : PySem.W.mroIn K C (.type "object") = some true) : TyOf K H (.ref a) (.ref C)
/-- isinstance(x, c) for one class c, a built-in or an own one: kitOne's answer -/
theorem isinst_ok {x : V} {u t : Value} (I : Inv X pins σ H s) (rx : RelV x u) (ty : TyOf X.K H x t) (e : PySem.W.kitOne X.K t c = some b) (h : ∀ tk, Q (.bool b) { s with toks := tk }) :
    wpAny (model X.prog X.w) A (call (.builtin "isinstance") [u, c]) Q E s := by
  cases ty with
  | non => cases (show u = Value.none from rx); exact PySem.W.kia_one PySem.W.kitx_none I.kIn True.intro e (fun z => nomatch z) h
  | bl y => cases (show u = Value.bool y from rx); exact PySem.W.kia_one PySem.W.kitx_bool I.kIn True.intro e (fun z => nomatch z) h
  | int i => obtain ⟨t, q⟩ := (show ∃ t, u = Value.int i t from rx); cases q; exact PySem.W.kia_one PySem.W.kitx_int I.kIn True.intro e (fun z => nomatch z) h
  | str y => obtain ⟨t, q⟩ := (show ∃ t, u = Value.str y t from rx); cases q; exact PySem.W.kia_one PySem.W.kitx_str I.kIn True.intro e (fun z => nomatch z) h
  | flt y => obtain ⟨t, q⟩ := (show ∃ t, u = Value.float y t from rx); cases q; exact PySem.W.kia_one PySem.W.kitx_float I.kIn True.intro e (fun z => nomatch z) h
  | @lst a xs ea =>
    cases (show u = Value.ref a from rx)
    obtain ⟨_, _, n, _, h1⟩ := (show ObjOk X.prog X.w H s.heap a (.lst xs) from I.hok a _ ea)
    exact PySem.W.kia_one PySem.W.kitx_list I.kIn ⟨_, h1, rfl⟩ e (fun z => nomatch z) h
  | @frz a ob xs ea =>
    cases (show u = Value.ref a from rx)
    obtain ⟨_, _, _, n, _, h1⟩ := (show ObjOk X.prog X.w H s.heap a (.frz ob (.lst xs)) from I.hok a _ ea)
    exact PySem.W.kia_one PySem.W.kitx_list I.kIn ⟨_, h1, rfl⟩ e (fun z => nomatch z) h
  | @tup a xs ea =>
    cases (show u = Value.ref a from rx)
    obtain ⟨_, _, _, p⟩ := (show ObjOk X.prog X.w H s.heap a (.tup xs) from I.hok a _ ea)
    obtain ⟨o, h1, h2, _⟩ := p
    exact PySem.W.kia_one PySem.W.kitx_tuple I.kIn ⟨o, h1, h2⟩ e (fun z => nomatch z) h
  | @dK a kvs ea =>
    cases (show u = Value.ref a from rx)
    obtain ⟨_, _, vs, _, p⟩ := (show ObjOk X.prog X.w H s.heap a (.dK kvs) from I.hok a _ ea)
    obtain ⟨o, es, ep, h1, h2, _⟩ := p
    exact PySem.W.kia_one PySem.W.kitx_dict I.kIn ⟨o, h1, h2.1⟩ e (fun z => nomatch z) h
  | @dT a kvs ea =>
    cases (show u = Value.ref a from rx)
    obtain ⟨_, _, xs, _, o, es, ep, h1, h2, _⟩ := (show ObjOk X.prog X.w H s.heap a (.dT kvs) from I.hok a _ ea)
    exact PySem.W.kia_one PySem.W.kitx_dict I.kIn ⟨o, h1, h2.1⟩ e (fun z => nomatch z) h
  | @ins a C dx fs ea cl ha hn htk hm =>
    cases (show u = Value.ref a from rx)
    obtain ⟨mA, O, _⟩ := ins_get I.hok ea
    obtain ⟨od, J, _⟩ := O.look
    exact PySem.W.kia_one (PySem.W.kitx_own (cl.get _) cl.hd ha hn htk hm) I.kIn J e (fun z => nomatch z) h
end
end L2

namespace L2
open PySem PySem.Spec PyProof.Rows

/-! ### room -/
structure Room (k : Nat) (A : Around) : Prop where
  hd : A.handled = none
  dp : A.depth + 3 * k + 5 < recursionLimit
  un : A.units + 16 * k + 200 < cLine
theorem Room.mono {j k : Nat} {A : Around} (r : Room k A) (h : j ≤ k) : Room j A := ⟨r.hd, by have := r.dp; omega, by have := r.un; omega⟩
theorem Room.deeper {k : Nat} {A : Around} (r : Room (k + 1) A) (env : Env) : Room k (A.deeper env) :=
  ⟨r.hd, by have := r.dp; show A.depth + 1 + 3 * k + 5 < _; omega, by have := r.un; show A.units + 3 + 16 * k + 200 < _; omega⟩
theorem Room.in1 {k : Nat} {A : Around} (r : Room (k + 1) A) : Room k A.in1 :=
  ⟨r.hd, by have := r.dp; show A.depth + 3 * k + 5 < _; omega, by have := r.un; show A.units + 1 + 16 * k + 200 < _; omega⟩
theorem make_depth {A : Around} {C : Addr} {us : List Value} {kw : List (Str × Value)} : (A.under (.builtin "type.__call__" ⟨.ref C :: us, kw⟩)).depth = A.depth + 1 := by
  first | rfl | simp [Around.under, Code.weight, Code.isCreation, Code.isGuard, Code.isCaller, Code.frames, Code.isFrame, guardIds]
theorem make_units {A : Around} {C : Addr} {us : List Value} {kw : List (Str × Value)} : (A.under (.builtin "type.__call__" ⟨.ref C :: us, kw⟩)).units = A.units + 1 := by
  first | rfl | simp [Around.under, Code.cUnits, Code.frames, Code.isFrame]
theorem Room.make {k : Nat} {A : Around} (r : Room (k + 1) A) (C : Addr) (us : List Value) (kw : List (Str × Value)) : Room k (A.under (.builtin "type.__call__" ⟨.ref C :: us, kw⟩)) :=
  ⟨r.hd, by have := r.dp; rw [make_depth]; omega, by have := r.un; rw [make_units]; omega⟩
theorem Room.depth {k : Nat} {A : Around} (r : Room k A) : A.depth < recursionLimit := by have := r.dp; omega
theorem Room.units {k : Nat} {A : Around} (r : Room k A) : A.units + 64 < cLine := by have := r.un; omega
theorem Room.units0 {k : Nat} {A : Around} (r : Room k A) : A.units < cLine := by have := r.un; omega

/-! ### argument lists and displays -/
def tNil : TA := fun _ H Q => Q [] H
def tCons (ta : TE) (tr : TA) : TA := fun σ H Q => ta σ H fun x H1 => tr σ H1 fun xs H2 => Q (x :: xs) H2
section
variable {X : Cx} {e : Expr} {es : List Expr} {te : TE} {t : TA} {pos : Pos}
theorem pa_nil : PA X [] tNil := fun _ _ _ _ H Q I h => Calls.spliced_nil ⟨[], H, I, .nil, h⟩
theorem pa_cons (ha : PE X e te) (hr : PA X es t) (hs : starEach (e :: es) X.env = (false, eval e X.env) :: starEach es X.env := by rfl) : PA X (e :: es) (tCons te t) := by
  intro pos pins s σ H Q I h
  rw [hs]
  show wpAny _ _ (spliced ((false, eval e X.env) :: backTo pos (starEach es X.env))) _ _ s
  refine Calls.spliced_cons (thn (ha pins s σ H _ I h) fun u s1 ⟨x, H1, I1, r1, q1⟩ => ?_)
  exact thn (hr pos pins s1 σ H1 _ I1 q1) fun us s2 ⟨xs, H2, I2, r2, q2⟩ => ⟨x :: xs, H2, I2, .cons r1 r2, q2⟩

/-- a tuple, a list of written items -/
def tTup (t : TA) : TE := fun σ H Q => t σ H fun xs H1 => xs.length ≤ sizeLine ∧ ∀ p, H1 p = none → Q (.ref p) (upd H1 p (.tup xs))
def tLst (t : TA) : TE := fun σ H Q => t σ H fun xs H1 => xs.length ≤ sizeLine ∧ ∀ p, H1 p = none → Q (.ref p) (upd H1 p (.lst xs))
theorem pe_tup {x1} (h : PA X es t) : PE X (.Tuple es x1 pos) (tTup t) := by
  intro pins s σ H Q I hq
  refine wpAny_Tuple_spliced (thn (h pos pins s σ H _ I hq) fun us s1 ⟨xs, H1, I1, r, z, q⟩ => ⟨by rw [← r.length]; exact z, ?_⟩)
  have hf : H1 s1.heap.objs.size = none := I1.hok.fresh (Nat.le_refl _)
  refine ⟨.ref s1.heap.objs.size, upd H1 s1.heap.objs.size (.tup xs), I1.laid (t' := s1.toks) (fun b u e => Heap.get?_push_of_some _ e) (Nat.le_refl _) ?_, rfl, q _ hf⟩
  exact ⟨z, us, r, ⟨_, Heap.get?_push_size _ rfl, rfl, _, rfl⟩⟩
theorem pe_lst (h : PA X es t) : PE X (.List es pos) (tLst t) := by
  intro pins s σ H Q I hq
  refine wpAny_List_spliced (thn (h pos pins s σ H _ I hq) fun us s1 ⟨xs, H1, I1, r, z, q⟩ => ⟨by rw [← r.length]; exact z, ?_⟩)
  have hf : H1 s1.heap.objs.size = none := I1.hok.fresh (Nat.le_refl _)
  refine ⟨.ref s1.heap.objs.size, upd H1 s1.heap.objs.size (.lst xs), I1.laid (t' := s1.toks) (fun b u e => Heap.get?_push_of_some _ e) (Nat.le_refl _) ?_, rfl, q _ hf⟩
  exact ⟨z, us, 0, r, Heap.get?_push_size _ rfl⟩
end

/-! ### what a def promises -/
/-- a def's promise: the bound arguments in the parameters' order, the heap, the wanted end, the wanted exception -/
abbrev Sp := List V → Hp → VK → XK → Prop
/-- how an exception lies behind a call (file 08 gives it): the callers' frames, abstract heap and state ahead of the call, the wish, the exception, the state -/
abbrev CXT := List Env → Hp → Shared → XK → Value → Shared → Prop

/-- the state at a call -/
structure Env0 (P : Program) (w : World) (K : PySem.W.Frag) (mg : Str → Option Value) (base : Heap) (A : Around) (outer : List Env) (s : Shared) (H : Hp) : Prop where
  frames : A.frames = some outer
  mod : Mod K mg base
  bs : ∀ b o, base.get? b = some o → s.heap.get? b = some o ∧ H b = none
  bsz : base.objs.size ≤ s.heap.objs.size
  funs : s.heap.FunFrames base outer
  frf : ∀ b ∈ frs outer, H b = none
  hok : HOk P w H s.heap
  bare : AllBare s.gens
/-- a call's end -/
def CE (outer : List Env) (P : Program) (w : World) (H : Hp) (s : Shared) (Q : VK) (u : Value) (s' : Shared) : Prop :=
  ∃ v H', s'.os = s.os ∧ AllBare s'.gens ∧ Un (frs outer) [] H H' s.heap s'.heap ∧ HOk P w H' s'.heap ∧ RelV v u ∧ Q v H'
def CR (CX : CXT) (outer : List Env) (P : Program) (w : World) (H : Hp) (s : Shared) (Q : VK) (E : XK) (r : Result) (s' : Shared) : Prop :=
  match r with
  | .ok (.ret u) => CE outer P w H s Q u s'
  | .ok _ => False
  | .error e => CX outer H s E e s'
structure FnOk (P : Program) (w : World) (K : PySem.W.Frag) (mg : Str → Option Value) (base : Heap) (CX : CXT) (k : Nat) (f : Addr) (fd : FuncData) (ps : List Str) (sp : Sp) : Prop where
  len : ∀ vs H Q E, sp vs H Q E → vs.length = ps.length
  run : ∀ (A : Around) (outer : List Env) (s : Shared) (H : Hp) (args : Args) (us : List Value) (vs : List V) (Q : VK) (E : XK), Room k A → Env0 P w K mg base A outer s H → BindsTo s fd args (ps.zip us) → Vals vs us → sp vs H Q E →
    codeAny (model P w) A (.call (.ref f) args) (CR CX outer P w H s Q E) s
theorem FnOk.mono {P : Program} {w : World} {K : PySem.W.Frag} {mg : Str → Option Value} {base : Heap} {CX : CXT} {j k : Nat} {f : Addr} {fd : FuncData} {ps : List Str} {sp : Sp} (F : FnOk P w K mg base CX j f fd ps sp) (h : j ≤ k) :
    FnOk P w K mg base CX k f fd ps sp := ⟨F.len, fun A outer s H args us vs Q E hr => F.run A outer s H args us vs Q E (hr.mono h)⟩
/-- a weaker promise -/
theorem FnOk.imp {P : Program} {w : World} {K : PySem.W.Frag} {mg : Str → Option Value} {base : Heap} {CX : CXT} {k : Nat} {f : Addr} {fd : FuncData} {ps : List Str} {sp sp' : Sp} (F : FnOk P w K mg base CX k f fd ps sp)
    (h : ∀ vs H Q E, sp' vs H Q E → sp vs H Q E) : FnOk P w K mg base CX k f fd ps sp' :=
  ⟨fun vs H Q E q => F.len vs H Q E (h _ _ _ _ q), fun A outer s H args us vs Q E hr he hb hv hs => F.run A outer s H args us vs Q E hr he hb hv (h _ _ _ _ hs)⟩

theorem Env0.make {P : Program} {w : World} {K : PySem.W.Frag} {mg : Str → Option Value} {base : Heap} {A : Around} {outer : List Env} {s : Shared} {H : Hp} (e : Env0 P w K mg base A outer s H) (C : Addr) (us : List Value) (kw : List (Str × Value)) :
    Env0 P w K mg base (A.under (.builtin "type.__call__" ⟨.ref C :: us, kw⟩)) outer s H := ⟨by first | exact e.frames | (simpa [Around.under, Code.envs, Code.isFrame, pushEnvs] using e.frames), e.mod, e.bs, e.bsz, e.funs, e.frf, e.hok, e.bare⟩
theorem Env0.in1 {P : Program} {w : World} {K : PySem.W.Frag} {mg : Str → Option Value} {base : Heap} {A : Around} {outer : List Env} {s : Shared} {H : Hp} (e : Env0 P w K mg base A outer s H) :
    Env0 P w K mg base A.in1 outer s H := ⟨e.frames, e.mod, e.bs, e.bsz, e.funs, e.frf, e.hok, e.bare⟩

section
variable {X : Cx} {pins : List (Addr × Obj)} {σ : St} {H : Hp} {s s' : Shared}
/-- from a body: what a callee wants -/
theorem Inv.env0 (I : Inv X pins σ H s) : Env0 X.prog X.w X.K X.mg X.base X.A X.stack s H :=
  ⟨I.ok.frames, I.ok.mod, I.bs, Nat.le_trans I.ok.bsz I.sz, I.stack, I.stkFree, I.hok, I.bare⟩
/-- behind a call -/
theorem Inv.after {Q : VK} {u : Value} (I : Inv X pins σ H s) (h : CE X.stack X.prog X.w H s Q u s') : EP X pins σ Q u s' := by
  obtain ⟨v, H', os, bare, un, hok, r, q⟩ := h
  obtain ⟨hh, g, d, t, os'⟩ := s'
  obtain rfl : os' = s.os := os
  exact ⟨v, H', I.call (h' := hh) (g' := g) (d' := d) (t' := t) (ch := []) un hok bare (fun b z => absurd z (by simp)), r, q⟩
end

/-! ### calls -/
/-- f(..): the written arguments, then the defaults dvs; E: what is wanted of an exception -/
def tCall (sp : Sp) (dvs : List V) (E : XK) (t : TA) : TE := fun σ H Q => t σ H fun vs H1 => sp (vs ++ dvs) H1 Q E
/-- o.m(..) of an instance of the class at C -/
def tMeth (C : Addr) (m : Str) (sp : Sp) (dvs : List V) (E : XK) (ta : TE) (t : TA) : TE := fun σ H Q => ta σ H fun x H1 => ∃ a dx fs, x = .ref a ∧ H1 a = some (.ins C dx fs) ∧ fs.lookup m = none ∧
  t σ H1 fun vs H2 => sp (x :: (vs ++ dvs)) H2 Q E
/-- C(..): a new instance and its dict, then __init__ -/
def tMake (C : Addr) (sp : Sp) (dvs : List V) (E : XK) (t : TA) : TE := fun σ H Q => t σ H fun vs H1 => ∀ x dx, H1 x = none → H1 dx = none → dx ≠ x →
  sp (.ref x :: (vs ++ dvs)) (upd (upd H1 dx (.own x)) x (.ins C dx [])) (fun v H2 => v = .non ∧ Q (.ref x) H2) E

/-- how the parameters are bound: us the positional arguments, kw the keywords' values by name, ds the defaults that fill up -/
def Binds (K : PySem.W.Frag) (fd : FuncData) (ps : List Str) (ds : List Value) : Prop :=
  ∀ (s : Shared) (us : List Value), K.In s.heap → (us ++ ds).length = ps.length → BindsTo s fd ⟨us, []⟩ (ps.zip (us ++ ds))
/-- every parameter is given -/
theorem Binds.all {K : PySem.W.Frag} {fd : FuncData} {ps : List Str} (h : ∀ us : List Value, us.length = ps.length → bindArgs fd ⟨us, []⟩ = pure (ps.zip us)) : Binds K fd ps [] := fun s us _ hl => by
  rw [List.append_nil] at hl ⊢
  exact .of_eq (h us hl)

/-- an exception of a callee reaches what this body wants of exceptions -/
def Passes (CX : CXT) (X : Cx) (E : XK) : Prop := ∀ (pins : List (Addr × Obj)) (σ : St) (H : Hp) (s : Shared) (e : Value) (s' : Shared), Inv X pins σ H s → CX X.stack H s E e s' → X.xe e s'

section
variable {X : Cx} {CX : CXT} {k : Nat} {f C : Addr} {fd : FuncData} {ps : List Str} {sp : Sp} {dvs : List V} {ds : List Value} {E : XK} {x m : Str} {p pos apos : Pos} {e o : Expr} {es : List Expr} {ta : TE} {t : TA}

/-- the callee runs -/
theorem run_fn {pins : List (Addr × Obj)} {σ : St} {H : Hp} {s : Shared} {Q : VK} {us : List Value} {vs : List V} (F : FnOk X.prog X.w X.K X.mg X.base CX k f fd ps sp) (hr : Room k X.A) (hb : Binds X.K fd ps ds) (hd : Vals dvs ds) (hx : Passes CX X E)
    (I : Inv X pins σ H s) (r : Vals vs us) (h : sp (vs ++ dvs) H Q E) : wpAny (model X.prog X.w) X.A (call (.ref f) us) (EP X pins σ Q) X.xe s := by
  have r2 : Vals (vs ++ dvs) (us ++ ds) := r.append hd
  have hl : (us ++ ds).length = ps.length := by rw [← r2.length]; exact F.len _ _ _ _ h
  refine wpAny_call (codeAny_mono (F.run X.A X.stack s H ⟨us, []⟩ (us ++ ds) (vs ++ dvs) Q E hr I.env0 (hb s us I.kIn hl) r2 h) fun r s' hq => ?_)
  cases r with
  | error e => exact hx pins σ H s e s' I hq
  | ok fl =>
    cases fl with
    | ret u => exact I.after hq
    | next => exact False.elim hq
    | brk => exact False.elim hq
    | cont => exact False.elim hq

theorem pe_call (F : FnOk X.prog X.w X.K X.mg X.base CX k f fd ps sp) (hr : Room k X.A) (hg : Gl X x) (hm : X.mg x = some (.ref f)) (hk : PySem.W.keepIn X.K (.ref f) = true) (hb : Binds X.K fd ps ds) (hd : Vals dvs ds) (hx : Passes CX X E)
    (ha : PA X (e :: es) t) (hdb : (x == ("__debug__" : Str)) = false := by decide) (he : starEach (e :: es) X.env = (false, eval e X.env) :: starEach es X.env := by rfl) (hpl : (backTo pos (starEach es X.env)).any (·.1) = false := by rfl) :
    PE X (.Call (.Name x p) (e :: es) [] pos) (tCall sp dvs E t) := by
  intro pins s σ H Q I h
  refine wpAny_Call_Name_kw (ld_glob I hg hm ?_ hdb)
  refine PySem.W.callWith_K (h₀ := X.base) I.ok.mod.kin hk (thn (ha pos pins s σ H _ I h) fun us s1 ⟨vs, H1, I1, r, q⟩ => ⟨I1.kIn, ?_⟩) he hpl
  exact run_fn F hr hb hd hx I1 r q
theorem pe_call0 (F : FnOk X.prog X.w X.K X.mg X.base CX k f fd ps sp) (hr : Room k X.A) (hg : Gl X x) (hm : X.mg x = some (.ref f)) (hk : PySem.W.keepIn X.K (.ref f) = true) (hb : Binds X.K fd ps ds) (hd : Vals dvs ds) (hx : Passes CX X E)
    (hdb : (x == ("__debug__" : Str)) = false := by decide) : PE X (.Call (.Name x p) [] [] pos) (tCall sp dvs E tNil) := by
  intro pins s σ H Q I h
  refine wpAny_Call_Name_kw (ld_glob I hg hm ?_ hdb)
  exact PySem.W.callWith_K0 I.kIn hk (run_fn (us := []) F hr hb hd hx I .nil h)

/-- o.m(e, ..) -/
theorem pe_meth {pl : Sem Bool} (he : PE X o ta) (c : Cls X.K C) (hm : Meth X.K C m f) (F : FnOk X.prog X.w X.K X.mg X.base CX k f fd ps sp) (hr : Room k X.A) (hb : Binds X.K fd ps ds) (hd : Vals dvs ds) (hx : Passes CX X E) (ha : PA X (e :: es) t)
    (hst : starEach (e :: es) X.env = (false, eval e X.env) :: starEach es X.env := by rfl) (hpl : (backTo pos (starEach es X.env)).any (·.1) = false := by rfl)
    (ht : eval (.Call (.Attribute o m apos) (e :: es) [] pos) X.env = (do
      let ov ← eval o X.env
      standAt apos.atName
      let (f, first) ← holding [ov] (getMethod ov m pl)
      callWith pos f first (backTo pos (starEach (e :: es) X.env)) (backToKw pos (keywordEach [] X.env))) := by rfl) :
    PE X (.Call (.Attribute o m apos) (e :: es) [] pos) (tMeth C m sp dvs E ta t) := by
  intro pins s σ H Q I h
  refine PySem.W.methodCall_KW (pl := pl) (thn (he pins s σ H _ I h) fun u s1 ⟨x, H1, I1, rx, a, dx, fs, ex, ea, l, q⟩ => ?_) ht
  subst ex
  obtain rfl : u = Value.ref a := rx
  refine getmeth_ok I1 ea c hm l ?_
  refine PySem.W.callWith_K (first := [.ref a]) (h₀ := X.base) I.ok.mod.kin hm.kp (thn (ha pos pins s1 σ H1 _ I1 q) fun us s2 ⟨vs, H2, I2, r, q2⟩ => ⟨I2.kIn, ?_⟩) hst hpl
  exact run_fn (us := .ref a :: us) (vs := .ref a :: vs) F hr hb hd hx I2 (.cons rfl r) q2
/-- o.m() -/
theorem pe_meth0 {pl : Sem Bool} (he : PE X o ta) (c : Cls X.K C) (hm : Meth X.K C m f) (F : FnOk X.prog X.w X.K X.mg X.base CX k f fd ps sp) (hr : Room k X.A) (hb : Binds X.K fd ps ds) (hd : Vals dvs ds) (hx : Passes CX X E)
    (ht : eval (.Call (.Attribute o m apos) [] [] pos) X.env = (do
      let ov ← eval o X.env
      standAt apos.atName
      let (f, first) ← holding [ov] (getMethod ov m pl)
      callWith pos f first (backTo pos (starEach [] X.env)) (backToKw pos (keywordEach [] X.env))) := by rfl) :
    PE X (.Call (.Attribute o m apos) [] [] pos) (tMeth C m sp dvs E ta tNil) := by
  intro pins s σ H Q I h
  refine PySem.W.methodCall_KW (pl := pl) (thn (he pins s σ H _ I h) fun u s1 ⟨x, H1, I1, rx, a, dx, fs, ex, ea, l, q⟩ => ?_) ht
  subst ex
  obtain rfl : u = Value.ref a := rx
  refine getmeth_ok I1 ea c hm l ?_
  exact PySem.W.callWith_K0 (first := [.ref a]) I1.kIn hm.kp (run_fn (us := [.ref a]) (vs := [.ref a]) F hr hb hd hx I1 (.cons rfl .nil) q)

/-- what a class must have to be made -/
structure Mk (K : PySem.W.Frag) (C f : Addr) : Prop where
  makes : PySem.W.makesIn K C = true
  init : PySem.W.findIn K (.ref C) "__init__" = some (some (.ref f))
  fn : PySem.W.isFn K (.ref f) = true
  kp : PySem.W.keepIn K (.ref C) = true

theorem run_make {pins : List (Addr × Obj)} {σ : St} {H : Hp} {s : Shared} {Q : VK} {us : List Value} {vs : List V} (M : Mk X.K C f) (F : FnOk X.prog X.w X.K X.mg X.base CX k f fd ps sp) (hr : Room (k + 1) X.A) (hb : Binds X.K fd ps ds) (hd : Vals dvs ds)
    (hx : Passes CX X E) (I : Inv X pins σ H s) (r : Vals vs us)
    (h : ∀ x dx, H x = none → H dx = none → dx ≠ x → sp (.ref x :: (vs ++ dvs)) (upd (upd H dx (.own x)) x (.ins C dx [])) (fun v H2 => v = .non ∧ Q (.ref x) H2) E) :
    wpAny (model X.prog X.w) X.A (call (.ref C) us) (EP X pins σ Q) X.xe s := by
  have hq := h (s.heap.objs.size + 1) s.heap.objs.size (I.hok.fresh (Nat.le_succ _)) (I.hok.fresh (Nat.le_refl _)) (Nat.ne_of_lt (Nat.lt_succ_self _))
  have I2 := Inv.made (C := C) I
  have r2 : Vals (V.ref (s.heap.objs.size + 1) :: (vs ++ dvs)) (Value.ref (s.heap.objs.size + 1) :: (us ++ ds)) := .cons rfl (r.append hd)
  have hl : (Value.ref (s.heap.objs.size + 1) :: us ++ ds).length = ps.length := by
    have e := r2.length
    rw [F.len _ _ _ _ hq] at e
    exact e.symm
  refine wpAny_call (make_map (f := f) I.kIn M.makes M.init (beq_iff_eq.mp M.fn) (codeAny_mono (F.run _ X.stack _ _ ⟨Value.ref (s.heap.objs.size + 1) :: us, []⟩ (Value.ref (s.heap.objs.size + 1) :: (us ++ ds)) _ _ E (hr.make C us [])
    (I2.env0.make C us []) (hb _ (Value.ref (s.heap.objs.size + 1) :: us) I2.kIn hl) r2 hq) fun r s' hq' => ?_))
  cases r with
  | error e => exact hx pins σ _ _ e s' I2 hq'
  | ok fl =>
    cases fl with
    | ret u =>
      obtain ⟨v, H', I3, rv, ev, q3⟩ := I2.after hq'
      subst ev
      exact ⟨rv, ⟨V.ref (s.heap.objs.size + 1), H', I3, rfl, q3⟩⟩
    | next => exact False.elim hq'
    | brk => exact False.elim hq'
    | cont => exact False.elim hq'
theorem pe_make (M : Mk X.K C f) (F : FnOk X.prog X.w X.K X.mg X.base CX k f fd ps sp) (hr : Room (k + 1) X.A) (hg : Gl X x) (hm : X.mg x = some (.ref C)) (hb : Binds X.K fd ps ds) (hd : Vals dvs ds) (hx : Passes CX X E)
    (ha : PA X (e :: es) t) (hdb : (x == ("__debug__" : Str)) = false := by decide) (he : starEach (e :: es) X.env = (false, eval e X.env) :: starEach es X.env := by rfl) (hpl : (backTo pos (starEach es X.env)).any (·.1) = false := by rfl) :
    PE X (.Call (.Name x p) (e :: es) [] pos) (tMake C sp dvs E t) := by
  intro pins s σ H Q I h
  refine wpAny_Call_Name_kw (ld_glob I hg hm ?_ hdb)
  refine PySem.W.callWith_K (h₀ := X.base) I.ok.mod.kin M.kp (thn (ha pos pins s σ H _ I h) fun us s1 ⟨vs, H1, I1, r, q⟩ => ⟨I1.kIn, ?_⟩) he hpl
  exact run_make M F hr hb hd hx I1 r q
theorem pe_make0 (M : Mk X.K C f) (F : FnOk X.prog X.w X.K X.mg X.base CX k f fd ps sp) (hr : Room (k + 1) X.A) (hg : Gl X x) (hm : X.mg x = some (.ref C)) (hb : Binds X.K fd ps ds) (hd : Vals dvs ds) (hx : Passes CX X E)
    (hdb : (x == ("__debug__" : Str)) = false := by decide) : PE X (.Call (.Name x p) [] [] pos) (tMake C sp dvs E tNil) := by
  intro pins s σ H Q I h
  refine wpAny_Call_Name_kw (ld_glob I hg hm ?_ hdb)
  exact PySem.W.callWith_K0 I.kIn M.kp (run_make (us := []) M F hr hb hd hx I .nil h)
end

/-! ### keywords -/
/-- the values of the keywords, from the left -/
def PK (X : Cx) (kws : List Keyword) (t : TA) : Prop :=
  ∀ (pos : Pos) (pins : List (Addr × Obj)) (s : Shared) (σ : St) (H : Hp) (Q : List V → Hp → Prop), Inv X pins σ H s → t σ H Q → wpAny (model X.prog X.w) X.A (evalAll ((backToKw pos (keywordEach kws X.env)).map (·.2))) (AP X pins σ Q) X.xe s
section
variable {X : Cx} {CX : CXT} {k : Nat} {f C : Addr} {fd : FuncData} {ps ks : List Str} {sp : Sp} {E : XK} {x m : Str} {p pos apos kpos : Pos} {e o : Expr} {es : List Expr} {kws : List Keyword} {te ta : TE} {t tk : TA} {nm : Option Str}
theorem pk_nil : PK X [] tNil := fun _ _ _ _ H Q I h => wpAny_evalAll_nil ⟨[], H, I, .nil, h⟩
theorem pk_cons (ha : PE X e te) (hr : PK X kws t) : PK X (⟨nm, e, kpos⟩ :: kws) (tCons te t) := by
  intro pos pins s σ H Q I h
  show wpAny _ _ (evalAll ((do let v ← eval e X.env; standAt pos; pure v) :: (backToKw pos (keywordEach kws X.env)).map (·.2))) _ _ s
  refine wpAny_evalAll_cons (wpAny_bind (thn (ha pins s σ H _ I h) fun u s1 ⟨x, H1, I1, r1, q1⟩ => wpAny_bind (wpAny_standAt (wpAny_pure ?_))))
  exact thn (hr pos pins s1 σ H1 _ I1 q1) fun us s2 ⟨xs, H2, I2, r2, q2⟩ => ⟨x :: xs, H2, I2, .cons r1 r2, q2⟩

/-- how a call with keywords binds: g puts the positional values us and the keywords' values ws (names ks) in the parameters' order, defaults among them -/
structure KBinds (K : PySem.W.Frag) (fd : FuncData) (ps ks : List Str) (g : List Value → List Value → List Value) (gV : List V → List V → List V) : Prop where
  to : ∀ (s : Shared) (us ws : List Value), K.In s.heap → (g us ws).length = ps.length → BindsTo s fd ⟨us, ks.zip ws⟩ (ps.zip (g us ws))
  rel : ∀ {vs : List V} {us : List Value} {zs : List V} {ws : List Value}, Vals vs us → Vals zs ws → Vals (gV vs zs) (g us ws)
def tCallK (sp : Sp) (gV : List V → List V → List V) (E : XK) (t tk : TA) : TE := fun σ H Q => t σ H fun vs H1 => tk σ H1 fun zs H2 => sp (gV vs zs) H2 Q E
variable {g : List Value → List Value → List Value} {gV : List V → List V → List V}
theorem run_fnk {pins : List (Addr × Obj)} {σ : St} {H : Hp} {s : Shared} {Q : VK} {us ws : List Value} {vs zs : List V} (F : FnOk X.prog X.w X.K X.mg X.base CX k f fd ps sp) (hr : Room k X.A) (hb : KBinds X.K fd ps ks g gV) (hx : Passes CX X E)
    (I : Inv X pins σ H s) (r : Vals vs us) (rz : Vals zs ws) (h : sp (gV vs zs) H Q E) : wpAny (model X.prog X.w) X.A (call (.ref f) us (ks.zip ws)) (EP X pins σ Q) X.xe s := by
  have r2 := hb.rel r rz
  have hl : (g us ws).length = ps.length := by rw [← r2.length]; exact F.len _ _ _ _ h
  refine wpAny_call (codeAny_mono (F.run X.A X.stack s H ⟨us, ks.zip ws⟩ (g us ws) (gV vs zs) Q E hr I.env0 (hb.to s us ws I.kIn hl) r2 h) fun r s' hq => ?_)
  cases r with
  | error e => exact hx pins σ H s e s' I hq
  | ok fl =>
    cases fl with
    | ret u => exact I.after hq
    | next => exact False.elim hq
    | brk => exact False.elim hq
    | cont => exact False.elim hq
/-- f(e, .., k = v, ..) -/
theorem pe_callK (F : FnOk X.prog X.w X.K X.mg X.base CX k f fd ps sp) (hr : Room k X.A) (hg : Gl X x) (hm : X.mg x = some (.ref f)) (hk : PySem.W.keepIn X.K (.ref f) = true) (hb : KBinds X.K fd ps ks g gV) (hx : Passes CX X E)
    (ha : PA X (e :: es) t) (hkw : PK X kws tk) (hall : (backToKw pos (keywordEach kws X.env)).all (·.1.isSome) = true := by rfl) (hks : (backToKw pos (keywordEach kws X.env)).filterMap (·.1) = ks := by rfl)
    (hdb : (x == ("__debug__" : Str)) = false := by decide) (he : starEach (e :: es) X.env = (false, eval e X.env) :: starEach es X.env := by rfl)
    (hpl : ((backTo pos (starEach (e :: es) X.env)).any (·.1) || (backToKw pos (keywordEach kws X.env)).any (·.1.isNone)) = false := by rfl) :
    PE X (.Call (.Name x p) (e :: es) kws pos) (tCallK sp gV E t tk) := by
  intro pins s σ H Q I h
  refine wpAny_Call_Name_kw (ld_glob I hg hm ?_ hdb)
  refine PySem.W.callWith_KW (h₀ := X.base) I.ok.mod.kin hk hall (thn (ha pos pins s σ H _ I h) fun us s1 ⟨vs, H1, I1, r, q⟩ => ?_) hpl he
  refine thn (hkw pos pins s1 σ H1 _ I1 q) fun ws s2 ⟨zs, H2, I2, rz, q2⟩ => ⟨I2.kIn, ?_⟩
  rw [hks]
  exact run_fnk F hr hb hx I2 r rz q2
end

/-! ### a def's body keeps its promise -/
/-- names: the parameters first -/
structure FnScope (N P : List Str) (sc : Scope) : Prop where
  kind : sc.kind = .function
  co : sc.isCoroutine = false
  gen : sc.isGenerator = false
  nd : N.Nodup
  pre : N.take P.length = P
  par : ∀ x ∈ P, sc.names.lookup x = some .local ∨ sc.names.lookup x = some .cell
  nofree : ∀ y ∈ sc.names, y.2 ≠ .free

theorem bindL_out {kindOf : Str → Option NameKind} {x : Str} : ∀ {binds : List (Str × Value)} {m : Str → Option Value}, (∀ v, (x, v) ∉ binds) → bindL kindOf binds m x = m x
  | [], _, _ => rfl
  | (n, v) :: r, m, h => by
    unfold bindL
    rw [bindL_out fun w hw => h w (List.mem_cons_of_mem _ hw)]
    split
    · have : x ≠ n := by rintro rfl; exact h v List.mem_cons_self
      simp [this]
    · rfl
theorem bindC_out {kindOf : Str → Option NameKind} {x : Str} : ∀ {binds : List (Str × Value)} {m : Str → Option Value}, (∀ v, (x, v) ∉ binds) → bindC kindOf binds m x = m x
  | [], _, _ => rfl
  | (n, v) :: r, m, h => by
    unfold bindC
    rw [bindC_out fun w hw => h w (List.mem_cons_of_mem _ hw)]
    split
    · rfl
    · have : x ≠ n := by rintro rfl; exact h v List.mem_cons_self
      simp [this]
theorem bindL_get {kindOf : Str → Option NameKind} {x : Str} {v : Value} : ∀ {P : List Str} {vs : List Value} {i : Nat} {m : Str → Option Value}, P.Nodup → P[i]? = some x → vs[i]? = some v → kindOf x = some .local →
    bindL kindOf (P.zip vs) m x = some v
  | [], _, _, _, _, h, _, _ => by simp at h
  | _ :: _, [], _, _, _, _, h, _ => by simp at h
  | p :: P, w :: vs, 0, m, nd, h1, h2, hk => by
    simp at h1 h2; subst h1; subst h2
    show bindL kindOf ((p, w) :: P.zip vs) m p = _
    unfold bindL
    rw [bindL_out fun v hv => (List.nodup_cons.mp nd).1 (List.of_mem_zip hv).1, if_pos hk]
    simp
  | p :: P, w :: vs, i + 1, m, nd, h1, h2, hk => by
    show bindL kindOf ((p, w) :: P.zip vs) m x = _
    unfold bindL
    exact bindL_get (i := i) (List.nodup_cons.mp nd).2 (by simpa using h1) (by simpa using h2) hk
theorem bindC_get {kindOf : Str → Option NameKind} {x : Str} {v : Value} : ∀ {P : List Str} {vs : List Value} {i : Nat} {m : Str → Option Value}, P.Nodup → P[i]? = some x → vs[i]? = some v → kindOf x ≠ some .local →
    bindC kindOf (P.zip vs) m x = some v
  | [], _, _, _, _, h, _, _ => by simp at h
  | _ :: _, [], _, _, _, _, h, _ => by simp at h
  | p :: P, w :: vs, 0, m, nd, h1, h2, hk => by
    simp at h1 h2; subst h1; subst h2
    show bindC kindOf ((p, w) :: P.zip vs) m p = _
    unfold bindC
    rw [bindC_out fun v hv => (List.nodup_cons.mp nd).1 (List.of_mem_zip hv).1, if_neg hk]
    simp
  | p :: P, w :: vs, i + 1, m, nd, h1, h2, hk => by
    show bindC kindOf ((p, w) :: P.zip vs) m x = _
    unfold bindC
    exact bindC_get (i := i) (List.nodup_cons.mp nd).2 (by simpa using h1) (by simpa using h2) hk

/-- the names' values at the entry -/
def start (N : List Str) (vs : List V) : St := vs.map some ++ List.replicate (N.length - vs.length) none

/-- the context of a def's body, at its entry; an exception leaves the frame, then lies as CX says -/
def cxOf (CX : CXT) (P : Program) (w : World) (K : PySem.W.Frag) (mg : Str → Option Value) (base : Heap) (N : List Str) (qual : Str) (scope : Scope) (f : Addr) (cd : Value) (A : Around) (outer : List Env) (s : Shared) (H : Hp) (E : XK) : Cx where
  prog := P
  w := w
  K := K
  mg := mg
  base := base
  A := A.deeper (envOfC qual scope s.heap.objs.size f cd)
  N := N
  s₀ := s
  H₀ := H
  env := envOfC qual scope s.heap.objs.size f cd
  outer := outer
  stack := envOfC qual scope s.heap.objs.size f cd :: outer
  ex := []
  calm := true
  fn := fun _ => true
  pn := []
  xe := fun e s' => wpAny (model P w) (A.deeper (envOfC qual scope s.heap.objs.size f cd)) (leaving (envOfC qual scope s.heap.objs.size f cd) e) (fun _ s'' => CX outer H s E e s'') (fun e' s'' => CX outer H s E e' s'') s'

theorem cell_has {sc : Scope} {n : Nat} {x : Str} (h : sc.names.lookup x = some .cell) : ∃ c, (cellsFrom n sc.names []).lookup x = some c := by
  have q := PySem.W.cellsFrom_some sc.names n [] (.inl h)
  exact Option.isSome_iff_exists.mp q

theorem inv_start {CX : CXT} {P : Program} {w : World} {K : PySem.W.Frag} {mg : Str → Option Value} {base : Heap} {N ps : List Str} {qual : Str} {scope : Scope} {f : Addr} {cd : Value} {A : Around} {outer : List Env} {s s1 : Shared} {H : Hp} {E : XK} {us : List Value} {vs : List V}
    (S : FnScope N ps scope) (hd : A.handled = none) (e0 : Env0 P w K mg base A outer s H) (hl : vs.length = ps.length) (r : Vals vs us)
    (x : InCallC s s.heap.objs.size (bindL (envOfC qual scope s.heap.objs.size f cd).kindOf (ps.zip us) fun _ => none) (cellsFrom (s.heap.objs.size + 1) scope.names []) (bindC (envOfC qual scope s.heap.objs.size f cd).kindOf (ps.zip us) fun _ => none) s1) :
    Inv (cxOf CX P w K mg base N qual scope f cd A outer s H E) [] (start N vs) H s1 := by
  have hpl : ps.length ≤ N.length := by have := congrArg List.length S.pre; rw [List.length_take] at this; omega
  obtain ⟨h1, tk, rfl, hk⟩ := x.done
  have noA : ∀ b : Addr, b ∉ (cxOf CX P w K mg base N qual scope f cd A outer s H E).ex := fun b z => absurd (show b ∈ ([] : List Addr) from z) (by simp)
  refine ⟨⟨e0.mod, S.kind, rfl, rfl, Nat.le_refl _, fun y z c h1 h2 => ?_, fun y hy => ?_, fun y c _ h => ?_, fun _ => hd, Around.frames_deeper e0.frames, .inr ⟨rfl, rfl⟩, fun b z => absurd z (noA b), e0.bs, e0.bsz, fun b _ _ => noA b, fun b z => absurd z (noA b), e0.funs, e0.frf⟩,
    rfl, e0.bare, Un.kept hk, ⟨_, x.toInCall.ns, fun i y v h1 h2 h3 => ?_⟩, fun y c h => ⟨_, x.cell y c h⟩, e0.hok.fresh (Nat.le_refl _), fun y c h => ?_, fun p hp => absurd (show p ∈ ([] : List (Addr × Obj)) from hp) (by simp), e0.hok.kept hk, ?_⟩
  · exact name_of_addr x.apart (PySem.mem_of_lookup h1) (PySem.mem_of_lookup h2)
  · have hy : scope.names.lookup y = some .cell ∨ scope.names.lookup y = some .free := hy
    rcases hy with hy | hy
    · exact cell_has hy
    · exact absurd rfl (S.nofree _ (PySem.mem_of_lookup hy))
  · exact Nat.le_of_lt (x.above y c (PySem.mem_of_lookup h))
  · have hi : i < vs.length := by
      unfold start at h2
      by_cases hi : i < vs.length
      · exact hi
      · rw [List.getElem?_append_right (by simpa using hi)] at h2
        rw [List.getElem?_replicate] at h2
        split at h2 <;> cases h2
    have ha : vs[i]? = some v := by
      unfold start at h2
      rw [List.getElem?_append_left (by simpa using hi), List.getElem?_map] at h2
      cases e : vs[i]? with
      | none => rw [e] at h2; cases h2
      | some a => rw [e] at h2; cases h2; rfl
    obtain ⟨u, hu, rv⟩ := r.get ha
    have hp : ps[i]? = some y := by
      rw [← S.pre, List.getElem?_take_of_lt (by omega)]; exact h1
    have ndP : ps.Nodup := by rw [← S.pre]; exact S.nd.sublist (List.take_sublist _ _)
    refine ⟨u, rv, ?_⟩
    rcases S.par y (List.mem_of_getElem? hp) with k | k
    · exact .inl ⟨k, bindL_get ndP hp hu k⟩
    · obtain ⟨c, e⟩ := cell_has (n := s.heap.objs.size + 1) k
      refine .inr ⟨.inl k, c, e, ?_⟩
      have q := x.cell y c e
      rw [bindC_get ndP hp hu (by show scope.names.lookup y ≠ _; rw [k]; decide)] at q
      exact q
  · exact e0.hok.fresh (Nat.le_of_lt (x.above y c (PySem.mem_of_lookup h)))
  · unfold start
    show _ = N.length
    rw [List.length_append, List.length_map, List.length_replicate]
    omega

/-- THE RULE: a def (or a method) of the text, by its body. The body's reading t is chosen for each entry; it is run at the parameters' values -/
theorem fn_of {CX : CXT} {P : Program} {w : World} {K : PySem.W.Frag} {mg : Str → Option Value} {base : Heap} {k : Nat} {f : Addr} {name qual : Str} {params : Arguments} {body : List Stmt} {scope : Scope} {dV kV doc pm cdv ct oc : Value} {an od : Option Addr}
    {osl : Array (Option Value)} {N ps : List Str} {sp : Sp} (lk : K.lookup f = some ⟨oc, od, .func (PySem.W.fnOf name qual params body scope dV kV doc pm an cdv ct), osl⟩) (hcd : PySem.W.codeIn K cdv qual = true) (S : FnScope N ps scope)
    (len : ∀ vs H Q E, sp vs H Q E → vs.length = ps.length)
    (hbody : ∀ (A : Around) (outer : List Env) (s : Shared) (H : Hp) (vs : List V) (Q : VK) (E : XK), Room k (A.deeper (envOfC qual scope s.heap.objs.size f cdv)) → sp vs H Q E →
      ∃ t, PSs (cxOf CX P w K mg base N qual scope f cdv A outer s H E) body t ∧ t { nx := fun _ H' => Q .non H', rt := Q } (start N vs) H) :
    FnOk P w K mg base CX (k + 1) f (PySem.W.fnOf name qual params body scope dV kV doc pm an cdv ct) ps sp := by
  refine ⟨len, fun A outer s H args us vs Q E hr e0 hb r hsp => ?_⟩
  have hl := len _ _ _ _ hsp
  have KX : K.In s.heap := e0.mod.kin.keeps fun b o e => (e0.bs b o e).1
  have lim : s.heap.NoLimit := e0.mod.nolimit.keeps fun b o e => (e0.bs b o e).1
  have hkind : ∀ y ∈ ps.zip us, scope.names.lookup y.1 = some .local ∨ (scope.names.lookup y.1 = some .cell ∧ ((cellsFrom (s.heap.objs.size + 1) scope.names []).lookup y.1).isSome = true) := fun ⟨n, v⟩ hy => by
    rcases S.par n (List.of_mem_zip hy).1 with q | q
    · exact .inl q
    · exact .inr ⟨q, PySem.W.cellsFrom_some _ _ _ (.inl q)⟩
  refine codeAny_call_function hr.depth (KX _ _ lk) rfl S.co S.gen rfl (PySem.W.codeRec_of KX hcd) (hb _ _ _ _ ?_)
  refine wpAny_newFunctionEnv_cells S.kind hkind fun env he s1 x => ?_
  subst he
  refine ⟨lim.keeps x.toInCall.keep, codeAny_func ?_⟩
  obtain ⟨t, ht, hq⟩ := hbody A outer s H vs Q E (hr.deeper _) hsp
  have I : Inv (cxOf CX P w K mg base N qual scope f cdv A outer s H E) [] (start N vs) H s1 := inv_start S hr.hd e0 hl r x
  refine wpAny_mono (ht [] s1 (start N vs) H _ I hq) (fun fl s' hs => ?_) fun e s' hs => hs
  have fin : ∀ {σ' : St} {H' : Hp} {v : V} {u : Value}, Inv (cxOf CX P w K mg base N qual scope f cdv A outer s H E) [] σ' H' s' → RelV v u → Q v H' → CE outer P w H s Q u s' :=
    fun {σ' H' v u} J rv q => ⟨v, H', J.os, J.bare, J.base, J.hok, rv, q⟩
  cases fl with
  | ret u =>
    obtain ⟨v, σ', H', J, rv, q⟩ := hs
    exact fin J rv q
  | next =>
    obtain ⟨σ', H', J, q⟩ := hs
    exact fin (v := V.non) (u := Value.none) J rfl q
  | brk =>
    obtain ⟨_, _, _, q⟩ := hs
    exact False.elim q
  | cont =>
    obtain ⟨_, _, _, q⟩ := hs
    exact False.elim q
end L2

namespace L2
open PySem PySem.Spec PyProof.Rows
section
variable {X : Cx} {x : Str} {p pos : Pos} {e : Expr} {es : List Expr} {t : TA} {id T : String} {r : List V → Hp → VK → Prop}

def tCB (r : List V → Hp → VK → Prop) (t : TA) : TE := fun σ H Q => t σ H fun vs H1 => r vs H1 Q
/-- f(e, ..), f a built-in function -/
theorem pe_callB (hc : CallR X (.builtin id) r) (hg : Gl X x) (hm : X.mg x = none) (hv : bootBuiltins x = some (.builtin id)) (ha : PA X (e :: es) t) (hn : x ≠ "__name__" := by decide) (hdb : (x == ("__debug__" : Str)) = false := by decide)
    (he : starEach (e :: es) X.env = (false, eval e X.env) :: starEach es X.env := by rfl) (hpl : (backTo pos (starEach es X.env)).any (·.1) = false := by rfl) : PE X (.Call (.Name x p) (e :: es) [] pos) (tCB r t) := by
  intro pins s σ H Q I h
  refine wpAny_Call_Name_kw (ld_blt I hg hm hv ?_ hn hdb)
  exact PyProof.Rows.callWith_builtin1 (thn (ha pos pins s σ H _ I h) fun us s1 ⟨vs, H1, I1, r1, q1⟩ => hc pins s1 σ H1 vs us Q I1 r1 q1) he hpl
/-- T(e, ..), T a built-in type -/
theorem pe_callTy (hc : CallR X (.type T) r) (hg : Gl X x) (hm : X.mg x = none) (hv : bootBuiltins x = some (.type T)) (ha : PA X (e :: es) t) (hn : x ≠ "__name__" := by decide) (hdb : (x == ("__debug__" : Str)) = false := by decide)
    (he : starEach (e :: es) X.env = (false, eval e X.env) :: starEach es X.env := by rfl) (hpl : (backTo pos (starEach es X.env)).any (·.1) = false := by rfl) : PE X (.Call (.Name x p) (e :: es) [] pos) (tCB r t) := by
  intro pins s σ H Q I h
  refine wpAny_Call_Name_kw (ld_blt I hg hm hv ?_ hn hdb)
  exact PyProof.Rows.callWith_type1 (thn (ha pos pins s σ H _ I h) fun us s1 ⟨vs, H1, I1, r1, q1⟩ => hc pins s1 σ H1 vs us Q I1 r1 q1) he hpl
/-- T() -/
theorem pe_callTy0 (hc : CallR X (.type T) r) (hg : Gl X x) (hm : X.mg x = none) (hv : bootBuiltins x = some (.type T)) (hn : x ≠ "__name__" := by decide) (hdb : (x == ("__debug__" : Str)) = false := by decide) :
    PE X (.Call (.Name x p) [] [] pos) (tCB r tNil) := by
  intro pins s σ H Q I h
  refine wpAny_Call_Name_kw (ld_blt I hg hm hv ?_ hn hdb)
  exact PyProof.Rows.callWith_type0 (hc pins s σ H [] [] Q I .nil h)
end
end L2

namespace HT
open PySem PyProof.Rows

/-- t < u of tuples of ints -/
def lexLt : List Int → List Int → Bool
  | [], [] => false
  | [], _ :: _ => true
  | _ :: _, [] => false
  | x :: xs, y :: ys => if x = y then lexLt xs ys else decide (x < y)
theorem lexLt_cons (x y : Int) (xs ys : List Int) : lexLt (x :: xs) (y :: ys) = if x = y then lexLt xs ys else decide (x < y) := rfl
theorem lexLt_nil_nil : lexLt [] [] = false := rfl
theorem lexLt_nil_cons (y : Int) (ys : List Int) : lexLt [] (y :: ys) = true := rfl
theorem lexLt_cons_nil (x : Int) (xs : List Int) : lexLt (x :: xs) [] = false := rfl

theorem eqAt_int (A : Around) (s : Shared) (a : Int) (t : Tok) (c : Int) (u : Tok) : ∃ e, SeqAt.EqAt A s (.int a t) (.int c u) e ∧ (e = true ↔ a = c) :=
  ⟨(a == c), SeqAt.EqAt.int_int a t c u, by simp⟩
theorem rcLt_int (A : Around) (s : Shared) (a : Int) (t : Tok) (c : Int) (u : Tok) (prog : Program) (w : World) (E : Value → Shared → Prop) (Q : Value → Shared → Prop) (h : Q (.bool (decide (a < c))) s) :
    wpAny (model prog w) A (richCompare .Lt (.int a t) (.int c u)) Q E s :=
  (PyProof.Rows.lt_int h : wpAny (model prog w) A (compareOp .Lt (.int a t) (.int c u)) Q E s)

section
open PySem.SeqAt
open PySem.AutoSeq1 (wpAny_loadPart')
open PySem.MeetsSeq PySem.MeetsSeq2 PySem.MeetsSeq3

theorem tuple_lt_ints (l b : Addr) (items items2 : Array Value) (n n2 : Nat) (dd dd2 : Option Addr) (sl sl2 : Array (Option Value)) (ns ms : List Int) (hi : IntsAre items.toList ns) (hj : IntsAre items2.toList ms) :
    Meets (Builtin.«tuple.__lt__» ⟨[.ref l, .ref b], []⟩)
      (fun _ R s => s.heap.get? l = some { cls := .type "tuple", dict := dd, data := .seq items n, slots := sl } ∧ s.heap.get? b = some { cls := .type "tuple", dict := dd2, data := .seq items2 n2, slots := sl2 } ∧
        R (.ok (.ret (.bool (lexLt ns ms)))) s) :=
  .of_wp fun prog w A R s h => by
    obtain ⟨hp, g, d, tk, os⟩ := s; obtain ⟨hl, hb, h⟩ := h
    have f2 := AutoSeq1.sub_tuple_tuple
    have z1 : items.size = ns.length := by rw [← hi.length]; simp
    have z2 : items2.size = ms.length := by rw [← hj.length]; simp
    wp_walk using wpAny_loadPart' hl, wpAny_loadPart' hb, wpAny_forIn_list _ (fun rest b s' => b.1 = none ∧ s' = ⟨hp, g, d, tk, os⟩ ∧ ∃ (vs ws : List Value) (ns' ms' : List Int), rest = vs.zip ws ∧
      IntsAre vs ns' ∧ IntsAre ws ms' ∧ ns'.length + items2.size = ms'.length + items.size ∧ R (.ok (.ret (.bool (lexLt ns' ms')))) ⟨hp, g, d, tk, os⟩) _
    case turn =>
      rintro ⟨y, x⟩ rest b s' ⟨hb', rfl, vs, ws, ns', ms', hz, hvi, hwi, hlen, hR⟩
      cases hvi with
      | nil => rw [List.zip_nil_left] at hz; cases hz
      | cons a t hvi' =>
        cases hwi with
        | nil => rw [List.zip_nil_right] at hz; cases hz
        | cons c u hwi' =>
          rw [List.zip_cons_cons] at hz
          injection hz with hyx hrest
          injection hyx with hy hx
          subst hy hx
          rw [lexLt_cons] at hR
          simp only [List.length_cons] at hlen
          obtain ⟨e, he, hiff⟩ := eqAt_int A.in1 ⟨hp, g, d, tk, os⟩ a t c u
          refine wpAny_bind (he prog w _ _ ?_)
          cases e with
          | true =>
            rw [if_pos (hiff.mp rfl)] at hR
            wp_walk
            exact ⟨rfl, rfl, _, _, _, _, hrest, hvi', hwi', by omega, hR⟩
          | false =>
            rw [if_neg (fun q => absurd (hiff.mpr q) Bool.false_ne_true)] at hR
            have hri := rcLt_int A.in1 ⟨hp, g, d, tk, os⟩ a t c u prog w
            wp_walk using hri
            exact ⟨_, rfl, by simpa using hR⟩
    case fin =>
      rintro ⟨b1, b2⟩ s' ⟨hb', rfl, vs, ws, ns', ms', hz, hvi, hwi, hlen, hR⟩
      simp only at hb'
      subst hb'
      have hv : lexLt ns' ms' = decide (items.size < items2.size) := by
        cases hvi with
        | nil =>
          cases hwi with
          | nil =>
            simp only [List.length_nil] at hlen
            rw [lexLt_nil_nil]
            exact (decide_eq_false (by omega)).symm
          | cons c u hw =>
            simp only [List.length_nil, List.length_cons] at hlen
            rw [lexLt_nil_cons]
            exact (decide_eq_true (by omega)).symm
        | cons a t hv =>
          cases hwi with
          | nil =>
            simp only [List.length_nil, List.length_cons] at hlen
            rw [lexLt_cons_nil]
            exact (decide_eq_false (by omega)).symm
          | cons c u hw =>
            rw [List.zip_cons_cons] at hz
            cases hz
      rw [hv] at hR
      wp_walk
      exact ⟨_, rfl, by simpa [Builtin.Tuple.tupleCompareSizes] using hR⟩
    case h =>
      exact ⟨rfl, rfl, items.toList, items2.toList, ns, ms, rfl, hi, hj, by omega, h⟩
end

section
variable {prog : Program} {w : World} {A : Around} {E : Value → Shared → Prop} {s : Shared}

theorem lt_tupInts {l b : Addr} {items items2 : Array Value} {ns ms : List Int} {Q : Value → Shared → Prop} (hl : IsTup s.heap l items) (hb : IsTup s.heap b items2) (hi : IntsAre items.toList ns) (hj : IntsAre items2.toList ms)
    (hu : A.units < cLine) (h : Q (.bool (lexLt ns ms)) s) : wpAny (model prog w) A (compareOp .Lt (.ref l) (.ref b)) Q E s := by
  obtain ⟨⟨cls, dd, data, sl⟩, ho, hc, n, hd⟩ := id hl
  obtain ⟨⟨cls2, dd2, data2, sl2⟩, ho2, hc2, n2, hd2⟩ := id hb
  simp only at hc hd hc2 hd2
  subst hc hd hc2 hd2
  exact richCompare_meets_room (op := .Lt) ⟨_, ho, rfl⟩ ⟨_, ho2, rfl⟩ PySem.F.slot_tuple_lt PySem.F.entry_tuple_lt (PySem.F.args_tuple_lt_2 _ _) (tuple_lt_ints l b items items2 n n2 dd dd2 sl sl2 ns ms hi hj)
    ⟨ho, ho2, show Value.bool (lexLt ns ms) ≠ Value.notImplemented ∧ Q (.bool (lexLt ns ms)) s from ⟨(fun x => nomatch x), h⟩⟩ hu

/-- t + u, t not empty -/
theorem cat_tup {t b : Addr} {vs ws : List Value} {Q : Value → Shared → Prop} (ht : IsTup s.heap t vs.toArray) (hb : IsTup s.heap b ws.toArray) (hv : vs ≠ [])
    (h1 : ws = [] → Q (.ref t) s) (h2 : ws ≠ [] → Q (.ref s.heap.objs.size) { s with heap := s.heap.push { cls := .type "tuple", data := .seq (vs ++ ws).toArray } })
    (hsz : vs.length + ws.length ≤ sizeLine) : wpAny (model prog w) A (binaryOp .Add (.ref t) (.ref b)) Q E s := by
  obtain ⟨⟨cls, dd, data, sl⟩, ho, hc, n, hd⟩ := id ht
  obtain ⟨⟨cls2, dd2, data2, sl2⟩, ho2, hc2, n2, hd2⟩ := id hb
  simp only at hc hd hc2 hd2
  subst hc hd hc2 hd2
  have e : vs.toArray ++ ws.toArray = (vs ++ ws).toArray := by simp
  by_cases hw : ws = []
  · exact concat_meets ⟨_, ho, rfl⟩ ⟨_, ho2, rfl⟩ noFill_tuple_add seq_tuple_add PySem.F.slot_tuple_add PySem.F.entry_tuple_add (PySem.F.args_tuple_add_2 _ _)
      (tuple_addW1 t b vs.toArray ws.toArray n n2 dd dd2 sl sl2 (by simpa using hv) (by simp [hw])) ⟨ho, ho2, h1 hw⟩
  · refine concat_meets ⟨_, ho, rfl⟩ ⟨_, ho2, rfl⟩ noFill_tuple_add seq_tuple_add PySem.F.slot_tuple_add PySem.F.entry_tuple_add (PySem.F.args_tuple_add_2 _ _)
      (tuple_addW2 t b vs.toArray ws.toArray n n2 dd dd2 sl sl2 (by simpa using hv) (by simpa using hw) (by rw [List.size_toArray, List.size_toArray]; exact hsz)) ⟨ho, ho2, ?_⟩
    rw [e]
    exact h2 hw

/-! ### t[a:b], not the whole -/
/-- a slice's bound as a place among n (d where it is left out) -/
def sIx (n d : Nat) : Option Int → Nat
  | none => d
  | some v => if v < 0 then (v + (n : Int)).toNat else min v.toNat n
theorem sIx_none (n d : Nat) : sIx n d none = d := rfl
theorem sIx_nat (n d k : Nat) : sIx n d (some (k : Int)) = min k n := by
  show (if (k : Int) < 0 then ((k : Int) + (n : Int)).toNat else min (k : Int).toNat n) = min k n
  rw [if_neg (by omega), Int.toNat_natCast]
theorem sIx_le (n d : Nat) (hd : d ≤ n) (o : Option Int) : sIx n d o ≤ n := by
  cases o with
  | none => exact hd
  | some v =>
    show (if v < 0 then (v + (n : Int)).toNat else min v.toNat n) ≤ n
    by_cases hv : v < 0
    · rw [if_pos hv]; omega
    · rw [if_neg hv]; exact Nat.min_le_right _ _
theorem clip_eq (v : Int) (n d : Nat) : (if v < 0 then max (v + (n : Int)) 0 else min v (n : Int)) = ((sIx n d (some v) : Nat) : Int) := by
  show (if v < 0 then max (v + (n : Int)) 0 else min v (n : Int)) = (((if v < 0 then (v + (n : Int)).toNat else min v.toNat n) : Nat) : Int)
  by_cases hv : v < 0
  · simp only [if_pos hv]; omega
  · simp only [if_neg hv]; omega
theorem adjust_gen (lo hi : Option Int) (n : Nat) : Builtin.Slice.sliceAdjust lo hi 1 (n : Int) = (((sIx n 0 lo : Nat) : Int), ((sIx n n hi : Nat) : Int)) := by
  have h1 : ¬ ((1 : Int) < 0) := by omega
  unfold Builtin.Slice.sliceAdjust
  simp only [h1, if_false]
  refine Prod.ext ?_ ?_
  · cases lo with
    | none => rfl
    | some v => exact clip_eq v n 0
  · cases hi with
    | none => rfl
    | some v => exact clip_eq v n n
theorem places_gen (i j : Nat) : Builtin.Slice.slicePlaces (i : Int) (j : Int) 1 = j - i := by
  unfold Builtin.Slice.slicePlaces
  have h1 : (1 : Int) > 0 := by omega
  simp only [h1, if_true, Int.ediv_one]
  split <;> omega
theorem slicePart_ {v : Value} {o : Option Int} {Q : Option Int → Shared → Prop} (p : IsPart v o) (h : Q o s) : wpAny (model prog w) A (Builtin.Slice.slicePartIndex v) Q E s := by
  cases p with
  | none => exact slicePart_none h
  | int i t => exact slicePart_int h
theorem sliceApplied_gen {sl : Addr} {vl vu : Value} {lo hi : Option Int} {n : Nat} {Q : Int × Int × Nat → Shared → Prop} (hs : s.heap.IsSliceOf sl vl vu .none) (pl : IsPart vl lo) (pu : IsPart vu hi)
    (h : Q (((sIx n 0 lo : Nat) : Int), 1, sIx n n hi - sIx n 0 lo) s) : wpAny (model prog w) A (Builtin.Slice.sliceApplied (.ref sl) (pure (n : Int))) Q E s := by
  obtain ⟨os, hos, hcs, hds⟩ := id hs
  unfold Builtin.Slice.sliceApplied Builtin.Slice.sliceFields
  refine wpAny_bind (wpAny_bind (wpAny_field hos hds (x := vl) rfl (wpAny_bind (wpAny_field hos hds (x := vu) rfl (wpAny_bind (wpAny_field hos hds (x := .none) rfl (wpAny_pure ?_)))))))
  refine wpAny_bind (slicePart_none ?_)
  show wpAny _ _ (if ((1 : Int) == 0) = true then _ else _) _ _ s
  rw [if_neg (by decide)]
  refine wpAny_bind (slicePart_ pl (wpAny_bind (slicePart_ pu (wpAny_bind (wpAny_pure ?_)))))
  show wpAny _ _ (match Builtin.Slice.sliceAdjust lo hi 1 (n : Int) with | (lo, hi) => pure (lo, (1 : Int), Builtin.Slice.slicePlaces lo hi 1)) _ _ s
  rw [adjust_gen lo hi n]
  show wpAny _ _ (pure (((sIx n 0 lo : Nat) : Int), (1 : Int), Builtin.Slice.slicePlaces ((sIx n 0 lo : Nat) : Int) ((sIx n n hi : Nat) : Int) 1)) _ _ s
  rw [places_gen]
  exact wpAny_pure h
theorem pick_gen (xs : Array Value) (i k : Nat) : ((List.range k).filterMap fun (m : Nat) => xs[((i : Int) + (m : Int) * 1).toNat]?).toArray = ((xs.toList.drop i).take k).toArray := by
  have e : (fun (m : Nat) => xs[((i : Int) + (m : Int) * 1).toNat]?) = fun m => xs[i + m]? := by
    funext m
    have : ((i : Int) + (m : Int) * 1).toNat = i + m := by omega
    rw [this]
  rw [e]
  have := pick_run xs i k
  rw [List.filterMap_map] at this
  have e2 : ((fun x => xs[x]?) ∘ fun x => i + x) = fun m => xs[i + m]? := rfl
  rw [e2] at this
  rw [this]

theorem getItem_tuple_cut {t sl : Addr} {items : Array Value} {vl vu : Value} {lo hi : Option Int} {Q : Value → Shared → Prop} (ht : IsTup s.heap t items) (hs : s.heap.IsSliceOf sl vl vu .none) (pl : IsPart vl lo) (pu : IsPart vu hi)
    (hw : ¬ (sIx items.size 0 lo = 0 ∧ sIx items.size items.size hi = items.size))
    (h : Q (.ref s.heap.objs.size) { s with heap := s.heap.push { cls := .type "tuple", data := .seq ((items.toList.drop (sIx items.size 0 lo)).take (sIx items.size items.size hi - sIx items.size 0 lo)).toArray } })
    (hsz : items.size ≤ sizeLine) : wpAny (model prog w) A (getItem (.ref t) (.ref sl)) Q E s := by
  have htake : sizeOk (.seq ((items.toList.drop (sIx items.size 0 lo)).take (sIx items.size items.size hi - sIx items.size 0 lo)).toArray) := by
    show ((items.toList.drop (sIx items.size 0 lo)).take (sIx items.size items.size hi - sIx items.size 0 lo)).toArray.size ≤ sizeLine
    rw [List.size_toArray, List.length_take, List.length_drop, Array.length_toList]
    omega
  have hj : sIx items.size items.size hi ≤ items.size := sIx_le _ _ (Nat.le_refl _) hi
  obtain ⟨os, hos, hcs, hds⟩ := id hs
  have hTs : s.TypeIs (.ref sl) "slice" := ⟨os, hos, hcs⟩
  unfold getItem
  try with_reducible refine wpAny_holding ?_
  first | refine wpAny_bind (wpAny_pure ?_) | skip
  refine wpAny_bind (wpAny_sequenceKey ht.typeIs (by decide) ?_)
  refine wpAny_bind (wpAny_callSpecial?_slot (name := Str.ofString "__getitem__") ht.typeIs PyProof.Rows.slot_tuple_getitem
    (wpAny_call_entry PyProof.Rows.slot_tuple_getitem ht.typeIs entry_tuple_getitem ?_ (args_tuple_getitem _ _)))
  show wpAny _ _ (Builtin.Tuple.tupleItemsOf (.ref t) >>= _) _ _ s
  refine wpAny_bind (tupleItemsOf_ ht ?_)
  refine wpAny_bind (wpAny_typeOf hTs ?_)
  rw [if_pos (by decide)]
  refine wpAny_bind (sliceApplied_gen hs pl pu ?_)
  have hno : ¬ ((((sIx items.size 0 lo : Nat) : Int) == 0 && (1 : Int) == 1 && (sIx items.size items.size hi - sIx items.size 0 lo) == items.size) = true) := by
    intro q
    rw [Bool.and_eq_true, Bool.and_eq_true] at q
    have q1 : ((sIx items.size 0 lo : Nat) : Int) = 0 := eq_of_beq q.1.1
    have q2 : sIx items.size items.size hi - sIx items.size 0 lo = items.size := eq_of_beq q.2
    exact hw ⟨by omega, by omega⟩
  show wpAny _ _ (if (((sIx items.size 0 lo : Nat) : Int) == 0 && (1 : Int) == 1 && (sIx items.size items.size hi - sIx items.size 0 lo) == items.size) = true then _ else _) _ _ s
  rw [if_neg hno, pick_gen]
  first
    | exact wpAny_bind (m := Builtin.Tuple.tupleExact _) (wpAny_newObj_type (wpAny_pure ⟨_, rfl, wpAny_pure h⟩) htake)
    | exact wpAny_bind (m := Builtin.Tuple.tupleExact _) (wpAny_newObj_type (wpAny_bind (wpAny_pure (wpAny_pure ⟨_, rfl, wpAny_pure h⟩))) htake)
    | exact wpAny_bind (wpAny_bind (m := Builtin.Tuple.tupleExact _) (wpAny_newObj_type (wpAny_pure (wpAny_pure ⟨_, rfl, wpAny_pure h⟩)) htake))
    | exact wpAny_bind (wpAny_bind (m := Builtin.Tuple.tupleExact _) (wpAny_newObj_type (wpAny_pure ⟨_, rfl, wpAny_pure h⟩) htake))
end
end HT

namespace L2
open PySem PySem.Spec PyProof.Rows

/-! ### the parts of a slice -/
abbrev TO := St → Hp → (Option Int → Hp → Prop) → Prop
/-- a slice's part (left out, or an int) -/
def PO (X : Cx) (e : Option Expr) (t : TO) : Prop :=
  ∀ (pins : List (Addr × Obj)) (s : Shared) (σ : St) (H : Hp) (Q : Option Int → Hp → Prop), Inv X pins σ H s → t σ H Q →
    wpAny (model X.prog X.w) X.A (evalPart e X.env) (fun u s' => ∃ o H', Inv X pins σ H' s' ∧ IsPart u o ∧ Q o H') X.xe s
def tNoPart : TO := fun _ H Q => Q none H
def tPart (t : TE) : TO := fun σ H Q => t σ H fun x H1 => ∃ i, x = .int i ∧ Q (some i) H1

theorem intsAre_of {ns : List Int} : ∀ {us : List Value}, Vals (ns.map V.int) us → IntsAre us ns := by
  induction ns with
  | nil => intro us r; rw [List.map_nil] at r; cases r; exact .nil
  | cons n ns ih =>
    intro us r
    rw [List.map_cons] at r
    cases r with
    | cons r1 r2 =>
      obtain ⟨t, e⟩ := r1
      subst e
      exact .cons n t (ih r2)

section
variable {X : Cx} {e : Expr} {te : TE} {lo hi : Option Expr} {tl th : TO} {pos p2 : Pos}

theorem po_none : PO X none tNoPart := by
  intro pins s σ H Q I h
  rw [evalPart_none]
  exact wpAny_pure ⟨none, H, I, .none, h⟩
theorem po_some (h : PE X e te) : PO X (some e) (tPart te) := by
  intro pins s σ H Q I hw
  rw [evalPart_some]
  refine thn (h pins s σ H _ I hw) fun u s1 ⟨x, H1, I1, r1, q1⟩ => ?_
  obtain ⟨i, rfl, q⟩ := q1
  obtain ⟨t, rfl⟩ := r1
  exact ⟨some i, H1, I1, .int i t, q⟩

/-- what a slice of a value is, by values: the slice object stands at sl -/
def SlR (X : Cx) (r : V → Option Int → Option Int → Hp → VK → Prop) : Prop :=
  ∀ (pins : List (Addr × Obj)) (s : Shared) (σ : St) (H : Hp) (x : V) (v vl vu : Value) (lo hi : Option Int) (sl : Addr) (Q : VK), Inv X pins σ H s → RelV x v → s.heap.IsSliceOf sl vl vu .none → IsPart vl lo → IsPart vu hi → r x lo hi H Q →
    ∃ T id, typeLookup (.type T) "__getitem__" = pure (some (.builtin id)) ∧ s.TypeIs v T ∧ wpAny (model X.prog X.w) X.A (getItem v (.ref sl)) (EP X pins σ Q) X.xe s
theorem SlR.or {r r' : V → Option Int → Option Int → Hp → VK → Prop} (h : SlR X r) (h' : SlR X r') : SlR X (fun x lo hi H Q => r x lo hi H Q ∨ r' x lo hi H Q) := by
  intro pins s σ H x v vl vu lo hi sl Q I rx hs pl pu q
  rcases q with q | q
  · exact h pins s σ H x v vl vu lo hi sl Q I rx hs pl pu q
  · exact h' pins s σ H x v vl vu lo hi sl Q I rx hs pl pu q
def tSl (r : V → Option Int → Option Int → Hp → VK → Prop) (te : TE) (tl th : TO) : TE := fun σ H Q => te σ H fun x H1 => tl σ H1 fun l H2 => th σ H2 fun u H3 => r x l u H3 Q
/-- a[lo:hi], any a -/
theorem pe_slice {r : V → Option Int → Option Int → Hp → VK → Prop} (hr : SlR X r) (he : PE X e te) (hl : PO X lo tl) (hu : PO X hi th) : PE X (.Subscript e (.Slice lo hi none p2) pos) (tSl r te tl th) := by
  intro pins s σ H Q I h
  refine Subscript_ (thn (he pins s σ H _ I h) fun v s1 ⟨x, H1, I1, r1, q1⟩ => ?_)
  refine wpAny_Slice (thn (hl pins s1 σ H1 _ I1 q1) fun vl s2 ⟨l, H2, I2, pl, q2⟩ => thn (hu pins s2 σ H2 _ I2 q2) fun vu s3 ⟨u, H3, I3, pu, q3⟩ => ?_)
  rw [evalPart_none]
  refine wpAny_pure ?_
  have I4 : Inv X pins σ H3 { s3 with heap := s3.heap.push { cls := .type "slice", data := .fields #[vl, vu, .none] } } := I3.kept (t' := s3.toks) fun b ob q => Heap.get?_push_of_some _ q
  obtain ⟨T, id, hT, ht, hg⟩ := hr pins { s3 with heap := s3.heap.push { cls := .type "slice", data := .fields #[vl, vu, .none] } } σ H3 x v vl vu l u s3.heap.objs.size Q I4 r1 (Heap.IsSliceOf.new ..) pl pu q3
  show wpAny (model X.prog X.w) X.A (subscriptTail e (.Slice lo hi none p2) v (.ref s3.heap.objs.size)) (EP X pins σ Q) X.xe { s3 with heap := s3.heap.push { cls := .type "slice", data := .fields #[vl, vu, .none] } }
  exact tail_any (ops := [.ref s3.heap.objs.size, v]) ht hT hg (by with_unfolding_all rfl)

/-- the items of xs[lo:hi] -/
def cutV (xs : List V) (lo hi : Option Int) : List V := (xs.drop (HT.sIx xs.length 0 lo)).take (HT.sIx xs.length xs.length hi - HT.sIx xs.length 0 lo)
theorem cutV_length (xs : List V) (lo hi : Option Int) : (cutV xs lo hi).length ≤ xs.length := by
  unfold cutV
  rw [List.length_take, List.length_drop]
  omega
/-- t[lo:hi], not the whole of it (the whole would be t itself) -/
def rSlT (K : PySem.W.Frag) : V → Option Int → Option Int → Hp → VK → Prop := fun x lo hi H Q => ∃ a xs, x = .ref a ∧ SqT K H a xs ∧
  ¬ (HT.sIx xs.length 0 lo = 0 ∧ HT.sIx xs.length xs.length hi = xs.length) ∧ ∀ p, H p = none → Q (.ref p) (upd H p (.tup (cutV xs lo hi)))
theorem sl_tup : SlR X (rSlT X.K) := by
  intro pins s σ H x v vl vu lo hi sl Q I rx hs pl pu h
  obtain ⟨a, xs, rfl, hx, hw, q⟩ := h
  cases rx
  obtain ⟨its, r, ht, hz⟩ := I.tuple hx
  have hlen : its.toArray.size = xs.length := by rw [List.size_toArray]; exact r.length.symm
  refine ⟨"tuple", _, PyProof.Rows.slot_tuple_getitem.lookup, ht.typeIs, ?_⟩
  refine HT.getItem_tuple_cut ht hs pl pu (by rw [hlen]; exact hw) ?_ (by rw [hlen]; exact hz)
  rw [hlen]
  refine ⟨.ref s.heap.objs.size, _, I.laid (t' := s.toks) (o := .tup (cutV xs lo hi)) (fun b ob q => Heap.get?_push_of_some _ q) (Nat.le_refl _) ?_, rfl, q _ (I.hok.fresh (Nat.le_refl _))⟩
  exact ⟨Nat.le_trans (cutV_length xs lo hi) hz, _, (r.drop (HT.sIx xs.length 0 lo)).take (HT.sIx xs.length xs.length hi - HT.sIx xs.length 0 lo), IsTup.new _ _⟩

/-! ### t < u, t + u -/
def rLtT (K : PySem.W.Frag) : R2 := fun x y H Q => ∃ a b ns ms, x = .ref a ∧ y = .ref b ∧ SqT K H a (ns.map V.int) ∧ SqT K H b (ms.map V.int) ∧ Q (.bl (HT.lexLt ns ms)) H
theorem op_ltT (hu : X.A.units < cLine) : OpR X (compareOp .Lt) (rLtT X.K) := by
  intro pins s σ H x y v u Q I rx ry h
  obtain ⟨a, b, ns, ms, rfl, rfl, ha, hb, q⟩ := h
  cases rx
  cases ry
  obtain ⟨its, r1, p1, _⟩ := I.tuple ha
  obtain ⟨its2, r2, p2, _⟩ := I.tuple hb
  have i1 : IntsAre its.toArray.toList ns := intsAre_of r1
  have i2 : IntsAre its2.toArray.toList ms := intsAre_of r2
  exact HT.lt_tupInts p1 p2 i1 i2 hu ⟨.bl (HT.lexLt ns ms), H, I, rfl, q⟩
/-- t + u, t not empty: u empty gives t itself -/
def rCatT (K : PySem.W.Frag) : R2 := fun x y H Q => ∃ a b xs ys, x = .ref a ∧ y = .ref b ∧ SqT K H a xs ∧ SqT K H b ys ∧ xs ≠ [] ∧ xs.length + ys.length ≤ sizeLine ∧
  (ys = [] → Q (.ref a) H) ∧ (ys ≠ [] → ∀ p, H p = none → Q (.ref p) (upd H p (.tup (xs ++ ys))))
theorem Vals.nil_iff {xs : List V} {us : List Value} (r : Vals xs us) : us = [] ↔ xs = [] := by
  cases r with
  | nil => simp
  | cons _ _ => simp
theorem op_catT : OpR X (binaryOp .Add) (rCatT X.K) := by
  intro pins s σ H x y v u Q I rx ry h
  obtain ⟨a, b, xs, ys, rfl, rfl, ha, hb, hx, hz, q1, q2⟩ := h
  cases rx
  cases ry
  obtain ⟨its, r1, p1, _⟩ := I.tuple ha
  obtain ⟨its2, r2, p2, _⟩ := I.tuple hb
  refine HT.cat_tup p1 p2 (fun z => hx (r1.nil_iff.mp z)) (fun z => ⟨.ref a, H, I, rfl, q1 (r2.nil_iff.mp z)⟩) (fun z => ?_) (by rw [← r1.length, ← r2.length]; exact hz)
  refine ⟨.ref s.heap.objs.size, _, I.laid (t' := s.toks) (o := .tup (xs ++ ys)) (fun b ob q => Heap.get?_push_of_some _ q) (Nat.le_refl _) ?_, rfl, q2 (fun w => z (r2.nil_iff.mpr w)) _ (I.hok.fresh (Nat.le_refl _))⟩
  exact ⟨by rw [List.length_append]; exact hz, _, r1.append r2, IsTup.new _ _⟩
/-- tuple(t) -/
theorem call_tupleT : CallR X (.type "tuple") (fun xs H Q => ∃ a ys, xs = [.ref a] ∧ SqT X.K H a ys ∧ Q (.ref a) H) := by
  intro pins s σ H xs us Q I r h
  obtain ⟨a, ys, rfl, ha, q⟩ := h
  obtain ⟨u, rfl, ru⟩ := vals1 r
  cases ru
  obtain ⟨its, _, p1, _⟩ := I.tuple ha
  exact call_tuple_same (items := its.toArray) p1 ⟨.ref a, H, I, rfl, q⟩
end
end L2

namespace L2
open PySem PySem.Spec PyProof.Rows

/-! ### places -/
/-- the place that an index of any sign means -/
def ixN (n : Nat) (i : Int) : Option Nat := if 0 ≤ i then (if i < n then some i.toNat else none) else if -(n : Int) ≤ i then some (i + n).toNat else none
def atI {α : Type} (xs : List α) (i : Int) : Option α := (ixN xs.length i).bind fun j => xs[j]?
theorem ixN_seq {n : Nat} {i : Int} {j : Nat} (h : ixN n i = some j) : seqIndex? i n = some j ∧ j < n ∧ -(n : Int) ≤ i ∧ i < n := by
  unfold ixN at h
  by_cases h0 : 0 ≤ i
  · rw [if_pos h0] at h
    by_cases h1 : i < n
    · rw [if_pos h1] at h
      have e : i.toNat = j := Option.some.inj h
      exact ⟨by rw [seqIndex_of h0 h1, e], by omega, by omega, h1⟩
    · rw [if_neg h1] at h; cases h
  · rw [if_neg h0] at h
    by_cases h1 : -(n : Int) ≤ i
    · rw [if_pos h1] at h
      have e : (i + n).toNat = j := Option.some.inj h
      exact ⟨by rw [seqIndex_neg (by omega) h1, e], by omega, h1, by omega⟩
    · rw [if_neg h1] at h; cases h
theorem atI_get {α : Type} {xs : List α} {i : Int} {v : α} (h : atI xs i = some v) : ∃ j, seqIndex? i xs.length = some j ∧ xs[j]? = some v ∧ j < xs.length ∧ -(xs.length : Int) ≤ i ∧ i < xs.length := by
  unfold atI at h
  cases e : ixN xs.length i with
  | none => rw [e] at h; cases h
  | some j =>
    rw [e] at h
    obtain ⟨h1, h2, h3, h4⟩ := ixN_seq e
    exact ⟨j, h1, h, h2, h3, h4⟩
theorem atI_nat {α : Type} {xs : List α} {j : Nat} {v : α} (h : xs[j]? = some v) : atI xs (j : Int) = some v := by
  have hj : j < xs.length := (List.getElem?_eq_some_iff.mp h).1
  have e : ixN xs.length (j : Int) = some j := by
    unfold ixN
    rw [if_pos (by omega), if_pos (by omega)]; simp
  unfold atI; rw [e]; exact h
theorem atI_last {α : Type} (xs : List α) (v : α) : atI (xs ++ [v]) (-1) = some v := by
  have hl : (xs ++ [v]).length = xs.length + 1 := by simp
  have e : ixN (xs ++ [v]).length (-1) = some xs.length := by
    unfold ixN
    rw [hl, if_neg (by decide), if_pos (by omega)]
    congr 1
    omega
  unfold atI
  rw [e]
  show (xs ++ [v])[xs.length]? = some v
  simp

/-! ### what may be subscripted -/
/-- what stands as an index of a plain subscript -/
def PlainIx (b : Expr) : Prop := ∀ o i, subscripted b false o i = operate [o, i] (getItem o i)
/-- a subscript by values -/
def IxR (X : Cx) (r : R2) : Prop :=
  ∀ (value slice : Expr) (pins : List (Addr × Obj)) (s : Shared) (σ : St) (H : Hp) (x y : V) (v u : Value) (Q : VK), Inv X pins σ H s → RelV x v → RelV y u → r x y H Q →
    subscripted slice false v u = operate [v, u] (getItem v u) → wpAny (model X.prog X.w) X.A (subscriptTail value slice v u) (EP X pins σ Q) X.xe s
/-- a call of a builtin's method by values: the receiver, the arguments -/
def MtR (X : Cx) (id : String) (r : V → List V → Hp → VK → Prop) : Prop :=
  ∀ (pins : List (Addr × Obj)) (s : Shared) (σ : St) (H : Hp) (x : V) (xs : List V) (v : Value) (us : List Value) (Q : VK), Inv X pins σ H s → RelV x v → Vals xs us → r x xs H Q →
    wpAny (model X.prog X.w) X.A (call (.builtin id) (v :: us)) (EP X pins σ Q) X.xe s
section
variable {X : Cx} {a b : Expr} {ta tb : TE} {pos : Pos}
theorem IxR.or {r r' : R2} (h : IxR X r) (h' : IxR X r') : IxR X (fun x y H Q => r x y H Q ∨ r' x y H Q) := by
  intro value slice pins s σ H x y v u Q I rx ry q hs
  rcases q with q | q
  · exact h value slice pins s σ H x y v u Q I rx ry q hs
  · exact h' value slice pins s σ H x y v u Q I rx ry q hs
theorem MtR.or {id : String} {r r' : V → List V → Hp → VK → Prop} (h : MtR X id r) (h' : MtR X id r') : MtR X id (fun x xs H Q => r x xs H Q ∨ r' x xs H Q) := by
  intro pins s σ H x xs v us Q I rx rs q
  rcases q with q | q
  · exact h pins s σ H x xs v us Q I rx rs q
  · exact h' pins s σ H x xs v us Q I rx rs q
/-- a[b] -/
theorem pe_ix {r : R2} (hr : IxR X r) (ha : PE X a ta) (hb : PE X b tb) (hs : PlainIx b) : PE X (.Subscript a b pos) (tOp r ta tb) := by
  intro pins s σ H Q I h
  exact Subscript_ (binT ha hb I h fun v u s2 x y H2 I2 rx ry q => hr a b pins s2 σ H2 x y v u Q I2 rx ry q (hs _ _))

def rIxL (K : PySem.W.Frag) : R2 := fun x y H Q => ∃ p xs i v, x = .ref p ∧ y = .int i ∧ SqL K H p xs ∧ atI xs i = some v ∧ Q v H
def rIxT (K : PySem.W.Frag) : R2 := fun x y H Q => ∃ p xs i v, x = .ref p ∧ y = .int i ∧ SqT K H p xs ∧ atI xs i = some v ∧ Q v H
def rIxS : R2 := fun x y H Q => ∃ z i c, x = .str z ∧ y = .int i ∧ z.length ≤ sizeLine ∧ atI z.cps.toList i = some c ∧ Q (.str ⟨#[c]⟩) H
theorem ix_list : IxR X (rIxL X.K) := by
  intro value slice pins s σ H x y v u Q I rx ry h hs
  obtain ⟨p, xs, i, z, rfl, rfl, hq, he, q⟩ := h
  cases rx
  obtain ⟨t, rfl⟩ := ry
  obtain ⟨its, r, pl, hz⟩ := I.list hq
  obtain ⟨j, h1, h2, h3, h4, h5⟩ := atI_get he
  obtain ⟨w, ew, rw'⟩ := r.get h2
  have hl := r.length
  have hn := line63
  have fin : EP X pins σ Q w s := ⟨z, H, I, rw', q⟩
  by_cases h0 : 0 ≤ i
  · have hj : i.toNat = j := by
      rw [seqIndex_of h0 h5] at h1
      exact Option.some.inj h1
    exact item_listR pl.isList h0 (by omega) (by rw [hj]; simpa using ew) fin hs
  · have hj : (i + (its.toArray.size : Int)).toNat = j := by
      rw [seqIndex_neg (by omega) h4] at h1
      rw [List.size_toArray, ← hl]
      exact Option.some.inj h1
    exact subscriptTail_builtinR (x := w) pl.isList.typeIs slot_list_getitem.lookup
      (wpAny_getItem_list_neg (Q := fun r s' => r = w ∧ EP X pins σ Q r s') pl.isList (by omega) (by rw [List.size_toArray] <;> omega) (by omega) (by rw [hj]; simpa using ew) ⟨rfl, fin⟩) hs
theorem ix_tup : IxR X (rIxT X.K) := by
  intro value slice pins s σ H x y v u Q I rx ry h hs
  obtain ⟨p, xs, i, z, rfl, rfl, hq, he, q⟩ := h
  cases rx
  obtain ⟨t, rfl⟩ := ry
  obtain ⟨its, r, pl, hz⟩ := I.tuple hq
  obtain ⟨j, h1, h2, h3, h4, h5⟩ := atI_get he
  obtain ⟨w, ew, rw'⟩ := r.get h2
  have hl := r.length
  have hn := line63
  have fin : EP X pins σ Q w s := ⟨z, H, I, rw', q⟩
  exact subscriptTail_builtinR (x := w) pl.typeIs slot_tuple_getitem.lookup
    (getItem_tuple (j := j) (Q := fun r s' => r = w ∧ EP X pins σ Q r s') pl (by omega) (by omega) (by rw [List.size_toArray, ← hl]; exact h1) (by simpa using ew) ⟨rfl, fin⟩) hs
theorem ix_str : IxR X rIxS := by
  intro value slice pins s σ H x y v u Q I rx ry h hs
  obtain ⟨z, i, c, rfl, rfl, hz, he, q⟩ := h
  obtain ⟨t, rfl⟩ := rx
  obtain ⟨t', rfl⟩ := ry
  obtain ⟨j, h1, h2, h3, h4, h5⟩ := atI_get he
  have hl : z.cps.toList.length = z.length := by simp [Str.length]
  rw [hl] at h1 h4 h5
  have hn := line63
  exact tail_any (typeIs_str s z t) slot_str_getitem.lookup (getItem_str (c := c) (by
    have e1 : decide (i < -(2 ^ 63 : Int)) = false := decide_eq_false (by omega)
    have e2 : decide (i ≥ 2 ^ 63) = false := decide_eq_false (by omega)
    rw [e1, e2, Bool.or_false]) (by rw [h1]; simpa using h2) ⟨.str ⟨#[c]⟩, H, I.tok _, ⟨_, rfl⟩, q⟩) hs
/-- list, tuple or str -/
def rIx (K : PySem.W.Frag) : R2 := fun x y H Q => rIxL K x y H Q ∨ rIxT K x y H Q ∨ rIxS x y H Q
theorem ix_seq : IxR X (rIx X.K) := ix_list.or (ix_tup.or ix_str)

/-! ### xs[i] = v, any sign -/
/-- the list's object behind a store -/
theorem mapSeq_set (its : List Value) (n j : Nat) (u : Value) : Obj.mapSeq (·.setIfInBounds j u) { cls := .type "list", data := .seq its.toArray n } = { cls := .type "list", data := .seq (its.set j u).toArray n } := by
  simp [Obj.mapSeq]
theorem Inv.lst {pins : List (Addr × Obj)} {σ : St} {H : Hp} {s : Shared} {p : Addr} {xs : List V} (I : Inv X pins σ H s) (h : H p = some (.lst xs)) :
    ∃ (its : List Value) (n : Nat), Vals xs its ∧ s.heap.get? p = some { cls := .type "list", data := .seq its.toArray n } ∧ xs.length ≤ sizeLine := by
  obtain ⟨z, its, n, r, e⟩ := I.hok p _ h
  exact ⟨its, n, r, e, z⟩
/-- the list at p is written by an update of its object -/
theorem Inv.lstUpd {pins : List (Addr × Obj)} {σ : St} {H : Hp} {s : Shared} {p : Addr} {xs ys : List V} {its its' : List Value} {n n' : Nat} {f : Obj → Obj} (I : Inv X pins σ H s) (h : H p = some (.lst xs))
    (ho : s.heap.get? p = some { cls := .type "list", data := .seq its.toArray n }) (hf : f { cls := .type "list", data := .seq its.toArray n } = { cls := .type "list", data := .seq its'.toArray n' }) (r : Vals ys its') (hz : ys.length ≤ sizeLine) (t : Nat) :
    Inv X pins σ (upd H p (.lst ys)) { s with heap := s.heap.update p f, toks := t } := by
  have e : (s.heap.update p f).get? p = some { cls := .type "list", data := .seq its'.toArray n' } := by
    rw [Heap.get?_update_self f ho (by rw [hf] <;> rfl), hf]
  refine I.write (x := p) (e := p) (by rw [h]; trivial) (.inl rfl) (fun b u hb q => (Heap.get?_update_other _ _ (Ne.symm hb)).trans q) ⟨_, e⟩ ?_
  exact ⟨hz, its', n', r, e⟩
def rSetL : V → V → V → Hp → (Hp → Prop) → Prop := fun o i v H Q => ∃ p xs k j, o = .ref p ∧ i = .int k ∧ H p = some (.lst xs) ∧ ixN xs.length k = some j ∧ Q (upd H p (.lst (xs.set j v)))
theorem set_list : PSet X rSetL := by
  intro pins s σ H o i v ov iv u Q I ro ri rv h
  obtain ⟨p, xs, k, j, rfl, rfl, hp, hj, q⟩ := h
  cases ro
  obtain ⟨t, rfl⟩ := ri
  obtain ⟨its, n, r, ho, hz⟩ := I.lst hp
  obtain ⟨h1, h2, h3, h4⟩ := ixN_seq hj
  have hl := r.length
  have hn := line63
  have I' : Inv X pins σ (upd H p (.lst (xs.set j v))) { s with heap := s.heap.update p (Obj.mapSeq (·.setIfInBounds j u)) } :=
    I.lstUpd hp ho (mapSeq_set its n j u) (r.set rv j) (by rw [List.length_set]; exact hz) s.toks
  by_cases h0 : 0 ≤ k
  · have hk : k.toNat = j := by
      rw [seqIndex_of h0 h4] at h1
      exact Option.some.inj h1
    exact PySem.W.ki_setAt ho h0 (by omega) (by rw [List.size_toArray, ← hl]; exact h4) (by rw [hk]; exact ⟨_, I', q⟩)
  · have hk : (k + (its.toArray.size : Int)).toNat = j := by
      rw [seqIndex_neg (by omega) h3] at h1
      rw [List.size_toArray, ← hl]
      exact Option.some.inj h1
    exact PySem.W.ki_setBack ho (by omega) (by rw [List.size_toArray, ← hl]; exact h3) (by omega) (by rw [hk]; exact ⟨_, I', q⟩)

/-! ### slices -/
theorem slice_bounds (lo hi : Option Int) (n : Nat) : (sliceBounds lo hi none n).1 = ((HT.sIx n 0 lo : Nat) : Int) ∧ (sliceBounds lo hi none n).2.1 = ((HT.sIx n n hi : Nat) : Int) ∧ (sliceBounds lo hi none n).2.2 = 1 := by
  refine ⟨?_, ?_, rfl⟩
  · cases lo with
    | none => simp [sliceBounds, HT.sIx]
    | some i =>
      simp only [sliceBounds, HT.sIx, Option.getD_none, show (1 : Int) > 0 by decide, if_true]
      by_cases h : i < 0
      · simp only [h, if_true] <;> omega
      · simp only [h, if_false] <;> omega
  · cases hi with
    | none => simp [sliceBounds, HT.sIx]
    | some i =>
      simp only [sliceBounds, HT.sIx, Option.getD_none, show (1 : Int) > 0 by decide, if_true]
      by_cases h : i < 0
      · simp only [h, if_true] <;> omega
      · simp only [h, if_false] <;> omega
theorem slicePick_cut (its : List Value) (lo hi : Option Int) : slicePick its.toArray lo hi none = ((its.drop (HT.sIx its.length 0 lo)).take (HT.sIx its.length its.length hi - HT.sIx its.length 0 lo)).toArray := by
  obtain ⟨h1, h2, h3⟩ := slice_bounds lo hi its.toArray.size
  unfold slicePick
  rw [h1, h2, h3]
  simp only [sliceRange_one, pick_run, List.size_toArray] <;> rfl
/-- xs[lo:hi] of a list: a new list -/
def rSlL (K : PySem.W.Frag) : V → Option Int → Option Int → Hp → VK → Prop := fun x lo hi H Q => ∃ a xs, x = .ref a ∧ SqL K H a xs ∧ ∀ p, H p = none → Q (.ref p) (upd H p (.lst (cutV xs lo hi)))
theorem sl_list : SlR X (rSlL X.K) := by
  intro pins s σ H x v vl vu lo hi sl Q I rx hs pl pu h
  obtain ⟨a, xs, rfl, hx, q⟩ := h
  cases rx
  obtain ⟨its, r, ht, hz⟩ := I.list hx
  have hlen := r.length
  refine ⟨"list", _, slot_list_getitem.lookup, ht.isList.typeIs, ?_⟩
  refine wpAny_getItem_list_slice ht.isList hs pl pu .none (by simp) ?_ (by rw [List.size_toArray] <;> omega)
  rw [slicePick_cut, ← hlen]
  refine ⟨.ref s.heap.objs.size, _, I.laid (t' := s.toks) (o := .lst (cutV xs lo hi)) (fun b ob q => Heap.get?_push_of_some _ q) (Nat.le_refl _) ?_, rfl, q _ (I.hok.fresh (Nat.le_refl _))⟩
  exact ⟨Nat.le_trans (cutV_length xs lo hi) hz, _, 0, (r.drop (HT.sIx xs.length 0 lo)).take (HT.sIx xs.length xs.length hi - HT.sIx xs.length 0 lo), Heap.get?_push_size _ rfl⟩

/-! ### in, not in: flat items -/
def flatV : V → Bool
  | .non => true
  | .bl _ => true
  | .int _ => true
  | .str _ => true
  | _ => false
/-- == of flat values -/
def eqV : V → V → Bool
  | .non, .non => true
  | .bl a, .bl b => a == b
  | .bl a, .int b => (if a then 1 else 0) == b
  | .int a, .bl b => a == (if b then 1 else 0)
  | .int a, .int b => a == b
  | .str a, .str b => a == b
  | _, _ => false
theorem eqAt_V {A : Around} {s : Shared} {y x : V} {u v : Value} (ry : RelV y u) (rx : RelV x v) (fy : flatV y = true) (fx : flatV x = true) : SeqAt.EqAt A s u v (eqV y x) := by
  cases y with
  | non =>
    cases ry
    cases x with
    | non => cases rx; exact SeqAt.EqAt.same _
    | bl b => cases rx; exact SeqAt.EqAt.none_bool b
    | int b => obtain ⟨t, rfl⟩ := rx; exact SeqAt.EqAt.none_int b t
    | str b => obtain ⟨t, rfl⟩ := rx; exact SeqAt.EqAt.none_str b t
    | _ => exact absurd (show false = true from fx) Bool.false_ne_true
  | bl a =>
    cases ry
    cases x with
    | non => cases rx; exact SeqAt.EqAt.bool_none a
    | bl b => cases rx; exact SeqAt.EqAt.bool_bool a b
    | int b => obtain ⟨t, rfl⟩ := rx; exact SeqAt.EqAt.bool_int a b t
    | str b => obtain ⟨t, rfl⟩ := rx; exact SeqAt.EqAt.bool_str a b t
    | _ => exact absurd (show false = true from fx) Bool.false_ne_true
  | int a =>
    obtain ⟨t', rfl⟩ := ry
    cases x with
    | non => cases rx; exact SeqAt.EqAt.int_none a t'
    | bl b => cases rx; exact SeqAt.EqAt.int_bool a t' b
    | int b => obtain ⟨t, rfl⟩ := rx; exact SeqAt.EqAt.int_int a t' b t
    | str b => obtain ⟨t, rfl⟩ := rx; exact SeqAt.EqAt.int_str a t' b t
    | _ => exact absurd (show false = true from fx) Bool.false_ne_true
  | str a =>
    obtain ⟨t', rfl⟩ := ry
    cases x with
    | non => cases rx; exact SeqAt.EqAt.str_none a t'
    | bl b => cases rx; exact SeqAt.EqAt.str_bool a t' b
    | int b => obtain ⟨t, rfl⟩ := rx; exact SeqAt.EqAt.str_int a t' b t
    | str b => obtain ⟨t, rfl⟩ := rx; exact SeqAt.EqAt.str_str a t' b t
    | _ => exact absurd (show false = true from fx) Bool.false_ne_true
  | _ => exact absurd (show false = true from fy) Bool.false_ne_true
/-- the items' answers, read off the values (a value's own answer does not lean on its token) -/
def eqU (x : V) (u : Value) : Bool := match u with
  | .none => eqV .non x
  | .bool b => eqV (.bl b) x
  | .int i _ => eqV (.int i) x
  | .str z _ => eqV (.str z) x
  | _ => false
theorem eqU_of {x y : V} {u : Value} (r : RelV y u) (f : flatV y = true) : eqU x u = eqV y x := by
  cases y with
  | non => cases r; rfl
  | bl b => cases r; rfl
  | int i => obtain ⟨t, rfl⟩ := r; rfl
  | str z => obtain ⟨t, rfl⟩ := r; rfl
  | _ => exact absurd (show false = true from f) Bool.false_ne_true
theorem any_eqU {x : V} : ∀ {xs : List V} {us : List Value}, Vals xs us → xs.all flatV = true → us.any (eqU x) = xs.any fun y => eqV y x
  | _, _, .nil, _ => rfl
  | y :: xs, u :: us, .cons r t, f => by
    rw [List.all_cons, Bool.and_eq_true] at f
    rw [List.any_cons, List.any_cons, eqU_of r f.1, any_eqU t f.2]
theorem mem_eqAt {A : Around} {s : Shared} {x : V} {v : Value} (rx : RelV x v) (fx : flatV x = true) : ∀ {xs : List V} {us : List Value}, Vals xs us → xs.all flatV = true → ∀ u ∈ us, SeqAt.EqAt A s u v (eqU x u)
  | _, _, .nil, _ => fun u hu => by cases hu
  | y :: xs, u :: us, .cons r t, f => fun u' hu => by
    rw [List.all_cons, Bool.and_eq_true] at f
    rcases List.mem_cons.mp hu with rfl | hu
    · rw [eqU_of r f.1]; exact eqAt_V r rx f.1 fx
    · exact mem_eqAt rx fx t f.2 u' hu
def inV (x : V) (xs : List V) : Bool := xs.any fun y => eqV y x
/-- x in a list or tuple of flat items -/
def rIn (K : PySem.W.Frag) (neg : Bool) : R2 := fun x y H Q => ∃ p xs, y = .ref p ∧ (SqL K H p xs ∨ SqT K H p xs) ∧ flatV x = true ∧ xs.all flatV = true ∧ Q (.bl (if neg then !inV x xs else inV x xs)) H
theorem op_in_seq : OpR X (compareOp .In) (rIn X.K false) := by
  intro pins s σ H x y v u Q I rx ry h
  obtain ⟨p, xs, rfl, hq, fx, fs, q⟩ := h
  cases ry
  rcases hq with hq | hq
  · obtain ⟨its, r, pl, hz⟩ := I.list hq
    refine SeqAt.in_listAt (eqU x) pl.isList (fun w hw => mem_eqAt rx fx r fs w (by simpa using hw)) ⟨.bl _, H, I, rfl, ?_⟩
    rw [show its.toArray.any (eqU x) = its.any (eqU x) by simp, any_eqU r fs]
    exact q
  · obtain ⟨its, r, pl, hz⟩ := I.tuple hq
    refine SeqAt.in_tupleAt (eqU x) pl (fun w hw => mem_eqAt rx fx r fs w (by simpa using hw)) ⟨.bl _, H, I, rfl, ?_⟩
    rw [show its.toArray.any (eqU x) = its.any (eqU x) by simp, any_eqU r fs]
    exact q
theorem op_notIn_seq : OpR X (compareOp .NotIn) (rIn X.K true) := by
  intro pins s σ H x y v u Q I rx ry h
  obtain ⟨p, xs, rfl, hq, fx, fs, q⟩ := h
  cases ry
  rcases hq with hq | hq
  · obtain ⟨its, r, pl, hz⟩ := I.list hq
    refine SeqAt.notIn_listAt (eqU x) pl.isList (fun w hw => mem_eqAt rx fx r fs w (by simpa using hw)) ⟨.bl _, H, I, rfl, ?_⟩
    rw [show its.toArray.any (eqU x) = its.any (eqU x) by simp, any_eqU r fs]
    exact q
  · obtain ⟨its, r, pl, hz⟩ := I.tuple hq
    refine SeqAt.notIn_tupleAt (eqU x) pl (fun w hw => mem_eqAt rx fx r fs w (by simpa using hw)) ⟨.bl _, H, I, rfl, ?_⟩
    rw [show its.toArray.any (eqU x) = its.any (eqU x) by simp, any_eqU r fs]
    exact q
theorem op_notIn_str : OpR X (compareOp .NotIn) (fun x y H Q => ∃ i j, x = .str i ∧ y = .str j ∧ Q (.bl (!(!(Builtin.Str.occurrences j i 0 j.length 1).isEmpty))) H) := by
  intro pins s σ H x y v u Q I rx ry h
  obtain ⟨i, j, rfl, rfl, q⟩ := h
  obtain ⟨t, rfl⟩ := rx
  obtain ⟨t', rfl⟩ := ry
  exact notIn_str ⟨.bl _, H, I, rfl, q⟩

/-! ### len, list(x), tuple(x) of any list or tuple that is read -/
theorem call_len_seq : CallR X (.builtin "len") (fun xs H Q => ∃ p ys, xs = [.ref p] ∧ (SqL X.K H p ys ∨ SqT X.K H p ys) ∧ Q (.int ys.length) H) := by
  intro pins s σ H xs us Q I r h
  obtain ⟨p, ys, rfl, hq, q⟩ := h
  obtain ⟨u, rfl, rx⟩ := vals1 r
  cases rx
  have hn := line63
  rcases hq with hq | hq
  · obtain ⟨its, r', pl, hz⟩ := I.list hq
    have hlen := r'.length
    exact Calls.call_len_list pl.isList (by simp only [List.size_toArray] <;> omega) ⟨.int ys.length, H, I.tok _, ⟨s.toks + 1, by rw [List.size_toArray, hlen]⟩, q⟩
  · obtain ⟨its, r', pl, hz⟩ := I.tuple hq
    have hlen := r'.length
    exact len_tuple pl (by simp only [List.size_toArray] <;> omega) ⟨.int ys.length, H, I.tok _, ⟨s.toks + 1, by rw [List.size_toArray, hlen]⟩, q⟩
theorem call_len_str : CallR X (.builtin "len") (fun xs H Q => ∃ z, xs = [.str z] ∧ z.length ≤ sizeLine ∧ Q (.int z.length) H) := by
  intro pins s σ H xs us Q I r h
  obtain ⟨z, rfl, hz, q⟩ := h
  obtain ⟨u, rfl, t, rfl⟩ := vals1 r
  have hn := line63
  exact len_str (by omega) ⟨.int z.length, H, I.tok _, ⟨_, rfl⟩, q⟩
theorem CallR.or {f : Value} {r r' : List V → Hp → VK → Prop} (h : CallR X f r) (h' : CallR X f r') : CallR X f (fun xs H Q => r xs H Q ∨ r' xs H Q) := by
  intro pins s σ H xs us Q I rs q
  rcases q with q | q
  · exact h pins s σ H xs us Q I rs q
  · exact h' pins s σ H xs us Q I rs q
theorem call_list_of : CallR X (.type "list") (fun xs H Q => ∃ p ys, xs = [.ref p] ∧ (SqL X.K H p ys ∨ SqT X.K H p ys) ∧ ∀ l, H l = none → Q (.ref l) (upd H l (.lst ys))) := by
  intro pins s σ H xs us Q I r h
  obtain ⟨p, ys, rfl, hq, q⟩ := h
  obtain ⟨u, rfl, rx⟩ := vals1 r
  cases rx
  have fin : ∀ (its : List Value), Vals ys its → ys.length ≤ sizeLine → ∀ (h' : Heap) (c' : Nat), (∀ b o', s.heap.get? b = some o' → h'.get? b = some o') →
      h'.get? s.heap.objs.size = some { cls := .type "list", dict := none, data := .seq its.toArray c', slots := #[] } → EP X pins σ Q (.ref s.heap.objs.size) { s with heap := h' } := fun its r' hz h' c' kp e =>
    ⟨.ref s.heap.objs.size, _, I.laid (t' := s.toks) kp (Nat.le_refl _) (show ObjOk X.prog X.w _ h' _ (.lst ys) from ⟨hz, its, c', r', e⟩), rfl, q _ (I.hok.fresh (Nat.le_refl _))⟩
  rcases hq with hq | hq
  · obtain ⟨its, r', pl, hz⟩ := I.list hq
    have hlen := r'.length
    obtain ⟨o, ho, hc, n, hd⟩ := pl.isList
    exact call_list_seq p (.inl rfl) ho hc hd (fun h' c' kp e => fin its r' hz h' c' kp e) (by simp only [List.size_toArray] <;> omega)
  · obtain ⟨its, r', pl, hz⟩ := I.tuple hq
    have hlen := r'.length
    obtain ⟨o, ho, hc, n, hd⟩ := pl
    exact call_list_seq p (.inr rfl) ho hc hd (fun h' c' kp e => fin its r' hz h' c' kp e) (by simp only [List.size_toArray] <;> omega)
theorem call_tuple_of : CallR X (.type "tuple") (fun xs H Q => ∃ p ys, xs = [.ref p] ∧ ((SqL X.K H p ys ∧ ∀ l, H l = none → Q (.ref l) (upd H l (.tup ys))) ∨ (SqT X.K H p ys ∧ Q (.ref p) H))) := by
  intro pins s σ H xs us Q I r h
  obtain ⟨p, ys, rfl, h⟩ := h
  obtain ⟨u, rfl, rx⟩ := vals1 r
  cases rx
  rcases h with ⟨hq, q⟩ | ⟨hq, q⟩
  · obtain ⟨its, r', pl, hz⟩ := I.list hq
    have hlen := r'.length
    refine call_tuple_list pl.isList (fun h' kp => ?_) (by simp only [List.size_toArray] <;> omega)
    have I1 : Inv X pins σ H { s with heap := h' } := I.kept (t' := s.toks) kp
    have I2 : Inv X pins σ (upd H h'.objs.size (.tup ys)) { s with heap := h'.push { cls := .type "tuple", data := .seq its.toArray } } :=
      I1.laid (t' := s.toks) (fun b o e => Heap.get?_push_of_some _ e) (Nat.le_refl _) (show ObjOk X.prog X.w _ _ _ (.tup ys) from ⟨hz, its, r', IsTup.new _ _⟩)
    exact ⟨.ref h'.objs.size, _, I2, rfl, q _ (I1.hok.fresh (Nat.le_refl _))⟩
  · obtain ⟨its, r', pl, hz⟩ := I.tuple hq
    exact call_tuple_same pl ⟨.ref p, H, I, rfl, q⟩

/-! ### the call of a builtin's method: o.m(..) -/
/-- the value is of that builtin type -/
def tyV (K : PySem.W.Frag) (T : String) (x : V) (H : Hp) : Prop := match x with
  | .str _ => T = "str"
  | .int _ => T = "int"
  | .ref p => (T = "list" ∧ ∃ xs, SqL K H p xs) ∨ (T = "tuple" ∧ ∃ o, K.lookup p = some o ∧ o.cls = .type "tuple" ∧ o.dict = none) ∨
      (T = "dict" ∧ ((∃ kvs, H p = some (.dK kvs)) ∨ ∃ kvs, H p = some (.dT kvs))) ∨ (T = "set" ∧ ∃ S n, H p = some (.set S n))
  | _ => False
theorem tyV_is {pins : List (Addr × Obj)} {σ : St} {H : Hp} {s : Shared} {T : String} {x : V} {v : Value} (I : Inv X pins σ H s) (r : RelV x v) (ty : tyV X.K T x H) :
    s.TypeIs v T ∧ ∀ a, v = .ref a → ∃ ob, s.heap.get? a = some ob ∧ ob.dict = none := by
  cases x with
  | str z =>
    obtain ⟨t, rfl⟩ := r
    cases (show T = "str" from ty)
    exact ⟨typeIs_str s z t, fun _ e => nomatch e⟩
  | int i =>
    obtain ⟨t, rfl⟩ := r
    cases (show T = "int" from ty)
    exact ⟨typeIs_int s i t, fun _ e => nomatch e⟩
  | ref p =>
    cases r
    rcases ty with ⟨rfl, xs, hq⟩ | ⟨rfl, o, hk, hc, hd⟩ | ⟨rfl, hk⟩ | ⟨rfl, S, n, hk⟩
    · obtain ⟨its, _, pl, _⟩ := I.list hq
      refine ⟨pl.isList.typeIs, fun a e => ?_⟩
      cases e
      obtain ⟨o, n, e, c, hd, _⟩ := pl
      exact ⟨o, e, hd⟩
    · refine ⟨⟨o, I.kIn p o hk, hc⟩, fun a e => ?_⟩
      cases e
      exact ⟨o, I.kIn _ o hk, hd⟩
    · have z : ∃ o, s.heap.get? p = some o ∧ o.ExactDict := by
        rcases hk with ⟨kvs, hk⟩ | ⟨kvs, hk⟩
        · obtain ⟨_, _, _, _, o, _, _, e, ex, _⟩ := I.hok p _ hk
          exact ⟨o, e, ex⟩
        · obtain ⟨_, _, _, _, o, _, _, e, ex, _⟩ := I.hok p _ hk
          exact ⟨o, e, ex⟩
      obtain ⟨o, e, ex⟩ := z
      refine ⟨⟨o, e, ex.1⟩, fun a e2 => ?_⟩
      cases e2
      exact ⟨o, e, ex.2.1⟩
    · obtain ⟨o, _, _, _, e, ex, _⟩ := I.hok p _ hk
      refine ⟨⟨o, e, ex.1⟩, fun a e2 => ?_⟩
      cases e2
      exact ⟨o, e, ex.2.1⟩
  | _ => exact False.elim ty
def tBM0 (K : PySem.W.Frag) (T : String) (r : V → List V → Hp → VK → Prop) (to : TE) : TE := fun σ H Q => to σ H fun x H1 => tyV K T x H1 ∧ r x [] H1 Q
def tBM (K : PySem.W.Frag) (T : String) (r : V → List V → Hp → VK → Prop) (to : TE) (t : TA) : TE := fun σ H Q => to σ H fun x H1 => tyV K T x H1 ∧ t σ H1 fun xs H2 => r x xs H2 Q
variable {o e : Expr} {es : List Expr} {to : TE} {t : TA} {name : Str} {apos cpos : Pos} {T id : String} {r : V → List V → Hp → VK → Prop}
theorem pe_bm0 (pa : PlainAttrs T) (slot : Slot T name id) (hty : typeOf (.builtin id) = pure (.type "method_descriptor")) (hm : MtR X id r) (ho : PE X o to)
    (hbase : attributeBase o name X.env (eval o X.env) = eval o X.env := by rfl) (hline : (apos.endLine == cpos.line) = true := by rfl) : PE X (.Call (.Attribute o name apos) [] [] cpos) (tBM0 X.K T r to) := by
  intro pins s σ H Q I h
  refine wpAny_Call_method0_late hbase hline (thn (ho pins s σ H _ I h) fun v s1 ⟨x, H1, I1, r1, ty, q1⟩ => ?_)
  obtain ⟨h1, h2⟩ := tyV_is I1 r1 ty
  exact ⟨T, id, pa, slot, hty, h1, h2, Calls.callWith_builtin rfl (PySem.evalArgs_none (hm pins s1 σ H1 x [] v [] Q I1 r1 .nil q1))⟩
theorem pe_bm (pa : PlainAttrs T) (slot : Slot T name id) (hty : typeOf (.builtin id) = pure (.type "method_descriptor")) (hm : MtR X id r) (ho : PE X o to) (ha : PA X (e :: es) t)
    (hbase : attributeBase o name X.env (eval o X.env) = eval o X.env := by rfl)
    (hfew : ((backTo cpos (starEach (e :: es) X.env)).all (fun x => !x.1) && (backToKw cpos (keywordEach [] X.env)).all (fun x => x.1.isSome)
      && decide ((e :: es).length + ([] : List Keyword).length + (if ([] : List Keyword).isEmpty then 0 else 1) < 30)) = true := by rfl)
    (hline : (apos.endLine == cpos.line) = true := by rfl) (hs : starEach (e :: es) X.env = (false, eval e X.env) :: starEach es X.env := by rfl) (hplain : (backTo cpos (starEach es X.env)).any (·.1) = false := by rfl) :
    PE X (.Call (.Attribute o name apos) (e :: es) [] cpos) (tBM X.K T r to t) := by
  intro pins s σ H Q I h
  refine wpAny_Call_method_late hbase hfew hline rfl (thn (ho pins s σ H _ I h) fun v s1 ⟨x, H1, I1, r1, ty, q1⟩ => ?_)
  obtain ⟨h1, h2⟩ := tyV_is I1 r1 ty
  refine ⟨T, id, pa, slot, hty, h1, h2, ?_⟩
  have hA := ha cpos pins s1 σ H1 _ I1 q1
  rw [hs] at hA ⊢
  refine Calls.callWith_builtin (by show (false || (backTo cpos (starEach es X.env)).any (·.1)) = false; rw [hplain] <;> rfl) (Calls.evalArgs_plain ?_)
  exact thn hA fun us s2 ⟨vs, H2, I2, r2, q2⟩ => hm pins s2 σ H2 x vs v us Q I2 r1 r2 q2
/- xs.append(e), list.index on a module's tuple .. are MtR facts of 06m -/
end
end L2

namespace L2
open PySem PySem.Spec PyProof.Rows

def MtM (X : Cx) (id : String) (r : V → List V → Hp → VK → Prop) : Prop :=
  ∀ (pins : List (Addr × Obj)) (s : Shared) (σ : St) (H : Hp) (x : V) (xs : List V) (v : Value) (us : List Value) (Q : VK), Inv X pins σ H s → RelV x v → Vals xs us → r x xs H Q →
    wpAny (model X.prog X.w) X.A (call (.builtin id) (v :: us)) (EP X pins σ Q) X.xe s

/-! ### lists of values -/
theorem Vals.one : ∀ {x : V} {us : List Value}, Vals [x] us → ∃ u, us = [u] ∧ RelV x u
  | _, _, .cons r .nil => ⟨_, rfl, r⟩
theorem Vals.two : ∀ {x y : V} {us : List Value}, Vals [x, y] us → ∃ u v, us = [u, v] ∧ RelV x u ∧ RelV y v
  | _, _, _, .cons r (.cons q .nil) => ⟨_, _, rfl, r, q⟩
theorem Vals.zero : ∀ {us : List Value}, Vals [] us → us = []
  | _, .nil => rfl
theorem Vals.dropLast {xs : List V} {us : List Value} (h : Vals xs us) : Vals xs.dropLast us.dropLast := by
  induction h with
  | nil => exact .nil
  | cons r t ih =>
    cases t with
    | nil => exact .nil
    | cons q t' => exact .cons r ih
theorem Vals.eraseIdx : ∀ {xs : List V} {us : List Value} (i : Nat), Vals xs us → Vals (xs.eraseIdx i) (us.eraseIdx i)
  | _, _, _, .nil => .nil
  | _, _, 0, .cons _ t => t
  | _, _, i + 1, .cons r t => .cons r (Vals.eraseIdx i t)
theorem Vals.reverse {xs : List V} {us : List Value} (h : Vals xs us) : Vals xs.reverse us.reverse := by
  induction h with
  | nil => exact .nil
  | cons r t ih => rw [List.reverse_cons, List.reverse_cons]; exact Vals.append ih (.cons r .nil)
theorem Vals.rep {xs : List V} {us : List Value} (h : Vals xs us) : ∀ k : Nat, Vals (List.replicate k xs).flatten (List.replicate k us).flatten
  | 0 => .nil
  | k + 1 => by
    rw [List.replicate_succ, List.replicate_succ, List.flatten_cons, List.flatten_cons]
    exact Vals.append h (Vals.rep h k)
theorem erase_last {α : Type} (l : List α) : l.eraseIdx (l.length - 1) = l.dropLast := by
  induction l with
  | nil => rfl
  | cons a r ih =>
    cases r with
    | nil => rfl
    | cons b r =>
      have e : (a :: b :: r).length - 1 = ((b :: r).length - 1) + 1 := by
        have h1 : (a :: b :: r).length = r.length + 2 := rfl
        have h2 : (b :: r).length = r.length + 1 := rfl
        omega
      rw [e, List.eraseIdx_cons_succ, ih]
      all_goals rfl
theorem len_erase {α : Type} : ∀ (l : List α) (i : Nat), (l.eraseIdx i).length ≤ l.length
  | [], _ => Nat.le_refl _
  | _ :: _, 0 => Nat.le_succ _
  | _ :: r, i + 1 => Nat.succ_le_succ (len_erase r i)
theorem foldl_rep (its : List Value) : ∀ (k : Nat) (acc : List Value),
    List.foldl (fun x1 x2 => x1 ++ x2) acc.toArray (List.replicate k its.toArray) = (acc ++ (List.replicate k its).flatten).toArray
  | 0, acc => by simp
  | k + 1, acc => by
    have e : acc.toArray ++ its.toArray = (acc ++ its).toArray := by simp
    have e2 : (acc ++ its) ++ (List.replicate k its).flatten = acc ++ (List.replicate (k + 1) its).flatten := by
      rw [List.replicate_succ, List.flatten_cons, List.append_assoc]
    rw [← e2, ← foldl_rep its k (acc ++ its), ← e, List.replicate_succ, List.foldl_cons]

section
variable {X : Cx} {pins : List (Addr × Obj)} {σ : St} {H : Hp} {s : Shared} {l b : Addr} {xs ys zs : List V}

/-! ### the two steps: a tracked list is rewritten, a new list is laid -/
theorem Inv.lset {its its' : List Value} {n : Nat} {f : Array Value → Array Value} {t' : Nat} (I : Inv X pins σ H s) (hH : H l = some (.lst xs))
    (e : s.heap.get? l = some { cls := .type "list", data := .seq its.toArray n }) (hf : f its.toArray = its'.toArray) (hv : Vals ys its') (hz : ys.length ≤ sizeLine) :
    Inv X pins σ (upd H l (.lst ys)) { s with heap := s.heap.update l (Obj.mapSeq f), toks := t' } := by
  have q := PySem.IsL.update e f
  rw [hf] at q
  refine I.write (x := l) (e := l) (by rw [hH]; exact trivial) (.inl rfl) (fun b' u hb hu => (Heap.get?_update_other s.heap (Obj.mapSeq f) (Ne.symm hb)).trans hu) ⟨_, q⟩ ?_
  exact ⟨hz, its', _, hv, q⟩
theorem Inv.lnew {its : List Value} {t' : Nat} (I : Inv X pins σ H s) (hv : Vals ys its) (hz : ys.length ≤ sizeLine) :
    Inv X pins σ (upd H s.heap.objs.size (.lst ys)) { s with heap := s.heap.push { cls := .type "list", data := .seq its.toArray }, toks := t' } :=
  I.laid (fun _ _ q => Heap.get?_push_of_some _ q) (Nat.le_refl _) ⟨hz, its, 0, hv, Heap.get?_push_size _ rfl⟩
theorem Inv.fresh (I : Inv X pins σ H s) : H s.heap.objs.size = none := I.hok.fresh (Nat.le_refl _)
theorem Inv.lstM (I : Inv X pins σ H s) (hH : H l = some (.lst xs)) : xs.length ≤ sizeLine ∧ ∃ (its : List Value) (n : Nat), Vals xs its ∧ xs.length = its.length ∧ s.heap.get? l = some { cls := .type "list", data := .seq its.toArray n } := by
  obtain ⟨z, its, n, r, e⟩ := I.hok l _ hH
  exact ⟨z, its, n, r, r.length, e⟩

theorem notLongL {n : Nat} (h : n ≤ sizeLine) : Builtin.List.listTooLong n = false := by
  unfold Builtin.List.listTooLong
  exact decide_eq_false (by omega)
end

section
variable {X : Cx}

/-! ### methods -/
def rAppend : V → List V → Hp → VK → Prop := fun x vs H Q => ∃ l xs y, x = .ref l ∧ vs = [y] ∧ H l = some (.lst xs) ∧ xs.length < sizeLine ∧ Q .non (upd H l (.lst (xs ++ [y])))
theorem mt_append : MtM X "list.append" rAppend := by
  intro pins s σ H x vs v us Q I rx rv h
  obtain ⟨l, xs, y, rfl, rfl, hH, hz, q⟩ := h
  cases rx
  obtain ⟨u, rfl, ru⟩ := rv.one
  obtain ⟨z, its, n, r, hl, e⟩ := I.lstM hH
  refine call_meets F.slot_list_append ⟨_, e, rfl⟩ F.entry_list_append (F.args_list_append_2 _ _) (PySem.list_append l its.toArray n u (by rw [List.size_toArray]; omega)) ⟨e, ?_⟩
  refine ⟨.non, _, I.lset (its' := its ++ [u]) hH e (by simp) (r.append (.cons ru .nil)) ?_, rfl, q⟩
  rw [List.length_append, List.length_singleton]
  omega

def rExtend : V → List V → Hp → VK → Prop := fun x vs H Q => ∃ l b xs zs, x = .ref l ∧ vs = [.ref b] ∧ H l = some (.lst xs) ∧ H b = some (.lst zs) ∧ xs.length + zs.length ≤ sizeLine ∧ Q .non (upd H l (.lst (xs ++ zs)))
theorem mt_extend : MtM X "list.extend" rExtend := by
  intro pins s σ H x vs v us Q I rx rv h
  obtain ⟨l, b, xs, zs, rfl, rfl, hH, hB, hz, q⟩ := h
  cases rx
  obtain ⟨u, rfl, ru⟩ := rv.one
  cases ru
  obtain ⟨z, its, n, r, hl, e⟩ := I.lstM hH
  obtain ⟨z2, its2, n2, r2, hl2, e2⟩ := I.lstM hB
  have hsz : its.toArray.size + its2.toArray.size ≤ sizeLine := by rw [List.size_toArray, List.size_toArray]; omega
  have hlong : ¬ (!its.toArray.isEmpty && Builtin.List.listTooLong (its.toArray.size + its2.toArray.size)) = true := by
    rw [notLongL hsz, Bool.and_false]
    exact Bool.false_ne_true
  refine call_meets F.slot_list_extend ⟨_, e, rfl⟩ F.entry_list_extend (F.args_list_extend_2 _ _)
    (AutoSeq1.list_extend_list_list_0 l its.toArray n b its2.toArray n2 hlong (by rw [List.size_toArray]; omega) (by omega)) ⟨e, e2, ?_⟩
  refine ⟨.non, _, I.lset (its' := its ++ its2) hH e (by simp) (r.append r2) ?_, rfl, q⟩
  rw [List.length_append]
  omega

def rPop : V → List V → Hp → VK → Prop := fun x vs H Q => ∃ l xs y, x = .ref l ∧ vs = [] ∧ H l = some (.lst xs) ∧ xs[xs.length - 1]? = some y ∧ Q y (upd H l (.lst xs.dropLast))
theorem mt_pop : MtM X "list.pop" rPop := by
  intro pins s σ H x vs v us Q I rx rv h
  obtain ⟨l, xs, y, rfl, rfl, hH, hy, q⟩ := h
  cases rx
  have hus := rv.zero
  subst hus
  obtain ⟨z, its, n, r, hl, e⟩ := I.lstM hH
  obtain ⟨u, hu, ru⟩ := r.get hy
  have hy' : its.toArray[its.toArray.size - 1]? = some u := by
    show its.toArray[its.length - 1]? = some u
    rw [← Array.getElem?_toList, ← hl]
    exact hu
  refine call_meets F.slot_list_pop ⟨_, e, rfl⟩ F.entry_list_pop (F.args_list_pop_1 _) (MeetsSeq.list_pop_last l its.toArray n u hy' (by rw [List.size_toArray]; omega)) ⟨e, ?_⟩
  refine ⟨y, _, I.lset (its' := its.dropLast) hH e ?_ r.dropLast ?_, ru, q⟩
  · show its.toArray.eraseIdxIfInBounds (its.toArray.size - 1) = its.dropLast.toArray
    rw [List.size_toArray, List.eraseIdxIfInBounds_toArray, erase_last]
  · rw [List.length_dropLast]
    omega

def rPopAt : V → List V → Hp → VK → Prop := fun x vs H Q => ∃ l xs i k y, x = .ref l ∧ vs = [.int i] ∧ H l = some (.lst xs) ∧ -(2 ^ 63) ≤ i ∧ i < 2 ^ 63 ∧ seqIndex? i xs.length = some k ∧ xs[k]? = some y ∧ Q y (upd H l (.lst (xs.eraseIdx k)))
theorem mt_popAt : MtM X "list.pop" rPopAt := by
  intro pins s σ H x vs v us Q I rx rv h
  obtain ⟨l, xs, i, k, y, rfl, rfl, hH, h1, h2, hk, hy, q⟩ := h
  cases rx
  obtain ⟨u, rfl, ru⟩ := rv.one
  obtain ⟨t, rfl⟩ := ru
  obtain ⟨z, its, n, r, hl, e⟩ := I.lstM hH
  obtain ⟨w, hw, rw'⟩ := r.get hy
  refine call_meets F.slot_list_pop ⟨_, e, rfl⟩ F.entry_list_pop (F.args_list_pop_2 _ _)
    (MeetsSeq.list_pop_at l its.toArray n i t k w (fitsIndex_both h1 h2) (by rw [List.size_toArray, ← hl]; exact hk) (by rw [← Array.getElem?_toList]; exact hw) (by rw [List.size_toArray]; omega)) ⟨e, ?_⟩
  refine ⟨y, _, I.lset (its' := its.eraseIdx k) hH e ?_ (r.eraseIdx k) ?_, rw', q⟩
  · show its.toArray.eraseIdxIfInBounds k = (its.eraseIdx k).toArray
    rw [List.eraseIdxIfInBounds_toArray]
  · have := len_erase xs k
    omega

def rReverse : V → List V → Hp → VK → Prop := fun x vs H Q => ∃ l xs, x = .ref l ∧ vs = [] ∧ H l = some (.lst xs) ∧ Q .non (upd H l (.lst xs.reverse))
theorem mt_reverse : MtM X "list.reverse" rReverse := by
  intro pins s σ H x vs v us Q I rx rv h
  obtain ⟨l, xs, rfl, rfl, hH, q⟩ := h
  cases rx
  have hus := rv.zero
  subst hus
  obtain ⟨z, its, n, r, hl, e⟩ := I.lstM hH
  refine call_meets F.slot_list_reverse ⟨_, e, rfl⟩ F.entry_list_reverse (F.args_list_reverse_1 _) (AutoSeq1.list_reverse_list_0 l its.toArray n (by rw [List.size_toArray]; omega)) ⟨e, ?_⟩
  refine ⟨.non, _, I.lset (its' := its.reverse) hH e (by simp) r.reverse ?_, rfl, q⟩
  rw [List.length_reverse]
  omega

def rClear : V → List V → Hp → VK → Prop := fun x vs H Q => ∃ l xs, x = .ref l ∧ vs = [] ∧ H l = some (.lst xs) ∧ Q .non (upd H l (.lst []))
theorem mt_clear : MtM X "list.clear" rClear := by
  intro pins s σ H x vs v us Q I rx rv h
  obtain ⟨l, xs, rfl, rfl, hH, q⟩ := h
  cases rx
  have hus := rv.zero
  subst hus
  obtain ⟨z, its, n, r, hl, e⟩ := I.lstM hH
  refine call_meets F.slot_list_clear ⟨_, e, rfl⟩ F.entry_list_clear (F.args_list_clear_1 _) (AutoSeq1.list_clear_list_0 l its.toArray n (by rw [List.size_toArray]; omega)) ⟨e, ?_⟩
  exact ⟨.non, _, I.lset (its' := []) (ys := []) hH e rfl .nil (Nat.zero_le _), rfl, q⟩

/-! ### list + list, list += list, list * int -/
def rCat : R2 := fun x y H Q => ∃ l b xs zs, x = .ref l ∧ y = .ref b ∧ H l = some (.lst xs) ∧ H b = some (.lst zs) ∧ xs.length + zs.length ≤ sizeLine ∧ ∀ p, H p = none → Q (.ref p) (upd H p (.lst (xs ++ zs)))
theorem op_cat : OpR X (binaryOp .Add) rCat := by
  intro pins s σ H x y v u Q I rx ry h
  obtain ⟨l, b, xs, zs, rfl, rfl, hH, hB, hz, q⟩ := h
  cases rx
  cases ry
  obtain ⟨z, its, n, r, hl, e⟩ := I.lstM hH
  obtain ⟨z2, its2, n2, r2, hl2, e2⟩ := I.lstM hB
  refine PySem.P.add_list e e2 ?_ (by rw [List.size_toArray, List.size_toArray]; omega)
  have ea : its.toArray ++ its2.toArray = (its ++ its2).toArray := by simp
  rw [ea]
  exact ⟨.ref _, _, I.lnew (t' := s.toks) (r.append r2) (by rw [List.length_append]; omega), rfl, q _ I.fresh⟩
/-- a list times an int (a negative one is nothing) -/
def rRep : R2 := fun x y H Q => ∃ l k xs, x = .ref l ∧ y = .int k ∧ H l = some (.lst xs) ∧ -(2 ^ 63) ≤ k ∧ k < 2 ^ 63 ∧ xs.length * k.toNat ≤ sizeLine ∧
  ∀ p, H p = none → Q (.ref p) (upd H p (.lst (List.replicate k.toNat xs).flatten))
theorem len_rep {α : Type} (xs : List α) (k : Nat) : (List.replicate k xs).flatten.length = k * xs.length := by
  induction k with
  | zero => simp
  | succ k ih => rw [List.replicate_succ, List.flatten_cons, List.length_append, ih, Nat.succ_mul, Nat.add_comm]
theorem op_rep : OpR X (binaryOp .Mult) rRep := by
  intro pins s σ H x y v u Q I rx ry h
  obtain ⟨l, k, xs, rfl, rfl, hH, h1, h2, hz, q⟩ := h
  cases rx
  obtain ⟨t, rfl⟩ := ry
  obtain ⟨z, its, n, r, hl, e⟩ := I.lstM hH
  have hlen : its.toArray.size * k.toNat ≤ sizeLine := by rw [List.size_toArray, ← hl]; exact hz
  have hcap : ¬ its.toArray.size * k.toNat > (2 ^ 63 - 1) / 8 := by
    have : (sizeLine : Nat) ≤ (2 ^ 63 - 1) / 8 := by decide
    omega
  have hfit : ¬ (!Builtin.List.listFitsIndex k) = true := by
    rw [fitsIndex_both h1 h2]
    exact Bool.false_ne_true
  have hlong : ¬ Builtin.List.listTooLong (its.toArray.size * k.toNat) = true := by
    rw [notLongL hlen]
    exact Bool.false_ne_true
  have hnew : List.foldl (fun x1 x2 => x1 ++ x2) #[] (List.replicate (if its.toArray.isEmpty = true then 0 else k.toNat) its.toArray) = (List.replicate k.toNat its).flatten.toArray := by
    have f0 : ∀ m : Nat, List.foldl (fun x1 x2 => x1 ++ x2) #[] (List.replicate m its.toArray) = (List.replicate m its).flatten.toArray := fun m => by
      have := foldl_rep its m []
      rw [List.nil_append] at this
      exact this
    rw [f0]
    cases its with
    | nil => simp
    | cons a r' => rw [if_neg (by simp)]
  refine wpAny_binaryOp_repeat_ref (T := "list") (U := "int") (by decide) ⟨_, e, rfl⟩ (fun s' => typeIs_int s' k t) noFill_list_mul F.fills_int_mul F.slot_int_rmul repeat_list F.slot_int_index.lookup
    (call_meets F.slot_int_rmul (typeIs_int s k t) F.entry_int_rmul (F.args_int_rmul_2 _ _) (int___rmul___int_list k t l its.toArray n)
      ⟨e, rfl, ⟨_, e, rfl⟩, call_meets F.slot_list_mul ⟨_, e, rfl⟩ F.entry_list_mul (F.args_list_mul_2 _ _) (AutoListH.list___mul___list_int_3 l its.toArray n k t hfit hcap hlong) ⟨e, ?_⟩⟩)
  rw [hnew]
  exact ⟨.ref _, _, I.lnew (t' := s.toks) (r.rep k.toNat) (by rw [len_rep, Nat.mul_comm]; exact hz), rfl, q _ I.fresh⟩

/-! ### del xs[i] -/
theorem del_list {pins : List (Addr × Obj)} {s : Shared} {σ : St} {H : Hp} {l : Addr} {xs : List V} {i : Int} {t : Tok} {k : Nat} {Q : Unit → Shared → Prop} (I : Inv X pins σ H s) (hH : H l = some (.lst xs))
    (h1 : -(2 ^ 63) ≤ i) (h2 : i < 2 ^ 63) (hk : seqIndex? i xs.length = some k) (h : ∀ s', Inv X pins σ (upd H l (.lst (xs.eraseIdx k))) s' → Q () s') :
    wpAny (model X.prog X.w) X.A (delItem (.ref l) (.int i t)) Q X.xe s := by
  obtain ⟨z, its, n, r, hl, e⟩ := I.lstM hH
  refine PySem.P.delItem_list (k := k) e (fitsIndex_both h1 h2) (by rw [List.size_toArray, ← hl]; exact hk) (h _ ?_) (by rw [List.size_toArray]; omega)
  refine I.lset (its' := its.eraseIdx k) (t' := s.toks) hH e ?_ (r.eraseIdx k) ?_
  · show its.toArray.eraseIdxIfInBounds k = (its.eraseIdx k).toArray
    rw [List.eraseIdxIfInBounds_toArray]
  · have := len_erase xs k
    omega
end

/-! ### xs[a:b] = ys -/
section
variable {prog : Program} {w : World} {A : Around} {E : Value → Shared → Prop} {s : Shared}
theorem splice_eq (its its2 : List Value) (a c : Nat) : its.toArray.extract 0 a ++ its2.toArray ++ its.toArray.extract c its.toArray.size = (its.take a ++ its2 ++ its.drop c).toArray := by
  apply Array.toList_inj.mp
  first
    | (simp
       exact List.take_of_length_le (by simp))
    | simp [List.take_of_length_le]
    | simp
theorem bounds_run {a c n : Nat} (hac : a ≤ c) (hc : c ≤ n) : sliceBounds (some (a : Int)) (some (c : Int)) none n = ((a : Int), (c : Int), 1) := by
  simp only [sliceBounds, Option.getD_none]
  have h1 : ¬ ((a : Int) < 0) := by omega
  have h2 : ¬ ((c : Int) < 0) := by omega
  simp only [h1, h2, if_false, show (1 : Int) > 0 by decide, if_true]
  congr 1
  · omega
  · congr 1; omega
set_option maxRecDepth 100000 in
/-- list.__setitem__ with a slice of step one and another list -/
theorem setItem_slice {l b sl : Addr} {items new : Array Value} {n n2 : Nat} {vl vu : Value} {a c : Nat} {Q : Unit → Shared → Prop}
    (e : s.heap.get? l = some { cls := .type "list", data := .seq items n }) (e2 : s.heap.get? b = some { cls := .type "list", data := .seq new n2 }) (hne : l ≠ b)
    (hs : s.heap.IsSliceOf sl vl vu .none) (pl : IsPart vl (some (a : Int))) (pu : IsPart vu (some (c : Int))) (hac : a ≤ c) (hc : c ≤ items.size)
    (hsz : items.size + new.size ≤ sizeLine) (h : Q () { s with heap := s.heap.update l (Obj.mapSeq fun xs => xs.extract 0 a ++ new ++ xs.extract c xs.size) }) :
    wpAny (model prog w) A (setItem (.ref l) (.ref sl) (.ref b)) Q E s := by
  have hl : s.heap.IsList l items := PySem.IsL.isList e
  have hb : s.heap.IsList b new := PySem.IsL.isList e2
  obtain ⟨os, hos, hcs, hds⟩ := id hs
  have hTs : s.TypeIs (.ref sl) "slice" := ⟨os, hos, hcs⟩
  have hstep : ¬ ((rawPart none == rawInt 0) = true) := Bool.false_ne_true
  have hsame : Builtin.List.listSameRef (.ref l) (.ref b) = false := by
    unfold Builtin.List.listSameRef
    exact beq_eq_false_iff_ne.mpr hne
  have hmax : (max (a : Int) (c : Int)).toNat = c := by omega
  have hz' : ((fun xs : Array Value => xs.extract 0 a ++ new ++ xs.extract c xs.size) items).size ≤ sizeLine + 1 := by
    simp only [Array.size_append, Array.size_extract]
    omega
  unfold setItem
  try with_reducible refine wpAny_holding ?_
  first | refine wpAny_bind (wpAny_pure ?_) | skip
  refine wpAny_bind (wpAny_sequenceKey hl.typeIs (by decide) ?_)
  refine wpAny_bind (wpAny_callSpecial?_slot (name := Str.ofString "__setitem__") hl.typeIs slot_list_setitem
    (wpAny_call_entry slot_list_setitem hl.typeIs entry_list_setitem ?_ (args_list_setitem _ _ _)))
  show wpAny _ _ (Builtin.List.listSubscript? (.ref sl) >>= _) _ _ s
  refine wpAny_bind ?_
  unfold Builtin.List.listSubscript?
  refine wpAny_bind (wpAny_specialOf hTs slice_no_index ?_)
  simp only [Option.isNone_none, if_true]
  refine wpAny_pure ?_
  show wpAny _ _ (typeOf (.ref sl) >>= _) _ _ s
  refine wpAny_bind (wpAny_typeOf hTs ?_)
  first
    | rw [if_neg (by decide)]
    | refine PySem.W.KFB.if_not (by decide) ?_
  rw [listSliceParts_eq]
  refine wpAny_bind (wpAny_bind (wpAny_field hos hds (x := .none) rfl (wpAny_bind (wpAny_listPart .none ?_))))
  rw [if_neg hstep]
  refine wpAny_bind (wpAny_field hos hds (x := vl) rfl (wpAny_bind (wpAny_listPart pl ?_)))
  refine wpAny_bind (wpAny_field hos hds (x := vu) rfl (wpAny_bind (wpAny_listPart pu (wpAny_pure ?_))))
  first
    | simp only [hsame, Bool.false_eq_true, if_false]
    | refine PySem.W.KFB.if_not hsame ?_
    | (dsimp only
       rw [if_neg (by rw [hsame]; exact Bool.false_ne_true)])
  refine wpAny_bind (m := Builtin.List.listAllItems (.ref b) "must assign iterable to extended slice") ?_
  unfold Builtin.List.listAllItems
  refine wpAny_bind (wpAny_typeOf hb.typeIs ?_)
  first
    | refine PySem.W.KFB.if_so (by decide) ?_
    | rw [if_pos (by decide)]
    | simp only [beq_self_eq_true, Bool.true_or, if_true]
  unfold Builtin.List.listItems
  refine wpAny_bind (wpAny_seqItems e2 rfl (wpAny_pure ?_))
  refine wpAny_bind (wpAny_bind (wpAny_seqItems e rfl (wpAny_pure ?_)))
  refine wpAny_bind (wpAny_of_eq ((sliceIndices_raw (some (a : Int)) (some (c : Int)) none items.size (by simp)).trans (congrArg (pure : Int × Int × Int → Sem (Int × Int × Int)) (bounds_run hac hc))) ?_)
  show wpAny _ _ (if ((1 : Int) == 1) = true then _ else _) _ _ s
  rw [if_pos (by decide)]
  refine wpAny_bind (wpAny_rule ?_)
  first
    | simp only [notLongL hsz, Bool.false_eq_true, if_false]
    | refine PySem.W.KFB.if_not (notLongL hsz) ?_
  first | refine wpAny_bind (wpAny_pure ?_) | skip
  show wpAny _ _ (updateSeq l (fun xs => xs.extract 0 ((a : Int)).toNat ++ new ++ xs.extract (max (a : Int) (c : Int)).toNat xs.size) >>= _) _ _ s
  rw [hmax, Int.toNat_natCast]
  refine wpAny_bind (wpAny_updateSeq (hz := Nat.le_trans (Nat.le_add_right _ _) hsz) (_hz' := hz') e rfl ?_)
  refine wpAny_bind (wpAny_letGo ?_)
  first
    | exact wpAny_bind (wpAny_pure (wpAny_pure ⟨.none, rfl, wpAny_pure h⟩))
    | exact wpAny_pure ⟨.none, rfl, wpAny_pure h⟩
end

section
variable {X : Cx}
/-- xs[a:c] = ys of another list, at the value level: sl is the slice object that was just made -/
theorem set_slice {pins : List (Addr × Obj)} {s : Shared} {σ : St} {H : Hp} {l b sl : Addr} {xs ys : List V} {a c : Int} {vl vu : Value} {Q : Unit → Shared → Prop} (I : Inv X pins σ H s)
    (hH : H l = some (.lst xs)) (hB : H b = some (.lst ys)) (hne : l ≠ b) (hs : s.heap.IsSliceOf sl vl vu .none) (ra : RelV (.int a) vl) (rc : RelV (.int c) vu) (h0 : 0 ≤ a) (hac : a ≤ c) (hc : c ≤ xs.length)
    (hz : xs.length + ys.length ≤ sizeLine) (h : ∀ s', Inv X pins σ (upd H l (.lst (xs.take a.toNat ++ ys ++ xs.drop c.toNat))) s' → Q () s') :
    wpAny (model X.prog X.w) X.A (setItem (.ref l) (.ref sl) (.ref b)) Q X.xe s := by
  obtain ⟨ta, rfl⟩ := ra
  obtain ⟨tc, rfl⟩ := rc
  obtain ⟨z, its, n, r, hl, e⟩ := I.lstM hH
  obtain ⟨z2, its2, n2, r2, hl2, e2⟩ := I.lstM hB
  obtain ⟨a', rfl⟩ := Int.eq_ofNat_of_zero_le h0
  obtain ⟨c', rfl⟩ := Int.eq_ofNat_of_zero_le (Int.le_trans h0 hac)
  simp only [Int.toNat_natCast] at h
  refine setItem_slice (a := a') (c := c') e e2 hne hs (.int _ _) (.int _ _) (by omega) (by rw [List.size_toArray]; omega) (by rw [List.size_toArray, List.size_toArray]; omega) (h _ ?_)
  refine I.lset (its' := its.take a' ++ its2 ++ its.drop c') (t' := s.toks) hH e ?_ (Vals.append (Vals.append (r.take _) r2) (r.drop _)) ?_
  · exact splice_eq its its2 a' c'
  · rw [List.length_append, List.length_append, List.length_take, List.length_drop]
    omega
end
end L2

namespace L2
open PySem PySem.Spec PyProof.Rows

/-! ### lists of pairs as tables -/
section
variable {κ : Type} [DecidableEq κ]
def valV (kvs : List (κ × V)) (k : κ) : Option V := (kvs.find? fun kv => decide (kv.1 = k)).map (·.2)
/-- in its place, or at the end -/
def putK (kvs : List (κ × V)) (k : κ) (v : V) : List (κ × V) :=
  if (kvs.any fun kv => decide (kv.1 = k)) = true then kvs.map (fun kv => if kv.1 = k then (kv.1, v) else kv) else kvs ++ [(k, v)]
def dropK (kvs : List (κ × V)) (k : κ) : List (κ × V) := kvs.filter fun kv => decide (kv.1 ≠ k)

theorem valV_nil {k : κ} : valV ([] : List (κ × V)) k = none := rfl
theorem valV_pos {p : κ × V} {r : List (κ × V)} {k : κ} (e : p.1 = k) : valV (p :: r) k = some p.2 := by simp [valV, List.find?_cons, e]
theorem valV_neg {p : κ × V} {r : List (κ × V)} {k : κ} (e : ¬ p.1 = k) : valV (p :: r) k = valV r k := by simp [valV, List.find?_cons, e]
theorem valV_any (k : κ) : ∀ kvs : List (κ × V), (kvs.any fun kv => decide (kv.1 = k)) = (valV kvs k).isSome
  | [] => rfl
  | p :: r => by
    rw [List.any_cons]
    by_cases e : p.1 = k
    · simp only [valV_pos e, decide_eq_true e, Bool.true_or, Option.isSome_some]
    · rw [valV_neg e, decide_eq_false e, Bool.false_or]; exact valV_any k r
theorem valV_map (k j : κ) (y : V) : ∀ kvs : List (κ × V), valV (kvs.map fun kv => if kv.1 = k then (kv.1, y) else kv) j = (valV kvs j).map fun x => if j = k then y else x
  | [] => rfl
  | p :: r => by
    have ih := valV_map k j y r
    rw [List.map_cons]
    by_cases h : p.1 = k
    · rw [if_pos h]
      by_cases e : p.1 = j
      · rw [valV_pos (p := (p.1, y)) e, valV_pos e, Option.map_some, if_pos (e.symm.trans h)]
      · rw [valV_neg (p := (p.1, y)) e, valV_neg e, ih]
    · rw [if_neg h]
      by_cases e : p.1 = j
      · rw [valV_pos (p := p) e, valV_pos e, Option.map_some, if_neg (fun z => h (e.trans z))]
      · rw [valV_neg (p := p) e, valV_neg e, ih]
theorem valV_snoc (k j : κ) (y : V) : ∀ kvs : List (κ × V), valV kvs k = none → valV (kvs ++ [(k, y)]) j = if j = k then some y else valV kvs j
  | [], _ => by
    by_cases e : k = j
    · rw [if_pos e.symm]; exact valV_pos (p := (k, y)) e
    · rw [if_neg (fun z => e z.symm)]; exact valV_neg (p := (k, y)) e
  | p :: r, hn => by
    rw [List.cons_append]
    have hk : ¬ p.1 = k := fun z => by rw [valV_pos z] at hn; cases hn
    rw [valV_neg hk] at hn
    have ih := valV_snoc k j y r hn
    by_cases e : p.1 = j
    · rw [valV_pos e, valV_pos e, if_neg (fun z => hk (e.trans z))]
    · rw [valV_neg e, valV_neg e, ih]
theorem valV_put (kvs : List (κ × V)) (k j : κ) (y : V) : valV (putK kvs k y) j = if j = k then some y else valV kvs j := by
  unfold putK
  by_cases a : (kvs.any fun kv => decide (kv.1 = k)) = true
  · rw [if_pos a, valV_map]
    rw [valV_any] at a
    by_cases e : j = k
    · obtain ⟨x, hx⟩ := Option.isSome_iff_exists.mp a
      rw [if_pos e, e, hx, Option.map_some, if_pos rfl]
    · rw [if_neg e]
      cases valV kvs j with
      | none => rfl
      | some x => rw [Option.map_some, if_neg e]
  · rw [if_neg a]
    refine valV_snoc k j y kvs ?_
    rw [valV_any] at a
    cases q : valV kvs k with
    | none => rfl
    | some x => rw [q] at a; exact (a rfl).elim
theorem length_putK (kvs : List (κ × V)) (k : κ) (v : V) : (putK kvs k v).length ≤ kvs.length + 1 := by
  unfold putK
  split
  · rw [List.length_map]; omega
  · rw [List.length_append, List.length_cons, List.length_nil]; omega
theorem putK_new {kvs : List (κ × V)} {k : κ} (v : V) (h : valV kvs k = none) : putK kvs k v = kvs ++ [(k, v)] := by
  unfold putK
  rw [valV_any, h]
  exact if_neg (by decide)

theorem RelO.isSome_eq {o : Option V} {u : Option Value} (r : RelO o u) : o.isSome = u.isSome := by
  cases o with
  | none => cases u with
    | none => rfl
    | some _ => exact (show False from r).elim
  | some _ => cases u with
    | none => exact (show False from r).elim
    | some _ => rfl
theorem RelO.getD {o : Option V} {u : Option Value} {d : V} {d' : Value} (r : RelO o u) (rd : RelV d d') : RelV (o.getD d) (u.getD d') := by
  cases o with
  | none => cases u with
    | none => exact rd
    | some _ => exact (show False from r).elim
  | some _ => cases u with
    | none => exact (show False from r).elim
    | some _ => exact r

/-- raw tables of the same keys -/
theorem KV.val {kvs : List (κ × V)} {vs : List (κ × Value)} (r : KV kvs vs) (k : κ) : RelO (valV kvs k) (valueAt vs k) := by
  unfold KV at r
  induction r with
  | nil => exact True.intro
  | @cons p q ps qs h t ih =>
    obtain ⟨h1, h2⟩ := h
    by_cases e : p.1 = k
    · have e' : q.1 = k := h1.symm.trans e
      have b : valueAt (q :: qs) k = some q.2 := by simp [valueAt, List.find?_cons, e']
      rw [valV_pos e, b]; exact h2
    · have e' : ¬ q.1 = k := fun z => e (h1.trans z)
      have b : valueAt (q :: qs) k = valueAt qs k := by simp [valueAt, List.find?_cons, e']
      rw [valV_neg e, b]; exact ih
theorem KV.any {kvs : List (κ × V)} {vs : List (κ × Value)} (r : KV kvs vs) (k : κ) : (kvs.any fun kv => decide (kv.1 = k)) = vs.any fun kv => decide (kv.1 = k) := by
  unfold KV at r
  induction r with
  | nil => rfl
  | cons h t ih => rw [List.any_cons, List.any_cons, ih, h.1]
theorem KV.repl {kvs : List (κ × V)} {vs : List (κ × Value)} (r : KV kvs vs) (k : κ) {y : V} {u : Value} (ry : RelV y u) :
    KV (kvs.map fun kv => if kv.1 = k then (kv.1, y) else kv) (vs.map fun kv => if kv.1 = k then (kv.1, u) else kv) := by
  unfold KV at r ⊢
  induction r with
  | nil => exact .nil
  | @cons p q ps qs h t ih =>
    rw [List.map_cons, List.map_cons]
    refine .cons ?_ ih
    obtain ⟨h1, h2⟩ := h
    by_cases e : p.1 = k
    · rw [if_pos e, if_pos (h1.symm.trans e)]; exact ⟨h1, ry⟩
    · rw [if_neg e, if_neg (fun z => e (h1.trans z))]; exact ⟨h1, h2⟩
theorem KV.put {kvs : List (κ × V)} {vs : List (κ × Value)} (r : KV kvs vs) (k : κ) {y : V} {u : Value} (ry : RelV y u) : KV (putK kvs k y) (stored vs k u) := by
  unfold putK stored
  rw [r.any k]
  by_cases e : (vs.any fun kv => decide (kv.1 = k)) = true
  · rw [if_pos e, if_pos e]; exact r.repl k ry
  · rw [if_neg e, if_neg e]; exact Paired.snoc r ⟨rfl, ry⟩
theorem KV.drop {kvs : List (κ × V)} {vs : List (κ × Value)} (r : KV kvs vs) (k : κ) : KV (dropK kvs k) (without vs k) := by
  unfold KV at r ⊢
  unfold dropK without
  induction r with
  | nil => exact .nil
  | @cons p q ps qs h t ih =>
    obtain ⟨h1, h2⟩ := h
    rw [List.filter_cons, List.filter_cons]
    by_cases e : p.1 = k
    · have a : ¬ decide (p.1 ≠ k) = true := by simp [e]
      have b : ¬ decide (q.1 ≠ k) = true := by simp [h1.symm.trans e]
      rw [if_neg a, if_neg b]; exact ih
    · have e' : ¬ q.1 = k := fun z => e (h1.trans z)
      have a : decide (p.1 ≠ k) = true := by simp [e]
      have b : decide (q.1 ≠ k) = true := by simp [e']
      rw [if_pos a, if_pos b]; exact .cons ⟨h1, h2⟩ ih
theorem KV.keys {kvs : List (κ × V)} {vs : List (κ × Value)} (r : KV kvs vs) : kvs.map (·.1) = vs.map (·.1) := by
  unfold KV at r
  induction r with
  | nil => rfl
  | cons h t ih => rw [List.map_cons, List.map_cons, ih, h.1]
theorem KV.length {kvs : List (κ × V)} {vs : List (κ × Value)} (r : KV kvs vs) : kvs.length = vs.length := Paired.length r
theorem dropK_le (kvs : List (κ × V)) (k : κ) : (dropK kvs k).length ≤ kvs.length := List.length_filter_le _ _
end


/-! ### a tracked dict, its keys ints and texts or tuples of these -/
theorem kV_is {P : Program} {w : World} {k : Key} {u : Value} (r : RelV (kV k) u) : (mixKind P w).is k u = true := by
  cases k with
  | inl i => obtain ⟨t, e⟩ := (show ∃ t, u = Value.int i t from r); subst e; exact mixKind_int P w i t
  | inr x => obtain ⟨t, e⟩ := (show ∃ t, u = Value.str x t from r); subst e; exact mixKind_str P w x t
theorem kV_inj {a b : Key} (e : kV a = kV b) : a = b := by
  cases a with
  | inl i => cases b with
    | inl j => have e' : V.int i = V.int j := e; injection e' with e'; rw [e']
    | inr y => exact nomatch (show V.int i = V.str y from e)
  | inr x => cases b with
    | inl j => exact nomatch (show V.str x = V.int j from e)
    | inr y => have e' : V.str x = V.str y := e; injection e' with e'; rw [e']
theorem kVs_inj : ∀ {a b : List Key}, a.map kV = b.map kV → a = b
  | [], [], _ => rfl
  | [], _ :: _, e => by simp at e
  | _ :: _, [], e => by simp at e
  | x :: xs, y :: ys, e => by
    rw [List.map_cons, List.map_cons] at e
    injection e with e1 e2
    rw [kV_inj e1, kVs_inj e2]
theorem items_are {P : Program} {w : World} : ∀ {ks : List Key} {us : List Value}, Vals (ks.map kV) us → ItemsAre (mixKind P w) ks us
  | [], _, r => by rw [List.map_nil] at r; cases r; exact .nil
  | k :: ks, _, r => by
    rw [List.map_cons] at r
    cases r with
    | cons h t => exact .cons (kV_is h) (items_are t)

/-- raw entries of a dict with tuple keys -/
abbrev KT (H : Hp) : List (List Key × V) → List (List Key × Addr × Value) → Prop := Paired fun p q => p.1 = q.1 ∧ H q.2.1 = some (.tup (p.1.map kV)) ∧ RelV p.2 q.2.2
theorem KT.val {H : Hp} {kvs : List (List Key × V)} {xs : List (List Key × Addr × Value)} (r : KT H kvs xs) (k : List Key) : RelO (valV kvs k) ((atKey xs k).map (·.2)) := by
  induction r with
  | nil => exact True.intro
  | @cons p q ps qs h t ih =>
    obtain ⟨h1, _, h2⟩ := h
    by_cases e : p.1 = k
    · have e' : q.1 = k := h1.symm.trans e
      have b : atKey (q :: qs) k = some q.2 := by simp [atKey, List.find?_cons, e']
      rw [valV_pos e, b]; exact h2
    · have e' : ¬ q.1 = k := fun z => e (h1.trans z)
      have b : atKey (q :: qs) k = atKey qs k := by simp [atKey, List.find?_cons, e']
      rw [valV_neg e, b]; exact ih
theorem KT.repl {H : Hp} {kvs : List (List Key × V)} {xs : List (List Key × Addr × Value)} (r : KT H kvs xs) (k : List Key) {y : V} {u : Value} (ry : RelV y u) :
    KT H (kvs.map fun kv => if kv.1 = k then (kv.1, y) else kv) (xs.map (putAt k u)) := by
  induction r with
  | nil => exact .nil
  | @cons p q ps qs h t ih =>
    rw [List.map_cons, List.map_cons]
    refine .cons ?_ ih
    obtain ⟨h1, h2, h3⟩ := h
    unfold putAt
    by_cases e : p.1 = k
    · rw [if_pos e, if_pos (h1.symm.trans e)]; exact ⟨h1, h2, ry⟩
    · rw [if_neg e, if_neg (fun z => e (h1.trans z))]; exact ⟨h1, h2, h3⟩
theorem KT.put {H : Hp} {kvs : List (List Key × V)} {xs : List (List Key × Addr × Value)} (r : KT H kvs xs) (k : List Key) {b : Addr} {y : V} {u : Value} (hb : H b = some (.tup (k.map kV))) (ry : RelV y u) :
    KT H (putK kvs k y) (storedH xs k b u) := by
  have e : (kvs.any fun kv => decide (kv.1 = k)) = (atKey xs k).isSome := by
    rw [valV_any, (r.val k).isSome_eq, Option.isSome_map]
  unfold putK storedH
  rw [e]
  by_cases q : (atKey xs k).isSome = true
  · rw [if_pos q, if_pos q]; exact r.repl k ry
  · rw [if_neg q, if_neg q]; exact Paired.snoc r ⟨rfl, hb, ry⟩
theorem KT.keeps {H H' : Hp} {kvs : List (List Key × V)} {xs : List (List Key × Addr × Value)} (r : KT H kvs xs) (ht : ∀ b ys, H b = some (.tup ys) → H' b = some (.tup ys)) : KT H' kvs xs :=
  Paired.mapP r fun _ _ z => ⟨z.1, ht _ _ z.2.1, z.2.2⟩

section
variable {P : Program} {w : World} {H : Hp} {h : Heap} {a : Addr}
theorem rd_of {u : HO} (ok : HOk P w H h) (e : Rd H a u) : ObjOk P w H h a u := e.ok ok
theorem dk_rd {kvs : List (Key × V)} (ok : HOk P w H h) (e : Rd H a (.dK kvs)) : kvs.length ≤ sizeLine ∧ (a == sysModules) = false ∧ ∃ vs, KV kvs vs ∧ h.DictOf (mixKind P w) a vs :=
  show ObjOk P w H h a (.dK kvs) from rd_of ok e
theorem dk_of {kvs : List (Key × V)} (ok : HOk P w H h) (e : H a = some (.dK kvs)) : kvs.length ≤ sizeLine ∧ (a == sysModules) = false ∧ ∃ vs, KV kvs vs ∧ h.DictOf (mixKind P w) a vs := dk_rd ok (.inl e)
/-- a tracked tuple of ints and texts is a key -/
theorem key_of {ks : List Key} (ok : HOk P w H h) (e : H a = some (.tup (ks.map kV))) : (tupleKind (mixKind P w)).is h ks a := by
  obtain ⟨_, its, r, o, h1, h2, n, h3⟩ := (show ObjOk P w H h a (.tup (ks.map kV)) from ok a _ e)
  exact ⟨o, its.toArray, n, h1, h2, h3, by simpa using items_are r⟩
theorem dt_rd {kvs : List (List Key × V)} (ok : HOk P w H h) (e : Rd H a (.dT kvs)) : kvs.length ≤ sizeLine ∧ (a == sysModules) = false ∧
    ∃ xs, KT H kvs xs ∧ h.DictOfH (tupleKind (mixKind P w)) a xs := by
  obtain ⟨z, y, xs, r, o, es, ep, h1, h2, h3, h4, h5⟩ := (show ObjOk P w H h a (.dT kvs) from rd_of ok e)
  refine ⟨z, y, xs, r, o, es, ep, h1, h2, h3, h4, fun x hx => ?_, h5⟩
  have all : ∀ {l : List (List Key × V)} {m : List (List Key × Addr × Value)}, KT H l m → ∀ x ∈ m, (tupleKind (mixKind P w)).is h x.1 x.2.1 := by
    intro l m q
    induction q with
    | nil => intro x hx; exact nomatch hx
    | @cons p q ps qs hq t ih =>
      intro x hx
      rcases List.mem_cons.mp hx with e | hx
      · subst e
        exact key_of ok (by rw [← hq.1]; exact hq.2.1)
      · exact ih x hx
  exact all r x hx
theorem dt_of {kvs : List (List Key × V)} (ok : HOk P w H h) (e : H a = some (.dT kvs)) : kvs.length ≤ sizeLine ∧ (a == sysModules) = false ∧
    ∃ xs, KT H kvs xs ∧ h.DictOfH (tupleKind (mixKind P w)) a xs := dt_rd ok (.inl e)
end

/-- what the dict at a holds at the key y -/
def DGet (H : Hp) (a : Addr) (y : V) (r : Option V) : Prop :=
  (∃ kvs k, Rd H a (.dK kvs) ∧ y = kV k ∧ r = valV kvs k) ∨ ∃ kvs k b, Rd H a (.dT kvs) ∧ y = .ref b ∧ H b = some (.tup (k.map kV)) ∧ r = valV kvs k
/-- the heap behind a[y] = v -/
def DPut (H : Hp) (a : Addr) (y v : V) (H' : Hp) : Prop :=
  (∃ kvs k, H a = some (.dK kvs) ∧ y = kV k ∧ kvs.length < sizeLine ∧ H' = upd H a (.dK (putK kvs k v))) ∨
  ∃ kvs k b, H a = some (.dT kvs) ∧ y = .ref b ∧ H b = some (.tup (k.map kV)) ∧ kvs.length < sizeLine ∧ H' = upd H a (.dT (putK kvs k v))
theorem DGet.k {H : Hp} {a : Addr} {kvs : List (Key × V)} {k : Key} (e : H a = some (.dK kvs)) : DGet H a (kV k) (valV kvs k) := .inl ⟨kvs, k, .inl e, rfl, rfl⟩
theorem DGet.t {H : Hp} {a b : Addr} {kvs : List (List Key × V)} {k : List Key} (e : H a = some (.dT kvs)) (eb : H b = some (.tup (k.map kV))) : DGet H a (.ref b) (valV kvs k) := .inr ⟨kvs, k, b, .inl e, rfl, eb, rfl⟩
theorem DPut.k {H : Hp} {a : Addr} {kvs : List (Key × V)} {k : Key} {v : V} (e : H a = some (.dK kvs)) (hl : kvs.length < sizeLine) : DPut H a (kV k) v (upd H a (.dK (putK kvs k v))) := .inl ⟨kvs, k, e, rfl, hl, rfl⟩
theorem DPut.t {H : Hp} {a b : Addr} {kvs : List (List Key × V)} {k : List Key} {v : V} (e : H a = some (.dT kvs)) (eb : H b = some (.tup (k.map kV))) (hl : kvs.length < sizeLine) :
    DPut H a (.ref b) v (upd H a (.dT (putK kvs k v))) := .inr ⟨kvs, k, b, e, rfl, eb, hl, rfl⟩


section
variable {X : Cx} {pins : List (Addr × Obj)} {σ : St} {H : Hp} {s : Shared} {a : Addr} {y v : V} {u r : Value} {o : Option V} {A : Around} {E : Value → Shared → Prop}

theorem Inv.big (I : Inv X pins σ H s) : sysModules < s.heap.objs.size := by
  have h : mainGlobals < s.heap.objs.size := (I.mod.glob.keeps I.bk).lt
  exact Nat.lt_trans (by decide) h

/-- d[y], there -/
theorem d_getItem {Q : Value → Shared → Prop} (hu : A.units + 1 < cLine) (I : Inv X pins σ H s) (g : DGet H a y (some v)) (ry : RelV y u) (h : ∀ w' s', Inv X pins σ H s' → RelV v w' → Q w' s') :
    wpAny (model X.prog X.w) A (getItem (.ref a) u) Q E s := by
  rcases g with ⟨kvs, k, e, ey, l⟩ | ⟨kvs, k, b, e, ey, eb, l⟩
  · subst ey
    obtain ⟨z, hd, vs, rel, dd⟩ := dk_rd I.hok e
    obtain ⟨w', hw, rw'⟩ := RelO.some_of (v := v) (o := valueAt vs k) (by rw [l]; exact rel.val k)
    exact wpAny_getItem_of (kV_is ry) dd.mapOf hw (h w' _ (I.tok _) rw')
  · subst ey
    cases (show u = Value.ref b from ry)
    obtain ⟨z, hd, xs, rel, dd⟩ := dt_rd I.hok e
    obtain ⟨w', hw, rw'⟩ := RelO.some_of (v := v) (o := (atKey xs k).map (·.2)) (by rw [l]; exact rel.val k)
    obtain ⟨p, hp, hp2⟩ := Option.map_eq_some_iff.mp hw
    refine wpAny_getItem_heap (tupleKind_room_in1 hu) (key_of I.hok eb) dd hp ?_
    rw [hp2]
    exact h w' _ (I.tok _) rw'
/-- y in d -/
theorem d_in {Q : Value → Shared → Prop} (hu : A.units + 1 < cLine) (I : Inv X pins σ H s) (g : DGet H a y o) (ry : RelV y u) (h : ∀ s', Inv X pins σ H s' → Q (.bool o.isSome) s') :
    wpAny (model X.prog X.w) A (compareOp .In u (.ref a)) Q E s := by
  rcases g with ⟨kvs, k, e, ey, l⟩ | ⟨kvs, k, b, e, ey, eb, l⟩
  · subst ey
    obtain ⟨z, hd, vs, rel, dd⟩ := dk_rd I.hok e
    refine wpAny_in_of (kV_is ry) hd dd.mapOf ?_
    rw [← (rel.val k).isSome_eq, ← l]
    exact h _ (I.tok _)
  · subst ey
    cases (show u = Value.ref b from ry)
    obtain ⟨z, hd, xs, rel, dd⟩ := dt_rd I.hok e
    refine wpAny_in_heap (tupleKind_room_in1 hu) (key_of I.hok eb) hd dd ?_
    have q := (rel.val k).isSome_eq
    rw [Option.isSome_map] at q
    rw [← q, ← l]
    exact h _ (I.tok _)
theorem d_notIn {Q : Value → Shared → Prop} (hu : A.units + 1 < cLine) (I : Inv X pins σ H s) (g : DGet H a y o) (ry : RelV y u) (h : ∀ s', Inv X pins σ H s' → Q (.bool (!o.isSome)) s') :
    wpAny (model X.prog X.w) A (compareOp .NotIn u (.ref a)) Q E s := by
  rcases g with ⟨kvs, k, e, ey, l⟩ | ⟨kvs, k, b, e, ey, eb, l⟩
  · subst ey
    obtain ⟨z, hd, vs, rel, dd⟩ := dk_rd I.hok e
    refine wpAny_notIn_of (kV_is ry) hd dd.mapOf ?_
    rw [← (rel.val k).isSome_eq, ← l]
    exact h _ (I.tok _)
  · subst ey
    cases (show u = Value.ref b from ry)
    obtain ⟨z, hd, xs, rel, dd⟩ := dt_rd I.hok e
    refine wpAny_notIn_heap (tupleKind_room_in1 hu) (key_of I.hok eb) hd dd ?_
    have q := (rel.val k).isSome_eq
    rw [Option.isSome_map] at q
    rw [← q, ← l]
    exact h _ (I.tok _)
/-- a dict's object is replaced -/
theorem d_write {h' : Heap} {t' : Nat} {ob : HO} (I : Inv X pins σ H s) (mu : Mut (H a)) (hs : Heap.SameBut a s.heap h') (he : ∃ q, h'.get? a = some q) (new : ObjOk X.prog X.w (upd H a ob) h' a ob) :
    Inv X pins σ (upd H a ob) { s with heap := h', toks := t' } :=
  I.write (x := a) (e := a) mu (.inl rfl) (fun b q hb z => (hs.2 b hb).trans z) he new
theorem dk_new {P : Program} {w : World} {H' : Hp} {h' : Heap} {kvs : List (Key × V)} {vs : List (Key × Value)} (z : kvs.length ≤ sizeLine) (hd : (a == sysModules) = false) (rel : KV kvs vs) (dd : h'.DictOf (mixKind P w) a vs) :
    ObjOk P w H' h' a (.dK kvs) := ⟨z, hd, vs, rel, dd⟩
/-- d[y] = v -/
theorem d_setItem {H' : Hp} {Q : Unit → Shared → Prop} (hu : A.units + 1 < cLine) (I : Inv X pins σ H s) (g : DPut H a y v H') (ry : RelV y u) (rv : RelV v r) (h : ∀ s', Inv X pins σ H' s' → Q () s') :
    wpAny (model X.prog X.w) A (setItem (.ref a) u r) Q E s := by
  rcases g with ⟨kvs, k, e, ey, l, eH⟩ | ⟨kvs, k, b, e, ey, eb, l, eH⟩
  · subst ey eH
    obtain ⟨z, hd, vs, rel, dd⟩ := dk_of I.hok e
    have hz : vs.length ≤ sizeLine := by rw [← rel.length]; exact z
    have hl : (putK kvs k v).length ≤ sizeLine := by have := length_putK kvs k v; omega
    refine wpAny_setItem_pairs (hsz := hz) (kV_is ry) dd fun h' dd' hs => h _ ?_
    have he : ∃ q, h'.get? a = some q := let ⟨q, _, _, hq, _⟩ := dd'; ⟨q, hq⟩
    exact d_write I (by rw [e]; exact True.intro) hs he (dk_new hl hd (rel.put k rv) dd')
  · subst ey eH
    cases (show u = Value.ref b from ry)
    obtain ⟨z, hd, xs, rel, dd⟩ := dt_of I.hok e
    have hz : xs.length ≤ sizeLine := by rw [← Paired.length rel]; exact z
    have hl : (putK kvs k v).length ≤ sizeLine := by have := length_putK kvs k v; omega
    refine wpAny_setItem_heap (hsz := hz) (tupleKind_room_in1 hu) (key_of I.hok eb) dd fun h' dd' hs => h _ ?_
    obtain ⟨q, es, ep, hq, h2, h3, h4, _, h5⟩ := dd'
    refine d_write I (by rw [e]; exact True.intro) hs ⟨q, hq⟩ ⟨hl, hd, _, (rel.put k eb rv).keeps fun c ys ec => ?_, q, es, ep, hq, h2, h3, h4, h5⟩
    rw [upd_ne (ne_of ec e (fun z => nomatch z))]
    exact ec
end

section
variable {X : Cx} {pins : List (Addr × Obj)} {σ : St} {H : Hp} {s : Shared} {a : Addr} {kvs : List (Key × V)} {k : Key} {u : Value} {A : Around} {E : Value → Shared → Prop}
/-- del d[k] -/
theorem d_delItem {Q : Unit → Shared → Prop} (I : Inv X pins σ H s) (e : H a = some (.dK kvs)) (ry : RelV (kV k) u) (l : (valV kvs k).isSome = true) (h : ∀ s', Inv X pins σ (upd H a (.dK (dropK kvs k))) s' → Q () s') :
    wpAny (model X.prog X.w) A (delItem (.ref a) u) Q E s := by
  obtain ⟨z, hd, vs, rel, dd⟩ := dk_of I.hok e
  refine wpAny_delItem_slot dd.typeIs (by decide) PySem.F.slot_dict_delitem
    (call_meetsIn PySem.F.slot_dict_delitem dd.typeIs PySem.F.entry_dict_delitem (PySem.F.args_dict_delitem_2 _ _) (meets_dict_delitem_pairs (mixKind X.prog X.w) a (kV_is ry)) ⟨vs, dd, by rw [← rel.length]; exact z, by rw [← (rel.val k).isSome_eq]; exact l, fun h' dd' hs => h _ ?_⟩)
  have he : ∃ q, h'.get? a = some q := let ⟨q, _, _, hq, _⟩ := dd'; ⟨q, hq⟩
  exact d_write I (by rw [e]; exact True.intro) hs he (dk_new (Nat.le_trans (dropK_le kvs k) z) hd (rel.drop k) dd')
/-- d.pop(k[, x]), there -/
theorem d_pop {v : V} {more : List Value} {Q : Value → Shared → Prop} (I : Inv X pins σ H s) (e : H a = some (.dK kvs)) (ry : RelV (kV k) u) (l : valV kvs k = some v) (hm : more = [] ∨ ∃ x, more = [x])
    (h : ∀ w' s', Inv X pins σ (upd H a (.dK (dropK kvs k))) s' → RelV v w' → Q w' s') : wpAny (model X.prog X.w) A (call (.builtin "dict.pop") (.ref a :: u :: more)) Q E s := by
  obtain ⟨z, hd, vs, rel, dd⟩ := dk_of I.hok e
  obtain ⟨w', hw, rw'⟩ := RelO.some_of (v := v) (o := valueAt vs k) (by rw [← l]; exact rel.val k)
  have hp : (keyPart u).isSome = true := by
    cases k with
    | inl i => obtain ⟨t, q⟩ := (show ∃ t, u = Value.int i t from ry); subst q; rfl
    | inr x => obtain ⟨t, q⟩ := (show ∃ t, u = Value.str x t from ry); subst q; rfl
  have ha : argsOk "dict.pop" ⟨.ref a :: u :: more, []⟩ := by
    rcases hm with q | ⟨x, q⟩
    · subst q; exact PySem.F.args_dict_pop_2 _ _
    · subst q; exact PySem.F.args_dict_pop_3 _ _ _
  refine call_meetsIn PySem.F.slot_dict_pop dd.typeIs PySem.F.entry_dict_pop ha (meets_dict_pop_there (mixKind X.prog X.w) a (kV_is ry) more hm hp)
    ⟨vs, w', dd, by rw [← rel.length]; exact z, hw, fun h' dd' hs => h w' _ ?_ rw'⟩
  have he : ∃ q, h'.get? a = some q := let ⟨q, _, _, hq, _⟩ := dd'; ⟨q, hq⟩
  exact d_write I (by rw [e]; exact True.intro) hs he (dk_new (Nat.le_trans (dropK_le kvs k) z) hd (rel.drop k) dd')
/-- d.pop(k, x), not there -/
theorem d_popD {r : Value} {Q : Value → Shared → Prop} (I : Inv X pins σ H s) (e : H a = some (.dK kvs)) (ry : RelV (kV k) u) (l : valV kvs k = none) (h : ∀ s', Inv X pins σ H s' → Q r s') :
    wpAny (model X.prog X.w) A (call (.builtin "dict.pop") [.ref a, u, r]) Q E s := by
  obtain ⟨z, hd, vs, rel, dd⟩ := dk_of I.hok e
  have hn : valueAt vs k = none := RelO.none_of (by rw [← l]; exact rel.val k)
  have hp : (keyPart u).isSome = true := by
    cases k with
    | inl i => obtain ⟨t, q⟩ := (show ∃ t, u = Value.int i t from ry); subst q; rfl
    | inr x => obtain ⟨t, q⟩ := (show ∃ t, u = Value.str x t from ry); subst q; rfl
  exact call_meetsIn PySem.F.slot_dict_pop dd.typeIs PySem.F.entry_dict_pop (PySem.F.args_dict_pop_3 _ _ _) (meets_dict_pop_default (mixKind X.prog X.w) a (kV_is ry) hd hp r) ⟨vs, dd, hn, h _ (I.tok _)⟩
/-- d.clear() -/
theorem d_clear {Q : Value → Shared → Prop} (I : Inv X pins σ H s) (e : H a = some (.dK kvs)) (h : ∀ s', Inv X pins σ (upd H a (.dK [])) s' → Q .none s') : wpAny (model X.prog X.w) A (call (.builtin "dict.clear") [.ref a]) Q E s := by
  obtain ⟨z, hd, vs, rel, dd⟩ := dk_of I.hok e
  refine call_meetsIn PySem.F.slot_dict_clear dd.typeIs PySem.F.entry_dict_clear (PySem.F.args_dict_clear_1 _) (meets_dict_clear (mixKind X.prog X.w) a) ⟨vs, dd, by rw [← rel.length]; exact z, fun h' dd' hs => h _ ?_⟩
  have he : ∃ q, h'.get? a = some q := let ⟨q, _, _, hq, _⟩ := dd'; ⟨q, hq⟩
  exact d_write (t' := s.toks) I (by rw [e]; exact True.intro) hs he (dk_new (Nat.zero_le _) hd .nil dd')
/-- len(d) -/
theorem d_len {Q : Value → Shared → Prop} (I : Inv X pins σ H s) (e : Rd H a (.dK kvs)) (h : ∀ t s', Inv X pins σ H s' → Q (.int kvs.length t) s') : wpAny (model X.prog X.w) A (call (.builtin "len") [.ref a]) Q E s := by
  obtain ⟨z, hd, vs, rel, dd⟩ := dk_rd I.hok e
  refine call_len_dict hd dd (by rw [← rel.length]; rw [sizeLine_eq] at z; omega) ?_
  rw [← rel.length]
  exact h _ _ (I.tok _)
/-- if d -/
theorem d_truth {Q : Bool → Shared → Prop} (I : Inv X pins σ H s) (e : Rd H a (.dK kvs)) (h : ∀ s', Inv X pins σ H s' → Q (!kvs.isEmpty) s') : wpAny (model X.prog X.w) A (truthy (.ref a)) Q E s := by
  obtain ⟨z, hd, vs, rel, dd⟩ := dk_rd I.hok e
  refine wpAny_truthy_dict hd dd (by rw [← rel.length]; rw [sizeLine_eq] at z; omega) ?_
  have q : kvs.isEmpty = vs.isEmpty := by cases rel <;> rfl
  rw [← q]
  exact h _ (I.tok _)
end


/-! ### readings and rules -/
/-- the element of a subscription, not a slice -/
def NoSl (i : Expr) : Prop := ∀ ov iv, subscripted i false ov iv = operate [ov, iv] (getItem ov iv)
theorem subD_of {prog : Program} {w : World} {A : Around} {E : Value → Shared → Prop} {s : Shared} {env : Env} {value slice : Expr} {pos : Pos} {T id : String} {Q : Value → Shared → Prop}
    (hl : typeLookup (.type T) "__getitem__" = pure (some (.builtin id))) (hs : NoSl slice)
    (h : wpAny (model prog w) A (eval value env) (fun o s₁ => wpAny (model prog w) A (eval slice env) (fun i s₂ => s₂.TypeIs o T ∧ wpAny (model prog w) A (getItem o i) Q E s₂) E s₁) E s) :
    wpAny (model prog w) A (eval (.Subscript value slice pos) env) Q E s := by
  refine Subscript_ (wpAny_mono h (fun o s₁ h₁ => wpAny_mono h₁ (fun i s₂ h₂ => ?_) fun _ _ x => x) fun _ _ x => x)
  obtain ⟨hT, h₂⟩ := h₂
  unfold subscriptTail
  refine wpAny_bind ?_
  rw [getitemInPython_of_ne hT.not_modules]
  refine wpAny_bind (wpAny_specialOf hT hl ?_)
  have fin : wpAny (model prog w) A (subscripted slice false o i) (fun r s₃ => wpAny (model prog w) A (letTemporaryGo value o r >>= fun _ => pure r) Q E s₃) E s₂ := by
    rw [hs o i]
    exact wpAny_operating (wpAny_mono h₂ (fun r s₃ h₃ => wpAny_bind (wpAny_letTemporaryGo (wpAny_pure h₃))) fun _ _ x => x)
  first
    | exact wpAny_pure (wpAny_bind fin)
    | exact wpAny_bind (wpAny_pure (wpAny_bind fin))
    | exact wpAny_bind fin

theorem dict_typeIs {X : Cx} {pins : List (Addr × Obj)} {σ : St} {H : Hp} {s : Shared} {a : Addr} {y : V} {o : Option V} (I : Inv X pins σ H s) (g : DGet H a y o) : s.TypeIs (.ref a) "dict" := by
  rcases g with ⟨kvs, k, e, _, _⟩ | ⟨kvs, k, b, e, _, _, _⟩
  · obtain ⟨_, _, vs, _, dd⟩ := dk_rd I.hok e
    exact dd.typeIs
  · obtain ⟨_, _, xs, _, dd⟩ := dt_rd I.hok e
    exact dd.typeIs
theorem dict_noDict {X : Cx} {pins : List (Addr × Obj)} {σ : St} {H : Hp} {s : Shared} {a : Addr} {y : V} {o : Option V} (I : Inv X pins σ H s) (g : DGet H a y o) :
    ∀ b, Value.ref a = .ref b → ∃ ob, s.heap.get? b = some ob ∧ ob.dict = none := fun b q => by
  cases q
  rcases g with ⟨kvs, k, e, _, _⟩ | ⟨kvs, k, b, e, _, _, _⟩
  · obtain ⟨_, _, vs, _, ob, _, _, h1, h2, _⟩ := dk_rd I.hok e
    exact ⟨ob, h1, h2.2.1⟩
  · obtain ⟨_, _, xs, _, ob, _, _, h1, h2, _⟩ := dt_rd I.hok e
    exact ⟨ob, h1, h2.2.1⟩

/-- d[y] -/
def tDGet (td ty : TE) : TE := fun σ H Q => td σ H fun x H1 => ty σ H1 fun y H2 => ∃ a v, x = .ref a ∧ DGet H2 a y (some v) ∧ Q v H2
/-- y in d, y not in d -/
def tDIn (ty td : TE) : TE := fun σ H Q => ty σ H fun y H1 => td σ H1 fun x H2 => ∃ a o, x = .ref a ∧ DGet H2 a y o ∧ Q (.bl o.isSome) H2
def tDNotIn (ty td : TE) : TE := fun σ H Q => ty σ H fun y H1 => td σ H1 fun x H2 => ∃ a o, x = .ref a ∧ DGet H2 a y o ∧ Q (.bl (!o.isSome)) H2
/-- d[y] = v -/
def sDPut (td ty tv : TE) : TS := fun D σ H => tv σ H fun v H1 => td σ H1 fun x H2 => ty σ H2 fun y H3 => ∃ a H4, x = .ref a ∧ DPut H3 a y v H4 ∧ D.nx σ H4
/-- d[y] op= v -/
def sDAug (td ty tv : TE) (rd : V → V → Hp → VK → Prop) : TS := fun D σ H => td σ H fun x H1 => ty σ H1 fun y H2 => ∃ a v, x = .ref a ∧ DGet H2 a y (some v) ∧
  tv σ H2 fun y2 H3 => rd v y2 H3 fun z H4 => ∃ H5, DPut H4 a y z H5 ∧ D.nx σ H5
/-- del d[y] -/
def sDDel (td ty : TE) : TS := fun D σ H => td σ H fun x H1 => ty σ H1 fun y H2 => ∃ a kvs k, x = .ref a ∧ H2 a = some (.dK kvs) ∧ y = kV k ∧ (valV kvs k).isSome = true ∧ D.nx σ (upd H2 a (.dK (dropK kvs k)))

section
variable {X : Cx} {o i e value : Expr} {pos pos' tpos : Pos} {td ty tv : TE}
theorem pe_dget (hu : X.A.units + 1 < cLine) (ho : PE X o td) (hi : PE X i ty) (hs : NoSl i) : PE X (.Subscript o i pos) (tDGet td ty) := by
  intro pins s σ H Q I h
  refine subD_of PySem.F.slot_dict_getitem.lookup hs (thn (ho pins s σ H _ I h) fun u s1 ⟨x, H1, I1, rx, q1⟩ => thn (hi pins s1 σ H1 _ I1 q1) fun iv s2 ⟨y, H2, I2, ry, a, v, ex, g, q2⟩ => ?_)
  subst ex
  obtain rfl : u = Value.ref a := rx
  exact ⟨dict_typeIs I2 g, d_getItem hu I2 g ry fun w' s3 I3 rw' => ⟨v, H2, I3, rw', q2⟩⟩
theorem pc_din (hu : X.A.units + 1 < cLine) (hi : PE X i ty) (ho : PE X o td) : PC X .In i o (tDIn ty td) := by
  intro pins s σ H Q I h
  refine thn (hi pins s σ H _ I h) fun iv s1 ⟨y, H1, I1, ry, q1⟩ => thn (ho pins s1 σ H1 _ I1 q1) fun u s2 ⟨x, H2, I2, rx, a, ov, ex, g, q2⟩ => ?_
  subst ex
  obtain rfl : u = Value.ref a := rx
  exact d_in hu I2 g ry fun s3 I3 => ⟨.bl ov.isSome, H2, I3, rfl, q2⟩
theorem pc_dnotin (hu : X.A.units + 1 < cLine) (hi : PE X i ty) (ho : PE X o td) : PC X .NotIn i o (tDNotIn ty td) := by
  intro pins s σ H Q I h
  refine thn (hi pins s σ H _ I h) fun iv s1 ⟨y, H1, I1, ry, q1⟩ => thn (ho pins s1 σ H1 _ I1 q1) fun u s2 ⟨x, H2, I2, rx, a, ov, ex, g, q2⟩ => ?_
  subst ex
  obtain rfl : u = Value.ref a := rx
  exact d_notIn hu I2 g ry fun s3 I3 => ⟨.bl (!ov.isSome), H2, I3, rfl, q2⟩
theorem ps_dput (hu : X.A.units + 1 < cLine) (ho : PE X o td) (hi : PE X i ty) (hv : PE X value tv) (hs : swapsWith value (some (.Subscript o i pos')) pos.line X.env = pure false) :
    PS X (.Assign [.Subscript o i pos'] value pos) (sDPut td ty tv) := by
  intro pins s σ H D I h
  refine wpAny_Assign_Subscript (thn (hv pins s σ H _ I h) fun r s1 ⟨v, H1, I1, rv, q1⟩ => thn (ho pins s1 σ H1 _ I1 q1) fun u s2 ⟨x, H2, I2, rx, q2⟩ => thn (hi pins s2 σ H2 _ I2 q2) fun iv s3 ⟨y, H3, I3, ry, a, H4, ex, g, q3⟩ => ?_) hs
  subst ex
  obtain rfl : u = Value.ref a := rx
  exact d_setItem hu I3 g ry rv fun s4 I4 => ⟨σ, H4, I4, q3⟩
theorem ps_daug {op : Operator} {rd : V → V → Hp → VK → Prop} (hu : X.A.units + 1 < cLine) (ho : PE X o td) (hi : PE X i ty) (hv : PE X value tv) (hop : InOp X op rd)
    (ha : ∀ ov iv new, augStore i ov iv new = (do holding [new, ov, iv] (setItem ov iv new); release [new, ov, iv] []; pure .next)) : PS X (.AugAssign (.Subscript o i tpos) op value pos) (sDAug td ty tv rd) := by
  intro pins s σ H D I h
  refine wpAny_AugAssign_SubscriptAny (thn (ho pins s σ H _ I h) fun u s1 ⟨x, H1, I1, rx, q1⟩ => thn (hi pins s1 σ H1 _ I1 q1) fun iv s2 ⟨y, H2, I2, ry, a, v, ex, g, q2⟩ => ?_) ha
  subst ex
  obtain rfl : u = Value.ref a := rx
  refine d_getItem hu I2 g ry fun w' s3 I3 rw' => thn (hv pins s3 σ H2 _ I3 q2) fun w2 s4 ⟨y2, H3, I4, ry2, q3⟩ => thn (hop pins s4 σ H3 v y2 w' w2 _ I4 rw' ry2 q3) fun w3 s5 ⟨z, H4, I5, rz, H5, g5, q4⟩ => ?_
  exact d_setItem hu I5 g5 ry rz fun s6 I6 => ⟨σ, H5, I6, q4⟩
theorem ps_ddel (ho : PE X o td) (hi : PE X i ty) : PS X (.Delete [.Subscript o i tpos] pos) (sDDel td ty) := by
  intro pins s σ H D I h
  refine wpAny_Delete (wpAny_deleteEach_cons (wpAny_delete_Subscript (thn (ho pins s σ H _ I h) fun u s1 ⟨x, H1, I1, rx, q1⟩ => thn (hi pins s1 σ H1 _ I1 q1) fun iv s2 ⟨y, H2, I2, ry, a, kvs, k, ex, e, ey, l, q2⟩ => ?_)))
  subst ex ey
  obtain rfl : u = Value.ref a := rx
  exact d_delItem I2 e ry l fun s3 I3 => wpAny_deleteEach_nil ⟨σ, _, I3, q2⟩
end


/-! ### displays -/
theorem dk_empty {P : Program} {w : World} {H : Hp} (h : Heap) (hb : sysModules < h.objs.size) : ObjOk P w H (h.push { cls := .type "dict", data := .dict #[] }) h.objs.size (.dK []) :=
  ⟨Nat.zero_le _, beq_eq_false_iff_ne.mpr (Ne.symm (Nat.ne_of_lt hb)), [], .nil, Heap.DictOf.new h⟩
theorem dt_empty {P : Program} {w : World} {H : Hp} (h : Heap) (hb : sysModules < h.objs.size) : ObjOk P w H (h.push { cls := .type "dict", data := .dict #[] }) h.objs.size (.dT []) :=
  ⟨Nat.zero_le _, beq_eq_false_iff_ne.mpr (Ne.symm (Nat.ne_of_lt hb)), [], .nil, _, #[], 0, Heap.get?_push_size _ rfl, ⟨rfl, rfl, rfl⟩, rfl, rfl, List.nodup_nil⟩
/-- {}, to be a dict of the kind that is wanted -/
def tDNewK : TE := fun _ H Q => ∀ p, H p = none → Q (.ref p) (upd H p (.dK []))
def tDNewT : TE := fun _ H Q => ∀ p, H p = none → Q (.ref p) (upd H p (.dT []))
section
variable {X : Cx} {pos : Pos}
theorem pe_dnewK : PE X (.Dict [] [] pos) tDNewK := fun pins s σ H Q I h =>
  wpAny_Dict_empty ⟨.ref s.heap.objs.size, _, I.laid (a := s.heap.objs.size) (o := .dK []) (t' := s.toks) (fun _ _ q => Heap.get?_push_of_some _ q) (Nat.le_refl _) (dk_empty s.heap I.big), rfl, h _ (I.hok.fresh (Nat.le_refl _))⟩
theorem pe_dnewT : PE X (.Dict [] [] pos) tDNewT := fun pins s σ H Q I h =>
  wpAny_Dict_empty ⟨.ref s.heap.objs.size, _, I.laid (a := s.heap.objs.size) (o := .dT []) (t' := s.toks) (fun _ _ q => Heap.get?_push_of_some _ q) (Nat.le_refl _) (dt_empty s.heap I.big), rfl, h _ (I.hok.fresh (Nat.le_refl _))⟩
end

/-- the pairs of a display, from the left -/
def tPairs : List (TE × TE) → St → Hp → (List (V × V) → Hp → Prop) → Prop
  | [], _, H, Q => Q [] H
  | (tk, tv) :: r, σ, H, Q => tk σ H fun x H1 => tv σ H1 fun y H2 => tPairs r σ H2 fun ps H3 => Q ((x, y) :: ps) H3
abbrev VV : List (V × V) → List (Value × Value) → Prop := Paired fun p q => RelV p.1 q.1 ∧ RelV p.2 q.2
def PPs (X : Cx) (pos : Pos) (keys : List (Option Expr)) (values : List Expr) (trs : List (TE × TE)) : Prop :=
  ∀ (pins : List (Addr × Obj)) (s : Shared) (σ : St) (H : Hp) (Q : List (V × V) → Hp → Prop), Inv X pins σ H s → tPairs trs σ H Q →
    wpAny (model X.prog X.w) X.A (evalPairs (pairTrees keys values X.env pos)) (fun vs s' => ∃ ps H', Inv X pins σ H' s' ∧ VV ps vs ∧ Q ps H') X.xe s
theorem pps_nil {X : Cx} {pos : Pos} : PPs X pos [] [] [] := fun pins s σ H Q I h => pairTrees_nil_walk ⟨[], H, I, .nil, h⟩
theorem pps_cons {X : Cx} {pos : Pos} {k v : Expr} {ks : List (Option Expr)} {vs : List Expr} {tk tv : TE} {trs : List (TE × TE)} (hk : PE X k tk) (hv : PE X v tv) (hr : PPs X pos ks vs trs) :
    PPs X pos (some k :: ks) (v :: vs) ((tk, tv) :: trs) := fun pins s σ H Q I h =>
  pairTrees_cons_walk (thn (hk pins s σ H _ I h) fun u s1 ⟨x, H1, I1, rx, q1⟩ => thn (hv pins s1 σ H1 _ I1 q1) fun w2 s2 ⟨y, H2, I2, ry, q2⟩ =>
    thn (hr pins s2 σ H2 _ I2 q2) fun ws s3 ⟨ps, H3, I3, rel, q3⟩ => ⟨(x, y) :: ps, H3, I3, .cons ⟨rx, ry⟩ rel, q3⟩)

def mergeK (kvs more : List (Key × V)) : List (Key × V) := more.foldl (fun acc kv => putK acc kv.1 kv.2) kvs
theorem KV.merge : ∀ {more : List (Key × V)} {rs : List (Key × Value)} {kvs : List (Key × V)} {vs : List (Key × Value)}, KV more rs → KV kvs vs → KV (mergeK kvs more) (merged vs rs) := by
  intro more rs kvs vs r
  unfold KV at r
  induction r generalizing kvs vs with
  | nil => intro q; exact q
  | @cons p q ps qs h t ih =>
    intro r0
    have e : KV (putK kvs p.1 p.2) (stored vs q.1 q.2) := by
      have := r0.put p.1 h.2
      rw [← h.1]; exact this
    exact ih e
theorem length_mergeK : ∀ (more kvs : List (Key × V)), (mergeK kvs more).length ≤ kvs.length + more.length
  | [], kvs => by show kvs.length ≤ kvs.length + 0; omega
  | p :: r, kvs => by
    have h1 := length_mergeK r (putK kvs p.1 p.2)
    have h2 := length_putK kvs p.1 p.2
    show (mergeK (putK kvs p.1 p.2) r).length ≤ _
    rw [List.length_cons]; omega
theorem carries_of {P : Program} {w : World} : ∀ {kvs : List (Key × V)} {ws : List (Value × Value)}, VV (kvs.map fun kv => (kV kv.1, kv.2)) ws → ∃ rs, Carries (mixKind P w) ws rs ∧ KV kvs rs
  | [], _, r => by rw [List.map_nil] at r; cases r; exact ⟨[], True.intro, .nil⟩
  | p :: kvs, _, r => by
    rw [List.map_cons] at r
    cases r with
    | @cons a b as bs h t =>
      obtain ⟨rs, c, q⟩ := carries_of (P := P) (w := w) t
      obtain ⟨b1, b2⟩ := b
      exact ⟨(p.1, b2) :: rs, ⟨kV_is h.1, rfl, c⟩, .cons ⟨rfl, h.2⟩ q⟩
/-- {k: v, ..} with keys ints and texts; the new dict stands empty while the pairs are made -/
def tDisp (trs : List (TE × TE)) : TE := fun σ H Q => ∀ p, H p = none → tPairs trs σ (upd H p (.dK [])) fun ps H2 => H2 p = some (.dK []) ∧ ∃ kvs : List (Key × V), ps = kvs.map (fun kv => (kV kv.1, kv.2)) ∧ kvs.length ≤ 15 ∧ Q (.ref p) (upd H2 p (.dK (mergeK [] kvs)))
theorem pe_disp {X : Cx} {pos : Pos} {keys : List (Option Expr)} {values : List Expr} {trs : List (TE × TE)} (h : PPs X pos keys values trs) (hall : keys.all (·.isSome) = true) (hl : keys.length = values.length) (h0 : keys ≠ [])
    (h15 : keys.length ≤ 15) : PE X (.Dict keys values pos) (tDisp trs) := by
  intro pins s σ H Q I q
  have hn := I.hok.fresh (Nat.le_refl s.heap.objs.size)
  have I1 := I.laid (a := s.heap.objs.size) (o := .dK []) (h' := s.heap.push { cls := .type "dict", data := .dict #[] }) (t' := s.toks) (fun _ _ q => Heap.get?_push_of_some _ q) (Nat.le_refl _) (dk_empty s.heap I.big)
  refine wpAny_Dict_walk (knd := mixKind X.prog X.w) hall hl h0 h15 (thn (h pins _ σ _ _ I1 (q _ hn)) fun ws s2 ⟨ps, H2, I2, rel, e, kvs, ep, lk, q2⟩ => ?_)
  subst ep
  obtain ⟨rs, c, rk⟩ := carries_of (P := X.prog) (w := X.w) rel
  obtain ⟨z, hd, vs0, r0, dd⟩ := dk_of I2.hok e
  cases r0
  refine ⟨rs, c, dd, fun h' dd' hs => ⟨.ref s.heap.objs.size, _, ?_, rfl, q2⟩⟩
  have hz : (mergeK [] kvs).length ≤ sizeLine := by
    have h1 := length_mergeK kvs []
    rw [List.length_nil] at h1
    rw [sizeLine_eq]; omega
  have he : ∃ q, h'.get? s.heap.objs.size = some q := let ⟨q, _, _, hq, _⟩ := dd'; ⟨q, hq⟩
  exact d_write I2 (by rw [e]; exact True.intro) hs he (dk_new hz hd (rk.merge .nil) dd')


/-! ### methods -/
/-- a method call o.m(e) of a built-in, with one argument: what must be seen of the text -/
structure M1 (X : Cx) (o : Expr) (m : Str) (apos : Pos) (e : Expr) (cpos : Pos) : Prop where
  base : attributeBase o m X.env (eval o X.env) = eval o X.env
  few : ((backTo cpos (starEach [e] X.env)).all (fun x => !x.1) && (backToKw cpos (keywordEach [] X.env)).all (fun x => x.1.isSome)
    && decide (([e] : List Expr).length + ([] : List Keyword).length + (if ([] : List Keyword).isEmpty then 0 else 1) < 30)) = true
  line : (apos.endLine == cpos.line) = true
  trees : backTo cpos (starEach [e] X.env) = [(false, eval e X.env)]
structure M2 (X : Cx) (o : Expr) (m : Str) (apos : Pos) (e f : Expr) (cpos : Pos) : Prop where
  base : attributeBase o m X.env (eval o X.env) = eval o X.env
  few : ((backTo cpos (starEach [e, f] X.env)).all (fun x => !x.1) && (backToKw cpos (keywordEach [] X.env)).all (fun x => x.1.isSome)
    && decide (([e, f] : List Expr).length + ([] : List Keyword).length + (if ([] : List Keyword).isEmpty then 0 else 1) < 30)) = true
  line : (apos.endLine == cpos.line) = true
  trees : backTo cpos (starEach [e, f] X.env) = [(false, eval e X.env), (false, eval f X.env)]

/-- a is a dict, whatever its keys -/
def IsD (H : Hp) (a : Addr) : Prop := (∃ kvs, Rd H a (.dK kvs)) ∨ ∃ kvs, Rd H a (.dT kvs)
theorem isD_at {X : Cx} {pins : List (Addr × Obj)} {σ : St} {H : Hp} {s : Shared} {a : Addr} (I : Inv X pins σ H s) (d : IsD H a) :
    s.TypeIs (.ref a) "dict" ∧ (∀ b, Value.ref a = .ref b → ∃ ob, s.heap.get? b = some ob ∧ ob.dict = none) ∧ (a == sysModules) = false := by
  rcases d with ⟨kvs, e⟩ | ⟨kvs, e⟩
  · obtain ⟨_, hd, vs, _, dd⟩ := dk_rd I.hok e
    refine ⟨dd.typeIs, fun b q => ?_, hd⟩
    cases q
    obtain ⟨ob, _, _, h1, h2, _⟩ := dd
    exact ⟨ob, h1, h2.2.1⟩
  · obtain ⟨_, hd, xs, _, dd⟩ := dt_rd I.hok e
    refine ⟨dd.typeIs, fun b q => ?_, hd⟩
    cases q
    obtain ⟨ob, _, _, h1, h2, _⟩ := dd
    exact ⟨ob, h1, h2.2.1⟩

section
variable {X : Cx} {pins : List (Addr × Obj)} {σ : St} {H : Hp} {s : Shared} {a : Addr} {y d : V} {u r : Value} {o : Option V} {A : Around} {E : Value → Shared → Prop}
/-- d.get(y) -/
theorem d_get1 {Q : Value → Shared → Prop} (hu : A.units + 1 < cLine) (I : Inv X pins σ H s) (g : DGet H a y o) (ry : RelV y u) (h : ∀ w' s', Inv X pins σ H s' → RelV (o.getD .non) w' → Q w' s') :
    wpAny (model X.prog X.w) A (call (.builtin "dict.get") [.ref a, u]) Q E s := by
  rcases g with ⟨kvs, k, e, ey, l⟩ | ⟨kvs, k, b, e, ey, eb, l⟩
  · subst ey
    obtain ⟨z, hd, vs, rel, dd⟩ := dk_rd I.hok e
    refine call_meetsIn PySem.F.slot_dict_get dd.typeIs PySem.F.entry_dict_get (PySem.F.args_dict_get_2 _ _) (meets_dict_get (mixKind X.prog X.w) a (kV_is ry) hd) ⟨_, dd.mapOf, h _ _ (I.tok _) ?_⟩
    rw [l]
    exact (rel.val k).getD rfl
  · subst ey
    cases (show u = Value.ref b from ry)
    obtain ⟨z, hd, xs, rel, dd⟩ := dt_rd I.hok e
    refine call_meetsIn PySem.F.slot_dict_get dd.typeIs PySem.F.entry_dict_get (PySem.F.args_dict_get_2 _ _) (meetsH_dict_get (tupleKind (mixKind X.prog X.w)) a b hd) ⟨tupleKind_room_in1 hu, k, xs, key_of I.hok eb, dd, h _ _ (I.tok _) ?_⟩
    rw [l]
    exact (rel.val k).getD rfl
/-- d.get(y, x) -/
theorem d_get2 {Q : Value → Shared → Prop} (hu : A.units + 1 < cLine) (I : Inv X pins σ H s) (g : DGet H a y o) (ry : RelV y u) (rd : RelV d r) (h : ∀ w' s', Inv X pins σ H s' → RelV (o.getD d) w' → Q w' s') :
    wpAny (model X.prog X.w) A (call (.builtin "dict.get") [.ref a, u, r]) Q E s := by
  rcases g with ⟨kvs, k, e, ey, l⟩ | ⟨kvs, k, b, e, ey, eb, l⟩
  · subst ey
    obtain ⟨z, hd, vs, rel, dd⟩ := dk_rd I.hok e
    refine call_meetsIn PySem.F.slot_dict_get dd.typeIs PySem.F.entry_dict_get (PySem.F.args_dict_get_3 _ _ _) (meets_dict_get_default (mixKind X.prog X.w) a (kV_is ry) hd r) ⟨_, dd.mapOf, h _ _ (I.tok _) ?_⟩
    rw [l]
    exact (rel.val k).getD rd
  · subst ey
    cases (show u = Value.ref b from ry)
    obtain ⟨z, hd, xs, rel, dd⟩ := dt_rd I.hok e
    refine call_meetsIn PySem.F.slot_dict_get dd.typeIs PySem.F.entry_dict_get (PySem.F.args_dict_get_3 _ _ _) (meetsH_dict_get_default (tupleKind (mixKind X.prog X.w)) a b hd r) ⟨tupleKind_room_in1 hu, k, xs, key_of I.hok eb, dd, h _ _ (I.tok _) ?_⟩
    rw [l]
    exact (rel.val k).getD rd
end

def tDGet1 (td ty : TE) : TE := fun σ H Q => td σ H fun x H1 => ∃ a, x = .ref a ∧ IsD H1 a ∧ ty σ H1 fun y H2 => ∃ o, DGet H2 a y o ∧ Q (o.getD .non) H2
def tDGet2 (td ty tx : TE) : TE := fun σ H Q => td σ H fun x H1 => ∃ a, x = .ref a ∧ IsD H1 a ∧ ty σ H1 fun y H2 => tx σ H2 fun z H3 => ∃ o, DGet H3 a y o ∧ Q (o.getD z) H3
/-- d.pop(k): there; d.pop(k, x): there or not -/
def tDPop1 (td ty : TE) : TE := fun σ H Q => td σ H fun x H1 => ∃ a, x = .ref a ∧ IsD H1 a ∧ ty σ H1 fun y H2 => ∃ kvs k v, H2 a = some (.dK kvs) ∧ y = kV k ∧ valV kvs k = some v ∧ Q v (upd H2 a (.dK (dropK kvs k)))
def tDPop2 (td ty tx : TE) : TE := fun σ H Q => td σ H fun x H1 => ∃ a, x = .ref a ∧ IsD H1 a ∧ ty σ H1 fun y H2 => tx σ H2 fun z H3 => ∃ kvs k, H3 a = some (.dK kvs) ∧ y = kV k ∧
  (∀ v, valV kvs k = some v → Q v (upd H3 a (.dK (dropK kvs k)))) ∧ (valV kvs k = none → Q z H3)
section
variable {X : Cx} {o e f : Expr} {apos cpos : Pos} {td ty tx : TE}
theorem pe_dget1 (hu : X.A.units + 1 < cLine) (ho : PE X o td) (he : PE X e ty) (m : M1 X o "get" apos e cpos) : PE X (.Call (.Attribute o "get" apos) [e] [] cpos) (tDGet1 td ty) := by
  intro pins s σ H Q I h
  refine wpAny_Call_method m.base m.few m.line PySem.F.plainAttrs_dict PySem.F.slot_dict_get PySem.F.type_dict_get (thn (ho pins s σ H _ I h) fun u s1 ⟨x, H1, I1, rx, a, ex, d, q1⟩ => ?_)
  subst ex
  obtain rfl : u = Value.ref a := rx
  obtain ⟨t1, t2, _⟩ := isD_at I1 d
  refine ⟨t1, t2, ?_⟩
  rw [m.trees]
  refine Calls.callWith_builtin rfl (Calls.evalArgs_plain (Calls.spliced_cons (thn (he pins s1 σ H1 _ I1 q1) fun iv s2 ⟨y, H2, I2, ry, ov, g, q2⟩ => Calls.spliced_nil ?_)))
  exact d_get1 hu I2 g ry fun w' s3 I3 rw' => ⟨_, H2, I3, rw', q2⟩
theorem pe_dget2 (hu : X.A.units + 1 < cLine) (ho : PE X o td) (he : PE X e ty) (hf : PE X f tx) (m : M2 X o "get" apos e f cpos) : PE X (.Call (.Attribute o "get" apos) [e, f] [] cpos) (tDGet2 td ty tx) := by
  intro pins s σ H Q I h
  refine wpAny_Call_method m.base m.few m.line PySem.F.plainAttrs_dict PySem.F.slot_dict_get PySem.F.type_dict_get (thn (ho pins s σ H _ I h) fun u s1 ⟨x, H1, I1, rx, a, ex, d, q1⟩ => ?_)
  subst ex
  obtain rfl : u = Value.ref a := rx
  obtain ⟨t1, t2, _⟩ := isD_at I1 d
  refine ⟨t1, t2, ?_⟩
  rw [m.trees]
  refine Calls.callWith_builtin rfl (Calls.evalArgs_plain (Calls.spliced_cons (thn (he pins s1 σ H1 _ I1 q1) fun iv s2 ⟨y, H2, I2, ry, q2⟩ =>
    Calls.spliced_cons (thn (hf pins s2 σ H2 _ I2 q2) fun fv s3 ⟨z, H3, I3, rz, ov, g, q3⟩ => Calls.spliced_nil ?_))))
  exact d_get2 hu I3 g ry rz fun w' s4 I4 rw' => ⟨_, H3, I4, rw', q3⟩
theorem pe_dpop1 (ho : PE X o td) (he : PE X e ty) (m : M1 X o "pop" apos e cpos) : PE X (.Call (.Attribute o "pop" apos) [e] [] cpos) (tDPop1 td ty) := by
  intro pins s σ H Q I h
  refine wpAny_Call_method m.base m.few m.line PySem.F.plainAttrs_dict PySem.F.slot_dict_pop PySem.F.type_dict_pop (thn (ho pins s σ H _ I h) fun u s1 ⟨x, H1, I1, rx, a, ex, d, q1⟩ => ?_)
  subst ex
  obtain rfl : u = Value.ref a := rx
  obtain ⟨t1, t2, _⟩ := isD_at I1 d
  refine ⟨t1, t2, ?_⟩
  rw [m.trees]
  refine Calls.callWith_builtin rfl (Calls.evalArgs_plain (Calls.spliced_cons (thn (he pins s1 σ H1 _ I1 q1) fun iv s2 ⟨y, H2, I2, ry, kvs, k, v, ea, ey, l, q2⟩ => Calls.spliced_nil ?_)))
  subst ey
  exact d_pop I2 ea ry l (.inl rfl) fun w' s3 I3 rw' => ⟨v, _, I3, rw', q2⟩
theorem pe_dpop2 (ho : PE X o td) (he : PE X e ty) (hf : PE X f tx) (m : M2 X o "pop" apos e f cpos) : PE X (.Call (.Attribute o "pop" apos) [e, f] [] cpos) (tDPop2 td ty tx) := by
  intro pins s σ H Q I h
  refine wpAny_Call_method m.base m.few m.line PySem.F.plainAttrs_dict PySem.F.slot_dict_pop PySem.F.type_dict_pop (thn (ho pins s σ H _ I h) fun u s1 ⟨x, H1, I1, rx, a, ex, d, q1⟩ => ?_)
  subst ex
  obtain rfl : u = Value.ref a := rx
  obtain ⟨t1, t2, _⟩ := isD_at I1 d
  refine ⟨t1, t2, ?_⟩
  rw [m.trees]
  refine Calls.callWith_builtin rfl (Calls.evalArgs_plain (Calls.spliced_cons (thn (he pins s1 σ H1 _ I1 q1) fun iv s2 ⟨y, H2, I2, ry, q2⟩ =>
    Calls.spliced_cons (thn (hf pins s2 σ H2 _ I2 q2) fun fv s3 ⟨z, H3, I3, rz, kvs, k, ea, ey, q3, q4⟩ => Calls.spliced_nil ?_))))
  subst ey
  cases l : valV kvs k with
  | some v => exact d_pop I3 ea ry l (.inr ⟨fv, rfl⟩) fun w' s4 I4 rw' => ⟨v, _, I4, rw', q3 v l⟩
  | none => exact d_popD I3 ea ry l fun s4 I4 => ⟨z, H3, I4, rz, q4 l⟩
end

/-! ### dict(d): a copy -/
section
variable {X : Cx} {pins : List (Addr × Obj)} {σ : St} {H : Hp} {s : Shared} {a : Addr} {kvs : List (Key × V)} {A : Around} {E : Value → Shared → Prop}
theorem d_copyOf {Q : Value → Shared → Prop} (I : Inv X pins σ H s) (e : Rd H a (.dK kvs)) (h : ∀ p s', H p = none → Inv X pins σ (upd H p (.dK kvs)) s' → Q (.ref p) s') : wpAny (model X.prog X.w) A (call (.type "dict") [.ref a]) Q E s := by
  obtain ⟨z, hd, vs, rel, dd⟩ := dk_rd I.hok e
  refine kt_call_dict hd dd (by rw [← rel.length]; exact z) fun h' dd' hs => ?_
  refine h _ _ (I.hok.fresh (Nat.le_refl _)) (I.laid (a := s.heap.objs.size) (o := .dK kvs) (t' := s.toks) (fun b q hq => ?_) (Nat.le_refl _) (dk_new z (beq_eq_false_iff_ne.mpr (Ne.symm (Nat.ne_of_lt I.big))) rel dd'))
  exact (hs.2 b (Nat.ne_of_lt (Heap.lt_size hq))).trans (Heap.get?_push_of_some _ hq)
end


section
variable {X : Cx} {pins : List (Addr × Obj)} {σ : St} {H : Hp} {s : Shared} {a : Addr} {y : V} {u : Value} {A : Around} {E : Value → Shared → Prop}
/-- d[y], not there: a KeyError -/
theorem d_missing {Q : Value → Shared → Prop} (hu : A.units + 1 < cLine) (hh : A.handled = none) (I : Inv X pins σ H s) (g : DGet H a y none) (ry : RelV y u)
    (h : ∀ h' e t', Heap.NewExc s.heap h' e "KeyError" → E (.ref e) { s with heap := h', toks := t' }) : wpAny (model X.prog X.w) A (getItem (.ref a) u) Q E s := by
  rcases g with ⟨kvs, k, e, ey, l⟩ | ⟨kvs, k, b, e, ey, eb, l⟩
  · subst ey
    obtain ⟨z, hd, vs, rel, dd⟩ := dk_rd I.hok e
    have hn : valueAt vs k = none := RelO.none_of (by rw [l]; exact rel.val k)
    exact wpAny_getItem_missing_of (kV_is ry) hd hh dd.mapOf hn fun h' ex ne => h h' ex _ ne
  · subst ey
    cases (show u = Value.ref b from ry)
    obtain ⟨z, hd, xs, rel, dd⟩ := dt_rd I.hok e
    have hn : (atKey xs k).map (·.2) = none := RelO.none_of (by rw [l]; exact rel.val k)
    exact wpAny_getItem_missing_heap (tupleKind_room_in1 hu) (key_of I.hok eb) hd hh dd (Option.map_eq_none_iff.mp hn) fun h' ex ne => h h' ex _ ne
end
end L2

namespace Att
open PySem PySem.W PySem.Calls PyProof.Rows

/-! ### the script -/
theorem ints_of_wellAll {P : Params} {h : Heap} : ∀ (ns : List Int) (vs : List Value), WellAll P h vs (ns.map WData.int) → IntsAre vs ns := by
  intro ns
  induction ns with
  | nil =>
    intro vs w
    rw [List.map_nil] at w
    cases w
    exact .nil
  | cons n ns ih =>
    intro vs w
    rw [List.map_cons] at w
    cases w with
    | cons a b =>
      cases a
      exact .cons _ _ (ih _ b)

theorem script_of {l : OpenLaw} {n : Nat} (hn : l.most = some n) {P : Params} {h : Heap} {args : List WData} {vals : List Value}
    (hpre : l.row.toRowW.claim.pre args = true) (hwl : WellAll P h vals args) :
    ∃ a vs ns, vals = [Value.ref a] ∧ args = [WData.list (ns.map WData.int)] ∧ h.get? a = some { cls := .type "list", data := .seq vs.toArray } ∧ IntsAre vs ns ∧ ns.length ≤ n := by
  have hsh : WShape.hasAll [] args [.list .int] = true := (pre_splitW hpre).1
  have hc : l.pre.holds [] { args := args } = true := (pre_splitW hpre).2
  obtain ⟨d, r, rfl, h1, h2⟩ := hasAllW_cons hsh
  obtain rfl := hasAllW_nil h2
  obtain ⟨xs, rfl, h3⟩ := hasW_list h1
  obtain ⟨ns, rfl⟩ := items_int h3
  have hlen : ns.length ≤ n := by
    unfold OpenLaw.pre at hc
    have h4 : (WTm.not (.lt (.lit (.int (n : Int))) (.len (.arg 0)))).holds [] { args := [.list (ns.map .int)] } = true := by
      have h4 := (holds_andW hc).1
      rw [hn] at h4
      exact h4
    have h5 := condW_of h4 (w_not (w_lt w_lit (w_len_list (w_arg rfl))))
    rw [List.length_map] at h5
    refine Nat.le_of_not_lt fun q => ?_
    have q' : (n : Int) < ((ns.length : Nat) : Int) := by omega
    first
      | (rw [decide_eq_true q'] at h5; exact absurd h5 (by decide))
      | (simp at h5; omega)
  cases hwl with
  | cons w1 w2 =>
    cases w2
    cases w1 with
    | list ho hall => exact ⟨_, _, ns, rfl, rfl, ho, ints_of_wellAll ns _ hall, hlen⟩

theorem post_true (l : OpenLaw) (args : List WData) : l.row.toRowW.claim.post args (.bool true) args = true :=
  postW_of (r := l.row.toRowW) (X := (true == true))
    (show WShape.has [] (.bool true) .bool = true by first | rfl | decide | simp [WShape.has, WShape.arms, WShape.armsAll])
    (show (WTm.eq .res (.lit (.bool true))).value [] { args := args, res := some (.bool true), after := args } = some (.bool (true == true)) from w_eq_bool (w_res rfl) w_lit) rfl

/-! ### the attachment: holds_open's last premise (the goal 'hc' behind k_head) from a wpAny of the law's body -/
theorem attach {l : OpenLaw} {n : Nat} {q : Program} {loose : List Str} {XP : (Str → Option Value) → Heap → Prop} {YP : World → Heap → Prop} {d : DefRec} {x : Str}
    (hn : l.most = some n) (hdf : d.params.defaults = [])
    (hbind : ∀ pm cd doc v : Value, bindArgs (docDef d.name d.params d.body d.scope pm cd doc) ⟨[v], []⟩ = pure [(x, v)])
    (hx : d.scope.names.lookup x = some .local ∨ d.scope.names.lookup x = some .cell)
    (hk : d.scope.kind = .function) (hco : d.scope.isCoroutine = false) (hgen : d.scope.isGenerator = false)
    (body : ∀ (w : World) (s₀ s₁ s : Shared) (mg mb : Str → Option Value) (fa : Addr) (o : Obj) (pm cd doc : Value) (a : Addr) (vs : List Value) (ns : List Int),
      Ground q loose [] XP w s₀ mg mb s₁.heap → YP w s₁.heap →
      s₁.heap.get? fa = some o → o.data = .func (docDef d.name d.params d.body d.scope pm cd doc) → s₁.heap.CodeRec cd d.name → mg d.name = some (.ref fa) →
      s₁.heap.get? a = some { cls := .type "list", data := .seq vs.toArray } → IntsAre vs ns → ns.length ≤ n →
      s.gens = #[] → s.os = s₁.os →
      Fr s₁.heap s₁.heap.objs.size s.heap (bindL (envOfC d.name d.scope s₁.heap.objs.size fa cd).kindOf [(x, .ref a)] fun _ => none) →
      Cl s₁.heap.objs.size (cellsFrom (s₁.heap.objs.size + 1) d.scope.names []) s.heap (bindC (envOfC d.name d.scope s₁.heap.objs.size fa cd).kindOf [(x, .ref a)] fun _ => none) →
      wpAny (model l.prog w) (callerA.deeper (envOfC d.name d.scope s₁.heap.objs.size fa cd)) (execs d.body (envOfC d.name d.scope s₁.heap.objs.size fa cd))
        (fun f s' => f = .ret (.bool true) ∧ OldK s₁.heap s'.heap ∧ s'.os = s₁.os ∧ AllBare s'.gens) (fun _ _ => False) s) :
    WalkO q loose XP YP l.row.toRowW d [] (fun f vs => PySem.call f vs) := by
  intro w s₀ s₁ mg mb G Y fa o pm cd doc dV kV ho hd hcd hD hmg hg args vals as hpre hlay hrd hwl hlo
  obtain rfl : dV = .none := Dflts.none hD hdf
  obtain rfl : kV = .none := Dflts.noKw hD
  obtain ⟨a, vs, ns, rfl, rfl, hobj, hints, hlen⟩ := script_of hn hpre hwl
  refine enter_call ?_
  refine call_cells_ret (o := o) (by rw [depth_caller]; decide) ho (fd_plain hd) G.T.nolimit hcd (hbind pm cd doc (.ref a)) (fun y hy => ?_) (fun h₁ tk F X => ?_) hco hgen hk
  · obtain rfl : y = (x, Value.ref a) := List.mem_singleton.mp hy
    rcases hx with e | e
    · exact .inl e
    · exact .inr ⟨e, cellsFrom_some _ _ _ (.inl e)⟩
  · refine wpAny_mono (body w s₀ s₁ { s₁ with heap := h₁, toks := tk } mg mb fa o pm cd doc a vs ns G Y ho (fd_plain hd) hcd hmg hobj hints hlen hg rfl F X) (fun f s' hq => ?_) (fun _ _ hq => hq)
    obtain ⟨rfl, h2, h3, h4⟩ := hq
    exact ⟨.inl ⟨.bool true, .bool true, [], rfl, fun _ => rfl, .bool true, post_true l _, fun _ => ⟨List.Pairwise.nil, fun _ hm => (nomatch hm)⟩⟩, h2, h3, h4⟩

/-- the same from a codeAny of the CALL (for a layer whose function contracts speak of calls) -/
theorem attach_call {l : OpenLaw} {n : Nat} {q : Program} {loose : List Str} {XP : (Str → Option Value) → Heap → Prop} {YP : World → Heap → Prop} {d : DefRec}
    (hn : l.most = some n) (hdf : d.params.defaults = [])
    (call : ∀ (w : World) (s₀ s₁ : Shared) (mg mb : Str → Option Value) (fa : Addr) (o : Obj) (pm cd doc : Value) (a : Addr) (vs : List Value) (ns : List Int),
      Ground q loose [] XP w s₀ mg mb s₁.heap → YP w s₁.heap →
      s₁.heap.get? fa = some o → o.data = .func (docDef d.name d.params d.body d.scope pm cd doc) → s₁.heap.CodeRec cd d.name → mg d.name = some (.ref fa) →
      s₁.heap.get? a = some { cls := .type "list", data := .seq vs.toArray } → IntsAre vs ns → ns.length ≤ n → s₁.gens = #[] →
      codeAny (model l.prog w) callerA (.call (.ref fa) ⟨[.ref a], []⟩) (fun r s' => r = .ok (.ret (.bool true)) ∧ OldK s₁.heap s'.heap ∧ s'.os = s₁.os ∧ AllBare s'.gens) s₁) :
    WalkO q loose XP YP l.row.toRowW d [] (fun f vs => PySem.call f vs) := by
  intro w s₀ s₁ mg mb G Y fa o pm cd doc dV kV ho hd hcd hD hmg hg args vals as hpre hlay hrd hwl hlo
  obtain rfl : dV = .none := Dflts.none hD hdf
  obtain rfl : kV = .none := Dflts.noKw hD
  obtain ⟨a, vs, ns, rfl, rfl, hobj, hints, hlen⟩ := script_of hn hpre hwl
  refine enter_call (codeAny_mono (call w s₀ s₁ mg mb fa o pm cd doc a vs ns G Y ho (fd_plain hd) hcd hmg hobj hints hlen hg) fun r s' hq => ?_)
  obtain ⟨rfl, h2, h3, h4⟩ := hq
  exact ⟨.inl ⟨.bool true, .bool true, [], rfl, fun _ => rfl, .bool true, post_true l _, fun _ => ⟨List.Pairwise.nil, fun _ hm => (nomatch hm)⟩⟩, h2, h3, h4⟩

/-- the same where the top left finished generators (o_head chose holds_openN): nothing may have changed at all and no generator may be left -/
theorem attachN {l : OpenLaw} {n : Nat} {q : Program} {loose : List Str} {XP : (Str → Option Value) → Heap → Prop} {YP : World → Heap → Prop} {d : DefRec} {x : Str}
    (hn : l.most = some n) (hdf : d.params.defaults = [])
    (hbind : ∀ pm cd doc v : Value, bindArgs (docDef d.name d.params d.body d.scope pm cd doc) ⟨[v], []⟩ = pure [(x, v)])
    (hx : d.scope.names.lookup x = some .local ∨ d.scope.names.lookup x = some .cell)
    (hk : d.scope.kind = .function) (hco : d.scope.isCoroutine = false) (hgen : d.scope.isGenerator = false)
    (body : ∀ (w : World) (s₀ s₁ s : Shared) (mg mb : Str → Option Value) (fa : Addr) (o : Obj) (pm cd doc : Value) (a : Addr) (vs : List Value) (ns : List Int),
      Ground q loose [] XP w s₀ mg mb s₁.heap → YP w s₁.heap →
      s₁.heap.get? fa = some o → o.data = .func (docDef d.name d.params d.body d.scope pm cd doc) → s₁.heap.CodeRec cd d.name → mg d.name = some (.ref fa) →
      s₁.heap.get? a = some { cls := .type "list", data := .seq vs.toArray } → IntsAre vs ns → ns.length ≤ n →
      s.gens = #[] → s.os = s₁.os →
      Fr s₁.heap s₁.heap.objs.size s.heap (bindL (envOfC d.name d.scope s₁.heap.objs.size fa cd).kindOf [(x, .ref a)] fun _ => none) →
      Cl s₁.heap.objs.size (cellsFrom (s₁.heap.objs.size + 1) d.scope.names []) s.heap (bindC (envOfC d.name d.scope s₁.heap.objs.size fa cd).kindOf [(x, .ref a)] fun _ => none) →
      wpAny (model l.prog w) (callerA.deeper (envOfC d.name d.scope s₁.heap.objs.size fa cd)) (execs d.body (envOfC d.name d.scope s₁.heap.objs.size fa cd))
        (fun f s' => f = .ret (.bool true) ∧ (∀ b o, s₁.heap.get? b = some o → s'.heap.get? b = some o) ∧ s'.os = s₁.os ∧ s'.gens = #[]) (fun _ _ => False) s) :
    WalkN q loose XP YP l.row.toRowW d [] (fun f vs => PySem.call f vs) := by
  intro w s₀ s₁ mg mb G Y fa o pm cd doc dV kV ho hd hcd hD hmg hg args vals as hpre hlay hrd hwl hlo
  obtain rfl : dV = .none := Dflts.none hD hdf
  obtain rfl : kV = .none := Dflts.noKw hD
  obtain ⟨a, vs, ns, rfl, rfl, hobj, hints, hlen⟩ := script_of hn hpre hwl
  refine enter_callW ?_
  refine call_cells_ret (o := o) (by rw [depth_caller]; decide) ho (fd_plain hd) G.T.nolimit hcd (hbind pm cd doc (.ref a)) (fun y hy => ?_) (fun h₁ tk F X => ?_) hco hgen hk
  · obtain rfl : y = (x, Value.ref a) := List.mem_singleton.mp hy
    rcases hx with e | e
    · exact .inl e
    · exact .inr ⟨e, cellsFrom_some _ _ _ (.inl e)⟩
  · refine wpAny_mono (body w s₀ s₁ { s₁ with heap := h₁, toks := tk } mg mb fa o pm cd doc a vs ns G Y ho (fd_plain hd) hcd hmg hobj hints hlen hg rfl F X) (fun f s' hq => ?_) (fun _ _ hq => hq)
    obtain ⟨rfl, h2, h3, h4⟩ := hq
    exact ⟨.inl ⟨.bool true, .bool true, [], rfl, fun _ => rfl, .bool true, post_true l _, fun _ => ⟨List.Pairwise.nil, fun _ hm => (nomatch hm)⟩⟩, h2, h3, h4⟩

/-! ### rules over ANY heap (no ledger) from facts about the written part K: the library's own take a ledger (News) for what they write -/
section
variable {prog : Program} {w : World} {A : Around} {E : Value → Shared → Prop} {s : Shared} {K : Frag}

/-- a def of the module, or a method (qual 'C.m'), entered: the frame is the next address; cells behind it -/
theorem call_fn {R : Result → Shared → Prop} {name qual : Str} {params : Arguments} {body : List Stmt} {scope : Scope} {dV kV doc pm cdv ct oc : Value} {an od : Option Addr} {osl : Array (Option Value)} {f : Addr} {args : Args} {binds : List (Str × Value)}
    (X : K.In s.heap) (hlim : s.heap.NoLimit) (ho : K.lookup f = some ⟨oc, od, .func (fnOf name qual params body scope dV kV doc pm an cdv ct), osl⟩) (hcd : codeIn K cdv qual = true) (hroom : A.depth < recursionLimit)
    (hbind : BindsTo s (fnOf name qual params body scope dV kV doc pm an cdv ct) args binds)
    (hkind : (binds.all fun y => scope.names.lookup y.1 == some .local || scope.names.lookup y.1 == some .cell) = true)
    (h : ∀ s₁, InCallC s s.heap.objs.size (bindL (envOfC qual scope s.heap.objs.size f cdv).kindOf binds fun _ => none) (cellsFrom (s.heap.objs.size + 1) scope.names [])
        (bindC (envOfC qual scope s.heap.objs.size f cdv).kindOf binds fun _ => none) s₁ →
      wpAny (model prog w) (A.deeper (envOfC qual scope s.heap.objs.size f cdv)) (execs body (envOfC qual scope s.heap.objs.size f cdv))
        (fun fl s' => R (.ok (.ret (match fl with | .ret v => v | _ => .none))) s')
        (fun e s' => wpAny (model prog w) (A.deeper (envOfC qual scope s.heap.objs.size f cdv)) (leaving (envOfC qual scope s.heap.objs.size f cdv) e) (fun _ s'' => R (.error e) s'') (fun e' s'' => R (.error e') s'') s') s₁)
    (hco : scope.isCoroutine = false) (hgen : scope.isGenerator = false) (hk : scope.kind = .function) : codeAny (model prog w) A (.call (.ref f) args) R s := by
  refine codeAny_call_function hroom (X _ _ ho) rfl hco hgen rfl (codeRec_of X hcd) (hbind _ _ _ _ ?_)
  refine wpAny_newFunctionEnv_cells hk (kindsX hkind _) fun env he s₁ x => ?_
  subst he
  exact ⟨hlim.keeps x.toInCall.keep, codeAny_func (h s₁ x)⟩

/-- C(..): dict at size, instance at size + 1, then __init__ -/
theorem make_obj {R : Result → Shared → Prop} {C fI : Addr} {rest : List Value} {kw : List (Str × Value)}
    (X : K.In s.heap) (hm : makesIn K C = true) (hi : findIn K (.ref C) "__init__" = some (some (.ref fI))) (hf : isFn K (.ref fI) = true)
    (h : codeAny (model prog w) (A.under (.builtin "type.__call__" ⟨.ref C :: rest, kw⟩)) (.call (.ref fI) ⟨.ref (s.heap.objs.size + 1) :: rest, kw⟩) (InitBack (s.heap.objs.size + 1) R)
      { s with heap := (s.heap.push emptyDict).push (instObj C s.heap.objs.size) }) : codeAny (model prog w) A (.call (.ref C) ⟨rest, kw⟩) R s := by
  obtain ⟨hh, g, d, t, os⟩ := s
  exact make_core (makes_of X hm) (looks_findIn X hi) (fun self => bind_fn X self (beq_iff_eq.mp hf)) (.inl rfl) h

/-- x.name where the instance's dict holds the name and the class does not -/
theorem get_field {x C : Addr} {ox : Obj} {es : List DictEntry} {n : Nat} {name : Str} {expr : Bool} {v : Value} {Q : Value → Shared → Prop}
    (X : K.In s.heap) (I : PySem.W.InstAt s.heap x ox C (some (dictOf es n))) (hg : plainGet K C name = true) (hh : hasDictIn K C = true) (ha : findIn K (.ref C) name = some none)
    (hl : getL name es = some (some v)) (hv : handedIn v = true) (h : Q v { s with toks := s.toks + 1 }) : wpAny (model prog w) A (getAttr (.ref x) name expr) Q E s :=
  get_value X I (plainGet_of hg).1 (findObj_own hh ha rfl hl) hv h

/-- x.m(..): the method found in the class -/
theorem get_method {x C f : Addr} {ox : Obj} {es : List DictEntry} {n : Nat} {name : Str} {pl : Sem Bool} {Q : Value × List Value → Shared → Prop}
    (X : K.In s.heap) (I : PySem.W.InstAt s.heap x ox C (some (dictOf es n))) (hg : plainGet K C name = true) (hf : findIn K (.ref C) name = some (some (.ref f))) (ht : isFn K (.ref f) = true)
    (hl : getL name es = some none) (h : Q (.ref f, [.ref x]) s) : wpAny (model prog w) A (getMethod (.ref x) name pl) Q E s :=
  method_fn X I (plainGet_of hg).1 (plainGet_of hg).2 hf (beq_iff_eq.mp ht) (by show (lookIn name (dictOf es n)).map _ = _; rw [lookIn_dict, hl]; rfl) h

/-! the whole heap as the ledger: makes every rule that writes through a ledger a rule over any heap -/
def noObjs (h : Heap) : Heap := { h with objs := #[] }
theorem noObjs_get (h : Heap) (b : Addr) : (noObjs h).get? b = none := by
  cases e : (noObjs h).get? b with
  | none => rfl
  | some o => exact absurd (Heap.lt_size e) (Nat.not_lt_zero _)
def ledger (h : Heap) (L d : Addr) : List (Addr × Obj) := (List.range h.objs.size).filterMap fun a => if a = L ∨ a = d then none else (h.get? a).map fun o => (a, o)
theorem mem_ledger {h : Heap} {L d a : Addr} {o : Obj} : (a, o) ∈ ledger h L d ↔ a ≠ L ∧ a ≠ d ∧ h.get? a = some o := by
  unfold ledger
  rw [List.mem_filterMap]
  constructor
  · rintro ⟨b, _, e⟩
    split at e
    · cases e
    · rename_i hb
      obtain ⟨o', ho, e'⟩ := Option.map_eq_some_iff.mp e
      cases e'
      exact ⟨fun q => hb (.inl q), fun q => hb (.inr q), ho⟩
  · rintro ⟨n1, n2, ho⟩
    refine ⟨a, List.mem_range.mpr (Heap.lt_size ho), ?_⟩
    rw [if_neg (show ¬ (a = L ∨ a = d) from fun q => q.elim n1 n2), ho] <;> rfl
theorem news_ledger {h : Heap} {L d : Addr} {od : Obj} (hne : d ≠ L) (ho : h.get? d = some od) : News (noObjs h) L h ([] ++ (d, od) :: ledger h L d) := by
  rintro ⟨a, o⟩ hp
  rcases List.mem_cons.mp hp with e | hp
  · cases e
    exact ⟨ho, hne, noObjs_get _ _⟩
  · obtain ⟨n1, n2, e⟩ := mem_ledger.mp hp
    exact ⟨e, n1, noObjs_get _ _⟩
theorem fr_all {h : Heap} {L : Addr} {m : Str → Option Value} (n : h.Ns L m) : Fr (noObjs h) L h m :=
  ⟨n, fun b o e => (by rw [noObjs_get] at e; cases e), Nat.zero_le _⟩
/-- Upd of the head entry (for append_K, setItem_K ..) -/
theorem upd_ledger {h : Heap} {L d : Addr} {o o' : Obj} : Upd d o o' ((d, o) :: ledger h L d) ((d, o') :: ledger h L d) :=
  .head fun ⟨_, _⟩ hp => (mem_ledger.mp hp).2.1

/-- x.name = v over any heap: L is any namespace of the heap (the frame's, say): its map stays, its object is not told; all else but the dict stays -/
theorem set_field {x C dx L : Addr} {ox : Obj} {m : Str → Option Value} {es es' : List DictEntry} {n n' : Nat} {name : Str} {v : Value} {Q : Unit → Shared → Prop}
    (X : K.In s.heap) (I : PySem.W.InstAt s.heap x ox C (some (dictOf es n))) (hd : ox.dict = some dx) (hL : s.heap.Ns L m) (hne : dx ≠ L)
    (hs : findIn K (.ref C) "__setattr__" = some (some (.builtin "object.__setattr__"))) (hp : plainOver K C = true) (ht : takerIn K C name = some none) (hh : hasDictIn K C = true) (hl : (getL name es).isSome = true)
    (e : (putL name (PyData.keyHash w.params name) (.str name (s.toks + 1)) v es, putN name es n) = (es', n')) (hz : es'.length ≤ 1000)
    (h : ∀ h' : Heap, h'.Ns L m → h'.get? dx = some (dictOf es' n') → (∀ b o, b ≠ dx → b ≠ L → s.heap.get? b = some o → h'.get? b = some o) → Q () { s with heap := h', toks := s.toks + 2 }) :
    wpAny (model prog w) A (setAttr (.ref x) name v) Q E s := by
  obtain ⟨e1, e2⟩ := Prod.mk.inj e
  have hdx : s.heap.get? dx = some (dictOf es n) := by
    have := I.dict
    rw [hd] at this
    exact this
  refine set_plain X I hs (osa_dict (s := { s with toks := s.toks + 1 }) (h₀ := noObjs s.heap) (L := L) (m := m) (od := dictOf es n) (od' := dictOf es' n') (es := es') (n := n') (pre := []) (post := ledger s.heap L dx)
    (fr_all hL) (news_ledger hne hdx) X I hd hp ht hh hl (fun _ q => nomatch q) (fun ⟨_, _⟩ q => (mem_ledger.mp q).2.1) (by rw [putName_dict, e1, e2]) rfl hz fun h' F' N' => ?_)
  exact h h' F'.ns (N'.get (List.Mem.head _)) fun b o n1 n2 ho => N'.get (List.Mem.tail _ (mem_ledger.mpr ⟨n2, n1, ho⟩))
end
end Att

namespace L2
open PySem PySem.Spec PyProof.Rows

theorem vals_ints : ∀ {vs : List Value} {ns : List Int}, IntsAre vs ns → Vals (ns.map V.int) vs
  | _, _, .nil => .nil
  | _, _, .cons n t h => .cons ⟨t, rfl⟩ (vals_ints h)

/-- nothing is tracked but the script, known to the object (or it is an object of the module) -/
def Only (H : Hp) : Prop := ∀ b, H b = none ∨ ∃ o xs, H b = some (.frz o (.lst xs))

/-- THE HEAD: the law's promise, at the heap behind the top. F, the promise of the law's def, may use that base is part of the heap (so K.In base, base.Ns mainGlobals mg stand in Mod) -/
theorem law_call {P : Program} {w : World} {K : PySem.W.Frag} {mg mb : Str → Option Value} {CX : CXT} {k : Nat} {fa a : Addr} {fd : FuncData} {x : Str} {sp : Sp} {s₁ : Shared} {vs : List Value} {ns : List Int}
    (KX : K.In s₁.heap) (hns : s₁.heap.Ns mainGlobals mg) (hb : s₁.heap.Ns builtinsNs mb) (hbb : ∀ x : Str, x ≠ "__name__" → mb x = bootBuiltins x) (hlim : s₁.heap.NoLimit) (hg : s₁.gens = #[])
    (ha : s₁.heap.get? a = some { cls := .type "list", data := .seq vs.toArray }) (hi : IntsAre vs ns) (hl : ns.length ≤ sizeLine) (hr : Room k callerA)
    (F : ∀ base : Heap, K.In base → base.Ns mainGlobals mg → FnOk P w K mg base CX k fa fd [x] sp) (hbind : ∀ (s : Shared) (u : Value), BindsTo s fd ⟨[u], []⟩ [(x, u)])
    (hsp : ∀ H : Hp, Only H → SqL K H a (ns.map V.int) → sp [.ref a] H (fun v _ => v = .bl true) fun _ _ _ => False)
    (hCX : ∀ H e s', CX [] H s₁ (fun _ _ _ => False) e s' → False) :
    codeAny (model P w) callerA (.call (.ref fa) ⟨[.ref a], []⟩) (fun r s' => r = .ok (.ret (.bool true)) ∧ OldK s₁.heap s'.heap ∧ s'.os = s₁.os ∧ AllBare s'.gens) s₁ := by
  have rv := vals_ints hi
  have lenV := hi.length
  -- from an abstract heap in which nothing but the script may be tracked
  have core : ∀ H : Hp, Only H → SqL K H a (ns.map V.int) → HOk P w H s₁.heap → (∀ b, H b ≠ none → b = a) → (H a ≠ none → K.lookup a = none) →
      codeAny (model P w) callerA (.call (.ref fa) ⟨[.ref a], []⟩) (fun r s' => r = .ok (.ret (.bool true)) ∧ OldK s₁.heap s'.heap ∧ s'.os = s₁.os ∧ AllBare s'.gens) s₁ := by
    intro H hO hS hok hA hK
    have base_of : ∀ {b : Addr} {o : Obj}, s₁.heap.get? b = some o → H b = none → (hidT s₁.heap H).get? b = some o := fun e n => hidT_get e n
    have noA : ∀ {b : Addr} {o : Obj} {es : Array DictEntry} {ep : Nat}, s₁.heap.get? b = some o → o.data = .dict es ep → H b = none := fun {b o es ep} e d => by
      cases q : H b with
      | none => rfl
      | some u =>
        have e' : b = a := hA b (by rw [q]; simp)
        subst e'
        rw [ha] at e; cases e
        have d' : Data.seq vs.toArray _ = Data.dict es ep := d
        cases d'
    have nsK : ∀ {b : Addr} {m : Str → Option Value}, s₁.heap.Ns b m → (hidT s₁.heap H).Ns b m := fun {b m} ⟨o, es, ep, e, d, r⟩ => ⟨o, es, ep, base_of e (noA e d), d, r⟩
    have hKb : K.In (hidT s₁.heap H) := fun b o e => base_of (KX b o e) (by
      cases q : H b with
      | none => rfl
      | some u =>
        have e' : b = a := hA b (by rw [q]; simp)
        subst e'
        rw [hK (by rw [q]; simp)] at e; cases e)
    have hM : Mod K mg (hidT s₁.heap H) := ⟨hKb, nsK hns, ⟨mb, nsK hb, hbb⟩, let ⟨mc, h1, h2⟩ := hlim; ⟨mc, nsK h1, h2⟩⟩
    have e0 : Env0 P w K mg (hidT s₁.heap H) callerA [] s₁ H := ⟨rfl, hM, fun b o e => of_hidT e, Nat.le_of_eq (hidT_size _ _), trivial, fun b hb => absurd (show b ∈ ([] : List Addr) from hb) (by simp), hok, .of_eq hg⟩
    refine codeAny_mono ((F _ hKb (nsK hns)).run callerA [] s₁ H ⟨[.ref a], []⟩ [.ref a] [.ref a] _ _ hr e0 (hbind s₁ (.ref a)) (.cons rfl .nil) (hsp H hO hS)) fun r s' h => ?_
    cases r with
    | error e => exact (hCX H e s' h).elim
    | ok fl =>
      cases fl with
      | next => exact False.elim h
      | brk => exact False.elim h
      | cont => exact False.elim h
      | ret u =>
        obtain ⟨v, H', os, bare, un, hok', r', q⟩ := h
        have q' : v = .bl true := q
        subst q'
        obtain rfl : u = Value.bool true := r'
        refine ⟨rfl, OldK.of_keep fun b o e => ?_, os, bare⟩
        cases q : H b with
        | none => exact un.keep b o e q (by intro z; exact absurd (show b ∈ ([] : List Addr) from z) (by simp)) (by simp)
        | some u =>
          rcases hO b with z | ⟨ob, xs, z⟩
          · rw [q] at z; cases z
          · have z2 := un.frzs b ob _ z
            obtain ⟨e1, _⟩ := hok b _ z
            obtain ⟨e2, _⟩ := hok' b _ z2
            rw [e] at e1; cases e1
            exact e2
  cases hk : K.lookup a with
  | some o =>
    -- the script is one of the module's own objects
    have e := KX a o hk
    rw [ha] at e
    cases e
    refine core (fun _ => none) (fun _ => .inl rfl) (.inr ⟨_, vs.toArray, _, hk, rfl, rfl, rfl, by rw [List.size_toArray, lenV]; exact hl, by simpa using rv⟩) (fun b u z => by have z' : (none : Option HO) = some u := z; cases z') (fun b z => absurd rfl z) fun z => absurd rfl z
  | none =>
    refine core (fun b => if b = a then some (.frz { cls := .type "list", data := .seq vs.toArray } (.lst (ns.map V.int))) else none) (fun b => ?_) (.inl (.inr ⟨{ cls := .type "list", data := .seq vs.toArray }, if_pos rfl⟩)) (fun b u z => ?_) (fun b z => ?_) fun _ => hk
    · by_cases hb : b = a
      · exact .inr ⟨_, _, if_pos hb⟩
      · exact .inl (if_neg hb)
    · by_cases hb : b = a
      · have z' := (if_pos hb).symm.trans z
        cases z'
        subst hb
        exact ⟨ha, by rw [List.length_map]; exact hl, vs, _, rv, ha⟩
      · have z' := (if_neg hb).symm.trans z
        cases z'
    · by_cases hb : b = a
      · exact hb
      · exact absurd (if_neg hb) z
end L2

namespace L2
open PySem PySem.Spec PyProof.Rows

abbrev KOf {K : PySem.W.Frag} {h : Heap} (_ : K.In h) : PySem.W.Frag := K

/-- the goal that k_head leaves (case hc), from the law's promise. F gives the function object fd (K's own) once, then the promise over every base -/
theorem walk_of {l : PySem.W.OpenLaw} {n k : Nat} {q : Program} {loose : List Str} {XP : (Str → Option Value) → Heap → Prop} {YP : World → Heap → Prop} {d : DefRec} {K : Params → PySem.W.Frag} {CX : World → CXT} {sp : World → Sp} {x : Str}
    (hn : l.most = some n) (hn2 : n ≤ sizeLine) (hdf : d.params.defaults = []) (hr : Room k callerA)
    (hY : ∀ (w : World) (h : Heap), YP w h → (K w.params).In h)
    (F : ∀ (w : World) (mg : Str → Option Value) (fa : Addr) (h : Heap), (K w.params).In h → h.Ns mainGlobals mg → mg d.name = some (.ref fa) →
      ∃ fd : FuncData, (∀ (s : Shared) (u : Value), BindsTo s fd ⟨[u], []⟩ [(x, u)]) ∧
        ∀ base : Heap, (K w.params).In base → base.Ns mainGlobals mg → FnOk l.prog w (K w.params) mg base (CX w) k fa fd [x] (sp w))
    (hsp : ∀ (w : World) (H : Hp) (a : Addr) (ns : List Int), ns.length ≤ n → Only H → SqL (K w.params) H a (ns.map V.int) → sp w [.ref a] H (fun v _ => v = .bl true) fun _ _ _ => False)
    (hCX : ∀ (w : World) (H : Hp) (s : Shared) (e : Value) (s' : Shared), CX w [] H s (fun _ _ _ => False) e s' → False) :
    PySem.W.WalkO q loose XP YP l.row.toRowW d [] (fun f vs => PySem.call f vs) := by
  refine Att.attach_call hn hdf fun w s₀ s₁ mg mb fa o pm cd doc a vs ns G Y ho hd hcd hmg hobj hints hlen hg => ?_
  have KX := hY w _ Y
  obtain ⟨fd, hb, hF⟩ := F w mg fa _ KX G.T.g hmg
  exact law_call KX G.T.g G.T.b G.T.builtins G.T.nolimit hg hobj hints (Nat.le_trans hlen hn2) hr hF hb (fun H hO hS => hsp w H a ns hlen hO hS) fun H e s' => hCX w H s₁ e s'
/-- the same where the promise hangs on the written part alone: (sp := My.sp_law), no hole under a binder -/
theorem walk_ofK {l : PySem.W.OpenLaw} {n k : Nat} {q : Program} {loose : List Str} {XP : (Str → Option Value) → Heap → Prop} {YP : World → Heap → Prop} {d : DefRec} {K : Params → PySem.W.Frag} {CX : CXT} {sp : PySem.W.Frag → Sp} {x : Str}
    (hn : l.most = some n) (hn2 : n ≤ sizeLine) (hdf : d.params.defaults = []) (hr : Room k callerA)
    (hY : ∀ (w : World) (h : Heap), YP w h → (K w.params).In h)
    (F : ∀ (w : World) (mg : Str → Option Value) (fa : Addr) (h : Heap), (K w.params).In h → h.Ns mainGlobals mg → mg d.name = some (.ref fa) →
      ∃ fd : FuncData, (∀ (s : Shared) (u : Value), BindsTo s fd ⟨[u], []⟩ [(x, u)]) ∧
        ∀ base : Heap, (K w.params).In base → base.Ns mainGlobals mg → FnOk l.prog w (K w.params) mg base CX k fa fd [x] (sp (K w.params)))
    (hsp : ∀ (K : PySem.W.Frag) (H : Hp) (a : Addr) (ns : List Int), ns.length ≤ n → Only H → SqL K H a (ns.map V.int) → sp K [.ref a] H (fun v _ => v = .bl true) fun _ _ _ => False)
    (hCX : ∀ (H : Hp) (s : Shared) (e : Value) (s' : Shared), CX [] H s (fun _ _ _ => False) e s' → False) :
    PySem.W.WalkO q loose XP YP l.row.toRowW d [] (fun f vs => PySem.call f vs) :=
  walk_of (K := K) (CX := fun _ => CX) (sp := fun w => sp (K w.params)) hn hn2 hdf hr hY F (fun w H a ns h1 h2 h3 => hsp (K w.params) H a ns h1 h2 h3) fun _ H s e s' => hCX H s e s'
end L2

/- THE LAST THEOREM (shape; LID, My.* are yours):
   My.Adr: a structure of the addresses that your layer names (classes, functions); My.Txt K t: a structure (Prop) of the equations over K;
   My.txt_mk : {K} {implicit addresses ..} (e1 : nsIn K mainGlobals "law" = some (some (.ref f))) (e2 : K.lookup f = some ⟨oc, od, .func (fnOf "law" "law" params body scope dV kV doc pm an cdv ct), sl⟩) (e3 : codeIn K cdv "law" = true) .. : ∃ t, My.Txt K t

set_option maxRecDepth 100000 in
set_option maxHeartbeats 0 in
theorem PySem.Challenge.cw_LID_holds : PySem.Challenge.rw_LID.Holds := by
  w_on; o_law; k_head; (case hw => w_witness2)
  k_fill
  refine L2.walk_of (l := PySem.Challenge.rw_LID) (n := 63) (k := 40) (x := "script") (CX := fun w => ..) (sp := fun _ => My.sp_law) rfl (by decide) rfl ⟨rfl, by decide, by decide⟩ (fun w h Y => PySem.W.kIn_of Y) ?F ?S ?C
  case F =>
    intro w mg fa h KX G hmg
    have T : ∃ t, My.Txt (L2.KOf KX) t := by
      dsimp only [L2.KOf]                          -- K must stand as «<heap const> w.params» for k_is
      refine' My.txt_mk ?e1 ?e2 ?e3 ..
      (case e1 => PySem.W.k_is)                    -- in the order: a name -> its address -> its object -> its parts
      (case e2 => PySem.W.k_is)
      ..
    obtain ⟨t, T⟩ := T
    have e0 := hmg.symm.trans (PySem.W.mg_of KX G T.law)
    cases e0                                       -- fa is the law's own address
    exact ⟨_, fun s u => .of_eq rfl, fun base kb nb => My.law_fn T kb nb⟩     -- if «.of_eq rfl» comes too early: refine' ⟨_, ?b, fun base kb nb => My.law_fn T kb nb⟩; exact fun s u => .of_eq rfl
  case S => exact fun w H a ns hl hO hS => ..
  case C => exact ..
(the tactic k_is has no namespace: write k_is) -/

/-! SHORT WORDS over the layer: a def of the text, its body, what a loop and a test want. -/
namespace L2
open PySem PySem.Spec PyProof.Rows

/-! ### the text by places -/
/-- the j-th statement of a class's body -/
def inClass (s : Stmt) (j : Nat) : Stmt := match s with
  | .ClassDef _ _ _ body _ _ _ _ _ _ _ => body.getD j (.Pass ⟨0, 0, 0, 0⟩)
  | _ => .Pass ⟨0, 0, 0, 0⟩
def defArgs (s : Stmt) : Arguments := match s with
  | .FunctionDef _ a _ _ _ _ _ _ _ _ => a
  | _ => { posonlyargs := [], args := [], vararg := none, kwonlyargs := [], kw_defaults := [], kwarg := none, defaults := [] }
def defBody (s : Stmt) : List Stmt := match s with
  | .FunctionDef _ _ b _ _ _ _ _ _ _ => b
  | _ => []
def defScope (s : Stmt) : Scope := match s with
  | .FunctionDef _ _ _ _ _ _ sc _ _ _ => sc
  | _ => { kind := .function, names := [], isGenerator := false, isCoroutine := false }

/-! ### no exception leaves a def -/
abbrev CX0 : CXT := fun _ _ _ _ _ _ => False
abbrev E0 : XK := fun _ _ _ => False
theorem pass0 {X : Cx} : Passes CX0 X E0 := fun _ _ _ _ _ _ _ h => h.elim

/-! ### a def (or method) of the text as it stands behind the top -/
structure Fun (K : PySem.W.Frag) (x qual : Str) (st : Stmt) (f : Addr) (fd : FuncData) : Prop where
  ex : ∃ (oc : Value) (od : Option Addr) (kV doc pm : Value) (an : Option Addr) (cdv ct : Value) (osl : Array (Option Value)),
    fd = PySem.W.fnOf x qual (defArgs st) (defBody st) (defScope st) .none kV doc pm an cdv ct ∧ K.lookup f = some ⟨oc, od, .func fd, osl⟩ ∧ PySem.W.codeIn K cdv qual = true
  kp : PySem.W.keepIn K (.ref f) = true
section
variable {P : Program} {w : World} {K : PySem.W.Frag} {mg : Str → Option Value} {base : Heap}
/-- THE RULE for a def: its body as a term of rules, and the reading of that term -/
theorem Fun.ok {x qual : Str} {st : Stmt} {f : Addr} {fd : FuncData} {N ps : List Str} {k : Nat} {sp : Sp} (F : Fun K x qual st f fd) (S : FnScope N ps (defScope st)) (len : ∀ vs H Q E, sp vs H Q E → vs.length = ps.length)
    (hbody : ∀ (cdv : Value) (A : Around) (outer : List Env) (s : Shared) (H : Hp) (vs : List V) (Q : VK) (E : XK), Room k (A.deeper (envOfC qual (defScope st) s.heap.objs.size f cdv)) → sp vs H Q E →
      ∃ t, PSs (cxOf CX0 P w K mg base N qual (defScope st) f cdv A outer s H E).nox (defBody st) t ∧ t { nx := fun _ H' => Q .non H', rt := Q } (start N vs) H) : FnOk P w K mg base CX0 (k + 1) f fd ps sp := by
  obtain ⟨oc, od, kV, doc, pm, an, cdv, ct, osl, rfl, lk, hcd⟩ := F.ex
  refine fn_of lk hcd S len fun A outer s H vs Q E hr hsp => ?_
  obtain ⟨t, h, q⟩ := hbody cdv A outer s H vs Q E hr hsp
  exact ⟨t, h.nox, q⟩
/-- how its arguments bind (no defaults): h is «fun _ _ _ _ _ _ us hl => match us, hl with | [_, _], _ => rfl», one _ a parameter -/
theorem Fun.binds {x qual : Str} {st : Stmt} {f : Addr} {fd : FuncData} {ps : List Str} (F : Fun K x qual st f fd)
    (h : ∀ (kV doc pm : Value) (an : Option Addr) (cdv ct : Value) (us : List Value), us.length = ps.length → bindArgs (PySem.W.fnOf x qual (defArgs st) (defBody st) (defScope st) .none kV doc pm an cdv ct) ⟨us, []⟩ = pure (ps.zip us)) : Binds K fd ps [] := by
  obtain ⟨oc, od, kV, doc, pm, an, cdv, ct, osl, rfl, lk, hcd⟩ := F.ex
  exact .all (h kV doc pm an cdv ct)
theorem fun_mk {x qual : Str} {st : Stmt} {f : Addr} {oc : Value} {od an : Option Addr} {osl : Array (Option Value)} {kV doc pm cdv ct : Value} (l : K.lookup f = some ⟨oc, od, .func (PySem.W.fnOf x qual (defArgs st) (defBody st) (defScope st) .none kV doc pm an cdv ct), osl⟩)
    (c : PySem.W.codeIn K cdv qual = true) (k : PySem.W.keepIn K (.ref f) = true) : Fun K x qual st f (PySem.W.fnOf x qual (defArgs st) (defBody st) (defScope st) .none kV doc pm an cdv ct) := ⟨⟨oc, od, kV, doc, pm, an, cdv, ct, osl, rfl, l, c⟩, k⟩
end
theorem hu_of {A : Around} {k : Nat} (hr : Room k A) : A.units + 1 < cLine := Nat.lt_of_le_of_lt (Nat.add_le_add_left (by decide : 1 ≤ 64) _) hr.units
theorem small1000 {n : Nat} (h : n ≤ 1000) : n < sizeLine := Nat.lt_of_le_of_lt h (by decide)

/-! ### expressions in short: the name that stands in the i-th slot -/
section
variable {X : Cx}
theorem pv (i : Nat) {x : Str} {pos : Pos} (hN : X.N[i]? = some x := by rfl) (hv : Vis X.env.scope x := by first | exact Or.inl rfl | exact Or.inr (Or.inl rfl) | exact Or.inr (Or.inr rfl)) (hd : (x == ("__debug__" : Str)) = false := by decide)
    (hcd : (x == ("__classdict__" : Str)) = false := by decide) : PE X (.Name x pos) (tVar i) := pe_var hN hv hd hcd
end

/-! ### tests -/
theorem iteF {A B : Prop} (h : B) : if false = true then A else B := by
  rw [if_neg Bool.false_ne_true]
  exact h
theorem iteT {A B : Prop} (h : A) : if true = true then A else B := by
  rw [if_pos rfl]
  exact h
theorem ite2 {c A B : Prop} [Decidable c] (h1 : c → A) (h2 : ¬ c → B) : if c then A else B := by
  by_cases h : c
  · rw [if_pos h]
    exact h1 h
  · rw [if_neg h]
    exact h2 h
theorem iteNS {c A B : Prop} [Decidable c] (hc : c) (h : B) : if (!decide c) = true then A else B := by
  rw [decide_eq_true hc]
  exact iteF h

/-! ### heaps -/
/-- all that was tracked is as it was -/
def Same (H H' : Hp) : Prop := ∀ b o, H b = some o → H' b = some o
theorem Same.refl (H : Hp) : Same H H := fun _ _ h => h
theorem Same.trans {H H1 H2 : Hp} (a : Same H H1) (b : Same H1 H2) : Same H H2 := fun c o h => b c o (a c o h)
theorem Same.free {H H' : Hp} (e : Same H H') {l : Addr} (h : H' l = Option.none) : H l = Option.none := by
  cases q : H l with
  | none => rfl
  | some o =>
    rw [e l o q] at h
    cases h
theorem Same.seq {K : PySem.W.Frag} {H H' : Hp} {a : Addr} {xs : List V} (e : Same H H') (h : SqL K H a xs) : SqL K H' a xs := by
  rcases h with (h | ⟨o, h⟩) | h
  · exact .inl (.inl (e _ _ h))
  · exact .inl (.inr ⟨o, e _ _ h⟩)
  · exact .inr h

end L2

namespace L2
open PySem PySem.Spec PyProof.Rows
section
variable {X : Cx}
/-- len of a dict -/
theorem call_lenD : CallR X (.builtin "len") (fun xs H Q => ∃ a kvs, xs = [V.ref a] ∧ H a = some (.dK kvs) ∧ Q (.int kvs.length) H) := by
  intro pins s σ H xs us Q I r h
  obtain ⟨a, kvs, rfl, ha, q⟩ := h
  obtain ⟨u, rfl, ru⟩ := vals1 r
  cases ru
  exact d_len I (.inl ha) fun t s' I' => ⟨.int kvs.length, H, I', ⟨t, rfl⟩, q⟩
end
end L2

namespace L2
open PySem PySem.Spec PyProof.Rows
/-! ### a dict's pairs: keys that differ -/
section
variable {κ : Type} [DecidableEq κ]
theorem valV_not {kvs : List (κ × V)} {k : κ} (h : valV kvs k = none) : ¬ k ∈ kvs.map (·.1) := by
  intro m
  obtain ⟨p, hp, e⟩ := List.mem_map.mp m
  have q : (kvs.any fun kv => decide (kv.1 = k)) = true := List.any_eq_true.mpr ⟨p, hp, decide_eq_true e⟩
  rw [valV_any, h] at q
  exact absurd q (by simp)
theorem valV_in {kvs : List (κ × V)} {k : κ} {v : V} (h : valV kvs k = some v) : k ∈ kvs.map (·.1) := by
  have q : (kvs.any fun kv => decide (kv.1 = k)) = true := by
    rw [valV_any, h]
    all_goals rfl
  obtain ⟨p, hp, e⟩ := List.any_eq_true.mp q
  exact List.mem_map.mpr ⟨p, hp, of_decide_eq_true e⟩
theorem nd_snoc : ∀ {l : List κ} {k : κ}, l.Nodup → ¬ k ∈ l → (l ++ [k]).Nodup
  | [], k, _, _ => by simp
  | a :: r, k, h, hk => by
    obtain ⟨h1, h2⟩ := List.nodup_cons.mp h
    show (a :: (r ++ [k])).Nodup
    refine List.nodup_cons.mpr ⟨fun m => ?_, nd_snoc h2 fun m => hk (List.mem_cons.mpr (Or.inr m))⟩
    rcases List.mem_append.mp m with q | q
    · exact h1 q
    · exact hk (List.mem_cons.mpr (Or.inl (List.mem_singleton.mp q).symm))
theorem nd_putK {kvs : List (κ × V)} {k : κ} (v : V) (hn : (kvs.map (·.1)).Nodup) (h : valV kvs k = none) : ((putK kvs k v).map (·.1)).Nodup := by
  rw [putK_new v h, List.map_append]
  exact nd_snoc hn (valV_not h)
theorem dropK_pos {p : κ × V} {r : List (κ × V)} {k : κ} (e : p.1 = k) : dropK (p :: r) k = dropK r k := by
  unfold dropK
  rw [List.filter_cons, if_neg (by simp [e])]
theorem dropK_neg {p : κ × V} {r : List (κ × V)} {k : κ} (e : ¬ p.1 = k) : dropK (p :: r) k = p :: dropK r k := by
  unfold dropK
  rw [List.filter_cons, if_pos (by simp [e])]
theorem dropK_no : ∀ {kvs : List (κ × V)} {k : κ}, ¬ k ∈ kvs.map (·.1) → dropK kvs k = kvs
  | [], _, _ => rfl
  | p :: r, k, h => by
    have h' : ¬ k ∈ r.map (·.1) := fun m => by
      obtain ⟨q, hq, e⟩ := List.mem_map.mp m
      exact h (List.mem_map.mpr ⟨q, List.mem_cons.mpr (Or.inr hq), e⟩)
    rw [dropK_neg fun e => h (List.mem_map.mpr ⟨p, List.mem_cons.mpr (Or.inl rfl), e⟩), dropK_no h']
theorem dropK_mem {kvs : List (κ × V)} {k : κ} {p : κ × V} (h : p ∈ dropK kvs k) : p ∈ kvs := (List.mem_filter.mp h).1
theorem nd_dropK : ∀ {kvs : List (κ × V)} {k : κ}, (kvs.map (·.1)).Nodup → ((dropK kvs k).map (·.1)).Nodup
  | [], _, _ => List.nodup_nil
  | p :: r, k, h => by
    have h : (p.1 :: r.map (·.1)).Nodup := h
    obtain ⟨h1, h2⟩ := List.nodup_cons.mp h
    by_cases e : p.1 = k
    · rw [dropK_pos e]
      exact nd_dropK h2
    · rw [dropK_neg e]
      show (p.1 :: (dropK r k).map (·.1)).Nodup
      refine List.nodup_cons.mpr ⟨fun m => h1 ?_, nd_dropK h2⟩
      obtain ⟨q, hq, eq⟩ := List.mem_map.mp m
      exact List.mem_map.mpr ⟨q, dropK_mem hq, eq⟩
theorem dropK_len : ∀ {kvs : List (κ × V)} {k : κ}, (kvs.map (·.1)).Nodup → k ∈ kvs.map (·.1) → (dropK kvs k).length + 1 = kvs.length
  | [], _, _, m => by simp at m
  | p :: r, k, h, m => by
    have h : (p.1 :: r.map (·.1)).Nodup := h
    have m : k = p.1 ∨ k ∈ r.map (·.1) := List.mem_cons.mp m
    obtain ⟨h1, h2⟩ := List.nodup_cons.mp h
    by_cases e : p.1 = k
    · subst e
      rw [dropK_pos rfl, dropK_no h1]
      all_goals rfl
    · have m' : k ∈ r.map (·.1) := m.resolve_left fun z => e z.symm
      have q := dropK_len h2 m'
      rw [dropK_neg e, List.length_cons, List.length_cons]
      omega
end
end L2


set_option maxHeartbeats 4000000
/-! OWN RULES over the layer, 1: data compared in depth; f-strings; exceptions that are raised, that pass, that are caught. -/
namespace L2
open PySem PySem.Spec PyProof.Rows

/-! ### data in depth, and == of it -/
mutual
inductive DV (H : Hp) : V → PyData → Prop
  | non : DV H .non .none
  | bl (b : Bool) : DV H (.bl b) (.bool b)
  | int (i : Int) : DV H (.int i) (.int i)
  | str (x : Str) : DV H (.str x) (.str x)
  | lst {a : Addr} {xs : List V} {ds : List PyData} (e : H a = some (.lst xs)) (r : DVs H xs ds) : DV H (.ref a) (.list ds)
  | tup {a : Addr} {xs : List V} {ds : List PyData} (e : H a = some (.tup xs)) (r : DVs H xs ds) : DV H (.ref a) (.tuple ds)
inductive DVs (H : Hp) : List V → List PyData → Prop
  | nil : DVs H [] []
  | cons {x : V} {xs : List V} {d : PyData} {ds : List PyData} (h : DV H x d) (r : DVs H xs ds) : DVs H (x :: xs) (d :: ds)
end

section
variable {X : Cx} {pins : List (Addr × Obj)} {σ : St} {H : Hp} {s : Shared}
mutual
theorem DV.reads (I : Inv X pins σ H s) : ∀ {x : V} {d : PyData} {u : Value}, DV H x d → RelV x u → ∃ as, Reads s.heap u d as
  | _, _, _, .non, r => by cases r; exact ⟨_, .none⟩
  | _, _, _, .bl b, r => by cases r; exact ⟨_, .bool b⟩
  | _, _, _, .int i, r => by obtain ⟨t, rfl⟩ := r; exact ⟨_, .int i t⟩
  | _, _, _, .str x, r => by obtain ⟨t, rfl⟩ := r; exact ⟨_, .str x t⟩
  | _, _, _, .lst (a := a) e q, r => by
    cases r
    obtain ⟨_, its, n, rv, eo⟩ := I.hok a _ e
    obtain ⟨as, ra⟩ := DVs.reads I q rv
    exact ⟨_, .list eo rfl rfl (by simpa using ra)⟩
  | _, _, _, .tup (a := a) e q, r => by
    cases r
    obtain ⟨_, its, rv, o, eo, ec, n, ed⟩ := I.hok a _ e
    obtain ⟨as, ra⟩ := DVs.reads I q rv
    exact ⟨_, .tuple eo ec ed (by simpa using ra)⟩
theorem DVs.reads (I : Inv X pins σ H s) : ∀ {xs : List V} {ds : List PyData} {us : List Value}, DVs H xs ds → Vals xs us → ∃ as, ReadsAll s.heap us ds as
  | _, _, _, .nil, r => by cases r; exact ⟨_, .nil⟩
  | _, _, _, .cons h q, r => by
    cases r with
    | cons r1 r2 =>
      obtain ⟨as, ra⟩ := DV.reads I h r1
      obtain ⟨bs, rb⟩ := DVs.reads I q r2
      exact ⟨_, .cons ra rb⟩
end
end
section
variable {X : Cx}
/-- == and != of data, whatever its depth -/
def rEqD (neg : Bool) (u : Nat) : R2 := fun x y H Q => ∃ d e, DV H x d ∧ DV H y e ∧ d.canLay0 = true ∧ e.canLay0 = true ∧ min d.depth e.depth ≤ u ∧ Q (.bl (if neg then !PyData.eqv d e else PyData.eqv d e)) H
theorem op_eqD {n : Nat} (hu : X.A.units + n < cLine) : OpR X (compareOp .Eq) (rEqD false n) := by
  intro pins s σ H x y u v Q I rx ry h
  obtain ⟨d, e, dx, dy, l1, l2, hm, q⟩ := h
  obtain ⟨as, ra⟩ := dx.reads I rx
  obtain ⟨bs, rb⟩ := dy.reads I ry
  exact SeqAt.rcAt_reads ra rb l1 l2 (by omega) _ _ _ _ ⟨.bl _, H, I, rfl, q⟩
theorem op_neD {n : Nat} (hu : X.A.units + n < cLine) : OpR X (compareOp .NotEq) (rEqD true n) := by
  intro pins s σ H x y u v Q I rx ry h
  obtain ⟨d, e, dx, dy, l1, l2, hm, q⟩ := h
  obtain ⟨as, ra⟩ := dx.reads I rx
  obtain ⟨bs, rb⟩ := dy.reads I ry
  exact SeqAt.compareNe_reads ra rb l1 l2 (by omega) ⟨.bl _, H, I, rfl, q⟩
end

/-! ### a block cut: what holds between two statements -/
section
variable {X : Cx} {st : Stmt} {rest : List Stmt} {t u : TS}
def tCut (t u : TS) : TS := fun D σ H => ∃ J : St → Hp → Prop, t { D with nx := J } σ H ∧ ∀ σ' H', J σ' H' → u D σ' H'
theorem pss_cut (h1 : PS X st t) (h2 : PSs X rest u) : PSs X (st :: rest) (tCut t u) := by
  intro pins s σ H D I h
  obtain ⟨J, ha, hb⟩ := h
  refine wpAny_execs_cons (thn (h1 pins s σ H { D with nx := J } I ha) fun f s1 q => ?_)
  cases f with
  | next =>
    obtain ⟨σ', H', I', q⟩ := q
    exact h2 pins s1 σ' H' D I' (hb σ' H' q)
  | ret v => exact q
  | brk => exact q
  | cont => exact q
end

/-! ### f-strings whose words nobody asks: parts that are short texts and ints of bounded size -/
section
variable {X : Cx} {e : Expr} {es : List Expr} {te : TE} {pos : Pos}
/-- {e}, an int -/
def tFmt (te : TE) : TE := fun σ H Q => te σ H fun x H1 => ∃ i, x = .int i ∧ i.natAbs.log2 < 1920 ∧ Q (.str (toString i)) H1
theorem pe_fmt (he : PE X e te) : PE X (.FormattedValue e (-1) none pos) (tFmt te) := by
  intro pins s σ H Q I h
  refine PyProof.Rows.FormattedValue_plain (thn (he pins s σ H _ I h) fun v s1 ⟨x, H1, I1, r1, i, ex, hb, q⟩ => ?_)
  subst ex
  obtain ⟨t, rfl⟩ := r1
  exact PySem.wpAny_formatField_int hb ⟨.str (toString i), H1, I1.tok _, ⟨_, rfl⟩, q⟩
/-- the parts, from the left, each a text of at most n signs -/
def PJ (X : Cx) (n : Nat) (es : List Expr) (t : TA) : Prop :=
  ∀ (pins : List (Addr × Obj)) (s : Shared) (σ : St) (H : Hp) (acc : Str) (Q : VK), Inv X pins σ H s → acc.length + n * es.length ≤ sizeLine →
    t σ H (fun _ H1 => ∀ z : Str, Q (.str z) H1) → wpAny (model X.prog X.w) X.A (joinParts acc (evalEach es X.env)) (EP X pins σ Q) X.xe s
def tPart1 (n : Nat) (te : TE) (t : TA) : TA := fun σ H Q => te σ H fun x H1 => (∃ y : Str, x = .str y ∧ y.length ≤ n) ∧ t σ H1 Q
theorem pj_nil {n : Nat} : PJ X n [] tNil := by
  intro pins s σ H acc Q I hl h
  exact PyProof.Rows.joinParts_nil ⟨.str acc, H, I.tok _, ⟨_, rfl⟩, h acc⟩ (by simpa using hl)
theorem pj_cons {n : Nat} {t : TA} (he : PE X e te) (hr : PJ X n es t) (hs : evalEach (e :: es) X.env = eval e X.env :: evalEach es X.env := by rfl) : PJ X n (e :: es) (tPart1 n te t) := by
  intro pins s σ H acc Q I hl h
  rw [hs]
  refine PyProof.Rows.joinParts_cons (thn (he pins s σ H _ I h) fun v s1 ⟨x, H1, I1, r1, ⟨y, ex, hy⟩, q⟩ => ?_)
  subst ex
  obtain ⟨t', rfl⟩ := r1
  have hz : acc.length + n * es.length + n ≤ sizeLine := by
    rw [List.length_cons, Nat.mul_succ] at hl; omega
  have hap : (acc ++ y).length = acc.length + y.length := strLen_append ..
  have hm : (acc ++ y).length ≤ sizeLine := by rw [hap]; omega
  exact ⟨hm, hr pins s1 σ H1 (acc ++ y) Q I1 (by rw [hap]; omega) q⟩
def tJoin (t : TA) : TE := fun σ H Q => t σ H fun _ H1 => ∀ z : Str, Q (.str z) H1
theorem pe_join {v₁ v₂ : Expr} {rest : List Expr} {n : Nat} {t : TA} (h : PJ X n (v₁ :: v₂ :: rest) t) (hn : n * (v₁ :: v₂ :: rest).length ≤ 16000000)
    (hs : evalEach (v₁ :: v₂ :: rest) X.env = eval v₁ X.env :: eval v₂ X.env :: evalEach rest X.env := by rfl) : PE X (.JoinedStr (v₁ :: v₂ :: rest) pos) (tJoin t) := by
  intro pins s σ H Q I q
  refine PyProof.Rows.JoinedStr_many ?_
  rw [← hs]
  refine h pins s σ H Str.empty Q I ?_ q
  rw [sizeLine_eq]
  have : Str.empty.length = 0 := rfl
  omega
theorem tFmt_part {i : Int} {n : Nat} (h : i.natAbs.log2 < 1920) (hn : 1921 ≤ n) : (toString i : Str).length ≤ n := Nat.le_trans (PyProof.Rows.int_text_len_1921 h) hn
end
end L2

set_option maxHeartbeats 4000000
/-! OWN RULES over the layer, 2: exceptions of own classes: raised, passing frames, caught. -/
namespace L2
open PySem PySem.Spec PyProof.Rows

theorem ObjOk.ex {P : Program} {w : World} {H : Hp} {h : Heap} {a : Addr} {o : HO} (x : ObjOk P w H h a o) : ∃ ob, h.get? a = some ob := by
  cases o with
  | lst xs => obtain ⟨_, _, _, _, e⟩ := x; exact ⟨_, e⟩
  | tup xs => obtain ⟨_, _, _, ob, e, _⟩ := x; exact ⟨_, e⟩
  | dK kvs => obtain ⟨_, _, _, _, o, _, _, e, _⟩ := x; exact ⟨_, e⟩
  | dT kvs => obtain ⟨_, _, _, _, o, _, _, e, _⟩ := x; exact ⟨_, e⟩
  | set S n => obtain ⟨o, _, _, _, e, _⟩ := x; exact ⟨_, e⟩
  | ins C dx fs => obtain ⟨_, _, _, e, _⟩ := x; exact ⟨_, e⟩
  | own y => exact x
  | xd fs => obtain ⟨_, ⟨_, _, _, e, _⟩, _⟩ := x; exact ⟨_, e⟩
  | rng lo hi => obtain ⟨_, _, _, e⟩ := x; exact ⟨_, e⟩
  | frz ob u => obtain ⟨e, _⟩ := x; exact ⟨_, e⟩
  | tbl ps => exact ⟨_, x⟩
  | met f y => exact ⟨_, x⟩
  | ext φ => obtain ⟨_, e, _⟩ := x; exact e

/-- the same untracked world, one step further: what stood there stands, the frames at fs up to their slots -/
theorem Un.on {fs : List Addr} {H H1 : Hp} {h0 h1 h2 : Heap} (u : Un fs [] H H1 h0 h1) (kB : ∀ b o o1, h0.get? b = some o → b ∉ fs → h1.get? b = some o1 → h2.get? b = some o1)
    (ks : ∀ b o o1, h0.get? b = some o → b ∈ fs → h1.get? b = some o1 → ∃ sl, h2.get? b = some { o1 with slots := sl }) : Un fs [] H H1 h0 h2 where
  keep := fun b o e n hb hx => kB b o o e hb (u.keep b o e n hb hx)
  slot := fun b o e n hb hx => by
    obtain ⟨sl, e1⟩ := u.slot b o e n hb hx
    obtain ⟨sl2, e2⟩ := ks b o _ e hb e1
    exact ⟨sl2, e2⟩
  free := u.free
  there := fun b o e hx => by
    obtain ⟨o1, e1⟩ := u.there b o e hx
    by_cases hb : b ∈ fs
    · obtain ⟨sl, e2⟩ := ks b o o1 e hb e1
      exact ⟨_, e2⟩
    · exact ⟨o1, kB b o o1 e hb e1⟩
  tups := u.tups
  frzs := u.frzs
  tbls := u.tbls

/-- an exception of the class cls flies at a, the frames of outer below it; H, s: ahead of the call; H': the abstract heap that it leaves -/
structure Fly (P : Program) (w : World) (outer : List Env) (H : Hp) (s : Shared) (H' : Hp) (a : Addr) (cls : Value) (s' : Shared) : Prop where
  os : s'.os = s.os
  bare : AllBare s'.gens
  un : Un (frs outer) [] H H' s.heap s'.heap
  hok : HOk P w H' s'.heap
  fl : ∃ B a0, Heap.FlyingW B outer a cls a0 s'.heap ∧ (∀ b o ob, H' b = some o → s'.heap.get? b = some ob → B.get? b = some ob) ∧
    ∀ b o ob, s.heap.get? b = some o → b ∉ frs outer → s'.heap.get? b = some ob → B.get? b = some ob
def CXw (P : Program) (w : World) : CXT := fun outer H s E e s' => ∃ a cls H', e = .ref a ∧ Fly P w outer H s H' a cls s' ∧ E cls none H'

/-- a heap that differs from the one at hand by what an exception writes: B stays, the frames change in their slots alone -/
theorem HOk.flown {P : Program} {w : World} {H : Hp} {h h' B : Heap} (x : HOk P w H h) (c1 : ∀ b o ob, H b = some o → h.get? b = some ob → B.get? b = some ob) (st : B.StaysIn h') : HOk P w H h' := fun b o e =>
  (x b o e).stay (fun c u hc q => by
    rcases hc with rfl | hc
    · exact st _ _ (c1 _ _ _ e q)
    · exact st _ _ (c1 _ _ _ hc q)) (fun _ q => q) fun _ _ q => q

section
variable {P : Program} {w : World} {K : PySem.W.Frag} {mg : Str → Option Value} {base : Heap} {N : List Str} {qual : Str} {scope : Scope} {f : Addr} {cd : Value} {A : Around} {outer : List Env} {s : Shared} {H : Hp} {E : XK}
/-- the exception of a callee leaves this frame too -/
theorem passX : Passes (CXw P w) (cxOf (CXw P w) P w K mg base N qual scope f cd A outer s H E) E := by
  intro pins σ H1 s1 e s' I hcx
  obtain ⟨a, cls, H', rfl, fly, hE⟩ := hcx
  have I' := I.call' (ch := []) fly.os fly.un fly.hok fly.bare (fun _ z => nomatch z)
  obtain ⟨B, a0, fl, c1, c2⟩ := fly.fl
  have hfr : (A.deeper (envOfC qual scope s.heap.objs.size f cd)).frames = some (envOfC qual scope s.heap.objs.size f cd :: outer) := I.ok.frames
  refine wpAny_leaves_onW (L := s.heap.objs.size) hfr rfl fl fun h' fl' up => ⟨a, cls, H', rfl, ?_, hE⟩
  have hub : Un (frs outer) [] H H' s.heap s'.heap := I'.base
  have nL : ∀ b o, s.heap.get? b = some o → b ∉ frs outer → b ∉ frs (envOfC qual scope s.heap.objs.size f cd :: outer) := fun b o e hb hm => by
    unfold frs at hm hb
    rw [List.filterMap_cons] at hm
    rcases List.mem_cons.mp hm with z | z
    · exact absurd (Heap.lt_size e) (by rw [z]; exact Nat.lt_irrefl _)
    · exact hb z
  have kB : ∀ b o o1, s.heap.get? b = some o → b ∉ frs outer → s'.heap.get? b = some o1 → B.get? b = some o1 := fun b o o1 e hb e1 => by
    obtain ⟨o2, e2⟩ := (show Un (frs outer) [] H H1 s.heap s1.heap from I.base).there b o e (by simp)
    exact c2 b o2 o1 e2 (nL b o e hb) e1
  refine ⟨I'.os, I'.bare, hub.on (fun b o o1 e hb e1 => fl'.1 _ _ (kB b o o1 e hb e1)) (fun b o o1 e hb e1 => ?_), fly.hok.flown c1 fl'.1, B, a0, fl', fun b o ob e eb => ?_, fun b o ob e hb eb => ?_⟩
  · obtain ⟨_, o', ho', hnf⟩ := I'.funs.mem hb
    have ho' : s'.heap.get? b = some o' := ho'
    rw [e1] at ho'
    cases ho'
    exact up b o1 e1 hnf
  · obtain ⟨ob2, e2⟩ := (fly.hok b o e).ex
    have e3 := c1 b o ob2 e e2
    have e4 := fl'.1 _ _ e3
    have eb : h'.get? b = some ob := eb
    rw [e4] at eb
    cases eb
    exact e3
  · obtain ⟨ob2, e2⟩ := hub.there b o e (by simp)
    have e3 := kB b o ob2 e hb e2
    have e4 := fl'.1 _ _ e3
    have eb : h'.get? b = some ob := eb
    rw [e4] at eb
    cases eb
    exact e3
end

/-- what is raised here reaches what is wanted of exceptions -/
def Throws (X : Cx) (E : XK) : Prop := ∀ (pins : List (Addr × Obj)) (σ : St) (H : Hp) (s : Shared) (h' : Heap) (e : Addr) (cls : Value) (args : List Value), Inv X pins σ H s → Heap.MadeExcOf s.heap h' e cls args → E cls none H → X.xe (.ref e) { s with heap := h' }
section
variable {P : Program} {w : World} {K : PySem.W.Frag} {mg : Str → Option Value} {base : Heap} {N : List Str} {qual : Str} {scope : Scope} {f : Addr} {cd : Value} {A : Around} {outer : List Env} {s : Shared} {H : Hp} {E : XK}
theorem throwX : Throws (cxOf (CXw P w) P w K mg base N qual scope f cd A outer s H E) E := by
  intro pins σ H1 s1 h1 e cls args I hx hE
  have hfr : (A.deeper (envOfC qual scope s.heap.objs.size f cd)).frames = some (envOfC qual scope s.heap.objs.size f cd :: outer) := I.ok.frames
  have hst : s1.heap.FunFrames base (envOfC qual scope s.heap.objs.size f cd :: outer) := I.stack
  have hl : s1.heap.FunFrames (PySem.W.hideAll s1.heap (frs (envOfC qual scope s.heap.objs.size f cd :: outer))) (envOfC qual scope s.heap.objs.size f cd :: outer) :=
    PySem.W.funFrames_hide hst fun env he a ha => List.mem_filterMap.mpr ⟨env, he, ha⟩
  refine wpAny_leaves_madeW (base := PySem.W.hideAll s1.heap (frs (envOfC qual scope s.heap.objs.size f cd :: outer))) (h := s1.heap) (L := s.heap.objs.size) hfr rfl (fun b o q => PySem.W.of_hideAll _ q) hl hx fun h' t fl' _ _ up => ⟨e, cls, H1, rfl, ?_, hE⟩
  have hub : Un (frs outer) [] H H1 s.heap s1.heap := I.base
  have nL : ∀ b o, s.heap.get? b = some o → b ∉ frs outer → b ∉ frs (envOfC qual scope s.heap.objs.size f cd :: outer) := fun b o e hb hm => by
    unfold frs at hm hb
    rw [List.filterMap_cons] at hm
    rcases List.mem_cons.mp hm with z | z
    · exact absurd (Heap.lt_size e) (by rw [z]; exact Nat.lt_irrefl _)
    · exact hb z
  have tB : ∀ b o ob, H1 b = some o → s1.heap.get? b = some ob → (PySem.W.hideAll s1.heap (frs (envOfC qual scope s.heap.objs.size f cd :: outer))).get? b = some ob := fun b o ob e eb =>
    PySem.W.hideAll_get _ eb fun hm => by
      have := I.stkFree b hm
      rw [e] at this
      cases this
  have kB : ∀ b o o1, s.heap.get? b = some o → b ∉ frs outer → s1.heap.get? b = some o1 → (PySem.W.hideAll s1.heap (frs (envOfC qual scope s.heap.objs.size f cd :: outer))).get? b = some o1 := fun b o o1 e hb e1 =>
    PySem.W.hideAll_get _ e1 (nL b o e hb)
  refine ⟨I.os, I.bare, hub.on (fun b o o1 e hb e1 => fl'.1 _ _ (kB b o o1 e hb e1)) (fun b o o1 e hb e1 => ?_), I.hok.flown tB fl'.1, _, _, fl', fun b o ob e eb => ?_, fun b o ob e hb eb => ?_⟩
  · obtain ⟨_, o', ho', hnf⟩ := I.funs.mem hb
    have ho' : s1.heap.get? b = some o' := ho'
    rw [e1] at ho'
    cases ho'
    exact up b o1 (hx.keeps b o1 e1) hnf
  · obtain ⟨ob2, e2⟩ := (I.hok b o e).ex
    have e3 := tB b o ob2 e e2
    have e4 := fl'.1 _ _ e3
    have eb : h'.get? b = some ob := eb
    rw [e4] at eb
    cases eb
    exact e3
  · obtain ⟨ob2, e2⟩ := hub.there b o e (by simp)
    have e3 := kB b o ob2 e hb e2
    have e4 := fl'.1 _ _ e3
    have eb : h'.get? b = some ob := eb
    rw [e4] at eb
    cases eb
    exact e3
end

/-! ### raise C(..), C an own class under an error class of Python's -/
/-- what the written part tells of such a class, at a heap -/
theorem exc_of_in {K : PySem.W.Frag} {h : Heap} {C : Addr} {bmB : List Value} {newId : String} (X : K.In h) (q : PySem.W.excIn K C bmB newId = true) :
    ∃ bm Nn nm qn bs hdct sn sub ab col dd k0 k1 k2 k3 k5 mN, h.get? C = some (excClassObj nm qn C Nn bs bm hdct sn sub ab col dd k0 k1 k2 k3 k5 newId) ∧ h.Ns Nn mN ∧ mN "__init__" = none ∧ OwnTail h bmB bm := by
  unfold PySem.W.excIn at q
  split at q
  · rename_i dd cd sl ho
    split at q
    · rename_i C' bm k0 k1 k2 k3 n k5 hm hs
      simp only [Bool.and_eq_true, beq_iff_eq, Bool.not_eq_true'] at q
      obtain ⟨⟨⟨⟨⟨e1, e2⟩, hdel⟩, ht⟩, hok⟩, hni⟩ := q
      subst e1 e2
      obtain ⟨nm, bs, mro, ns, qn, hd, sn, sub, ab, col, del⟩ := cd
      dsimp only at hm hdel hok hni
      subst hm hdel
      obtain ⟨l⟩ := sl
      have hs : l = _ := hs
      subst hs
      exact ⟨bm, ns, nm, qn, bs, hd, sn, sub, ab, col, dd, k0, k1, k2, k3, k5, _, X _ _ ho, .of_isNs (PySem.W.isNs_of_in X hok), PySem.W.nsMap_none_of_in X hok hni, PySem.W.tail_of_in X ht⟩
    · cases q
  · cases q

section
variable {X : Cx} {x : Str} {C : Addr} {bmB : List Value} {B newId initId : String} {E : XK} {e₀ : Expr} {rest : List Expr} {np cpos pos : Pos} {t : TA}
def tRaise (C : Addr) (E : XK) (t : TA) : TS := fun _ σ H => t σ H fun vs H1 => vs.length ≤ sizeLine ∧ E (.ref C) none H1
theorem ps_raise (FB : ExcBaseFacts B newId initId bmB) (q : PySem.W.excIn X.K C bmB newId = true) (hg : Gl X x) (hm : X.mg x = some (.ref C)) (hc : X.calm = true) (hE : Throws X E) (ha : PA X (e₀ :: rest) t)
    (he : starEach (e₀ :: rest) X.env = (false, eval e₀ X.env) :: starEach rest X.env := by rfl) (hpl : (backTo cpos (starEach rest X.env)).any (·.1) = false := by rfl) (hdb : (x == ("__debug__" : Str)) = false := by decide) :
    PS X (.Raise (some (.Call (.Name x np) (e₀ :: rest) [] cpos)) none pos) (tRaise C E t) := by
  intro pins s σ H D I h
  obtain ⟨bm, Nn, nm, qn, bs, hdct, sn, sub, ab, col, dd, k0, k1, k2, k3, k5, mN, hC, hN, hni, T⟩ := exc_of_in I.mod.kin q
  refine wpAny_Raise_call_subT (C := C) (nm := nm) (q := qn) (N := Nn) (bs := bs) (bm := bm) (hdct := hdct) (sn := sn) (sub := sub) (ab := ab) (col := col) (dd := dd) (k0 := k0) (k1 := k1) (k2 := k2) (k3 := k3) (k5 := k5)
    FB (mN := mN) (T.hasType FB.hasBase) (I.ok.hd hc) (by rw [he]; show (false || (backTo cpos (starEach rest X.env)).any (·.1)) = false; rw [hpl]; rfl) hni (ld_glob I hg hm ⟨rfl, ?_⟩ hdb)
  have hw := ha cpos pins s σ H _ I h
  rw [he] at hw ⊢
  refine Calls.evalArgs_plain (thn hw fun us s1 ⟨vs, H1, I1, r, hl, hq⟩ => ?_)
  exact ⟨rfl, by rw [← r.length]; exact hl, I1.bk _ _ hC, hN.keeps I1.bk, T.keeps I1.bk, fun h' e hmx => hE pins σ H1 s1 h' e _ _ I1 hmx hq⟩
end

/-! ### a def that may raise -/
theorem Fun.okX {P : Program} {w : World} {K : PySem.W.Frag} {mg : Str → Option Value} {base : Heap} {x qual : Str} {st : Stmt} {f : Addr} {fd : FuncData} {N ps : List Str} {k : Nat} {sp : Sp} (F : Fun K x qual st f fd) (S : FnScope N ps (defScope st)) (len : ∀ vs H Q E, sp vs H Q E → vs.length = ps.length)
    (hbody : ∀ (cdv : Value) (A : Around) (outer : List Env) (s : Shared) (H : Hp) (vs : List V) (Q : VK) (E : XK), Room k (A.deeper (envOfC qual (defScope st) s.heap.objs.size f cdv)) → sp vs H Q E →
      ∃ t, PSs (cxOf (CXw P w) P w K mg base N qual (defScope st) f cdv A outer s H E) (defBody st) t ∧ t { nx := fun _ H' => Q .non H', rt := Q } (start N vs) H) : FnOk P w K mg base (CXw P w) (k + 1) f fd ps sp := by
  obtain ⟨oc, od, kV, doc, pm, an, cdv, ct, osl, rfl, lk, hcd⟩ := F.ex
  exact fn_of lk hcd S len fun A outer s H vs Q E hr hsp => hbody cdv A outer s H vs Q E hr hsp
/-- a def that may not raise, though its callees could -/
theorem Fun.okN {P : Program} {w : World} {K : PySem.W.Frag} {mg : Str → Option Value} {base : Heap} {x qual : Str} {st : Stmt} {f : Addr} {fd : FuncData} {N ps : List Str} {k : Nat} {sp : Sp} (F : Fun K x qual st f fd) (S : FnScope N ps (defScope st)) (len : ∀ vs H Q E, sp vs H Q E → vs.length = ps.length)
    (hbody : ∀ (cdv : Value) (A : Around) (outer : List Env) (s : Shared) (H : Hp) (vs : List V) (Q : VK) (E : XK), Room k (A.deeper (envOfC qual (defScope st) s.heap.objs.size f cdv)) → sp vs H Q E →
      ∃ t, PSs (cxOf (CXw P w) P w K mg base N qual (defScope st) f cdv A outer s H E).nox (defBody st) t ∧ t { nx := fun _ H' => Q .non H', rt := Q } (start N vs) H) : FnOk P w K mg base (CXw P w) (k + 1) f fd ps sp :=
  F.okX S len fun cdv A outer s H vs Q E hr h => let ⟨t, a, b⟩ := hbody cdv A outer s H vs Q E hr h; ⟨t, a.nox, b⟩
/-- a def that never raises, among those that may -/
theorem FnOk.up {P : Program} {w : World} {K : PySem.W.Frag} {mg : Str → Option Value} {base : Heap} {k : Nat} {f : Addr} {fd : FuncData} {ps : List Str} {sp : Sp} (F : FnOk P w K mg base CX0 k f fd ps sp) : FnOk P w K mg base (CXw P w) k f fd ps sp :=
  ⟨F.len, fun A outer s H args us vs Q E hr he hb hv hs => codeAny_mono (F.run A outer s H args us vs Q E hr he hb hv hs) fun r s' h => by
    cases r with
    | ok fl => cases fl <;> exact h
    | error e => exact (show False from h).elim⟩
/-- where nothing is wanted of an exception, none comes -/
theorem passN {P : Program} {w : World} {X : Cx} : Passes (CXw P w) X E0 := fun _ _ _ _ _ _ _ ⟨_, _, _, _, _, h⟩ => h.elim
end L2

set_option maxHeartbeats 4000000
/-! OWN RULES over the layer, 3: try .. except C as e; isinstance. -/
namespace L2
open PySem PySem.Spec PyProof.Rows

/-! ### judgements at one frame: for the body of a try -/
section
variable {X : Cx} {pins : List (Addr × Obj)} {σ : St}
def PEat (X : Cx) (pins : List (Addr × Obj)) (σ : St) (e : Expr) (t : TE) : Prop :=
  ∀ (s : Shared) (H : Hp) (Q : VK), Inv X pins σ H s → t σ H Q → wpAny (model X.prog X.w) X.A (eval e X.env) (EP X pins σ Q) X.xe s
def PSat (X : Cx) (pins : List (Addr × Obj)) (σ : St) (st : Stmt) (t : TS) : Prop :=
  ∀ (s : Shared) (H : Hp) (D : Ends), Inv X pins σ H s → t D σ H → wpAny (model X.prog X.w) X.A (exec st X.env) (SP X pins D) X.xe s
def PSsAt (X : Cx) (pins : List (Addr × Obj)) (σ : St) (st : List Stmt) (t : TS) : Prop :=
  ∀ (s : Shared) (H : Hp) (D : Ends), Inv X pins σ H s → t D σ H → wpAny (model X.prog X.w) X.A (execs st X.env) (SP X pins D) X.xe s
def PassesAt (CX : CXT) (X : Cx) (pins : List (Addr × Obj)) (σ : St) (E : XK) : Prop := ∀ (H : Hp) (s : Shared) (e : Value) (s' : Shared), Inv X pins σ H s → CX X.stack H s E e s' → X.xe e s'
end
section
variable {X : Cx} {pins : List (Addr × Obj)} {σ : St} {CX : CXT} {k : Nat} {f C : Addr} {fd : FuncData} {ps : List Str} {sp : Sp} {dvs : List V} {ds : List Value} {E : XK} {m : Str} {pos apos : Pos} {e o : Expr} {es : List Expr} {ta : TE} {t : TA}
theorem run_fnAt {H : Hp} {s : Shared} {Q : VK} {us : List Value} {vs : List V} (F : FnOk X.prog X.w X.K X.mg X.base CX k f fd ps sp) (hr : Room k X.A) (hb : Binds X.K fd ps ds) (hd : Vals dvs ds) (hx : PassesAt CX X pins σ E)
    (I : Inv X pins σ H s) (r : Vals vs us) (h : sp (vs ++ dvs) H Q E) : wpAny (model X.prog X.w) X.A (call (.ref f) us) (EP X pins σ Q) X.xe s := by
  have r2 : Vals (vs ++ dvs) (us ++ ds) := r.append hd
  have hl : (us ++ ds).length = ps.length := by rw [← r2.length]; exact F.len _ _ _ _ h
  refine wpAny_call (codeAny_mono (F.run X.A X.stack s H ⟨us, []⟩ (us ++ ds) (vs ++ dvs) Q E hr I.env0 (hb s us I.kIn hl) r2 h) fun r s' hq => ?_)
  rcases r with ex | fl
  · exact hx H s ex s' I hq
  · cases fl with
    | ret u => exact I.after hq
    | next => exact (show False from hq).elim
    | brk => exact (show False from hq).elim
    | cont => exact (show False from hq).elim
theorem pe_methAt {pl : Sem Bool} (he : PE X o ta) (c : Cls X.K C) (hm : Meth X.K C m f) (F : FnOk X.prog X.w X.K X.mg X.base CX k f fd ps sp) (hr : Room k X.A) (hb : Binds X.K fd ps ds) (hd : Vals dvs ds) (hx : PassesAt CX X pins σ E) (ha : PA X (e :: es) t)
    (hst : starEach (e :: es) X.env = (false, eval e X.env) :: starEach es X.env := by rfl) (hpl : (backTo pos (starEach es X.env)).any (·.1) = false := by rfl)
    (ht : eval (.Call (.Attribute o m apos) (e :: es) [] pos) X.env = (do
      let ov ← eval o X.env
      standAt apos.atName
      let (f, first) ← holding [ov] (getMethod ov m pl)
      callWith pos f first (backTo pos (starEach (e :: es) X.env)) (backToKw pos (keywordEach [] X.env))) := by rfl) :
    PEat X pins σ (.Call (.Attribute o m apos) (e :: es) [] pos) (tMeth C m sp dvs E ta t) := by
  intro s H Q I h
  refine PySem.W.methodCall_KW (pl := pl) (thn (he pins s σ H _ I h) fun u s1 ⟨x, H1, I1, rx, a, dx, fs, ex, ea, l, q⟩ => ?_) ht
  subst ex
  cases (show u = Value.ref a from rx)
  refine getmeth_ok I1 ea c hm l ?_
  refine PySem.W.callWith_K (first := [.ref a]) (h₀ := X.base) I.ok.mod.kin hm.kp (thn (ha pos pins s1 σ H1 _ I1 q) fun us s2 ⟨vs, H2, I2, r, q2⟩ => ⟨I2.kIn, ?_⟩) hst hpl
  exact run_fnAt (us := .ref a :: us) (vs := .ref a :: vs) F hr hb hd hx I2 (.cons rfl r) q2
theorem ps_exprAt {te : TE} (he : PEat X pins σ e te) (hs : swapsWith e none pos.line X.env = pure false := by rfl) : PSat X pins σ (.Expr e pos) (tDrop te) := by
  intro s H D I h
  exact wpAny_Expr_any (thn (he s H _ I h) fun u s1 ⟨x, H1, I1, _, q⟩ => ⟨σ, H1, I1, q⟩) I.quiet hs
theorem ps_ifAt {c : Expr} {a b : List Stmt} {tc : TT} {t u : TS} (hc : PT X c tc) (ha : PSsAt X pins σ a t) (hb : PSsAt X pins σ b u) : PSat X pins σ (.If c a b pos) (tIfS tc t u) := by
  intro s H D I h
  refine wpAny_If (thn (hc pins s σ H _ I h) fun k s1 ⟨H1, I1, q⟩ => ?_)
  cases k with
  | true => exact ha s1 H1 D I1 (by simpa using q)
  | false => exact hb s1 H1 D I1 (by simpa using q)
theorem pss_oneAt {st : Stmt} {t : TS} (h1 : PSat X pins σ st t) : PSsAt X pins σ [st] t := by
  intro s H D I h
  refine wpAny_execs_cons (thn (h1 s H D I h) fun f s1 q => ?_)
  cases f with
  | next => obtain ⟨σ', H', I', q'⟩ := q; exact wpAny_execs_nil ⟨σ', H', I', q'⟩
  | brk => exact q
  | cont => exact q
  | ret u => exact q
end

/-! ### the context of an except suite -/
abbrev Cx.held (X : Cx) (a : Addr) : Cx := { X with A := X.A.mark (some (.ref a)), calm := false, xe := fun _ _ => False }
section
variable {X : Cx} {pins : List (Addr × Obj)} {σ : St} {H : Hp} {s : Shared} {a : Addr}
theorem Cx.Ok.held (ok : X.Ok) (a : Addr) : (X.held a).Ok :=
  ⟨ok.mod, ok.kind, ok.glob, ok.blt, ok.above, ok.inj, ok.has, ok.cab, (fun h => by cases h), ok.frames, ok.stk, ok.exf, ok.bs, ok.bsz, ok.noex, ok.exfs, ok.funs, ok.frf⟩
theorem Inv.held (I : Inv X pins σ H s) (a : Addr) : Inv (X.held a) pins σ H s := ⟨I.ok.held a, I.os, I.bare, I.base, I.loc, I.cell, I.free, I.freeC, I.pin, I.hok, I.len⟩
theorem Inv.unheld (ok : X.Ok) (I : Inv (X.held a) pins σ H s) : Inv X pins σ H s := ⟨ok, I.os, I.bare, I.base, I.loc, I.cell, I.free, I.freeC, I.pin, I.hok, I.len⟩
end

/-- an object of the class C, whatever else -/
def excO (a C : Addr) : HO := .ext fun h => ∃ ob, h.get? a = some ob ∧ ob.cls = .ref C

section
variable {X : Cx} {pins : List (Addr × Obj)} {σ : St} {H H' : Hp} {s s' : Shared} {h' B : Heap}
/-- the state goes on over what an exception writes -/
theorem Inv.flown (hex : X.ex = []) (I : Inv X pins σ H s) (I' : Inv X pins σ H' s') (c1 : ∀ b o ob, H' b = some o → s'.heap.get? b = some ob → B.get? b = some ob)
    (c2 : ∀ b o ob, s.heap.get? b = some o → b ∉ frs X.stack → s'.heap.get? b = some ob → B.get? b = some ob) (st : B.StaysIn h') (up : s'.heap.UpToSlots h') : Inv X pins σ H' { s' with heap := h' } := by
  have nL : ∀ b, b ∉ X.fs → b ≠ X.env.locals → b ∉ frs X.stack := fun b h1 h2 hm => (List.mem_cons.mp (I.stkSub b hm)).elim h2 h1
  have ub : Un X.fs [] X.H₀ H X.s₀.heap s.heap := hex ▸ I.base
  have ub' : Un X.fs [] X.H₀ H' X.s₀.heap s'.heap := hex ▸ I'.base
  have neL : ∀ b o, X.s₀.heap.get? b = some o → b ≠ X.env.locals := fun b o e => Nat.ne_of_lt (Nat.lt_of_lt_of_le (Heap.lt_size e) I.ok.above)
  have cellK : ∀ c v, s'.heap.IsCell c v → h'.IsCell c v := fun c v ⟨o, ho, hd⟩ => by
    obtain ⟨sl, q⟩ := up c o ho fun vs z => by rw [hd] at z; cases z
    exact ⟨_, q, hd⟩
  refine ⟨I'.ok, I'.os, I'.bare, hex ▸ ub'.on (fun b o o1 e hb e1 => ?_) (fun b o o1 e hb e1 => ?_), ?_, fun x c e => ?_, I'.free, I'.freeC, fun p hp => ?_, I'.hok.flown c1 st, I'.len⟩
  · obtain ⟨o2, e2⟩ := ub.there b o e (by simp)
    exact st _ _ (c2 b o2 o1 e2 (nL b hb (neL b o e)) e1)
  · obtain ⟨_, o', ho', hnf⟩ := I'.funs.mem hb
    rw [e1] at ho'
    cases ho'
    exact up b o1 e1 hnf
  · obtain ⟨m, hn, hl⟩ := I'.loc
    refine ⟨m, up.ns hn, fun i x v e1 e2 e3 => ?_⟩
    obtain ⟨u, r, l⟩ := hl i x v e1 e2 e3
    refine ⟨u, r, ?_⟩
    rcases l with l | ⟨k, c, e, z⟩
    · exact .inl l
    · exact .inr ⟨k, c, e, cellK c _ z⟩
  · obtain ⟨v, z⟩ := I'.cell x c e
    exact ⟨v, cellK c v z⟩
  · obtain ⟨e, n, ne, nf, d⟩ := I'.pin p hp
    exact ⟨st _ _ (c2 p.1 p.2 p.2 (I.pin p hp).1 (nL p.1 nf ne) e), n, ne, nf, d⟩
/-- a new object that was not tracked is tracked from here on -/
theorem Inv.track {a C : Addr} (hex : X.ex = []) (I : Inv X pins σ H s) (n0 : X.s₀.heap.get? a = none) (na : H a = none) (np : ∀ p ∈ X.pn ++ pins, p.1 ≠ a) {ob : Obj} {vs : Array Value} (he : s.heap.get? a = some ob) (hcl : ob.cls = .ref C) (hd : ob.data = .fields vs) :
    Inv X pins σ (upd H a (excO a C)) s := by
  have ub : Un X.fs [] X.H₀ H X.s₀.heap s.heap := hex ▸ I.base
  have ne : ∀ b o, X.s₀.heap.get? b = some o → b ≠ a := fun b o e z => by rw [z, n0] at e; cases e
  have neH : ∀ b o, H b = some o → b ≠ a := fun b o e z => by rw [z, na] at e; cases e
  refine ⟨I.ok, I.os, I.bare, hex ▸ ⟨ub.keep, ub.slot, fun b o e n hx => ?_, ub.there, fun b xs e => ?_, fun b o u e => ?_, fun b ps e => ?_⟩, I.loc, I.cell, ?_, fun x c e => ?_, fun p hp => ?_, fun b o e => ?_, I.len⟩
  · rw [upd_ne (ne b o e)]; exact ub.free b o e n hx
  · have q := ub.tups b xs e
    rw [upd_ne (neH _ _ q)]; exact q
  · have q := ub.frzs b o u e
    rw [upd_ne (neH _ _ q)]; exact q
  · obtain ⟨m, q⟩ := ub.tbls b ps e
    exact ⟨m, by rw [upd_ne (neH _ _ q)]; exact q⟩
  · have : X.env.locals ≠ a := fun z => by
      obtain ⟨m, ⟨o, es, ep, ho, hd', _⟩, _⟩ := I.loc
      rw [z, he] at ho
      cases ho
      rw [hd] at hd'
      cases hd'
    rw [upd_ne this]; exact I.free
  · have : c ≠ a := fun z => by
      obtain ⟨v, o, ho, hd'⟩ := I.cell x c e
      rw [z, he] at ho
      cases ho
      rw [hd] at hd'
      cases hd'
    rw [upd_ne this]; exact I.freeC x c e
  · obtain ⟨e, n, n1, n2, d⟩ := I.pin p hp
    exact ⟨e, by rw [upd_ne (np p hp)]; exact n, n1, n2, d⟩
  · by_cases hb : b = a
    · subst hb
      rw [upd_same] at e
      cases e
      exact ⟨⟨ob, he, hcl⟩, ⟨ob, he⟩, fun h1 h2 ⟨o1, e1, e2⟩ k => ⟨o1, k o1 e1, e2⟩⟩
    · rw [upd_ne hb] at e
      exact (I.hok b o e).stay (fun c u _ q => q) (fun c q => by rw [upd_ne (neH _ _ q)]; exact q) fun c xs q => by rw [upd_ne (neH _ _ q)]; exact q
/-- the name of an except clause is unbound behind its suite -/
theorem unbind_ok {M : Model} {A : Around} {E : Value → Shared → Prop} {i : Nat} {n : Str} {pos : Pos} {Q : Unit → Shared → Prop} (I : Inv X pins σ H s) (hN : X.N.Nodup) (hi : X.N[i]? = some n) (hl : X.env.scope.names.lookup n = some .local)
    (h : ∀ s', Inv X pins (σ.set i none) H s' → Q () s') : wpAny M A (do bindName X.env n .none; unbindBehindTheSuite X.env n pos) Q E s := by
  obtain ⟨m, hn, hlo⟩ := id I.loc
  obtain ⟨oL, es, ep, hoL, hr⟩ := id hn
  have hcls : (X.env.scope.kind == .class || (X.env.scope.kind == .module && X.env.locals != X.env.globals)) = false := by rw [I.ok.kind]; rfl
  refine wpAny_nameGoes_keeps hl hn hcls fun h' v hn' hs => h _ ?_
  have neL : ∀ b o, X.s₀.heap.get? b = some o → b ≠ X.env.locals := fun b o e => Nat.ne_of_lt (Nat.lt_of_lt_of_le (Heap.lt_size e) I.ok.above)
  have hiσ : i < σ.length := by rw [I.len]; exact (List.getElem?_eq_some_iff.mp hi).1
  refine ⟨I.ok, I.os, I.bare, ⟨fun b o e n hb hx => ?_, fun b o e n hb hx => ?_, I.base.free, fun b o e hx => ?_, I.base.tups, I.base.frzs, I.base.tbls⟩, ⟨_, hn', fun j y v' e1 e2 e3 => ?_⟩, fun y c e => ?_, I.free, I.freeC, fun p hp => ?_, fun b ob e => ?_, by simpa using I.len⟩
  · exact (hs.2 b (neL b o e)).trans (I.base.keep b o e n hb hx)
  · obtain ⟨sl, e1⟩ := I.base.slot b o e n hb hx
    exact ⟨sl, (hs.2 b (neL b o e)).trans e1⟩
  · obtain ⟨o', e1⟩ := I.base.there b o e hx
    exact ⟨o', (hs.2 b (neL b o e)).trans e1⟩
  · by_cases hj : j = i
    · subst hj
      rw [List.getElem?_set_self hiσ] at e2
      cases e2
    · rw [List.getElem?_set_ne (Ne.symm hj)] at e2
      obtain ⟨u', r', q⟩ := hlo j y v' e1 e2 e3
      refine ⟨u', r', ?_⟩
      rcases q with ⟨k, e⟩ | ⟨k, c, e, z⟩
      · refine .inl ⟨k, ?_⟩
        have : y ≠ n := fun e => hj (nodup_ix hN e1 (e ▸ hi))
        simp [this, e]
      · exact .inr ⟨k, c, e, z.sameBut hs (I.cne y c e)⟩
  · obtain ⟨w', z⟩ := I.cell y c e
    exact ⟨w', z.sameBut hs (I.cne y c e)⟩
  · obtain ⟨e, n, ne, nf, d⟩ := I.pin p hp
    exact ⟨(hs.2 p.1 ne).trans e, n, ne, nf, d⟩
  · refine (I.hok b ob e).stay (fun c w' hc q => (hs.2 c ?_).trans q) (fun _ q => q) fun _ _ q => q
    rintro rfl
    rcases hc with rfl | hc
    · rw [I.free] at e; cases e
    · rw [I.free] at hc; cases hc
end

/-! ### try: .. except x as n: .. -/
section
variable {X : Cx} {P : Program} {w : World}
/-- tb: the body's reading, by what is wanted of its exceptions; ts: the suite's; the class of the clause is at CX; n stands in slot i -/
def tTry (K : PySem.W.Frag) (CE : Value) (i : Nat) (tb : XK → TS) (ts : Addr → TS) : TS := fun D σ H => ∃ E : XK, tb E D σ H ∧ ∀ cls o H', E cls o H' → ∃ C, cls = .ref C ∧ PySem.W.exmOne K (.ref C) CE = some true ∧
  ∀ a, H' a = none → ts a { nx := fun σ2 H2 => D.nx (σ2.set i none) H2, rt := D.rt, bk := fun σ2 H2 => D.bk (σ2.set i none) H2, ct := fun σ2 H2 => D.ct (σ2.set i none) H2 } (σ.set i (some (.ref a))) (upd H' a (excO a C))
theorem ps_try {body : List Stmt} {x n : Str} {np hpos pos : Pos} {b₀ : Stmt} {suite : List Stmt} {CE : Value} {i : Nat} {tb : XK → TS} {ts : Addr → TS} (hX : X.prog = P ∧ X.w = w) (hex : X.ex = []) (hstk : X.stack = X.env :: X.outer ∧ X.env.frame = some X.env.locals)
    (hN : X.N.Nodup) (hi : X.N[i]? = some n) (hl : X.env.scope.names.lookup n = some .local) (hg : Gl X x) (hm : X.mg x = some CE)
    (hb : ∀ (E : XK) (xe : Value → Shared → Prop) (pins : List (Addr × Obj)) (σ : St), PassesAt (CXw P w) (X.wish xe) pins σ E → PSsAt (X.wish xe) pins σ body (tb E))
    (hs : ∀ a, PSs (X.held a) (b₀ :: suite) (ts a)) (hdb : (x == ("__debug__" : Str)) = false := by decide) :
    PS X (.Try body [.ExceptHandler (some (.Name x np)) (some n) (b₀ :: suite) hpos] [] [] pos) (tTry X.K CE i tb ts) := by
  obtain ⟨rfl, rfl⟩ := hX
  intro pins s σ H D I h
  obtain ⟨E, qb, qc⟩ := h
  refine wpAny_Try_except ?_
  refine wpAny_mono (hb E (fun e s₁ => wpAny (model X.prog X.w) X.A (noteFrame e X.env) (fun _ s₂ => wpAny (model X.prog X.w) X.A (setFlight e none) (fun _ s₃ => wpAny (model X.prog X.w) X.A (handleBy e X.env [.ExceptHandler (some (.Name x np)) (some n) (b₀ :: suite) hpos]) (SP X pins D) X.xe s₃) X.xe s₂) X.xe s₁)
    pins σ ?_ s H D (I.wish _) qb) (fun f s1 q => ?_) fun _ _ q => q
  · intro H1 s1 e s' I1 hcx
    obtain ⟨a, cls, H', rfl, fly, hE⟩ := hcx
    obtain ⟨C, rfl, hmt, qs⟩ := qc cls none H' hE
    have I1 := I1.unwish
    have I2 : Inv X pins σ H' s' := I1.call' (ch := []) fly.os fly.un fly.hok fly.bare (fun _ z => nomatch z)
    obtain ⟨B, a0, fl, c1, c2⟩ := fly.fl
    have fl : Heap.FlyingW B X.stack a (.ref C) a0 s'.heap := fl
    rw [hstk.1] at fl
    have hfr : X.A.frames = some (X.env :: X.outer) := by rw [← hstk.1]; exact I.ok.frames
    refine wpAny_looks_onW hfr hstk.2 fl fun h4 held4 sm4 => ?_
    refine wpAny_landsW held4 fun h5 held5 sm5 => ?_
    have I5 : Inv X pins σ H' { s' with heap := h5 } := Inv.flown hex I1 I2 c1 c2 held5.1 (sm4.trans sm5)
    refine wpAny_handleBy_cons (codeAny_handlers_test (ld_glob (X := X.held a) (I5.held a) hg hm ?_ hdb)) (by intro q; cases q)
    have LT : PySem.W.Looks (model X.prog X.w) h5 (typeOf (.ref a)) (.ref C) := by
      obtain ⟨ob, hob, hc⟩ := held5.there
      rw [← hc]
      exact (PySem.W.Looks.ld hob).andThen .now
    refine (PySem.W.exm_one (K := X.K) (I5.kIn) LT hmt).here ?_
    refine codeAny_handlers_suite_as ?_
    refine lands_againW held5 fun h6 fl6 sm6 => ?_
    have I6 : Inv X pins σ H' { s' with heap := h6 } := Inv.flown hex I1 I2 c1 c2 fl6.1 ((sm4.trans sm5).trans sm6)
    obtain ⟨oe, ws, hoe, hoec, hoed, _⟩ := fl6.first
    have nB : B.get? a = none := fl6.2.1
    have na : H' a = none := by
      cases q : H' a with
      | none => rfl
      | some o =>
        obtain ⟨ob, e⟩ := (I2.hok a o q).ex
        rw [c1 a o ob q e] at nB
        cases nB
    have nfr : a ∉ frs X.stack := fun hm => by
      obtain ⟨_, o', ho', hnf⟩ := I6.stack.mem hm
      rw [hoe] at ho'
      cases ho'
      exact hnf _ hoed
    have ns1 : ∀ o, s1.heap.get? a = some o → False := fun o e => by
      obtain ⟨o2, e2⟩ := fly.un.there a o e (by simp)
      rw [c2 a o o2 e nfr e2] at nB
      cases nB
    have n0 : X.s₀.heap.get? a = none := by
      cases q : X.s₀.heap.get? a with
      | none => rfl
      | some o =>
        obtain ⟨o2, e2⟩ := I1.base.there a o q (by rw [hex]; simp)
        exact (ns1 o2 e2).elim
    have npn : ∀ p ∈ X.pn ++ pins, p.1 ≠ a := fun p hp z => ns1 p.2 (by rw [← z]; exact (I1.pin p hp).1)
    have I7 := (Inv.track (C := C) hex I6 n0 na npn hoe hoec hoed).held a
    refine store_ok (X := X.held a) I7 hN hi (.inl hl) (v := .ref a) rfl (fun s8 I8 => ?_) (.inr hl)
    refine wpAny_mono (hs a pins s8 _ _ _ I8 (qs a na)) (fun f s9 q9 => ?_) fun _ _ q => (show False from q).elim
    have back : ∀ {σ9 : St} {H9 : Hp} {R : Unit → Shared → Prop}, Inv (X.held a) pins σ9 H9 s9 → (∀ s10, Inv X pins (σ9.set i none) H9 s10 → R () s10) → wpAny (model X.prog X.w) X.A (do bindName X.env n .none; unbindBehindTheSuite X.env n hpos) R X.xe s9 := fun I9 k =>
      unbind_ok (Inv.unheld I.ok I9) hN hi hl k
    cases f with
    | next =>
      obtain ⟨σ9, H9, I9, q⟩ := q9
      exact back I9 fun s10 I10 => ⟨_, H9, I10, q⟩
    | brk =>
      obtain ⟨σ9, H9, I9, q⟩ := q9
      exact back I9 fun s10 I10 => ⟨_, H9, I10, q⟩
    | cont =>
      obtain ⟨σ9, H9, I9, q⟩ := q9
      exact back I9 fun s10 I10 => ⟨_, H9, I10, q⟩
    | ret u =>
      obtain ⟨v, σ9, H9, I9, r, q⟩ := q9
      exact back I9 fun s10 I10 => ⟨v, _, H9, I10, r, q⟩
  · have q' : SP X pins D f s1 := SP.unwish q
    cases f with
    | next => obtain ⟨σ', H', I', q1⟩ := q'; exact wpAny_execs_nil ⟨σ', H', I', q1⟩
    | brk => exact q'
    | cont => exact q'
    | ret u => exact q'
end

/-! ### isinstance -/
/-- what the written part must tell of an own error class for isinstance -/
structure ExcK (K : PySem.W.Frag) (C : Addr) : Prop where
  ga : PySem.W.findIn K (.ref C) "__getattribute__" = some (some (.builtin "BaseException.__getattribute__"))
  gt : PySem.W.findIn K (.ref C) "__getattr__" = some none
  cl : PySem.W.findIn K (.ref C) "__class__" = some (some (.builtin "object.__class__"))
  ob : PySem.W.mroIn K C (.type "object") = some true
  be : PySem.W.mroIn K C (.type "BaseException") = some true
  sp : PySem.W.specialIn K (.builtin "object.__class__") "__get__" = some (some (.builtin "getset_descriptor.__get__"))
  tk : PySem.W.takesIn K (.builtin "object.__class__") = some true
  is : (PySem.W.clsIn K C).isSome = true
end L2

set_option maxHeartbeats 4000000
/-! OWN RULES over the layer, 3b: isinstance of an exception of an own class, and of all else. -/
namespace L2
open PySem PySem.Spec PyProof.Rows
section
open PySem.W Builtin Builtin.ObjectAttr Builtin.Getset_descriptor
variable {prog : Program} {w : World} {A : Around} {E : Value → Shared → Prop} {h : Heap} {g : Array GenState} {d : Drawn} {t : Nat} {os : OsState} {K : Frag} {a C : Addr} {o : Obj}
theorem xc_type {M : Model} (hx : h.get? a = some o) (hc : o.cls = .ref C) : Looks M h (typeOf (.ref a)) (.ref C) := by
  rw [← hc]
  exact (Looks.ld hx).andThen .now
theorem xc_get {R : Result → Shared → Prop} {tp : Value} (X : K.In h) (F : ExcK K C) (hx : h.get? a = some o) (hc : o.cls = .ref C) (hq : R (.ok (.ret (.ref C))) ⟨h, g, d, t, os⟩) :
    codeAny (model prog w) A (.call (.builtin "getset_descriptor.__get__") ⟨[.builtin "object.__class__", .ref a, tp], []⟩) R ⟨h, g, d, t, os⟩ := by
  have T0 := xc_type (M := model prog w) hx hc
  have T1 := looks_mroIn (M := model prog w) X F.ob
  refine codeAny_call_builtin KF.slot_gs.plain KF.entry_gs (KF.slot_gs.check _ _ _ _ _ _ _ _ KF.type_class (KF.args_gs _ _ _) ?_)
  unfold Builtin.«getset_descriptor.__get__» descrGet
  rw [dga_obj]
  refine wpAny_bind (wpAny_pure ?_)
  unfold descrGetter descrCheckInstance descrNameAndClass isInstance
  simp only [KF.owner_class]
  repeat lk
  refine ⟨Code.quiet_builtin _ (by decide +kernel), codeAny_builtin KF.entry_class ?_⟩
  unfold Builtin.«object.__class__» shownTypeOf
  repeat lk
  exact hq
theorem xc_find (X : K.In h) (F : ExcK K C) {M : Model} : Looks M h (find (.ref a) (.ref C) "__class__") (.bind (.builtin "getset_descriptor.__get__") (.builtin "object.__class__")) := by
  have T1 := looks_findIn (M := M) X F.cl
  have T2 : Looks M h (getOf (some (.builtin "object.__class__"))) (some (.builtin "getset_descriptor.__get__")) := looks_specialIn X F.sp
  have T3 := looks_takesIn (M := M) X F.tk
  intro A' Q' E' s' k q
  obtain ⟨hh, g', d', t', os'⟩ := s'
  have T1 := T1.keeps k
  have T2 := T2.keeps k
  have T3 := T3.keeps k
  unfold find
  refine wpAny_bind (T1.at ?_)
  refine wpAny_bind (T2.at ?_)
  unfold dataDescriptor?
  refine wpAny_bind (wpAny_bind (T3.at ?_))
  repeat lk
  exact q
theorem xc_check {M : Model} {nameV : Value} {Q : Unit → Shared → Prop} (X : K.In h) (XF : ExcK K C) (hx : h.get? a = some o) (hc : o.cls = .ref C) (hq : Q () ⟨h, g, d, t, os⟩) :
    wpAny M A (checkBuiltinCall "BaseException.__getattribute__" ⟨[.ref a, nameV], []⟩) Q E ⟨h, g, d, t, os⟩ := by
  have e1 : builtinKind "BaseException.__getattribute__" = some .slot := by decide +kernel
  have e2 : splitId "BaseException.__getattribute__" = some ("BaseException", "__getattribute__") := by decide +kernel
  have T0 := xc_type (M := M) hx hc
  have T1 := looks_mroIn (M := M) X XF.be
  have T2 : Looks M h (isInstance (.ref a) (.type "BaseException")) true := T0.andThen T1
  have e3 := PySem.F.args_bexc_ga (.ref a) nameV
  simp only [checkBuiltinCall, e1, e2]
  refine wpAny_bind (T2.at ?_)
  repeat (any_goals (first | assumption | wp_step))
theorem xc_entry {tk : Tok} {Q : PySem.Fin → Shared → Prop} (X : K.In h) (XF : ExcK K C) (hx : h.get? a = some o) (hc : o.cls = .ref C) (hq : Q (.done (.ret (.ref C))) ⟨h, g, d, t, os⟩) :
    wpAny (model prog w) A (Builtin.«object.__getattribute__» ⟨[.ref a, .str "__class__" tk], []⟩) Q E ⟨h, g, d, t, os⟩ := by
  have T0 := xc_type (M := model prog w) hx hc
  have T1 := xc_find (a := a) X XF (M := model prog w)
  unfold Builtin.«object.__getattribute__»
  refine wpAny_bind (wpAny_pure ?_)
  refine wpAny_bind (wpAny_pure ?_)
  refine wpAny_bind (T0.at ?_)
  refine wpAny_bind (T1.at ?_)
  show wpAny _ _ (bindTo (.builtin "getset_descriptor.__get__") (.builtin "object.__class__") (.ref a) (.ref C)) _ _ _
  unfold bindTo
  refine wpAny_bind (wpAny_call (xc_get X XF hx hc ?_))
  exact wpAny_pure hq
theorem xc_attr {s : Shared} {Q : Option Value → Shared → Prop} (X : K.In s.heap) (XF : ExcK K C) (hx : s.heap.get? a = some o) (hc : o.cls = .ref C) (hq : Q (some (.ref C)) { s with toks := s.toks + 1 }) :
    wpAny (model prog w) A (getAttr? (.ref a) "__class__") Q E s := by
  obtain ⟨hh, g, d, t, os⟩ := s
  have T0 := xc_type (M := model prog w) hx hc
  have T1 := looks_findIn (M := model prog w) X XF.ga
  have T2 := looks_findIn (M := model prog w) X XF.gt
  have f3 := PySem.F.attr_ValueError.ga.bind (.ref a)
  unfold getAttr? getAttrBy? getAttrBy
  refine wpAny_bind (wpAny_mkText (wpAny_bind (wpAny_attempt (wpAny_holding (wpAny_bind (T0.at (wpAny_bind (T1.at ?_))))))))
  show wpAny _ _ (getAttrByItsOwn (.ref a) _ (.ref C) (.builtin "BaseException.__getattribute__") false false) _ _ _
  unfold getAttrByItsOwn
  refine wpAny_bind ?_
  show wpAny _ _ (typeLookup (.ref C) "__getattr__") _ _ _
  refine T2.at ?_
  refine wpAny_bind (wpAny_attempt (wpAny_holding ?_))
  show wpAny _ _ (boundAndCalled (.builtin "BaseException.__getattribute__") (.ref a) _) _ _ _
  unfold boundAndCalled
  refine wpAny_bind (wpAny_of_eq f3 ?_)
  refine wpAny_call (codeAny_call_builtin PySem.F.attr_ValueError.ga.plain PySem.F.entry_bexc_ga (xc_check X XF hx hc (xc_entry X XF hx hc ?_)))
  exact wpAny_pure (wpAny_pure hq)
theorem kitx_exc (XF : ExcK K C) : KitX K (.ref a) (.ref C) (fun h => ∃ o, h.get? a = some o ∧ o.cls = .ref C) where
  ty := fun _ _ _ ⟨o, hx, hc⟩ => xc_type hx hc
  it := fun _ _ X _ => by
    obtain ⟨cd, hcd⟩ := Option.isSome_iff_exists.mp XF.is
    unfold clsIn at hcd
    split at hcd
    · rename_i c' d' cd' sl' ho
      intro A' Q' E' s' k q
      unfold isType loadHead
      exact wpAny_bind (wpAny_loadPart (k _ _ (X _ _ ho)) (wpAny_pure q))
    · cases hcd
  ne := fun h tp dd its n sl X htp => by
    obtain ⟨cd, hcd⟩ := Option.isSome_iff_exists.mp XF.is
    refine Bool.eq_false_iff.mpr fun q => ?_
    cases (Value.ref.inj (beq_iff_eq.mp q))
    unfold clsIn at hcd
    split at hcd
    · rename_i c' d' cd' sl' ho
      have z := (X _ _ ho).symm.trans htp
      cases z
    · cases hcd
  ca := fun X ⟨o, hx, hc⟩ k => xc_attr X XF hx hc k
end
section
variable {X : Cx}
/-- a class, as a value -/
def clsV : V → Option Value
  | .ref D => some (.ref D)
  | .ty n => some (.type n)
  | _ => none
theorem clsV_rel {v : V} {c u : Value} (h : clsV v = some c) (r : RelV v u) : u = c := by
  cases v with
  | ref D => cases h; exact r
  | ty n => cases h; exact r
  | _ => cases h
/-- isinstance(e, C) of a caught exception -/
theorem call_isiE : CallR X (.builtin "isinstance") (fun xs H Q => ∃ a C cv c b, xs = [.ref a, cv] ∧ H a = some (excO a C) ∧ ExcK X.K C ∧ clsV cv = some c ∧ PySem.W.kitOne X.K (.ref C) c = some b ∧ Q (.bl b) H) := by
  intro pins s σ H xs us Q I r h
  obtain ⟨a, C, cv, c, b, rfl, ha, XF, hc, hk, q⟩ := h
  obtain ⟨u, v, rfl, ru, rv⟩ := vals2 r
  cases (show u = Value.ref a from ru)
  cases clsV_rel hc rv
  obtain ⟨hp, _, _⟩ := I.hok a _ ha
  exact PySem.W.kia_one (kitx_exc XF) I.kIn hp hk (fun z => nomatch z) fun tk => ⟨.bl b, H, I.tok _, rfl, q⟩
/-- isinstance(x, C) of what is no exception -/
theorem call_isi : CallR X (.builtin "isinstance") (fun xs H Q => ∃ x t cv c b, xs = [x, cv] ∧ TyOf X.K H x t ∧ clsV cv = some c ∧ PySem.W.kitOne X.K t c = some b ∧ Q (.bl b) H) := by
  intro pins s σ H xs us Q I r h
  obtain ⟨x, t, cv, c, b, rfl, ty, hc, hk, q⟩ := h
  obtain ⟨u, v, rfl, ru, rv⟩ := vals2 r
  cases clsV_rel hc rv
  exact isinst_ok I ru ty hk fun tk => ⟨.bl b, H, I.tok _, rfl, q⟩
end
end L2

set_option maxHeartbeats 4000000
/-! OWN RULES over the layer, 4: a list comprehension of one for and at most one if. -/
namespace L2
open PySem PySem.Spec PyProof.Rows

/-- the block of a comprehension: its own name first, then the names that it takes from around -/
abbrev compCx (X : Cx) (scope : Scope) (cl : List (Str × Addr)) (x : Str) (cn : List Str) (C : Addr) (s₂ : Shared) (H₂ : Hp) (fp : List Addr) : Cx where
  prog := X.prog
  w := X.w
  K := X.K
  mg := X.mg
  base := X.base
  A := X.A
  N := x :: cn
  s₀ := s₂
  H₀ := H₂
  env := compEnvC scope cl C X.env
  outer := X.stack
  stack := X.stack
  ex := fp
  fn := fun _ => false
  calm := X.calm
  pn := []
  xe := fun _ _ => False

/-- the frame of the block: the turn's value, then what stands in the slots js around it -/
def compSt (js : List Nat) (v : Option V) (σ : St) : St := v :: js.map fun j => (σ[j]?).join

/-- the tests of a comprehension -/
def PIfs (X : Cx) (ifs : List Expr) (t : TT) : Prop :=
  ∀ (pins : List (Addr × Obj)) (s : Shared) (σ : St) (H : Hp) (Q : Bool → Hp → Prop), Inv X pins σ H s → t σ H Q →
    wpAny (model X.prog X.w) X.A (forIn ifs true fun c r => if r = true then do let ok ← isTrue c X.env (eval c X.env); pure (ForInStep.yield ok) else pure (ForInStep.yield r)) (TP X pins σ Q) X.xe s
def tNoIf : TT := fun _ H Q => Q true H
theorem pifs_nil {X : Cx} : PIfs X [] tNoIf := fun _ _ _ H _ I h => wpAny_tests_nil ⟨H, I, h⟩
theorem pifs_one {X : Cx} {c : Expr} {t : TT} (h : PT X c t) : PIfs X [c] t := fun pins s σ H Q I q => wpAny_tests_one (h pins s σ H Q I q)

/-- what of the comprehension's own scope must be seen -/
structure CompOk (X : Cx) (scope : Scope) (cl : List (Str × Addr)) (x : Str) (cn : List Str) (js : List Nat) : Prop where
  clos : closureFor scope X.env = pure cl
  nocell : ∀ y ∈ scope.names, y.2 ≠ .cell
  kind : scope.kind = .function
  names : ∀ y ∈ scope.names, y.2 = .local → scope.names.lookup y.1 = some .local
  hx : scope.names.lookup x = some .local
  sub : ∀ y c, cl.lookup y = some c → X.env.cells.lookup y = some c
  has : ∀ p ∈ (relabel scope X.env).names, p.2 = .cell ∨ p.2 = .free → ∃ c, cl.lookup p.1 = some c
  cap : ∀ (k : Nat) y, cn[k]? = some y → ∃ j, js[k]? = some j ∧ X.N[j]? = some y ∧ Vis X.env.scope y ∧ (X.env.kindOf y = some .cell ∨ X.env.kindOf y = some .free) ∧ ((compEnvC scope cl 0 X.env).kindOf y = some .cell ∨ (compEnvC scope cl 0 X.env).kindOf y = some .free)
  len : js.length = cn.length
  nd : (x :: cn).Nodup

/-- the cells that a comprehension takes along -/
def closL (names : List (Str × NameKind)) (env : Env) : List (Str × Addr) := names.foldl (fun cs p => if p.2 == .free then (match env.cells.lookup p.1 with | some c => (p.1, c) :: cs | none => cs) else cs) []
theorem closL_sub (env : Env) : ∀ (names : List (Str × NameKind)) (cs : List (Str × Addr)), (∀ p ∈ cs, env.cells.lookup p.1 = some p.2) →
    ∀ p ∈ names.foldl (fun cs p => if p.2 == .free then (match env.cells.lookup p.1 with | some c => (p.1, c) :: cs | none => cs) else cs) cs, env.cells.lookup p.1 = some p.2
  | [], cs, h => h
  | q :: r, cs, h => by
    refine closL_sub env r _ ?_
    dsimp only
    split
    · split
      · rename_i c e
        intro p hp
        rcases List.mem_cons.mp hp with rfl | hp
        · exact e
        · exact h p hp
      · exact h
    · exact h
def isCF (k : Option NameKind) : Bool := k == some .cell || k == some .free
theorem isCF_or {k : Option NameKind} (h : isCF k = true) : k = some .cell ∨ k = some .free := by
  unfold isCF at h
  rcases Bool.or_eq_true_iff.mp h with q | q
  · exact .inl (by simpa using q)
  · exact .inr (by simpa using q)
theorem compOk_of {X : Cx} {scope : Scope} {x : Str} {cn : List Str} {js : List Nat} (clos : closureFor scope X.env = pure (closL scope.names X.env)) (nocell : ∀ y ∈ scope.names, y.2 ≠ .cell) (kind : scope.kind = .function)
    (names : ∀ y ∈ scope.names, y.2 = .local → scope.names.lookup y.1 = some .local) (hx : scope.names.lookup x = some .local)
    (has : ((relabel scope X.env).names.all fun p => !(isCF (some p.2)) || ((closL scope.names X.env).lookup p.1).isSome) = true) (len : js.length = cn.length)
    (cap : ((cn.zip js).all fun p => (X.N[p.2]? == some p.1) && isCF (X.env.scope.names.lookup p.1) && isCF ((relabel scope X.env).names.lookup p.1)) = true)
    (nd : (x :: cn).Nodup) : CompOk X scope (closL scope.names X.env) x cn js where
  clos := clos
  nocell := nocell
  kind := kind
  names := names
  hx := hx
  sub := fun y c h => closL_sub X.env scope.names [] (fun _ z => (nomatch z)) (y, c) (PySem.mem_of_lookup h)
  has := fun p hp hk => by
    have q := List.all_eq_true.mp has p hp
    have hk' : isCF (some p.2) = true := by rcases hk with z | z <;> rw [z] <;> rfl
    rw [hk'] at q
    exact Option.isSome_iff_exists.mp (by simpa using q)
  cap := fun k y e => by
    have hk : k < cn.length := (List.getElem?_eq_some_iff.mp e).1
    have hj : js[k]? = some (js[k]'(by omega)) := List.getElem?_eq_getElem _
    have hz : (y, js[k]'(by omega)) ∈ cn.zip js := by
      refine List.mem_of_getElem? (i := k) ?_
      rw [List.getElem?_zip_eq_some]
      exact ⟨e, hj⟩
    have q := List.all_eq_true.mp cap _ hz
    simp only [Bool.and_eq_true, beq_iff_eq] at q
    obtain ⟨⟨q1, q2⟩, q3⟩ := q
    have c2 := isCF_or q2
    refine ⟨_, hj, q1, ?_, c2, isCF_or q3⟩
    rcases c2 with z | z
    · exact .inr (.inl z)
    · exact .inr (.inr z)
  len := len
  nd := nd

section
variable {X : Cx} {scope : Scope} {cl : List (Str × Addr)} {x : Str} {cn : List Str} {js : List Nat} {pins : List (Addr × Obj)} {σ : St} {H₂ : Hp} {s₂ : Shared} {fp : List Addr}
/-- the block's context is in order -/
theorem CompOk.ok (O : CompOk X scope cl x cn js) (I : Inv X pins σ H₂ s₂) (hf : ∀ b ∈ fp, FpOk X pins H₂ b) {C : Addr} (hC : s₂.heap.objs.size ≤ C) (ho : ∀ b ∈ fp, ∃ o, s₂.heap.get? b = some o) : (compCx X scope cl x cn C s₂ H₂ fp).Ok where
  mod := I.mod
  kind := by show (relabel scope X.env).kind = .function; exact O.kind
  glob := I.ok.glob
  blt := I.ok.blt
  above := hC
  inj := fun y z c h1 h2 => I.ok.inj y z c (O.sub y c h1) (O.sub z c h2)
  has := fun y hy => by
    have hy : (relabel scope X.env).names.lookup y = some .cell ∨ (relabel scope X.env).names.lookup y = some .free := hy
    rcases hy with hy | hy
    · exact O.has _ (PySem.mem_of_lookup hy) (.inl rfl)
    · exact O.has _ (PySem.mem_of_lookup hy) (.inr rfl)
  cab := fun _ _ h => (by cases h)
  hd := I.ok.hd
  frames := I.ok.frames
  stk := .inl rfl
  exf := fun b hb => by
    obtain ⟨o, e⟩ := ho b hb
    exact ⟨Nat.ne_of_lt (Nat.lt_of_lt_of_le (Heap.lt_size e) hC), fun y c h => (hf b hb).2.2.2.2.1 y c (O.sub y c h)⟩
  bs := I.bs
  bsz := Nat.le_trans I.ok.bsz I.sz
  noex := fun b o e hb => by
    rcases (hf b hb).2.2.2.1 with z | z
    · exact I.ok.noex b o e z
    · exact absurd (Nat.lt_of_lt_of_le (Heap.lt_size e) (Nat.le_trans I.ok.bsz z)) (Nat.lt_irrefl _)
  exfs := fun b hb hm => (List.mem_cons.mp (I.stkSub b hm)).elim (hf b hb).2.1 (hf b hb).2.2.1
  funs := I.stack
  frf := I.stkFree

/-- the block at its entry -/
theorem CompOk.start (O : CompOk X scope cl x cn js) (I : Inv X pins σ H₂ s₂) (hf : ∀ b ∈ fp, FpOk X pins H₂ b) (ho : ∀ b ∈ fp, ∃ o, s₂.heap.get? b = some o) {h₁ : Heap} {m : Str → Option Value} {tk : Nat}
    (hns : h₁.Ns (s₂.heap.objs.size + 1) m) (hk : ∀ b o, s₂.heap.get? b = some o → h₁.get? b = some o) (hD : h₁.get? s₂.heap.objs.size = some { cls := .type "list", data := .seq ([] : List Value).toArray }) :
    Inv (compCx X scope cl x cn (s₂.heap.objs.size + 1) s₂ H₂ fp) [] (compSt js none σ) (upd H₂ s₂.heap.objs.size (.lst [])) { s₂ with heap := h₁, toks := tk } := by
  have fD : H₂ s₂.heap.objs.size = none := I.hok.fresh (Nat.le_refl _)
  have fC : H₂ (s₂.heap.objs.size + 1) = none := I.hok.fresh (Nat.le_succ _)
  have neD : s₂.heap.objs.size + 1 ≠ s₂.heap.objs.size := Nat.succ_ne_self _
  obtain ⟨m0, hn0, hl0⟩ := I.loc
  refine ⟨O.ok I hf (Nat.le_succ _) ho, rfl, I.bare, ?_, ⟨m, hns, fun i y v e1 e2 e3 => ?_⟩, fun y c e => ?_, ?_, fun y c e => ?_, (fun p hp => nomatch hp), ?_, ?_⟩
  · exact Un.laid hk (Nat.le_refl _) fD
  · cases i with
    | zero => exact nomatch (show (none : Option V) = some v from Option.some.inj e2)
    | succ k =>
      obtain ⟨j, hj, hjN, hvis, hcell, hk2⟩ := O.cap k y (by simpa using e1)
      have e4 : (σ[j]?).join = some v := by
        have z : (js.map fun j => (σ[j]?).join)[k]? = some (some v) := by simpa [compSt] using e2
        rw [List.getElem?_map, hj] at z
        simpa using z
      have e5 : σ[j]? = some (some v) := by
        cases q : σ[j]? with
        | none => rw [q] at e4; cases e4
        | some o => rw [q] at e4; simp at e4; rw [e4]
      obtain ⟨u, r, l⟩ := hl0 j y v hjN e5 hvis
      refine ⟨u, r, .inr ⟨hk2, ?_⟩⟩
      rcases l with ⟨kl, _⟩ | ⟨_, c, ec, z⟩
      · rcases hcell with q | q
        · rw [kl] at q; cases q
        · rw [kl] at q; cases q
      · have hy : ∃ c', cl.lookup y = some c' := by
          rcases hk2 with q | q
          · exact O.has _ (PySem.mem_of_lookup (show (relabel scope X.env).names.lookup y = some .cell from q)) (.inl rfl)
          · exact O.has _ (PySem.mem_of_lookup (show (relabel scope X.env).names.lookup y = some .free from q)) (.inr rfl)
        obtain ⟨c', hc'⟩ := hy
        have ecc := O.sub y c' hc'
        rw [ec] at ecc
        cases ecc
        exact ⟨c, hc', z.keeps hk⟩
  · obtain ⟨v, z⟩ := I.cell y c (O.sub y c e)
    exact ⟨v, z.keeps hk⟩
  · show upd H₂ s₂.heap.objs.size (.lst []) (s₂.heap.objs.size + 1) = none
    rw [upd_ne neD]; exact fC
  · obtain ⟨v, o, ho', _⟩ := I.cell y c (O.sub y c e)
    rw [upd_ne (Nat.ne_of_lt (Heap.lt_size ho'))]
    exact I.freeC y c (O.sub y c e)
  · exact I.hok.laid hk (Nat.le_refl _) ⟨Nat.zero_le _, [], 0, .nil, hD⟩
  · show (compSt js none σ).length = (x :: cn).length
    simp [compSt, O.len]
end

/-- the loop of a comprehension, whatever its target -/
theorem compLoop_go {prog : Program} {w : World} {A : Around} {R : Result → Shared → Prop} {s : Shared} {elt target iter : Expr} {ifs : List Expr} {scope : Scope} {pos : Pos} {it acc : Value} {env : Env} (I : Nat → Shared → Prop)
    (turn : ∀ n s, I n s → wpAny (model prog w) A (pyNext it) (fun r s₁ => match r with
      | none => R (.ok .next) s₁
      | some v => wpAny (model prog w) A (letOwnedTupleGo target it v) (fun _ s₁' => wpAny (model prog w) A (assign target env v) (fun _ s₂ =>
          wpAny (model prog w) A (forIn ifs true fun c r => if r = true then do let ok ← isTrue c env (eval c env); pure (ForInStep.yield ok) else pure (ForInStep.yield r)) (fun ok s₃ =>
            if ok = true then wpAny (model prog w) A (eval elt env) (fun x s₄ => wpAny (model prog w) A (call (.builtin "list.append") [acc, x]) (fun _ s₅ => ∃ m, m < n ∧ I m s₅) (fun _ _ => False) s₄) (fun _ _ => False) s₃
            else ∃ m, m < n ∧ I m s₃) (fun _ _ => False) s₂) (fun _ _ => False) s₁') (fun _ _ => False) s₁) (fun _ _ => False) s)
    (n : Nat) (h : I n s) : codeAny (model prog w) A (.compLoop (.ListComp elt [⟨target, iter, ifs, 0⟩] scope pos) 0 it acc env) R s := by
  refine codeAny_loop rfl I (fun n s hI => ?_) n h
  show wpAny _ A ((compTurn (.ListComp elt [⟨target, iter, ifs, 0⟩] scope pos) 0 it acc env).onRaise (fun x => do noteFrame x env; theTreesLotGoes x)) _ _ s
  refine wpAny_noted ?_
  rw [compTurn_list]
  refine wpAny_bind (wpAny_standAt (wpAny_bind (wpAny_mono (turn n s hI) (fun r s₁ h₁ => ?_) fun _ _ h' => h'.elim)))
  cases r with
  | none => exact wpAny_pure h₁
  | some v =>
    refine wpAny_bind (wpAny_mono h₁ (fun _ s₁' h₁' => ?_) fun _ _ h' => h'.elim)
    refine wpAny_bind (wpAny_mono h₁' (fun _ s₂ h₂ => wpAny_bind (wpAny_mono h₂ (fun ok s₃ h₃ => ?_) fun _ _ h' => h'.elim)) fun _ _ h' => h'.elim)
    cases ok with
    | false =>
      rw [if_neg Bool.false_ne_true] at h₃
      exact wpAny_pure ⟨rfl, h₃⟩
    | true =>
      rw [if_pos rfl] at h₃
      exact wpAny_bind (wpAny_bind (wpAny_mono h₃ (fun x s₄ h₄ => wpAny_bind (wpAny_mono h₄ (fun _ s₅ h₅ => wpAny_pure (wpAny_pure ⟨rfl, h₅⟩)) fun _ _ h' => h'.elim)) fun _ _ h' => h'.elim))

/-- [e for x in it if c]; σc v: the block's frame -/
def tComp (wi : TI) (js : List Nat) (tc : Addr → Shared → Hp → List Addr → TT) (te : Addr → Shared → Hp → List Addr → TE) : TE := fun σ H Q => wi σ H fun J H1 => ∀ D, H1 D = none → ∀ C s₂ H₂ fp, ∃ W : Nat → Nat → List V → Hp → Prop, (∃ m, W 0 m [] (upd H1 D (.lst []))) ∧ ∀ i m ys H2, W i m ys H2 → H2 D = some (.lst ys) ∧
  ((J.stop i H2 ∧ Q (.ref D) H2) ∨ (J.go i H2 ∧ ∀ x H', J.yld i H2 x H' → tc C s₂ H₂ fp (compSt js (some x) σ) H' fun b H3 => if b = true then te C s₂ H₂ fp (compSt js (some x) σ) H3 fun v H4 => H4 D = some (.lst ys) ∧ ys.length < sizeLine ∧ ∃ m', m' < m ∧ W (i + 1) m' (ys ++ [v]) (upd H4 D (.lst (ys ++ [v])))
    else ∃ m', m' < m ∧ W (i + 1) m' ys H3))

section
variable {X : Cx} {scope : Scope} {cl : List (Str × Addr)} {x : Str} {cn : List Str} {js : List Nat} {elt iter : Expr} {ifs : List Expr} {px pos : Pos} {wi : TI} {tc : Addr → Shared → Hp → List Addr → TT} {te : Addr → Shared → Hp → List Addr → TE}
/-- the block itself: from the iterator to the end; RR: what is wanted behind it -/
theorem comp_block (O : CompOk X scope cl x cn js) (hc : X.calm = true) (ht : ∀ C s₂ H₂ fp, PIfs (compCx X scope cl x cn C s₂ H₂ fp) ifs (tc C s₂ H₂ fp)) (he : ∀ C s₂ H₂ fp, PE (compCx X scope cl x cn C s₂ H₂ fp) elt (te C s₂ H₂ fp))
    {pins : List (Addr × Obj)} {σ : St} {s₂ : Shared} {itv : Value} {R : V → Hp → Prop} {RR : Value → Addr → Result → Shared → Prop} {E : Value → Shared → Prop}
    (h : PIE X pins σ (.Name x px) (fun J H1 => ∀ D, H1 D = none → ∀ C s₂ H₂ fp, ∃ W : Nat → Nat → List V → Hp → Prop, (∃ m, W 0 m [] (upd H1 D (.lst []))) ∧ ∀ i m ys H2, W i m ys H2 → H2 D = some (.lst ys) ∧
      ((J.stop i H2 ∧ R (.ref D) H2) ∨ (J.go i H2 ∧ ∀ x H', J.yld i H2 x H' → tc C s₂ H₂ fp (compSt js (some x) σ) H' fun b H3 => if b = true then te C s₂ H₂ fp (compSt js (some x) σ) H3 fun v H4 => H4 D = some (.lst ys) ∧ ys.length < sizeLine ∧ ∃ m', m' < m ∧ W (i + 1) m' (ys ++ [v]) (upd H4 D (.lst (ys ++ [v])))
        else ∃ m', m' < m ∧ W (i + 1) m' ys H3))) itv s₂)
    (hRR : ∀ D C H' s', Inv X pins σ H' s' → R (.ref D) H' → H' C = none → C ≠ X.env.locals → X.s₀.heap.objs.size ≤ C → (∀ y c, X.env.cells.lookup y = some c → c ≠ C) → (∀ p ∈ X.pn ++ pins, p.1 ≠ C) → (∃ m, s'.heap.Ns C m) → RR (.ref D) C (.ok .next) s') :
    wpAny (model X.prog X.w) X.A (newList []) (fun acc s₃ => wpAny (model X.prog X.w) X.A (newFunctionEnv scope X.env.globals cl [] X.env.qual none .none (some X.env)) (fun cenv s₄ =>
      codeAny (model X.prog X.w) X.A (.compStart (.ListComp elt [⟨.Name x px, iter, ifs, 0⟩] scope pos) 0 itv acc { cenv with scope := relabel scope X.env }) (RR acc cenv.locals) s₄) E s₃) E s₂ := by
  obtain ⟨it, fp, tn, J, H₂, rfl, I2, T, st2, f2, hR⟩ := h
  have ho : ∀ b ∈ fp, ∃ o, s₂.heap.get? b = some o := fun b hb => let ⟨o, e, _⟩ := T.obj _ _ st2 b hb; ⟨o, e⟩
  obtain ⟨W, ⟨m0, w0⟩, turn⟩ := hR s₂.heap.objs.size (I2.hok.fresh (Nat.le_refl _)) (s₂.heap.objs.size + 1) s₂ H₂ fp
  refine wpAny_newObj_type (wpAny_newFunctionEnv O.nocell (by intro y hy; simp at hy) (fun h₁ hns₁ hsb₁ => ?_) O.kind)
  dsimp only at hns₁ hsb₁ ⊢
  generalize hH2 : s₂.heap.push { cls := .type "list", dict := none, data := .seq ([] : List Value).toArray } = HH at hns₁ hsb₁ ⊢
  have hsz : HH.objs.size = s₂.heap.objs.size + 1 := by rw [← hH2, Heap.size_push]
  have old : ∀ b o, s₂.heap.get? b = some o → h₁.get? b = some o := fun b o e => by
    refine hsb₁.extBut b o ?_ (Heap.get?_push_of_some _ (hH2 ▸ Heap.get?_push_of_some _ e))
    rw [hsz]
    exact Nat.ne_of_lt (Nat.lt_succ_of_lt (Heap.lt_size e))
  have hD : h₁.get? s₂.heap.objs.size = some { cls := .type "list", data := .seq ([] : List Value).toArray } := by
    refine hsb₁.extBut _ _ ?_ (Heap.get?_push_of_some _ (hH2 ▸ Heap.get?_push_size _ rfl))
    rw [hsz]
    exact Nat.ne_of_lt (Nat.lt_succ_self _)
  rw [hsz] at hns₁
  show codeAny _ _ (.compStart _ 0 (.ref it) (.ref s₂.heap.objs.size) (compEnvC scope cl HH.objs.size X.env)) (RR (.ref s₂.heap.objs.size) HH.objs.size) _
  rw [hsz]
  have I3 := O.start I2 f2 ho (tk := s₂.toks + ([] : List (Str × Value)).length) hns₁ old hD
  have st3 : tn 0 h₁ := T.keep 0 _ _ st2 fun b hb o e => old b o e
  have fpD : ∀ b ∈ fp, b ≠ s₂.heap.objs.size := fun b hb => by obtain ⟨o, e⟩ := ho b hb; exact Nat.ne_of_lt (Heap.lt_size e)
  -- what stays of the iterator's objects
  have stat : ∀ {pl : List (Addr × Obj)} {H' : Hp}, (∀ b ∈ fp, H' b = none) → (∀ p ∈ pl, ∀ b ∈ fp, p.1 ≠ b) → ∀ b ∈ fp, FpOk (compCx X scope cl x cn (s₂.heap.objs.size + 1) s₂ H₂ fp) pl H' b := fun {pl H'} hn hp b hb =>
    ⟨hn b hb, (I3.ok.exf b hb).1, fun hm => I3.ok.exfs b hb hm, .inl hb, (I3.ok.exf b hb).2, fun p hpm => hp p (by simpa using hpm) b hb⟩
  have loop : ∀ s₃ : Shared, s₃ = { s₂ with heap := h₁, toks := s₂.toks + ([] : List (Str × Value)).length } →
      codeAny (model X.prog X.w) X.A (.compLoop (.ListComp elt [⟨.Name x px, iter, ifs, 0⟩] scope pos) 0 (.ref it) (.ref s₂.heap.objs.size) (compEnvC scope cl (s₂.heap.objs.size + 1) X.env)) (RR (.ref s₂.heap.objs.size) (s₂.heap.objs.size + 1)) s₃ := by
    rintro s₃ rfl
    refine compLoop_go (fun n s' => ∃ i ys v H', Inv (compCx X scope cl x cn (s₂.heap.objs.size + 1) s₂ H₂ fp) [] (compSt js v σ) H' s' ∧ tn i s'.heap ∧ (∀ b ∈ fp, H' b = none) ∧ W i n ys H') ?_ m0
      ⟨0, [], none, _, I3, st3, fun b hb => by rw [upd_ne (fpD b hb)]; exact (f2 b hb).1, w0⟩
    rintro n s4 ⟨i, ys, v4, H4, I4, st4, fr4, w4⟩
    obtain ⟨hD4, tr⟩ := turn i n ys H4 w4
    rcases tr with ⟨stop, qn⟩ | ⟨go, step⟩
    · refine wpAny_mono (T.done (compCx X scope cl x cn (s₂.heap.objs.size + 1) s₂ H₂ fp) rfl rfl rfl hc i [] s4 _ H4 (fun _ _ => False) I4 (stat fr4 (fun _ z => nomatch z)) st4 stop) (fun r s5 ⟨hr, I5⟩ => ?_) fun _ _ q => q
      subst hr
      have I6 : Inv X pins σ H4 s5 := I2.call' (ch := fp) I5.os I5.base I5.hok I5.bare fun b hb => ⟨(f2 b hb).2.2.2.1, (f2 b hb).2.1, (f2 b hb).2.2.2.2.1, (f2 b hb).2.2.2.2.2⟩
      obtain ⟨m, hn, _⟩ := I5.loc
      refine hRR _ _ H4 s5 I6 qn I5.free (Nat.ne_of_gt (Nat.lt_succ_of_lt I2.lt)) (Nat.le_succ_of_le I2.sz) (fun y c e z => ?_) (fun p hp z => ?_) ⟨m, hn⟩
      · obtain ⟨v, o, ho', _⟩ := I2.cell y c e
        exact absurd (Heap.lt_size ho') (by rw [z]; exact Nat.not_lt.mpr (Nat.le_succ _))
      · exact absurd (Heap.lt_size (I2.pin p hp).1) (by rw [z]; exact Nat.not_lt.mpr (Nat.le_succ _))
    · refine wpAny_mono (T.item (compCx X scope cl x cn (s₂.heap.objs.size + 1) s₂ H₂ fp) rfl rfl rfl hc i [] s4 _ H4 (fun _ _ => False) I4 (stat fr4 (fun _ z => nomatch z)) st4 go) (fun r s4' ⟨u, hr, h5⟩ => ?_) fun _ _ q => q
      subst hr
      refine wpAny_mono h5 (fun _ s5 ⟨x5, H5, I5, r5, y5, st5, fr5⟩ => ?_) fun _ _ q => q
      have I5p := I5.pinned (stat fr5 (fun _ z => nomatch z)) (T.obj _ _ st5)
      refine wpAny_assign_Name (store_ok (X := compCx X scope cl x cn (s₂.heap.objs.size + 1) s₂ H₂ fp) (i := 0) (E := fun _ _ => False) I5p O.nd rfl (.inl (lookup_relabel_local O.hx)) r5 (fun s6 I6 => ?_) (.inr (lookup_relabel_local O.hx)))
      have I6 : Inv (compCx X scope cl x cn (s₂.heap.objs.size + 1) s₂ H₂ fp) ([] ++ pinsAt fp s5.heap) (compSt js (some x5) σ) H5 s6 := I6
      have again : ∀ {s7 : Shared} {H7 : Hp}, Inv (compCx X scope cl x cn (s₂.heap.objs.size + 1) s₂ H₂ fp) ([] ++ pinsAt fp s5.heap) (compSt js (some x5) σ) H7 s7 → tn (i + 1) s7.heap ∧ ∀ b ∈ fp, H7 b = none := fun {s7 H7} I7 => by
        refine ⟨T.keep _ _ _ st5 fun b hb o e => (I7.pin (b, o) (List.mem_append_right _ (List.mem_append_right _ (mem_pinsAt hb e)))).1, fun b hb => ?_⟩
        obtain ⟨o, e, d⟩ := T.obj _ _ st5 b hb
        exact (I7.pin (b, o) (List.mem_append_right _ (List.mem_append_right _ (mem_pinsAt hb e)))).2.1
      refine wpAny_mono (ht _ _ _ _ _ s6 _ H5 _ I6 (step x5 H5 y5)) (fun ok s7 ⟨H7, I7, q7⟩ => ?_) fun _ _ q => q
      cases ok with
      | false =>
        rw [if_neg Bool.false_ne_true]
        rw [if_neg Bool.false_ne_true] at q7
        obtain ⟨m', hm, w7⟩ := q7
        obtain ⟨st7, fr7⟩ := again I7
        exact ⟨m', hm, i + 1, ys, some x5, H7, I7.unpinned, st7, fr7, w7⟩
      | true =>
        rw [if_pos rfl]
        rw [if_pos rfl] at q7
        refine wpAny_mono (he _ _ _ _ _ s7 _ H7 _ I7 q7) (fun u8 s8 ⟨v8, H8, I8, r8, hD8, hz8, m', hm, w8⟩ => ?_) fun _ _ q => q
        obtain ⟨st8, fr8⟩ := again I8
        obtain ⟨z8, its, k8, rv8, e8⟩ := I8.hok _ _ hD8
        have hl8 := rv8.length
        refine append_at (E := fun _ _ => False) (hsz := by rw [List.size_toArray]; omega) e8 fun h9 hs9 e9 => ?_
        have I9 : Inv (compCx X scope cl x cn (s₂.heap.objs.size + 1) s₂ H₂ fp) ([] ++ pinsAt fp s5.heap) (compSt js (some x5) σ) (upd H8 s₂.heap.objs.size (.lst (ys ++ [v8]))) { s8 with heap := h9 } := by
          refine I8.write (x := s₂.heap.objs.size) (e := s₂.heap.objs.size) (t' := s8.toks) (by rw [hD8]; exact True.intro) (.inl rfl) (fun b u hb q => (hs9.2 b hb).trans q) ⟨_, e9⟩ ?_
          refine ⟨by rw [List.length_append, List.length_singleton]; omega, its ++ [u8], k8 + 1, rv8.append (.cons r8 .nil), ?_⟩
          rw [e9, List.push_toArray]
        obtain ⟨st9, fr9⟩ := again I9
        exact ⟨m', hm, i + 1, ys ++ [v8], some x5, _, I9.unpinned, st9, fr9, w8⟩
  exact codeAny_compStart_list (loop _ rfl) (T.self _ 0 _ _ _ st3 (loop _ rfl))

theorem pe_comp (O : CompOk X scope cl x cn js) (hc : X.calm = true) (hi : PI X (.Name x px) iter wi) (ht : ∀ C s₂ H₂ fp, PIfs (compCx X scope cl x cn C s₂ H₂ fp) ifs (tc C s₂ H₂ fp)) (he : ∀ C s₂ H₂ fp, PE (compCx X scope cl x cn C s₂ H₂ fp) elt (te C s₂ H₂ fp))
    (hs : ∀ v, foldedSetIterable iter X.env v = pure v := by intro _; rfl) : PE X (.ListComp elt [⟨.Name x px, iter, ifs, 0⟩] scope pos) (tComp wi js tc te) := by
  intro pins s σ H Q I h
  rw [eval_ListComp]
  refine wpAny_comprehension_free (use := none) rfl hs O.clos O.kind O.names (thn (hi pins s σ H _ I h) fun v s1 h1 => thn h1 fun itv s2 h2 => ?_)
  refine comp_block O hc ht he (R := Q) (RR := fun acc C => compPost (model X.prog X.w) X.A X.xe none (EP X pins σ Q) acc C) h2 ?_
  intro D C H' s' I' q hC hL h0 hcl hp ⟨m, hn⟩
  refine ⟨m, hn, fun h'' hs'' => ⟨.ref D, H', ?_, rfl, q⟩⟩
  exact I'.turned (t' := s'.toks) (fun b o hb e => (hs''.2 b hb).trans e) hC hL (.inr h0) hcl hp

/-- name = [e for x in it if c] -/
def tSetComp (j : Nat) (wi : TI) (js : List Nat) (tc : Addr → Shared → Hp → List Addr → TT) (te : Addr → Shared → Hp → List Addr → TE) : TS := fun D σ H => tComp wi js tc te σ H fun v H1 => D.nx (σ.set j (some v)) H1
theorem ps_setComp {j : Nat} {y : Str} {py spos : Pos} (O : CompOk X scope cl x cn js) (hc : X.calm = true) (hi : PI X (.Name x px) iter wi) (ht : ∀ C s₂ H₂ fp, PIfs (compCx X scope cl x cn C s₂ H₂ fp) ifs (tc C s₂ H₂ fp)) (he : ∀ C s₂ H₂ fp, PE (compCx X scope cl x cn C s₂ H₂ fp) elt (te C s₂ H₂ fp))
    (hN : X.N.Nodup) (hj : X.N[j]? = some y) (hy : Loc X.env.scope y) (hsw : swapsWith (.ListComp elt [⟨.Name x px, iter, ifs, 0⟩] scope pos) (some (.Name y py)) spos.line X.env = pure true)
    (hs : ∀ v, foldedSetIterable iter X.env v = pure v := by intro _; rfl) (hf : X.fn y = true ∨ X.env.scope.names.lookup y = some .local := by first | exact .inl rfl | exact .inr rfl) :
    PS X (.Assign [.Name y py] (.ListComp elt [⟨.Name x px, iter, ifs, 0⟩] scope pos) spos) (tSetComp j wi js tc te) := by
  intro pins s σ H D I h
  rw [exec_Assign_Name_used _ _ _ _ hsw]
  refine wpAny_bind (wpAny_standAt (wpAny_bind ?_))
  show wpAny _ X.A (do let _ ← comprehension (.ListComp elt [⟨.Name x px, iter, ifs, 0⟩] scope pos) scope X.env _ (newList []) false (eval iter X.env) (some (assign (.Name y py) X.env))) _ _ s
  refine wpAny_bind (wpAny_mono (wpAny_comprehension_free (use := some (assign (.Name y py) X.env)) (Q := fun _ s' => SP X pins D .next s') rfl hs O.clos O.kind O.names
    (thn (hi pins s σ H _ I h) fun v s1 h1 => thn h1 fun itv s2 h2 => ?_)) (fun _ s' hq => wpAny_pure (wpAny_pure hq)) fun _ _ e => e)
  refine comp_block O hc ht he (R := fun v H1 => D.nx (σ.set j (some v)) H1) (RR := fun acc C => compPost (model X.prog X.w) X.A X.xe (some (assign (.Name y py) X.env)) (fun _ s' => SP X pins D .next s') acc C) h2 ?_
  intro DD C H' s' I' q hC hL h0 hcl hp ⟨m, hn⟩
  show wpAny _ X.A (assign (.Name y py) X.env (.ref DD)) _ _ s'
  refine wpAny_assign_Name (store_ok2 I' hN hj hy (v := .ref DD) rfl (fun s3 I3 ⟨a, hsb, ha⟩ => ?_) hf)
  have nCa : C ≠ a := fun z => by
    rcases ha with e | e
    · exact hL (z.trans e)
    · exact hcl _ _ e z.symm
  refine ⟨m, hn.sameBut hsb nCa, fun h'' hs'' => ⟨_, H', ?_, q⟩⟩
  exact I3.turned (t' := s3.toks) (fun b o hb e => (hs''.2 b hb).trans e) hC hL (.inr h0) hcl hp
end
end L2

set_option maxHeartbeats 4000000
/-! THE FUNCTIONAL READING, 1: values, the store, what stands for what; runs. -/
namespace L2
open PySem PySem.Spec PyProof.Rows

/-- a value: what never changes as data, the rest by its place in the store -/
inductive Wv where
  | non | bl (b : Bool) | int (i : Int) | str (x : Str) | lst (ws : List Wv) | tup (ws : List Wv) | o (h : Nat)
/-- what stands at a place of the store -/
inductive Ob where
  | ins (C : Addr) (fs : List (Str × Wv)) | lst (ws : List Wv) | dk (kvs : List (Key × Wv)) | dt (kvs : List (List Key × Wv)) | exc (C : Addr)

section
variable (F : Hp) (β : List Addr)
mutual
inductive RW : Wv → V → Prop
  | non : RW .non .non
  | bl (b : Bool) : RW (.bl b) (.bl b)
  | int (i : Int) : RW (.int i) (.int i)
  | str (x : Str) : RW (.str x) (.str x)
  | lst {a : Addr} {xs : List V} {ws : List Wv} (e : Rd F a (.lst xs)) (r : RWs ws xs) : RW (.lst ws) (.ref a)
  | tup {a : Addr} {xs : List V} {ws : List Wv} (e : F a = some (.tup xs)) (r : RWs ws xs) : RW (.tup ws) (.ref a)
  | o {h : Nat} {a : Addr} (e : β[h]? = some a) : RW (.o h) (.ref a)
inductive RWs : List Wv → List V → Prop
  | nil : RWs [] []
  | cons {w : Wv} {ws : List Wv} {v : V} {vs : List V} (h : RW w v) (r : RWs ws vs) : RWs (w :: ws) (v :: vs)
end
end

/-- frozen things stay, places stay -/
structure Gr (F F' : Hp) (β β' : List Addr) : Prop where
  same : Same F F'
  pre : ∀ (h : Nat) (a : Addr), β[h]? = some a → β'[h]? = some a
theorem Gr.refl (F : Hp) (β : List Addr) : Gr F F β β := ⟨Same.refl _, fun _ _ e => e⟩
theorem Gr.trans {F F1 F2 : Hp} {β β1 β2 : List Addr} (a : Gr F F1 β β1) (b : Gr F1 F2 β1 β2) : Gr F F2 β β2 := ⟨a.same.trans b.same, fun h x e => b.pre h x (a.pre h x e)⟩

theorem Rd.same {H H' : Hp} {a : Addr} {u : HO} (s : Same H H') (r : Rd H a u) : Rd H' a u := r.elim (fun e => .inl (s _ _ e)) fun ⟨o, e⟩ => .inr ⟨o, s _ _ e⟩
mutual
theorem RW.mono {F F' : Hp} {β β' : List Addr} (g : Gr F F' β β') : ∀ {w : Wv} {v : V}, RW F β w v → RW F' β' w v
  | _, _, .non => .non
  | _, _, .bl b => .bl b
  | _, _, .int i => .int i
  | _, _, .str x => .str x
  | _, _, .lst e r => .lst (Rd.same g.same e) (RWs.mono g r)
  | _, _, .tup e r => .tup (g.same _ _ e) (RWs.mono g r)
  | _, _, .o e => .o (g.pre _ _ e)
theorem RWs.mono {F F' : Hp} {β β' : List Addr} (g : Gr F F' β β') : ∀ {ws : List Wv} {vs : List V}, RWs F β ws vs → RWs F' β' ws vs
  | _, _, .nil => .nil
  | _, _, .cons h r => .cons (RW.mono g h) (RWs.mono g r)
end
section
variable {F : Hp} {β : List Addr}
theorem RWs.length : ∀ {ws : List Wv} {vs : List V}, RWs F β ws vs → ws.length = vs.length
  | _, _, .nil => rfl
  | _, _, .cons _ r => by rw [List.length_cons, List.length_cons, RWs.length r]
theorem RWs.get : ∀ {ws : List Wv} {vs : List V} {i : Nat} {w : Wv}, RWs F β ws vs → ws[i]? = some w → ∃ v, vs[i]? = some v ∧ RW F β w v
  | _, _, _, _, .nil, e => by simp at e
  | _, _, 0, _, .cons h _, e => by simp at e; subst e; exact ⟨_, rfl, h⟩
  | _, _, i + 1, w, .cons _ r, e => by
    obtain ⟨v, h1, h2⟩ := RWs.get (i := i) (w := w) r (by simpa using e)
    exact ⟨v, by simpa using h1, h2⟩
theorem RWs.get' : ∀ {ws : List Wv} {vs : List V} {i : Nat} {v : V}, RWs F β ws vs → vs[i]? = some v → ∃ w, ws[i]? = some w ∧ RW F β w v
  | _, _, _, _, .nil, e => by simp at e
  | _, _, 0, _, .cons h _, e => by simp at e; subst e; exact ⟨_, rfl, h⟩
  | _, _, i + 1, w, .cons _ r, e => by
    obtain ⟨v, h1, h2⟩ := RWs.get' (i := i) (v := w) r (by simpa using e)
    exact ⟨v, by simpa using h1, h2⟩
theorem RWs.append : ∀ {ws us : List Wv} {vs xs : List V}, RWs F β ws vs → RWs F β us xs → RWs F β (ws ++ us) (vs ++ xs)
  | _, _, _, _, .nil, s => s
  | _, _, _, _, .cons h r, s => .cons h (RWs.append r s)
theorem RWs.set {w : Wv} {v : V} (h : RW F β w v) : ∀ {ws : List Wv} {vs : List V} (i : Nat), RWs F β ws vs → RWs F β (ws.set i w) (vs.set i v)
  | _, _, _, .nil => .nil
  | _, _, 0, .cons _ r => .cons h r
  | _, _, i + 1, .cons q r => .cons q (RWs.set h i r)
theorem RWs.take : ∀ {ws : List Wv} {vs : List V} (n : Nat), RWs F β ws vs → RWs F β (ws.take n) (vs.take n)
  | _, _, 0, _ => .nil
  | _, _, _ + 1, .nil => .nil
  | _, _, n + 1, .cons h r => .cons h (RWs.take n r)
theorem RWs.drop : ∀ {ws : List Wv} {vs : List V} (n : Nat), RWs F β ws vs → RWs F β (ws.drop n) (vs.drop n)
  | _, _, 0, r => r
  | _, _, _ + 1, .nil => .nil
  | _, _, n + 1, .cons _ r => RWs.drop n r
theorem RWs.rep {ws : List Wv} {vs : List V} (h : RWs F β ws vs) : ∀ k : Nat, RWs F β (List.replicate k ws).flatten (List.replicate k vs).flatten
  | 0 => .nil
  | k + 1 => by rw [List.replicate_succ, List.replicate_succ, List.flatten_cons, List.flatten_cons]; exact h.append (RWs.rep h k)
end

/-- pairs, key by key -/
inductive RK (F : Hp) (β : List Addr) {κ : Type} : List (κ × Wv) → List (κ × V) → Prop
  | nil : RK F β [] []
  | cons {k : κ} {w : Wv} {v : V} {ps : List (κ × Wv)} {qs : List (κ × V)} (h : RW F β w v) (r : RK F β ps qs) : RK F β ((k, w) :: ps) ((k, v) :: qs)
theorem RK.mono {F F' : Hp} {β β' : List Addr} {κ : Type} (g : Gr F F' β β') : ∀ {ps : List (κ × Wv)} {qs : List (κ × V)}, RK F β ps qs → RK F' β' ps qs
  | _, _, .nil => .nil
  | _, _, .cons h r => .cons (h.mono g) (RK.mono g r)

/-- the thing at a place, in the abstract heap at its address -/
def ObR (F H : Hp) (β : List Addr) (a : Addr) : Ob → Prop
  | .ins C fs => ∃ dx fs', H a = some (.ins C dx fs') ∧ RK F β fs fs'
  | .lst ws => ∃ xs, H a = some (.lst xs) ∧ RWs F β ws xs
  | .dk kvs => ∃ ks, H a = some (.dK ks) ∧ RK F β kvs ks
  | .dt kvs => ∃ ks, H a = some (.dT ks) ∧ RK F β kvs ks
  | .exc C => H a = some (excO a C)
theorem ObR.mono {F F' H H' : Hp} {β β' : List Addr} {a : Addr} (g : Gr F F' β β') (e : H' a = H a) : ∀ {ob : Ob}, ObR F H β a ob → ObR F' H' β' a ob
  | .ins C fs, ⟨dx, fs', h, r⟩ => ⟨dx, fs', e.trans h, r.mono g⟩
  | .lst ws, ⟨xs, h, r⟩ => ⟨xs, e.trans h, r.mono g⟩
  | .dk kvs, ⟨ks, h, r⟩ => ⟨ks, e.trans h, r.mono g⟩
  | .dt kvs, ⟨ks, h, r⟩ => ⟨ks, e.trans h, r.mono g⟩
  | .exc C, h => e.trans h
theorem ObR.ex {F H : Hp} {β : List Addr} {a : Addr} : ∀ {ob : Ob}, ObR F H β a ob → ∃ x, H a = some x
  | .ins C fs, ⟨dx, fs', h, r⟩ => ⟨_, h⟩
  | .lst ws, ⟨xs, h, r⟩ => ⟨_, h⟩
  | .dk kvs, ⟨ks, h, r⟩ => ⟨_, h⟩
  | .dt kvs, ⟨ks, h, r⟩ => ⟨_, h⟩
  | .exc C, h => ⟨_, h⟩

theorem ndx {α : Type} {l : List α} (hN : l.Nodup) {i j : Nat} {x : α} (a : l[i]? = some x) (b : l[j]? = some x) : i = j := by
  obtain ⟨ha, ea⟩ := List.getElem?_eq_some_iff.mp a
  obtain ⟨hb, eb⟩ := List.getElem?_eq_some_iff.mp b
  have hp := List.pairwise_iff_getElem.mp hN
  rcases Nat.lt_trichotomy i j with h | h | h
  · exact absurd (ea.trans eb.symm) (hp i j ha hb h)
  · exact h
  · exact absurd (eb.trans ea.symm) (hp j i hb ha h)
structure MOk (F H : Hp) (β : List Addr) (om : List Ob) : Prop where
  sub : Same F H
  nd : β.Nodup
  len : β.length = om.length
  free : ∀ (h : Nat) (a : Addr), β[h]? = some a → F a = none
  ob : ∀ (h : Nat) (a : Addr) (x : Ob), β[h]? = some a → om[h]? = some x → ObR F H β a x
section
variable {F H : Hp} {β : List Addr} {om : List Ob}
theorem MOk.at (M : MOk F H β om) {h : Nat} {x : Ob} (e : om[h]? = some x) : ∃ a, β[h]? = some a ∧ F a = none ∧ ObR F H β a x := by
  have hl : h < β.length := by rw [M.len]; exact (List.getElem?_eq_some_iff.mp e).1
  have e1 : β[h]? = some β[h] := List.getElem?_eq_getElem hl
  exact ⟨_, e1, M.free h _ e1, M.ob h _ x e1 e⟩
theorem MOk.there (M : MOk F H β om) {h : Nat} {a : Addr} (e : β[h]? = some a) : ∃ x, H a = some x := by
  have hl : h < om.length := by rw [← M.len]; exact (List.getElem?_eq_some_iff.mp e).1
  exact (M.ob h a _ e (List.getElem?_eq_getElem hl)).ex
/-- a new frozen thing -/
theorem MOk.newF {p : Addr} {o : HO} (M : MOk F H β om) (hp : H p = none) : Gr F (upd F p o) β β ∧ MOk (upd F p o) (upd H p o) β om := by
  have fp : F p = none := M.sub.free hp
  have g : Gr F (upd F p o) β β := ⟨fun b u e => by rw [upd_ne (ne_of_none e fp)]; exact e, fun _ _ e => e⟩
  have ne : ∀ (h : Nat) (a : Addr), β[h]? = some a → a ≠ p := fun h a e z => by
    obtain ⟨x, hx⟩ := M.there e
    rw [z, hp] at hx; cases hx
  refine ⟨g, fun b u e => ?_, M.nd, M.len, fun h a e => by rw [upd_ne (ne h a e)]; exact M.free h a e, fun h a x e1 e2 => (M.ob h a x e1 e2).mono g (upd_ne (ne h a e1))⟩
  by_cases hb : b = p
  · subst hb; rw [upd_same] at e ⊢; exact e
  · rw [upd_ne hb] at e ⊢; exact M.sub b u e
/-- a new thing of the store -/
theorem MOk.newO {p : Addr} {o : HO} {x : Ob} (M : MOk F H β om) (hp : H p = none) (hx : ∀ β', Gr F F β β' → ObR F (upd H p o) β' p x) : Gr F F β (β ++ [p]) ∧ MOk F (upd H p o) (β ++ [p]) (om ++ [x]) ∧ (β ++ [p])[om.length]? = some p := by
  have fp : F p = none := M.sub.free hp
  have ne : ∀ (h : Nat) (a : Addr), β[h]? = some a → a ≠ p := fun h a e z => by
    obtain ⟨y, hy⟩ := M.there e
    rw [z, hp] at hy; cases hy
  have g : Gr F F β (β ++ [p]) := ⟨Same.refl _, fun h a e => by rw [List.getElem?_append_left (List.getElem?_eq_some_iff.mp e).1]; exact e⟩
  have last : (β ++ [p])[om.length]? = some p := by rw [← M.len, List.getElem?_append_right (Nat.le_refl _), Nat.sub_self]; rfl
  have cs : ∀ (h : Nat) (a : Addr), (β ++ [p])[h]? = some a → β[h]? = some a ∨ (h = om.length ∧ a = p) := fun h a e => by
    by_cases hl : h < β.length
    · rw [List.getElem?_append_left hl] at e; exact .inl e
    · rw [List.getElem?_append_right (by omega)] at e
      have : h - β.length = 0 := by
        have := (List.getElem?_eq_some_iff.mp e).1
        simp at this; omega
      rw [this] at e
      refine .inr ⟨by rw [← M.len]; omega, by simpa using e.symm⟩
  refine ⟨g, ⟨fun b u e => by rw [upd_ne (ne_of_none e fp)]; exact M.sub b u e, ?_, by simp [M.len], fun h a e => ?_, fun h a y e1 e2 => ?_⟩, last⟩
  · rw [List.nodup_append]
    refine ⟨M.nd, by simp, fun a ha b hb z => ?_⟩
    obtain ⟨i, hi⟩ := List.getElem?_of_mem ha
    exact ne i a hi (z.trans (List.mem_singleton.mp hb))
  · rcases cs h a e with e | ⟨_, rfl⟩
    · exact M.free h a e
    · exact fp
  · rcases cs h a e1 with e | ⟨rfl, rfl⟩
    · have hl : h < om.length := by rw [← M.len]; exact (List.getElem?_eq_some_iff.mp e).1
      rw [List.getElem?_append_left hl] at e2
      exact (M.ob h a y e e2).mono g (upd_ne (ne h a e))
    · rw [List.getElem?_append_right (Nat.le_refl _), Nat.sub_self] at e2
      cases e2
      exact hx _ g
/-- a thing of the store changes -/
theorem MOk.put {h : Nat} {a : Addr} {o : HO} {x : Ob} (M : MOk F H β om) (e : β[h]? = some a) (hx : ObR F (upd H a o) β a x) : MOk F (upd H a o) β (om.set h x) := by
  have fa := M.free h a e
  refine ⟨fun b u eb => by rw [upd_ne (ne_of_none eb fa)]; exact M.sub b u eb, M.nd, by simp [M.len], M.free, fun j b y e1 e2 => ?_⟩
  by_cases hj : j = h
  · subst hj
    rw [e] at e1; cases e1
    have hl : j < om.length := by rw [← M.len]; exact (List.getElem?_eq_some_iff.mp e).1
    rw [List.getElem?_set_self hl] at e2
    cases e2
    exact hx
  · rw [List.getElem?_set_ne (Ne.symm hj)] at e2
    have nb : b ≠ a := fun z => by
      subst z
      exact hj (ndx M.nd e1 e)
    exact (M.ob j b y e1 e2).mono (Gr.refl _ _) (upd_ne nb)
end

/-- .. and what is not of the store stays; the store's and the frozen things come from nowhere else than the new -/
structure Gx (F F' H H' : Hp) (β β' : List Addr) : Prop extends Gr F F' β β' where
  keep : ∀ b o, H b = some o → b ∉ β → H' b = some o
  there : ∀ b, H' b = none → H b = none
  new : ∀ b, b ∈ β' → b ∈ β ∨ H b = none
  fnew : ∀ b o, F' b = some o → F b = some o ∨ H b = none
theorem Gx.refl (F H : Hp) (β : List Addr) : Gx F F H H β β := ⟨Gr.refl _ _, fun _ _ e _ => e, fun _ e => e, fun _ e => .inl e, fun _ _ e => .inl e⟩
theorem Gx.trans {F F1 F2 H H1 H2 : Hp} {β β1 β2 : List Addr} (a : Gx F F1 H H1 β β1) (b : Gx F1 F2 H1 H2 β1 β2) : Gx F F2 H H2 β β2 := by
  have n1 : ∀ c o, H c = some o → c ∉ β → c ∉ β1 := fun c o e h h1 => (a.new c h1).elim h fun z => by rw [e] at z; cases z
  refine ⟨a.toGr.trans b.toGr, fun c o e h => b.keep c o (a.keep c o e h) (n1 c o e h), fun c e => a.there c (b.there c e), fun c h => ?_, fun c o e => ?_⟩
  · rcases b.new c h with h | h
    · exact a.new c h
    · exact .inr (a.there c h)
  · rcases b.fnew c o e with h | h
    · exact a.fnew c o h
    · exact .inr (a.there c h)
section
variable {F H : Hp} {β : List Addr} {om : List Ob} {p : Addr} {o : HO}
theorem MOk.gxF (M : MOk F H β om) (hp : H p = none) : Gx F (upd F p o) H (upd H p o) β β :=
  ⟨(M.newF (o := o) hp).1, fun b u e _ => by rw [upd_ne (ne_of_none e hp)]; exact e, fun b e => by
    by_cases hb : b = p
    · rw [hb]; exact hp
    · rw [upd_ne hb] at e; exact e, fun _ e => .inl e, fun b u e => by
    by_cases hb : b = p
    · rw [hb]; exact .inr hp
    · rw [upd_ne hb] at e; exact .inl e⟩
theorem MOk.gxU (M : MOk F H β om) (hp : H p = none) : Gx F F H (upd H p o) β β :=
  ⟨Gr.refl _ _, fun b u e _ => by rw [upd_ne (ne_of_none e hp)]; exact e, fun b e => by
    by_cases hb : b = p
    · rw [hb]; exact hp
    · rw [upd_ne hb] at e; exact e, fun _ e => .inl e, fun b u e => .inl e⟩
theorem MOk.gxO (M : MOk F H β om) (hp : H p = none) (g : Gr F F β (β ++ [p])) : Gx F F H (upd H p o) β (β ++ [p]) :=
  ⟨g, (M.gxU (o := o) hp).keep, (M.gxU (o := o) hp).there, fun b e => by
    rcases List.mem_append.mp e with e | e
    · exact .inl e
    · rw [List.mem_singleton.mp e]; exact .inr hp, fun b u e => .inl e⟩
theorem MOk.gxP (M : MOk F H β om) {h : Nat} {a : Addr} (e : β[h]? = some a) : Gx F F H (upd H a o) β β :=
  ⟨Gr.refl _ _, fun b u eb hb => by
    have hba : b ≠ a := fun z => hb (by rw [z]; exact List.mem_of_getElem? e)
    rw [upd_ne hba]; exact eb, fun b eb => by
    by_cases hb : b = a
    · rw [hb, upd_same] at eb; cases eb
    · rw [upd_ne hb] at eb; exact eb, fun _ e => .inl e, fun b u e => .inl e⟩
theorem MOk.newFx (M : MOk F H β om) (hp : H p = none) : Gx F (upd F p o) H (upd H p o) β β ∧ MOk (upd F p o) (upd H p o) β om := ⟨M.gxF hp, (M.newF hp).2⟩
theorem MOk.newOx {x : Ob} (M : MOk F H β om) (hp : H p = none) (hx : ∀ β', Gr F F β β' → ObR F (upd H p o) β' p x) : Gx F F H (upd H p o) β (β ++ [p]) ∧ MOk F (upd H p o) (β ++ [p]) (om ++ [x]) ∧ (β ++ [p])[om.length]? = some p :=
  let ⟨g, m, e⟩ := M.newO hp hx; ⟨M.gxO hp g, m, e⟩
end

/-! ### runs: nothing known, or a value or an exception's class, with the store behind -/
abbrev Mw (α : Type) := List Ob → Option (Except Addr α × List Ob)
def ret {α : Type} (a : α) : Mw α := fun om => some (.ok a, om)
def bnd {α γ : Type} (m : Mw α) (k : α → Mw γ) : Mw γ := fun om => match m om with
  | none => none
  | some (.ok a, om') => k a om'
  | some (.error c, om') => some (.error c, om')
def nope {α : Type} : Mw α := fun _ => none
def raise {α : Type} (c : Addr) : Mw α := fun om => some (.error c, om)
/-- no exception is known -/
def calmly {α : Type} (m : Mw α) : Mw α := fun om => match m om with
  | some (.ok a, om') => some (.ok a, om')
  | _ => none
theorem bnd_ret {α γ : Type} (a : α) (k : α → Mw γ) : bnd (ret a) k = k a := rfl
theorem bnd_nope {α γ : Type} (k : α → Mw γ) : bnd nope k = nope := rfl
theorem bnd_raise {α γ : Type} (c : Addr) (k : α → Mw γ) : bnd (raise c) k = raise c := rfl
theorem calmly_ret {α : Type} (a : α) : calmly (ret a) = ret a := rfl

def Res (E : XK) {α : Type} (r : Option (Except Addr α × List Ob)) (F H : Hp) (β : List Addr) (P : α → Hp → Hp → List Addr → Prop) : Prop := match r with
  | none => False
  | some (.ok x, om') => ∀ F' H' β', Gx F F' H H' β β' → MOk F' H' β' om' → P x F' H' β'
  | some (.error c, om') => ∀ F' H' β', Gx F F' H H' β β' → MOk F' H' β' om' → E (.ref c) none H'
section
variable {E : XK} {α γ : Type} {F F1 H H1 : Hp} {β β1 : List Addr} {om : List Ob} {P : γ → Hp → Hp → List Addr → Prop} {P' : α → Hp → Hp → List Addr → Prop}
theorem Res.mono {r : Option (Except Addr γ × List Ob)} (g : Gx F F1 H H1 β β1) (R : Res E r F H β P) : Res E r F1 H1 β1 P := by
  match r, R with
  | some (.ok x, om'), R => exact fun F' H' β' g' M => R F' H' β' (g.trans g') M
  | some (.error c, om'), R => exact fun F' H' β' g' M => R F' H' β' (g.trans g') M
theorem Res.bind {m : Mw α} {k : α → Mw γ} (R : Res E (bnd m k om) F H β P) (h : ∀ x om1 F1 H1 β1, Gx F F1 H H1 β β1 → MOk F1 H1 β1 om1 → Res E (k x om1) F1 H1 β1 P → P' x F1 H1 β1) : Res E (m om) F H β P' := by
  unfold bnd at R
  match hm : m om, R with
  | some (.ok x, om'), R => exact fun F' H' β' g M => h x om' F' H' β' g M (Res.mono g R)
  | some (.error c, om'), R => exact R
theorem Res.imp {r : Option (Except Addr γ × List Ob)} {P2 : γ → Hp → Hp → List Addr → Prop} (R : Res E r F H β P) (h : ∀ x F' H' β', Gx F F' H H' β β' → P x F' H' β' → P2 x F' H' β') : Res E r F H β P2 := by
  match r, R with
  | some (.ok x, om'), R => exact fun F' H' β' g' M => h x F' H' β' g' (R F' H' β' g' M)
  | some (.error c, om'), R => exact R
end

/-! ### frames -/
structure EnvOk (F : Hp) (β : List Addr) (σ : St) (sl : List (Option Wv)) : Prop where
  len : sl.length = σ.length
  get : ∀ (i : Nat) (w : Wv), sl[i]? = some (some w) → ∃ v, σ[i]? = some (some v) ∧ RW F β w v
theorem EnvOk.mono {F F' : Hp} {β β' : List Addr} {σ : St} {sl : List (Option Wv)} (V : EnvOk F β σ sl) (g : Gr F F' β β') : EnvOk F' β' σ sl :=
  ⟨V.len, fun i w e => let ⟨v, h, r⟩ := V.get i w e; ⟨v, h, r.mono g⟩⟩
theorem EnvOk.set {F : Hp} {β : List Addr} {σ : St} {sl : List (Option Wv)} {w : Wv} {v : V} (V : EnvOk F β σ sl) (i : Nat) (r : RW F β w v) : EnvOk F β (σ.set i (some v)) (sl.set i (some w)) := by
  refine ⟨by simp [V.len], fun j u e => ?_⟩
  by_cases hj : j = i
  · subst hj
    by_cases hl : j < sl.length
    · rw [List.getElem?_set_self hl] at e
      cases e
      exact ⟨v, by rw [List.getElem?_set_self (by rw [← V.len]; exact hl)], r⟩
    · rw [List.getElem?_eq_none (by simp; omega)] at e; cases e
  · rw [List.getElem?_set_ne (Ne.symm hj)] at e ⊢
    exact V.get j u e
theorem EnvOk.setN {F : Hp} {β : List Addr} {σ : St} {sl : List (Option Wv)} (V : EnvOk F β σ sl) (i : Nat) : EnvOk F β (σ.set i none) (sl.set i none) := by
  refine ⟨by simp [V.len], fun j u e => ?_⟩
  by_cases hj : j = i
  · subst hj
    by_cases hl : j < sl.length
    · rw [List.getElem?_set_self hl] at e
      cases e
    · rw [List.getElem?_eq_none (by simp; omega)] at e; cases e
  · rw [List.getElem?_set_ne (Ne.symm hj)] at e ⊢
    exact V.get j u e

abbrev Sl := List (Option Wv)
abbrev FE := Sl → Mw Wv
abbrev FT := Sl → Mw Bool
abbrev FA := Sl → Mw (List Wv)
inductive Fl where
  | nx | bk | ct | rt (w : Wv)
abbrev FS := Sl → Mw (Fl × Sl)

def tE (E : XK) (f : FE) : TE := fun σ H Q => ∃ F β om sl, MOk F H β om ∧ EnvOk F β σ sl ∧ Res E (f sl om) F H β fun w F' H' β' => ∀ v, RW F' β' w v → Q v H'
def tT (E : XK) (f : FT) : TT := fun σ H Q => ∃ F β om sl, MOk F H β om ∧ EnvOk F β σ sl ∧ Res E (f sl om) F H β fun b F' H' β' => Q b H'
def tA (E : XK) (f : FA) : TA := fun σ H Q => ∃ F β om sl, MOk F H β om ∧ EnvOk F β σ sl ∧ Res E (f sl om) F H β fun ws F' H' β' => ∀ vs, RWs F' β' ws vs → Q vs H'
/-- what is wanted behind a statement -/
def FlP (D : Ends) (x : Fl × Sl) (F' H' : Hp) (β' : List Addr) : Prop := match x.1 with
  | .nx => ∀ σ', EnvOk F' β' σ' x.2 → D.nx σ' H'
  | .bk => ∀ σ', EnvOk F' β' σ' x.2 → D.bk σ' H'
  | .ct => ∀ σ', EnvOk F' β' σ' x.2 → D.ct σ' H'
  | .rt w => ∀ v, RW F' β' w v → D.rt v H'
def tS (E : XK) (f : FS) : TS := fun D σ H => ∃ F β om sl, MOk F H β om ∧ EnvOk F β σ sl ∧ Res E (f sl om) F H β (FlP D)
end L2

set_option maxHeartbeats 4000000
/-! THE FUNCTIONAL READING, 2: expressions. -/
namespace L2
open PySem PySem.Spec PyProof.Rows

def PV (Q : VK) : Wv → Hp → Hp → List Addr → Prop := fun w F' H' β' => ∀ v, RW F' β' w v → Q v H'
theorem Res.now {E : XK} {α : Type} {x : α} {F H : Hp} {β : List Addr} {om : List Ob} {P : α → Hp → Hp → List Addr → Prop} (R : Res E (ret x om) F H β P) (M : MOk F H β om) : P x F H β := R F H β (Gx.refl _ _ _) M
theorem PE.weak {X : Cx} {e : Expr} {t t' : TE} (h : PE X e t) (w : ∀ σ H Q, t' σ H Q → t σ H Q) : PE X e t' := fun pins s σ H Q I q => h pins s σ H Q I (w σ H Q q)
theorem PT.weak {X : Cx} {e : Expr} {t t' : TT} (h : PT X e t) (w : ∀ σ H Q, t' σ H Q → t σ H Q) : PT X e t' := fun pins s σ H Q I q => h pins s σ H Q I (w σ H Q q)
theorem PW.weak {X : Cx} {e : Expr} {t t' : TT} (h : PW X e t) (w : ∀ σ H Q, t' σ H Q → t σ H Q) : PW X e t' := fun wh pins s σ H Q I q => h wh pins s σ H Q I (w σ H Q q)
theorem PA.weak {X : Cx} {es : List Expr} {t t' : TA} (h : PA X es t) (w : ∀ σ H Q, t' σ H Q → t σ H Q) : PA X es t' := fun pos pins s σ H Q I q => h pos pins s σ H Q I (w σ H Q q)
theorem PS.weak {X : Cx} {e : Stmt} {t t' : TS} (h : PS X e t) (w : ∀ D σ H, t' D σ H → t D σ H) : PS X e t' := fun pins s σ H Q I q => h pins s σ H Q I (w Q σ H q)
theorem PSs.weak {X : Cx} {e : List Stmt} {t t' : TS} (h : PSs X e t) (w : ∀ D σ H, t' D σ H → t D σ H) : PSs X e t' := fun pins s σ H Q I q => h pins s σ H Q I (w Q σ H q)

/-! ### names, constants -/
def fVar (i : Nat) : FE := fun sl => match sl[i]? with
  | some (some w) => ret w
  | _ => nope
def fC (w : Wv) : FE := fun _ => ret w
section
variable {X : Cx} {E : XK} {e a b : Expr} {es : List Expr} {fa fb : FE} {pos : Pos}
theorem qe_of_var {i : Nat} (h : PE X e (tVar i)) : PE X e (tE E (fVar i)) := h.weak fun σ H Q ⟨F, β, om, sl, M, V, R⟩ => by
  unfold fVar at R
  match hw : sl[i]?, R with
  | some (some w), R =>
    obtain ⟨v, e1, r⟩ := V.get i w hw
    exact ⟨v, e1, R.now M v r⟩
  | some none, R => exact R.elim
  | none, R => exact R.elim
theorem qe_c {v : V} {w : Wv} (h : PE X e (tC v)) (r : ∀ F β, RW F β w v) : PE X e (tE E (fC w)) := h.weak fun σ H Q ⟨F, β, om, sl, M, V, R⟩ => R.now M v (r F β)
theorem qe_int {i j pos} : PE X (.Constant (.int i) j pos) (tE E (fC (.int i))) := qe_c pe_int fun _ _ => .int i
theorem qe_bl {i j pos} : PE X (.Constant (.bool i) j pos) (tE E (fC (.bl i))) := qe_c pe_bl fun _ _ => .bl i
theorem qe_non {j pos} : PE X (.Constant .none j pos) (tE E (fC .non)) := qe_c pe_non fun _ _ => .non
theorem qe_str {i j pos} : PE X (.Constant (.str i) j pos) (tE E (fC (.str i))) := qe_c pe_str fun _ _ => .str i
theorem qe_v (i : Nat) {x : Str} {pos : Pos} (hN : X.N[i]? = some x := by rfl) (hv : Vis X.env.scope x := by first | exact Or.inl rfl | exact Or.inr (Or.inl rfl) | exact Or.inr (Or.inr rfl)) (hd : (x == ("__debug__" : Str)) = false := by decide) (hcd : (x == ("__classdict__" : Str)) = false := by decide) :
    PE X (.Name x pos) (tE E (fVar i)) := qe_of_var (pe_var hN hv hd hcd)

/-! ### operators -/
def f1 (k : Wv → Mw Wv) (fa : FE) : FE := fun sl => bnd (fa sl) k
def f2 (k : Wv → Wv → Mw Wv) (fa fb : FE) : FE := fun sl => bnd (fa sl) fun x => bnd (fb sl) fun y => k x y
def Op2 (E : XK) (r : R2) (k : Wv → Wv → Mw Wv) : Prop := ∀ {F H : Hp} {β : List Addr} {om : List Ob} {x y : Wv} {v u : V} {Q : VK}, MOk F H β om → RW F β x v → RW F β y u → Res E (k x y om) F H β (PV Q) → r v u H Q
def Op1 (E : XK) (r : V → Hp → VK → Prop) (k : Wv → Mw Wv) : Prop := ∀ {F H : Hp} {β : List Addr} {om : List Ob} {x : Wv} {v : V} {Q : VK}, MOk F H β om → RW F β x v → Res E (k x om) F H β (PV Q) → r v H Q
theorem tE_2 {r : R2} {k : Wv → Wv → Mw Wv} (hk : Op2 E r k) {σ : St} {H : Hp} {Q : VK} (h : tE E (f2 k fa fb) σ H Q) : tOp r (tE E fa) (tE E fb) σ H Q := by
  obtain ⟨F, β, om, sl, M, V, R⟩ := h
  refine ⟨F, β, om, sl, M, V, R.bind fun x om1 F1 H1 β1 g1 M1 R1 v rv => ?_⟩
  refine ⟨F1, β1, om1, sl, M1, V.mono g1.toGr, R1.bind fun y om2 F2 H2 β2 g2 M2 R2 u ru => ?_⟩
  exact hk M2 (rv.mono g2.toGr) ru R2
theorem tE_1 {r : V → Hp → VK → Prop} {k : Wv → Mw Wv} (hk : Op1 E r k) {σ : St} {H : Hp} {Q : VK} (h : tE E (f1 k fa) σ H Q) : tE E fa σ H fun x H1 => r x H1 Q := by
  obtain ⟨F, β, om, sl, M, V, R⟩ := h
  exact ⟨F, β, om, sl, M, V, R.bind fun x om1 F1 H1 β1 g1 M1 R1 v rv => hk M1 rv R1⟩
theorem qe_op {op : Operator} {r : R2} {k : Wv → Wv → Mw Wv} (ho : OpR X (binaryOp op) r) (hk : Op2 E r k) (ha : PE X a (tE E fa)) (hb : PE X b (tE E fb)) : PE X (.BinOp a op b pos) (tE E (f2 k fa fb)) := (pe_op ho ha hb).weak fun _ _ _ h => tE_2 hk h
theorem qe_un {op : UnaryOp} {r : V → Hp → VK → Prop} {k : Wv → Mw Wv} (ho : UnR X (unaryOp op) r) (hk : Op1 E r k) (ha : PE X a (tE E fa)) : PE X (.UnaryOp op a pos) (tE E (f1 k fa)) := (pe_un ho ha).weak fun _ _ _ h => tE_1 hk h
theorem qe_cmp {op : CmpOp} {r : R2} {k : Wv → Wv → Mw Wv} (ho : OpR X (compareOp op) r) (hk : Op2 E r k) (ha : PE X a (tE E fa)) (hb : PE X b (tE E fb)) (hm : behindInMarks op b = false) : PE X (.Compare a [op] [b] pos) (tE E (f2 k fa fb)) := (pe_cmpR ho ha hb hm).weak fun _ _ _ h => tE_2 hk h
def kI (g : Int → Int → Wv) : Wv → Wv → Mw Wv
  | .int i, .int j => ret (g i j)
  | _, _ => nope
def kIc (c : Int → Int → Bool) (g : Int → Int → Wv) : Wv → Wv → Mw Wv
  | .int i, .int j => if c i j = true then ret (g i j) else nope
  | _, _ => nope
theorem op2_I0 {g : Int → Int → V} {g' : Int → Int → Wv} (hg : ∀ F β i j, RW F β (g' i j) (g i j)) : Op2 E (rI0 g) (kI g') := by
  intro F H β om x y v u Q M rx ry R
  cases rx <;> first | exact R.elim | skip
  cases ry <;> first | exact R.elim | skip
  exact ⟨_, _, rfl, rfl, R.now M _ (hg ..)⟩
theorem op2_Ic {C : Int → Int → Prop} {c : Int → Int → Bool} {g : Int → Int → V} {g' : Int → Int → Wv} (hc : ∀ i j, c i j = true → C i j) (hg : ∀ F β i j, RW F β (g' i j) (g i j)) : Op2 E (rI C g) (kIc c g') := by
  intro F H β om x y v u Q M rx ry R
  cases rx <;> first | exact R.elim | skip
  cases ry <;> first | exact R.elim | skip
  rename_i i j
  have R : Res E ((if c i j = true then ret (g' i j) else nope) om) F H β (PV Q) := R
  by_cases h : c i j = true
  · rw [if_pos h] at R
    exact ⟨_, _, rfl, rfl, hc _ _ h, R.now M _ (hg ..)⟩
  · rw [if_neg h] at R
    exact R.elim
abbrev kAdd := kI fun i j => .int (i + j)
abbrev kSub := kI fun i j => .int (i - j)
abbrev kMul := kIc (fun i j => decide (-(2 ^ 64) < i ∧ i < 2 ^ 64 ∨ -(2 ^ 64) < j ∧ j < 2 ^ 64)) fun i j => .int (i * j)
abbrev kDiv := kIc (fun _ j => decide (0 < j ∧ j < 1073741824)) fun i j => .int (i / j)
abbrev kMod := kIc (fun _ j => decide (0 < j)) fun i j => .int (i % j)
abbrev kLt := kI fun i j => .bl (decide (i < j))
abbrev kLe := kI fun i j => .bl (decide (i ≤ j))
abbrev kGt := kI fun i j => .bl (decide (j < i))
abbrev kGe := kI fun i j => .bl (decide (j ≤ i))
theorem qe_add (ha : PE X a (tE E fa)) (hb : PE X b (tE E fb)) : PE X (.BinOp a .Add b pos) (tE E (f2 kAdd fa fb)) := qe_op op_add (op2_I0 fun _ _ _ _ => .int _) ha hb
theorem qe_sub (ha : PE X a (tE E fa)) (hb : PE X b (tE E fb)) : PE X (.BinOp a .Sub b pos) (tE E (f2 kSub fa fb)) := qe_op op_sub (op2_I0 fun _ _ _ _ => .int _) ha hb
theorem qe_mul (ha : PE X a (tE E fa)) (hb : PE X b (tE E fb)) : PE X (.BinOp a .Mult b pos) (tE E (f2 kMul fa fb)) := qe_op op_mul (op2_Ic (fun i j h => of_decide_eq_true h) fun _ _ _ _ => .int _) ha hb
theorem qe_div (ha : PE X a (tE E fa)) (hb : PE X b (tE E fb)) : PE X (.BinOp a .FloorDiv b pos) (tE E (f2 kDiv fa fb)) := qe_op op_fdiv (op2_Ic (fun i j h => of_decide_eq_true h) fun _ _ _ _ => .int _) ha hb
theorem qe_mod (ha : PE X a (tE E fa)) (hb : PE X b (tE E fb)) : PE X (.BinOp a .Mod b pos) (tE E (f2 kMod fa fb)) := qe_op op_mod (op2_Ic (fun i j h => of_decide_eq_true h) fun _ _ _ _ => .int _) ha hb
theorem qe_lt (ha : PE X a (tE E fa)) (hb : PE X b (tE E fb)) : PE X (.Compare a [.Lt] [b] pos) (tE E (f2 kLt fa fb)) := qe_cmp op_lt (op2_I0 fun _ _ _ _ => .bl _) ha hb (nomark _)
theorem qe_le (ha : PE X a (tE E fa)) (hb : PE X b (tE E fb)) : PE X (.Compare a [.LtE] [b] pos) (tE E (f2 kLe fa fb)) := qe_cmp op_le (op2_I0 fun _ _ _ _ => .bl _) ha hb (nomark _)
theorem qe_gt (ha : PE X a (tE E fa)) (hb : PE X b (tE E fb)) : PE X (.Compare a [.Gt] [b] pos) (tE E (f2 kGt fa fb)) := qe_cmp op_gt (op2_I0 fun _ _ _ _ => .bl _) ha hb (nomark _)
theorem qe_ge (ha : PE X a (tE E fa)) (hb : PE X b (tE E fb)) : PE X (.Compare a [.GtE] [b] pos) (tE E (f2 kGe fa fb)) := qe_cmp op_ge (op2_I0 fun _ _ _ _ => .bl _) ha hb (nomark _)
def kNeg : Wv → Mw Wv
  | .int i => ret (.int (-i))
  | _ => nope
theorem qe_neg (ha : PE X a (tE E fa)) : PE X (.UnaryOp .USub a pos) (tE E (f1 kNeg fa)) := qe_un un_neg (by
  intro F H β om x v Q M rx R
  cases rx <;> first | exact R.elim | skip
  exact ⟨_, rfl, R.now M _ (.int _)⟩) ha
end

/-! ### == in depth -/
mutual
def pyOf (om : List Ob) : Wv → Option PyData
  | .non => some .none
  | .bl b => some (.bool b)
  | .int i => some (.int i)
  | .str x => some (.str x)
  | .lst ws => (pysOf om ws).map .list
  | .tup ws => (pysOf om ws).map .tuple
  | .o _ => none
def pysOf (om : List Ob) : List Wv → Option (List PyData)
  | [] => some []
  | w :: r => match pyOf om w, pysOf om r with
    | some d, some ds => some (d :: ds)
    | _, _ => none
end
/-- a list of the store, at the top alone -/
def pyTop (om : List Ob) : Wv → Option PyData
  | .o h => match om[h]? with
    | some (.lst ws) => (pysOf om ws).map .list
    | _ => none
  | w => pyOf om w
section
variable {X : Cx} {pins : List (Addr × Obj)} {σ : St} {F H : Hp} {s : Shared} {β : List Addr} {om : List Ob}
mutual
theorem RW.reads (I : Inv X pins σ H s) (sub : Same F H) : ∀ {w : Wv} {v : V} {d : PyData} {u : Value}, RW F β w v → pyOf om w = some d → RelV v u → ∃ as, Reads s.heap u d as
  | _, _, _, _, .non, e, r => by unfold pyOf at e; cases e; cases r; exact ⟨_, .none⟩
  | _, _, _, _, .bl b, e, r => by unfold pyOf at e; cases e; cases r; exact ⟨_, .bool b⟩
  | _, _, _, _, .int i, e, r => by unfold pyOf at e; cases e; obtain ⟨t, rfl⟩ := r; exact ⟨_, .int i t⟩
  | _, _, _, _, .str x, e, r => by unfold pyOf at e; cases e; obtain ⟨t, rfl⟩ := r; exact ⟨_, .str x t⟩
  | _, _, _, _, .lst (a := a) (ws := ws) q rs, e, r => by
    unfold pyOf at e
    cases r
    match hp : pysOf om ws, e with
    | some ds, e =>
      cases e
      obtain ⟨_, its, n, rv, eo⟩ := (Rd.same sub q).ok I.hok
      obtain ⟨as, ra⟩ := RWs.reads I sub rs hp rv
      exact ⟨_, .list eo rfl rfl (by simpa using ra)⟩
  | _, _, _, _, .tup (a := a) (ws := ws) q rs, e, r => by
    unfold pyOf at e
    cases r
    match hp : pysOf om ws, e with
    | some ds, e =>
      cases e
      obtain ⟨_, its, rv, o, eo, ec, n, ed⟩ := I.hok a _ (sub _ _ q)
      obtain ⟨as, ra⟩ := RWs.reads I sub rs hp rv
      exact ⟨_, .tuple eo ec ed (by simpa using ra)⟩
  | _, _, _, _, .o _, e, r => by unfold pyOf at e; cases e
theorem RWs.reads (I : Inv X pins σ H s) (sub : Same F H) : ∀ {ws : List Wv} {vs : List V} {ds : List PyData} {us : List Value}, RWs F β ws vs → pysOf om ws = some ds → Vals vs us → ∃ as, ReadsAll s.heap us ds as
  | _, _, _, _, .nil, e, r => by unfold pysOf at e; cases e; cases r; exact ⟨_, .nil⟩
  | _, _, _, _, .cons (w := w) (ws := ws) h q, e, r => by
    unfold pysOf at e
    cases r with
    | cons r1 r2 =>
      match h1 : pyOf om w, h2 : pysOf om ws, e with
      | some d, some ds, e =>
        cases e
        obtain ⟨as, ra⟩ := RW.reads I sub h h1 r1
        obtain ⟨bs, rb⟩ := RWs.reads I sub q h2 r2
        exact ⟨_, .cons ra rb⟩
end
theorem RW.readsTop (I : Inv X pins σ H s) (M : MOk F H β om) {w : Wv} {v : V} {d : PyData} {u : Value} (rw' : RW F β w v) (e : pyTop om w = some d) (r : RelV v u) : ∃ as, Reads s.heap u d as := by
  match w, e with
  | .non, e => exact rw'.reads (om := om) I M.sub e r
  | .bl _, e => exact rw'.reads (om := om) I M.sub e r
  | .int _, e => exact rw'.reads (om := om) I M.sub e r
  | .str _, e => exact rw'.reads (om := om) I M.sub e r
  | .lst _, e => exact rw'.reads (om := om) I M.sub e r
  | .tup _, e => exact rw'.reads (om := om) I M.sub e r
  | .o h, e =>
    unfold pyTop at e
    dsimp only at e
    split at e
    · rename_i ws hw
      cases rw' with
      | o eb =>
        obtain ⟨a, ea, _, xs, hx, rs⟩ := M.at hw
        rw [eb] at ea; cases ea
        cases r
        match hp : pysOf om ws, e with
        | some ds, e =>
          cases e
          obtain ⟨_, its, n, rv, eo⟩ := I.hok _ _ hx
          obtain ⟨as, ra⟩ := RWs.reads I M.sub rs hp rv
          exact ⟨_, .list eo rfl rfl (by simpa using ra)⟩
    · cases e
end
def lays (d : PyData) : Bool := d.canLay0 && decide (d.depth ≤ 60)
def kEqD (neg : Bool) (x y : Wv) : Mw Wv := fun om => match pyTop om x, pyTop om y with
  | some d, some e => if (lays d && lays e) = true then some (.ok (.bl (if neg then !PyData.eqv d e else PyData.eqv d e)), om) else none
  | _, _ => none
abbrev kEq := kEqD false
abbrev kNe := kEqD true
/-- == as the store tells it -/
def rEqS (E : XK) (neg : Bool) : R2 := fun v u H Q => ∃ F β om x y, MOk F H β om ∧ RW F β x v ∧ RW F β y u ∧ Res E (kEqD neg x y om) F H β (PV Q)
section
variable {X : Cx} {E : XK} {a b : Expr} {fa fb : FE} {pos : Pos}
theorem op_eqS (hu : X.A.units + 64 < cLine) : OpR X (compareOp .Eq) (rEqS E false) := by
  intro pins s σ H v u v' u' Q I rv ru h
  obtain ⟨F, β, om, x, y, M, rx, ry, R⟩ := h
  unfold kEqD at R
  match h1 : pyTop om x, h2 : pyTop om y, R with
  | some d, some e, R =>
    dsimp only at R
    by_cases hl : (lays d && lays e) = true
    · rw [if_pos hl] at R
      obtain ⟨l1, l2⟩ := Bool.and_eq_true_iff.mp hl
      obtain ⟨c1, d1⟩ := Bool.and_eq_true_iff.mp l1
      obtain ⟨c2, d2⟩ := Bool.and_eq_true_iff.mp l2
      obtain ⟨as, ra⟩ := rx.readsTop I M h1 rv
      obtain ⟨bs, rb⟩ := ry.readsTop I M h2 ru
      have := of_decide_eq_true d1
      have := of_decide_eq_true d2
      exact SeqAt.rcAt_reads ra rb c1 c2 (by omega) _ _ _ _ ⟨.bl _, H, I, rfl, R F H β (Gx.refl _ _ _) M _ (.bl _)⟩
    · rw [if_neg hl] at R; exact R.elim
theorem op_neS (hu : X.A.units + 64 < cLine) : OpR X (compareOp .NotEq) (rEqS E true) := by
  intro pins s σ H v u v' u' Q I rv ru h
  obtain ⟨F, β, om, x, y, M, rx, ry, R⟩ := h
  unfold kEqD at R
  match h1 : pyTop om x, h2 : pyTop om y, R with
  | some d, some e, R =>
    dsimp only at R
    by_cases hl : (lays d && lays e) = true
    · rw [if_pos hl] at R
      obtain ⟨l1, l2⟩ := Bool.and_eq_true_iff.mp hl
      obtain ⟨c1, d1⟩ := Bool.and_eq_true_iff.mp l1
      obtain ⟨c2, d2⟩ := Bool.and_eq_true_iff.mp l2
      obtain ⟨as, ra⟩ := rx.readsTop I M h1 rv
      obtain ⟨bs, rb⟩ := ry.readsTop I M h2 ru
      have := of_decide_eq_true d1
      have := of_decide_eq_true d2
      exact SeqAt.compareNe_reads ra rb c1 c2 (by omega) ⟨.bl _, H, I, rfl, R F H β (Gx.refl _ _ _) M _ (.bl _)⟩
    · rw [if_neg hl] at R; exact R.elim
theorem qe_eq (hu : X.A.units + 64 < cLine) (ha : PE X a (tE E fa)) (hb : PE X b (tE E fb)) : PE X (.Compare a [.Eq] [b] pos) (tE E (f2 kEq fa fb)) := qe_cmp (op_eqS (E := E) hu) (fun M rx ry R => ⟨_, _, _, _, _, M, rx, ry, R⟩) ha hb (nomark _)
theorem qe_ne (hu : X.A.units + 64 < cLine) (ha : PE X a (tE E fa)) (hb : PE X b (tE E fb)) : PE X (.Compare a [.NotEq] [b] pos) (tE E (f2 kNe fa fb)) := qe_cmp (op_neS (E := E) hu) (fun M rx ry R => ⟨_, _, _, _, _, M, rx, ry, R⟩) ha hb (nomark _)
end
end L2

set_option maxHeartbeats 4000000
/-! THE FUNCTIONAL READING, 3: tests, displays, items, fields, calls. -/
namespace L2
noncomputable section
open PySem PySem.Spec PyProof.Rows

/-! ### tests -/
def kB : Wv → Mw Bool
  | .bl b => ret b
  | _ => nope
def fB (f : FE) : FT := fun sl => bnd (f sl) kB
def fAnd (f g : FT) : FT := fun sl => bnd (f sl) fun b => if b = true then g sl else ret false
def fOr (f g : FT) : FT := fun sl => bnd (f sl) fun b => if b = true then ret true else g sl
def fNot (f : FT) : FT := fun sl => bnd (f sl) fun b => ret (!b)
def fAndV (f g : FE) : FE := fun sl => bnd (f sl) fun x => bnd (kB x) fun b => if b = true then g sl else ret (.bl false)
def fOrV (f g : FE) : FE := fun sl => bnd (f sl) fun x => bnd (kB x) fun b => if b = true then ret (.bl true) else g sl
def fIfE (c : FT) (f g : FE) : FE := fun sl => bnd (c sl) fun b => if b = true then f sl else g sl
def isNon : Wv → Bool
  | .non => true
  | _ => false
def kIsN (x : Wv) : Mw Wv := ret (.bl (isNon x))
def kNotN (x : Wv) : Mw Wv := ret (.bl (!isNon x))
def kNotV (x : Wv) : Mw Wv := bnd (kB x) fun b => ret (.bl (!b))
def fChain (k k' : Wv → Wv → Mw Wv) (fa fb fc : FE) : FE := fun sl => bnd (fa sl) fun x => bnd (fb sl) fun y => bnd (k x y) fun z => bnd (kB z) fun b => if b = true then bnd (fc sl) fun w => k' y w else ret (.bl false)
theorem RW.isNon {F : Hp} {β : List Addr} {w : Wv} {v : V} (r : RW F β w v) : decide (v = .non) = L2.isNon w := by
  cases r <;> first | rfl | (refine decide_eq_false ?_; intro z; cases z)
section
variable {X : Cx} {E : XK} {e a b c : Expr} {rest : List Expr} {f fa fb fc : FE} {g ga gb : FT} {pos : Pos}
theorem Res.kB {P : Bool → Hp → Hp → List Addr → Prop} {x : Wv} {v : V} {F H : Hp} {β : List Addr} {om : List Ob} (rv : RW F β x v) (M : MOk F H β om) (R : Res E (L2.kB x om) F H β P) : ∃ b, x = .bl b ∧ v = .bl b ∧ P b F H β := by
  cases rv <;> first | exact R.elim | skip
  exact ⟨_, rfl, rfl, R.now M⟩
theorem tT_B {σ : St} {H : Hp} {Q : Bool → Hp → Prop} (h : tT E (fB f) σ H Q) : tE E f σ H fun x H' => ∃ c, x = .bl c ∧ Q c H' := by
  obtain ⟨F, β, om, sl, M, V, R⟩ := h
  refine ⟨F, β, om, sl, M, V, R.bind fun x om1 F1 H1 β1 g1 M1 R1 v rv => ?_⟩
  obtain ⟨b, rfl, rfl, q⟩ := R1.kB rv M1
  exact ⟨b, rfl, q⟩
theorem qt_val (h : PE X e (tE E f)) (he : ∀ whole, isTrue e X.env whole = (do let v ← whole; standAt e.pos; holding [v] (truthy v)) := by intro _; rfl) : PT X e (tT E (fB f)) := (pt_val h he).weak fun _ _ _ h => tT_B h
theorem qt_cmp {op : CmpOp} {r : R2} {k : Wv → Wv → Mw Wv} (ho : OpR X (compareOp op) r) (hk : Op2 E r k) (ha : PE X a (tE E fa)) (hb : PE X b (tE E fb)) (hm : behindInMarks op b = false) : PT X (.Compare a [op] [b] pos) (tT E (fB (f2 k fa fb))) :=
  (pt_cmpR ho ha hb hm).weak fun _ _ _ h => tE_2 hk (tT_B h)
theorem qt_lt (ha : PE X a (tE E fa)) (hb : PE X b (tE E fb)) : PT X (.Compare a [.Lt] [b] pos) (tT E (fB (f2 kLt fa fb))) := qt_cmp op_lt (op2_I0 fun _ _ _ _ => .bl _) ha hb (nomark _)
theorem qt_le (ha : PE X a (tE E fa)) (hb : PE X b (tE E fb)) : PT X (.Compare a [.LtE] [b] pos) (tT E (fB (f2 kLe fa fb))) := qt_cmp op_le (op2_I0 fun _ _ _ _ => .bl _) ha hb (nomark _)
theorem qt_gt (ha : PE X a (tE E fa)) (hb : PE X b (tE E fb)) : PT X (.Compare a [.Gt] [b] pos) (tT E (fB (f2 kGt fa fb))) := qt_cmp op_gt (op2_I0 fun _ _ _ _ => .bl _) ha hb (nomark _)
theorem qt_ge (ha : PE X a (tE E fa)) (hb : PE X b (tE E fb)) : PT X (.Compare a [.GtE] [b] pos) (tT E (fB (f2 kGe fa fb))) := qt_cmp op_ge (op2_I0 fun _ _ _ _ => .bl _) ha hb (nomark _)
theorem qt_eq (hu : X.A.units + 64 < cLine) (ha : PE X a (tE E fa)) (hb : PE X b (tE E fb)) : PT X (.Compare a [.Eq] [b] pos) (tT E (fB (f2 kEq fa fb))) := qt_cmp (op_eqS (E := E) hu) (fun M rx ry R => ⟨_, _, _, _, _, M, rx, ry, R⟩) ha hb (nomark _)
theorem qt_ne (hu : X.A.units + 64 < cLine) (ha : PE X a (tE E fa)) (hb : PE X b (tE E fb)) : PT X (.Compare a [.NotEq] [b] pos) (tT E (fB (f2 kNe fa fb))) := qt_cmp (op_neS (E := E) hu) (fun M rx ry R => ⟨_, _, _, _, _, M, rx, ry, R⟩) ha hb (nomark _)
theorem op1_isN : Op1 E (fun x H1 Q => Q (.bl (decide (x = .non))) H1) kIsN := fun M rx R => by show (_ : VK) (.bl (decide _)) _; rw [rx.isNon]; exact R.now M _ (.bl _)
theorem op1_notN : Op1 E (fun x H1 Q => Q (.bl (!decide (x = .non))) H1) kNotN := fun M rx R => by show (_ : VK) (.bl (!decide _)) _; rw [rx.isNon]; exact R.now M _ (.bl _)
theorem qe_isN {j pos'} (ha : PE X a (tE E fa)) : PE X (.Compare a [.Is] [.Constant .none j pos'] pos) (tE E (f1 kIsN fa)) := (pe_cmp (pc_isN ha)).weak fun _ _ _ h => tE_1 op1_isN h
theorem qe_notN {j pos'} (ha : PE X a (tE E fa)) : PE X (.Compare a [.IsNot] [.Constant .none j pos'] pos) (tE E (f1 kNotN fa)) := (pe_cmp (pc_notN ha)).weak fun _ _ _ h => tE_1 op1_notN h
theorem qt_isN {j pos'} (ha : PE X a (tE E fa)) : PT X (.Compare a [.Is] [.Constant .none j pos'] pos) (tT E (fB (f1 kIsN fa))) := (pt_cmp (pc_isN ha)).weak fun _ _ _ h => tE_1 op1_isN (tT_B h)
theorem qt_notN {j pos'} (ha : PE X a (tE E fa)) : PT X (.Compare a [.IsNot] [.Constant .none j pos'] pos) (tT E (fB (f1 kNotN fa))) := (pt_cmp (pc_notN ha)).weak fun _ _ _ h => tE_1 op1_notN (tT_B h)
theorem tT_and {σ : St} {H : Hp} {Q : Bool → Hp → Prop} (h : tT E (fAnd ga gb) σ H Q) : tAnd (tT E ga) (tT E gb) σ H Q := by
  obtain ⟨F, β, om, sl, M, V, R⟩ := h
  refine ⟨F, β, om, sl, M, V, R.bind fun x om1 F1 H1 β1 g1 M1 R1 => ?_⟩
  cases x with
  | true => rw [if_pos rfl] at R1 ⊢; exact ⟨F1, β1, om1, sl, M1, V.mono g1.toGr, R1⟩
  | false => rw [if_neg Bool.false_ne_true] at R1 ⊢; exact R1.now M1
theorem tT_or {σ : St} {H : Hp} {Q : Bool → Hp → Prop} (h : tT E (fOr ga gb) σ H Q) : tOr (tT E ga) (tT E gb) σ H Q := by
  obtain ⟨F, β, om, sl, M, V, R⟩ := h
  refine ⟨F, β, om, sl, M, V, R.bind fun x om1 F1 H1 β1 g1 M1 R1 => ?_⟩
  cases x with
  | true => rw [if_pos rfl] at R1 ⊢; exact R1.now M1
  | false => rw [if_neg Bool.false_ne_true] at R1 ⊢; exact ⟨F1, β1, om1, sl, M1, V.mono g1.toGr, R1⟩
theorem qw_and1 (ha : PT X a (tT E ga)) : PW X (.BoolOp .And [a] pos) (tT E ga) := pw_and1 ha
theorem qw_or1 (ha : PT X a (tT E ga)) : PW X (.BoolOp .Or [a] pos) (tT E ga) := pw_or1 ha
theorem qw_and (ha : PT X a (tT E ga)) (hb : PW X (.BoolOp .And (b :: rest) pos) (tT E gb)) : PW X (.BoolOp .And (a :: b :: rest) pos) (tT E (fAnd ga gb)) := (pw_and ha hb).weak fun _ _ _ h => tT_and h
theorem qw_or (ha : PT X a (tT E ga)) (hb : PW X (.BoolOp .Or (b :: rest) pos) (tT E gb)) : PW X (.BoolOp .Or (a :: b :: rest) pos) (tT E (fOr ga gb)) := (pw_or ha hb).weak fun _ _ _ h => tT_or h
theorem qt_not (ha : PT X a (tT E ga)) : PT X (.UnaryOp .Not a pos) (tT E (fNot ga)) := (pt_not ha).weak fun σ H Q ⟨F, β, om, sl, M, V, R⟩ => ⟨F, β, om, sl, M, V, R.bind fun x om1 F1 H1 β1 g1 M1 R1 => R1.now M1⟩
theorem qe_one {op} (h : PE X a (tE E f)) : PE X (.BoolOp op [a] pos) (tE E f) := pe_one h
theorem qe_and (ha : PE X a (tE E fa)) (hb : PE X (.BoolOp .And (b :: rest) pos) (tE E fb)) : PE X (.BoolOp .And (a :: b :: rest) pos) (tE E (fAndV fa fb)) := (pe_and ha hb).weak fun σ H Q ⟨F, β, om, sl, M, V, R⟩ => by
  refine ⟨F, β, om, sl, M, V, R.bind fun x om1 F1 H1 β1 g1 M1 R1 v rv => ?_⟩
  have R2 : Res E (L2.kB x om1) F1 H1 β1 fun y F' H' β' => (if y = true then tE E fb σ H' Q else Q (.bl false) H') := R1.bind fun y om2 F2 H2 β2 g2 M2 R2 => by
    cases y with
    | true => rw [if_pos rfl] at R2 ⊢; exact ⟨F2, β2, om2, sl, M2, V.mono (g1.trans g2).toGr, R2⟩
    | false => rw [if_neg Bool.false_ne_true] at R2 ⊢; exact R2.now M2 _ (.bl _)
  obtain ⟨c, rfl, rfl, q⟩ := R2.kB rv M1
  exact ⟨c, rfl, q⟩
theorem qe_or (ha : PE X a (tE E fa)) (hb : PE X (.BoolOp .Or (b :: rest) pos) (tE E fb)) : PE X (.BoolOp .Or (a :: b :: rest) pos) (tE E (fOrV fa fb)) := (pe_or ha hb).weak fun σ H Q ⟨F, β, om, sl, M, V, R⟩ => by
  refine ⟨F, β, om, sl, M, V, R.bind fun x om1 F1 H1 β1 g1 M1 R1 v rv => ?_⟩
  have R2 : Res E (L2.kB x om1) F1 H1 β1 fun y F' H' β' => (if y = true then Q (.bl true) H' else tE E fb σ H' Q) := R1.bind fun y om2 F2 H2 β2 g2 M2 R2 => by
    cases y with
    | false => rw [if_neg Bool.false_ne_true] at R2 ⊢; exact ⟨F2, β2, om2, sl, M2, V.mono (g1.trans g2).toGr, R2⟩
    | true => rw [if_pos rfl] at R2 ⊢; exact R2.now M2 _ (.bl _)
  obtain ⟨c, rfl, rfl, q⟩ := R2.kB rv M1
  exact ⟨c, rfl, q⟩
theorem qe_not (ha : PE X a (tE E fa)) : PE X (.UnaryOp .Not a pos) (tE E (f1 kNotV fa)) := (pe_not ha).weak fun σ H Q ⟨F, β, om, sl, M, V, R⟩ => by
  refine ⟨F, β, om, sl, M, V, R.bind fun x om1 F1 H1 β1 g1 M1 R1 v rv => ?_⟩
  have R2 : Res E (L2.kB x om1) F1 H1 β1 fun y F' H' β' => Q (.bl (!y)) H' := R1.bind fun y om2 F2 H2 β2 g2 M2 R2 => R2.now M2 _ (.bl _)
  obtain ⟨c, rfl, rfl, q⟩ := R2.kB rv M1
  exact ⟨c, rfl, q⟩
theorem qe_ifE (hc : PT X c (tT E ga)) (ha : PE X a (tE E fa)) (hb : PE X b (tE E fb)) : PE X (.IfExp c a b pos) (tE E (fIfE ga fa fb)) := (pe_ifExp hc ha hb).weak fun σ H Q ⟨F, β, om, sl, M, V, R⟩ => by
  refine ⟨F, β, om, sl, M, V, R.bind fun y om2 F2 H2 β2 g2 M2 R2 => ?_⟩
  cases y with
  | false => rw [if_neg Bool.false_ne_true] at R2 ⊢; exact ⟨F2, β2, om2, sl, M2, V.mono g2.toGr, R2⟩
  | true => rw [if_pos rfl] at R2 ⊢; exact ⟨F2, β2, om2, sl, M2, V.mono g2.toGr, R2⟩
theorem tE_chain {r r' : R2} {k k' : Wv → Wv → Mw Wv} (hk : Op2 E r k) (hk' : Op2 E r' k') {σ : St} {H : Hp} {Q : VK} (h : tE E (fChain k k' fa fb fc) σ H Q) : tChain r r' (tE E fa) (tE E fb) (tE E fc) σ H Q := by
  obtain ⟨F, β, om, sl, M, V, R⟩ := h
  refine ⟨F, β, om, sl, M, V, R.bind fun x om1 F1 H1 β1 g1 M1 R1 v rv => ?_⟩
  refine ⟨F1, β1, om1, sl, M1, V.mono g1.toGr, R1.bind fun y om2 F2 H2 β2 g2 M2 R2 u ru => ?_⟩
  refine hk M2 (rv.mono g2.toGr) ru (R2.bind fun z om3 F3 H3 β3 g3 M3 R3 zv rz => ?_)
  have R4 : Res E (L2.kB z om3) F3 H3 β3 fun y' F' H' β' => (if y' = true then tE E fc σ H' (fun w' H4 => r' u w' H4 Q) else Q (.bl false) H') := R3.bind fun y' om4 F4 H4 β4 g4 M4 R4 => by
    cases y' with
    | false => rw [if_neg Bool.false_ne_true] at R4 ⊢; exact R4.now M4 _ (.bl _)
    | true =>
      rw [if_pos rfl] at R4 ⊢
      exact ⟨F4, β4, om4, sl, M4, V.mono (g1.trans (g2.trans (g3.trans g4))).toGr, R4.bind fun w5 om5 F5 H5 β5 g5 M5 R5 u5 r5 => hk' M5 (ru.mono (g3.trans (g4.trans g5)).toGr) r5 R5⟩
  obtain ⟨b, rfl, rfl, q⟩ := R4.kB rz M3
  exact ⟨b, rfl, q⟩
theorem qe_chain {op op' : CmpOp} {r r' : R2} {k k' : Wv → Wv → Mw Wv} (ho : OpR X (compareOp op) r) (ho' : OpR X (compareOp op') r') (hk : Op2 E r k) (hk' : Op2 E r' k') (ha : PE X a (tE E fa)) (hb : PE X b (tE E fb)) (hc : PE X c (tE E fc))
    (hm : lastMarks [op, op'] [b, c] = false := by with_unfolding_all rfl) : PE X (.Compare a [op, op'] [b, c] pos) (tE E (fChain k k' fa fb fc)) := (pe_chain ho ho' ha hb hc hm).weak fun _ _ _ h => tE_chain hk hk' h
theorem qt_chain {op op' : CmpOp} {r r' : R2} {k k' : Wv → Wv → Mw Wv} (ho : OpR X (compareOp op) r) (ho' : OpR X (compareOp op') r') (hk : Op2 E r k) (hk' : Op2 E r' k') (ha : PE X a (tE E fa)) (hb : PE X b (tE E fb)) (hc : PE X c (tE E fc))
    (hm : lastMarks [op, op'] [b, c] = false := by with_unfolding_all rfl) : PT X (.Compare a [op, op'] [b, c] pos) (tT E (fB (fChain k k' fa fb fc))) := (pt_chain ho ho' ha hb hc hm).weak fun _ _ _ h => tE_chain hk hk' (tT_B h)
theorem o2_lt : Op2 E (rI0 fun i j => .bl (decide (i < j))) kLt := op2_I0 fun _ _ _ _ => .bl _
theorem o2_le : Op2 E (rI0 fun i j => .bl (decide (i ≤ j))) kLe := op2_I0 fun _ _ _ _ => .bl _
end

/-! ### sequences of the store and data -/
def seqOf (om : List Ob) : Wv → Option (List Wv)
  | .lst ws => some ws
  | .tup ws => some ws
  | .o h => match om[h]? with
    | some (.lst ws) => some ws
    | _ => none
  | _ => none
noncomputable def limS : { n : Nat // n = 100000 } := Classical.choice ⟨⟨100000, rfl⟩⟩
/-- the most items that are served: closed for the kernel -/
noncomputable def lim : Nat := limS.1
theorem lim_eq : lim = 100000 := limS.2
theorem lim_lt : lim < sizeLine := by rw [lim_eq]; decide
theorem seqOf_rel {X : Cx} {F H : Hp} {β : List Addr} {om : List Ob} {w : Wv} {v : V} {ws : List Wv} (M : MOk F H β om) (r : RW F β w v) (e : seqOf om w = some ws) :
    ∃ a xs, v = .ref a ∧ (SqL X.K H a xs ∨ SqT X.K H a xs) ∧ RWs F β ws xs := by
  cases r with
  | lst q rs => unfold seqOf at e; cases e; exact ⟨_, _, rfl, .inl (.inl (Rd.same M.sub q)), rs⟩
  | tup q rs => unfold seqOf at e; cases e; exact ⟨_, _, rfl, .inr (SqT.of (M.sub _ _ q)), rs⟩
  | o eb =>
    rename_i h a
    have e : (match om[h]? with | some (.lst ws) => some ws | _ => none) = some ws := e
    match hx : om[h]?, e with
    | none, e => exact nomatch e
    | some (.ins _ _), e => exact nomatch e
    | some (.exc _), e => exact nomatch e
    | some (.dk _), e => exact nomatch e
    | some (.dt _), e => exact nomatch e
    | some (.lst us), e =>
      have e : some us = some ws := e
      cases e
      obtain ⟨a', ea, _, xs, hxs, rs⟩ := M.at hx
      rw [eb] at ea; cases ea
      exact ⟨_, _, rfl, .inl (SqL.of hxs), rs⟩
  | _ => unfold seqOf at e; cases e
theorem RWs.atI {F : Hp} {β : List Addr} {ws : List Wv} {vs : List V} {i : Int} {w : Wv} (r : RWs F β ws vs) (e : L2.atI ws i = some w) : ∃ v, L2.atI vs i = some v ∧ RW F β w v := by
  unfold L2.atI at e ⊢
  rw [← r.length]
  match hx : ixN ws.length i, e with
  | some j, e => exact r.get e
def kIx (x i : Wv) : Mw Wv := fun om => match seqOf om x, i with
  | some ws, .int k => match atI ws k with
    | some w => some (.ok w, om)
    | none => none
  | _, _ => none
section
variable {X : Cx} {E : XK} {e a b c : Expr} {es : List Expr} {f fa fb fc : FE} {fs : FA} {pos : Pos}
theorem op2_ix : Op2 E (rIx X.K) kIx := by
  intro F H β om x y v u Q M rx ry R
  unfold kIx at R
  match hx : seqOf om x, y, ry, R with
  | none, _, _, R => exact R.elim
  | some ws, .int i, .int _, R =>
    have R : Res E (match L2.atI ws i with | some w => some (Except.ok w, om) | none => none) F H β (PV Q) := R
    match ha : L2.atI ws i, R with
    | none, R => exact R.elim
    | some w, R =>
      have R : Res E (ret w om) F H β (PV Q) := R
      obtain ⟨p, xs, rfl, hs, rs⟩ := seqOf_rel (X := X) M rx hx
      obtain ⟨z, ez, rz⟩ := rs.atI ha
      have q := R.now M z rz
      rcases hs with hs | hs
      · exact .inl ⟨p, xs, i, z, rfl, rfl, hs, ez, q⟩
      · exact .inr (.inl ⟨p, xs, i, z, rfl, rfl, hs, ez, q⟩)
theorem qe_ix (ha : PE X a (tE E fa)) (hb : PE X b (tE E fb)) (hs : PlainIx b := by intro _ _; rfl) : PE X (.Subscript a b pos) (tE E (f2 kIx fa fb)) := (pe_ix ix_seq ha hb hs).weak fun _ _ _ h => tE_2 op2_ix h

/-! ### argument lists, displays -/
def fNil : FA := fun _ => ret []
def fCons (f : FE) (r : FA) : FA := fun sl => bnd (f sl) fun x => bnd (r sl) fun xs => ret (x :: xs)
theorem qa_nil : PA X [] (tA E fNil) := pa_nil.weak fun σ H Q ⟨F, β, om, sl, M, V, R⟩ => R.now M _ .nil
theorem qa_cons (ha : PE X e (tE E f)) (hr : PA X es (tA E fs)) (hs : starEach (e :: es) X.env = (false, eval e X.env) :: starEach es X.env := by rfl) : PA X (e :: es) (tA E (fCons f fs)) := (pa_cons ha hr hs).weak fun σ H Q ⟨F, β, om, sl, M, V, R⟩ => by
  refine ⟨F, β, om, sl, M, V, R.bind fun x om1 F1 H1 β1 g1 M1 R1 v rv => ?_⟩
  exact ⟨F1, β1, om1, sl, M1, V.mono g1.toGr, R1.bind fun xs om2 F2 H2 β2 g2 M2 R2 vs rvs => R2.now M2 _ (.cons (rv.mono g2.toGr) rvs)⟩
def kTup (ws : List Wv) : Mw Wv := if ws.length ≤ lim then ret (.tup ws) else nope
def kLst (ws : List Wv) : Mw Wv := if ws.length ≤ lim then ret (.lst ws) else nope
def newO (x : Ob) : Mw Wv := fun om => some (.ok (.o om.length), om ++ [x])
def kLstM (ws : List Wv) : Mw Wv := if ws.length ≤ lim then newO (.lst ws) else nope
def fA (k : List Wv → Mw Wv) (fs : FA) : FE := fun sl => bnd (fs sl) k
theorem Res.lay {c : Prop} [Decidable c] {m : Mw Wv} {om : List Ob} {F : Hp} {β : List Addr} {P : Wv → Hp → Hp → List Addr → Prop} (R : Res E ((if c then m else nope) om) F H β P) : c ∧ Res E (m om) F H β P := by
  by_cases h : c
  · rw [if_pos h] at R; exact ⟨h, R⟩
  · rw [if_neg h] at R; exact R.elim
theorem Res.newO {x : Ob} {om : List Ob} {F H : Hp} {β : List Addr} {Q : VK} {p : Addr} {o : HO} (R : Res E (L2.newO x om) F H β (PV Q)) (M : MOk F H β om) (hp : H p = none) (hx : ∀ β', Gr F F β β' → ObR F (upd H p o) β' p x) : Q (.ref p) (upd H p o) := by
  obtain ⟨g, M', e⟩ := M.newOx hp hx
  exact R _ _ _ g M' _ (.o e)
theorem qe_tup {x1} (h : PA X es (tA E fs)) : PE X (.Tuple es x1 pos) (tE E (fA kTup fs)) := (pe_tup h).weak fun σ H Q ⟨F, β, om, sl, M, V, R⟩ => by
  refine ⟨F, β, om, sl, M, V, R.bind fun ws om1 F1 H1 β1 g1 M1 R1 vs rs => ?_⟩
  obtain ⟨hl, R2⟩ := Res.lay R1
  have hl2 := lim_lt
  refine ⟨by rw [← rs.length]; omega, fun p hp => ?_⟩
  obtain ⟨g, M'⟩ := M1.newFx (o := .tup vs) hp
  exact R2 _ _ _ g M' _ (.tup upd_same (rs.mono g.toGr))
theorem qe_lst (h : PA X es (tA E fs)) : PE X (.List es pos) (tE E (fA kLst fs)) := (pe_lst h).weak fun σ H Q ⟨F, β, om, sl, M, V, R⟩ => by
  refine ⟨F, β, om, sl, M, V, R.bind fun ws om1 F1 H1 β1 g1 M1 R1 vs rs => ?_⟩
  obtain ⟨hl, R2⟩ := Res.lay R1
  have hl2 := lim_lt
  refine ⟨by rw [← rs.length]; omega, fun p hp => ?_⟩
  obtain ⟨g, M'⟩ := M1.newFx (o := .lst vs) hp
  exact R2 _ _ _ g M' _ (.lst (.inl upd_same) (rs.mono g.toGr))
theorem qe_lstM (h : PA X es (tA E fs)) : PE X (.List es pos) (tE E (fA kLstM fs)) := (pe_lst h).weak fun σ H Q ⟨F, β, om, sl, M, V, R⟩ => by
  refine ⟨F, β, om, sl, M, V, R.bind fun ws om1 F1 H1 β1 g1 M1 R1 vs rs => ?_⟩
  obtain ⟨hl, R2⟩ := Res.lay R1
  have hl2 := lim_lt
  exact ⟨by rw [← rs.length]; omega, fun p hp => R2.newO M1 hp fun β' g => ⟨vs, upd_same, rs.mono g⟩⟩
/-- [..] * n -/
def chk (c : Bool) : Mw Unit := if c = true then ret () else nope
theorem Res.chk {γ : Type} {c : Bool} {k : Unit → Mw γ} {om : List Ob} {F : Hp} {β : List Addr} {P : γ → Hp → Hp → List Addr → Prop} (R : Res E (bnd (L2.chk c) k om) F H β P) : c = true ∧ Res E (k () om) F H β P := by
  cases c with
  | true => exact ⟨rfl, R⟩
  | false => exact R.elim
theorem Res.chk2 {γ α : Type} {c : Bool} {z : α} {k : α → Mw γ} {om : List Ob} {F : Hp} {β : List Addr} {P : γ → Hp → Hp → List Addr → Prop} (R : Res E (bnd (bnd (L2.chk c) fun _ => ret z) k om) F H β P) : c = true ∧ Res E (k z om) F H β P := by
  cases c with
  | true => exact ⟨rfl, R⟩
  | false => exact R.elim
def kRepD (ws : List Wv) (y : Wv) : Mw (List Wv) := match y with
  | .int k => bnd (chk (decide (-(2 ^ 63) ≤ k ∧ k < 2 ^ 63 ∧ ws.length * k.toNat ≤ lim))) fun _ => ret (List.replicate k.toNat ws).flatten
  | _ => nope
def fRep (k : List Wv → Mw Wv) (fs : FA) (fb : FE) : FE := fun sl => bnd (fs sl) fun ws => bnd (chk (decide (ws.length ≤ lim))) fun _ => bnd (fb sl) fun y => bnd (kRepD ws y) k
def LayK (E : XK) (k : List Wv → Mw Wv) : Prop := ∀ {ws : List Wv} {vs : List V} {om : List Ob} {F H : Hp} {β : List Addr} {Q : VK} {p : Addr}, MOk F H β om → RWs F β ws vs → Res E (k ws om) F H β (PV Q) → vs.length ≤ lim ∧ (H p = none → Q (.ref p) (upd H p (.lst vs)))
theorem layK_lst : LayK E kLst := fun M rs R => by
  obtain ⟨hl, R2⟩ := Res.lay R
  refine ⟨by rw [← rs.length]; exact hl, fun hp => ?_⟩
  obtain ⟨g, M'⟩ := M.newFx (o := .lst _) hp
  exact R2 _ _ _ g M' _ (.lst (.inl upd_same) (rs.mono g.toGr))
theorem layK_lstM : LayK E kLstM := fun M rs R => by
  obtain ⟨hl, R2⟩ := Res.lay R
  exact ⟨by rw [← rs.length]; exact hl, fun hp => R2.newO M hp fun β' g => ⟨_, upd_same, rs.mono g⟩⟩
theorem qe_rep {k : List Wv → Mw Wv} (hk : LayK E k) (h : PA X es (tA E fs)) (hb : PE X b (tE E fb)) {p2 : Pos} : PE X (.BinOp (.List es p2) .Mult b pos) (tE E (fRep k fs fb)) := (pe_op op_rep (pe_lst h) hb).weak fun σ H Q ⟨F, β, om, sl, M, V, R⟩ => by
  refine ⟨F, β, om, sl, M, V, R.bind fun ws om1 F1 H1 β1 g1 M1 R1 vs rs => ?_⟩
  obtain ⟨hl, R1⟩ := R1.chk
  have hl := of_decide_eq_true hl
  have hlim := lim_lt
  have hlen := rs.length
  refine ⟨by omega, fun l hl => ?_⟩
  obtain ⟨g2, M2⟩ := M1.newFx (o := .lst vs) hl
  refine ⟨_, β1, om1, sl, M2, V.mono (g1.trans g2).toGr, (Res.mono g2 R1).bind fun y om3 F3 H3 β3 g3 M3 R3 u ru => ?_⟩
  have hH3 : H3 l = some (.lst vs) := M3.sub _ _ (g3.same _ _ upd_same)
  cases ru with
  | int i =>
    obtain ⟨hc, R4⟩ := Res.chk2 R3
    obtain ⟨h1, h2, h3⟩ := of_decide_eq_true hc
    refine ⟨l, i, vs, rfl, rfl, hH3, h1, h2, by rw [← hlen]; omega, fun p hp => ?_⟩
    exact (hk M3 ((rs.mono (g2.trans g3).toGr).rep i.toNat) R4).2 hp
  | _ => exact R3.elim
end
end
end L2

set_option maxHeartbeats 4000000
/-! THE FUNCTIONAL READING, 4: slices, fields, calls, methods of lists and dicts. -/
namespace L2
noncomputable section
open PySem PySem.Spec PyProof.Rows

/-! ### truth of any value -/
def truOf (om : List Ob) : Wv → Option Bool
  | .non => some false
  | .bl b => some b
  | .int i => some (i != 0)
  | .lst ws => some (!ws.isEmpty)
  | .tup ws => some (!ws.isEmpty)
  | .o h => match om[h]? with
    | some (.lst ws) => some (!ws.isEmpty)
    | some (.dk kvs) => some (!kvs.isEmpty)
    | _ => none
  | _ => none
def kTru (x : Wv) : Mw Bool := fun om => match truOf om x with
  | some b => some (.ok b, om)
  | none => none
def fTru (f : FE) : FT := fun sl => bnd (f sl) kTru
theorem RWs.isEmpty {F : Hp} {β : List Addr} {ws : List Wv} {vs : List V} (r : RWs F β ws vs) : (!ws.isEmpty) = !vs.isEmpty := by cases r <;> rfl
theorem RK.isEmpty {F : Hp} {β : List Addr} {κ : Type} {ws : List (κ × Wv)} {vs : List (κ × V)} (r : RK F β ws vs) : (!ws.isEmpty) = !vs.isEmpty := by cases r <;> rfl
theorem truOf_rel {K : PySem.W.Frag} {F H : Hp} {β : List Addr} {om : List Ob} {w : Wv} {v : V} {b : Bool} (M : MOk F H β om) (r : RW F β w v) (e : truOf om w = some b) : TruV K v H b := by
  cases r with
  | non => cases e; rfl
  | bl c => cases e; rfl
  | int i => cases e; rfl
  | str x => cases e
  | lst q rs => cases e; exact .inl ⟨_, .inl (Rd.same M.sub q), rs.isEmpty⟩
  | tup q rs => cases e; exact .inr (.inl ⟨_, SqT.of (M.sub _ _ q), rs.isEmpty⟩)
  | o eb =>
    rename_i h a
    have e : (match om[h]? with | some (.lst ws) => some (!ws.isEmpty) | some (.dk kvs) => some (!kvs.isEmpty) | _ => none) = some b := e
    match hx : om[h]?, e with
    | none, e => exact nomatch e
    | some (.ins _ _), e => exact nomatch e
    | some (.exc _), e => exact nomatch e
    | some (.dt _), e => exact nomatch e
    | some (.dk kvs), e =>
      have e : some (!kvs.isEmpty) = some b := e
      obtain ⟨a', ea, _, ks, hk, rs⟩ := M.at hx
      rw [eb] at ea; cases ea
      cases e
      exact .inr (.inr ⟨ks, hk, rs.isEmpty⟩)
    | some (.lst ws), e =>
      have e : some (!ws.isEmpty) = some b := e
      obtain ⟨a', ea, _, xs, hxs, rs⟩ := M.at hx
      rw [eb] at ea; cases ea
      cases e
      exact .inl ⟨xs, SqL.of hxs, rs.isEmpty⟩
section
variable {X : Cx} {E : XK} {e a b c o : Expr} {es : List Expr} {f fa fb fc : FE} {fs : FA} {pos p2 : Pos}
theorem qt_tru (ha : PE X a (tE E fa)) (he : ∀ whole, isTrue a X.env whole = (do let v ← whole; standAt a.pos; holding [v] (truthy v)) := by intro _; rfl) : PT X a (tT E (fTru fa)) := (pt_truth ha he).weak fun σ H Q ⟨F, β, om, sl, M, V, R⟩ => by
  refine ⟨F, β, om, sl, M, V, R.bind fun x om1 F1 H1 β1 g1 M1 R1 v rv => ?_⟩
  unfold kTru at R1
  match hx : truOf om1 x, R1 with
  | none, R1 => exact R1.elim
  | some b, R1 => exact ⟨b, truOf_rel M1 rv hx, (show Res E (ret b om1) F1 H1 β1 _ from R1).now M1⟩

/-! ### in a sequence -/
def flatW : Wv → Bool
  | .non | .bl _ | .int _ | .str _ => true
  | _ => false
def toV : Wv → V
  | .non => .non
  | .bl b => .bl b
  | .int i => .int i
  | .str x => .str x
  | _ => .non
theorem RW.flat {F : Hp} {β : List Addr} {w : Wv} {v : V} (r : RW F β w v) (h : flatW w = true) : v = toV w ∧ flatV v = true := by
  cases r <;> first | exact ⟨rfl, rfl⟩ | cases h
theorem RWs.flat {F : Hp} {β : List Addr} : ∀ {ws : List Wv} {vs : List V}, RWs F β ws vs → ws.all flatW = true → vs = ws.map toV ∧ vs.all flatV = true
  | _, _, .nil, _ => ⟨rfl, rfl⟩
  | _, _, .cons h r, e => by
    rw [List.all_cons, Bool.and_eq_true] at e
    obtain ⟨h1, h2⟩ := h.flat e.1
    obtain ⟨h3, h4⟩ := RWs.flat r e.2
    exact ⟨by rw [List.map_cons, ← h1, ← h3], by rw [List.all_cons, h2, h4]; rfl⟩
def kInB (neg : Bool) (x y : Wv) : Mw Wv := fun om => match seqOf om y with
  | some ws => if (flatW x && ws.all flatW) = true then some (.ok (.bl (if neg then !inV (toV x) (ws.map toV) else inV (toV x) (ws.map toV))), om) else none
  | none => none
theorem op2_in {neg : Bool} : Op2 E (rIn X.K neg) (kInB neg) := by
  intro F H β om x y v u Q M rx ry R
  unfold kInB at R
  match hy : seqOf om y, R with
  | none, R => exact R.elim
  | some ws, R =>
    dsimp only at R
    by_cases hc : (flatW x && ws.all flatW) = true
    · rw [if_pos hc] at R
      obtain ⟨h1, h2⟩ := Bool.and_eq_true_iff.mp hc
      obtain ⟨p, xs, rfl, hs, rs⟩ := seqOf_rel (X := X) M ry hy
      obtain ⟨e1, e2⟩ := rx.flat h1
      obtain ⟨e3, e4⟩ := rs.flat h2
      refine ⟨p, xs, rfl, hs, e2, e4, ?_⟩
      rw [e1, e3]
      exact (show Res E (ret (Wv.bl _) om) F H β (PV Q) from R).now M _ (.bl _)
    · rw [if_neg hc] at R; exact R.elim
theorem qe_in (ha : PE X a (tE E fa)) (hb : PE X b (tE E fb)) (hm : behindInMarks .In b = false := by with_unfolding_all rfl) : PE X (.Compare a [.In] [b] pos) (tE E (f2 (kInB false) fa fb)) := qe_cmp op_in_seq (op2_in (X := X)) ha hb hm
theorem qt_in (ha : PE X a (tE E fa)) (hb : PE X b (tE E fb)) (hm : behindInMarks .In b = false := by with_unfolding_all rfl) : PT X (.Compare a [.In] [b] pos) (tT E (fB (f2 (kInB false) fa fb))) := qt_cmp op_in_seq (op2_in (X := X)) ha hb hm
theorem qe_nin (ha : PE X a (tE E fa)) (hb : PE X b (tE E fb)) (hm : behindInMarks .NotIn b = false := by with_unfolding_all rfl) : PE X (.Compare a [.NotIn] [b] pos) (tE E (f2 (kInB true) fa fb)) := qe_cmp op_notIn_seq (op2_in (X := X)) ha hb hm
theorem qt_nin (ha : PE X a (tE E fa)) (hb : PE X b (tE E fb)) (hm : behindInMarks .NotIn b = false := by with_unfolding_all rfl) : PT X (.Compare a [.NotIn] [b] pos) (tT E (fB (f2 (kInB true) fa fb))) := qt_cmp op_notIn_seq (op2_in (X := X)) ha hb hm

/-! ### slices -/
abbrev FO := Sl → Mw (Option Int)
def fNoP : FO := fun _ => ret none
def kPart : Wv → Mw (Option Int)
  | .int i => ret (some i)
  | _ => nope
def fPart (f : FE) : FO := fun sl => bnd (f sl) kPart
def tO (E : XK) (f : FO) : TO := fun σ H Q => ∃ F β om sl, MOk F H β om ∧ EnvOk F β σ sl ∧ Res E (f sl om) F H β fun b F' H' β' => Q b H'
theorem PO.weak {X : Cx} {e : Option Expr} {t t' : TO} (h : PO X e t) (w : ∀ σ H Q, t' σ H Q → t σ H Q) : PO X e t' := fun pins s σ H Q I q => h pins s σ H Q I (w σ H Q q)
theorem qo_none : PO X none (tO E fNoP) := po_none.weak fun σ H Q ⟨F, β, om, sl, M, V, R⟩ => R.now M
theorem qo_some (h : PE X e (tE E f)) : PO X (some e) (tO E (fPart f)) := (po_some h).weak fun σ H Q ⟨F, β, om, sl, M, V, R⟩ => by
  refine ⟨F, β, om, sl, M, V, R.bind fun x om1 F1 H1 β1 g1 M1 R1 v rv => ?_⟩
  cases rv with
  | int i => exact ⟨i, rfl, (show Res E (ret (some i) om1) F1 H1 β1 _ from R1).now M1⟩
  | _ => exact R1.elim
def cutW (xs : List Wv) (lo hi : Option Int) : List Wv := (xs.drop (HT.sIx xs.length 0 lo)).take (HT.sIx xs.length xs.length hi - HT.sIx xs.length 0 lo)
theorem RWs.cut {F : Hp} {β : List Addr} {ws : List Wv} {vs : List V} (r : RWs F β ws vs) (lo hi : Option Int) : RWs F β (cutW ws lo hi) (cutV vs lo hi) := by
  unfold cutW cutV
  rw [r.length]
  exact (r.drop _).take _
def kSl (x : Wv) (lo hi : Option Int) : Mw Wv := fun om => match x with
  | .tup ws => if HT.sIx ws.length 0 lo = 0 ∧ HT.sIx ws.length ws.length hi = ws.length then none else some (.ok (.tup (cutW ws lo hi)), om)
  | .lst ws => some (.ok (.lst (cutW ws lo hi)), om)
  | .o h => match om[h]? with
    | some (.lst ws) => some (.ok (.lst (cutW ws lo hi)), om)
    | _ => none
  | _ => none
def fSl (f : FE) (fl fh : FO) : FE := fun sl => bnd (f sl) fun x => bnd (fl sl) fun l => bnd (fh sl) fun h => kSl x l h
theorem sl_K {F H : Hp} {β : List Addr} {om : List Ob} {x : Wv} {v : V} {lo hi : Option Int} {Q : VK} (M : MOk F H β om) (rx : RW F β x v) (R : Res E (kSl x lo hi om) F H β (PV Q)) : rSlL X.K v lo hi H Q ∨ rSlT X.K v lo hi H Q := by
  cases rx with
  | lst q rs =>
    refine .inl ⟨_, _, rfl, .inl (Rd.same M.sub q), fun p hp => ?_⟩
    obtain ⟨g, M'⟩ := M.newFx (o := .lst (cutV _ lo hi)) hp
    exact R _ _ _ g M' _ (.lst (.inl upd_same) ((rs.cut lo hi).mono g.toGr))
  | tup q rs =>
    rename_i a xs ws
    have R : Res E (if HT.sIx ws.length 0 lo = 0 ∧ HT.sIx ws.length ws.length hi = ws.length then none else some (Except.ok (Wv.tup (cutW ws lo hi)), om)) F H β (PV Q) := R
    by_cases hc : HT.sIx ws.length 0 lo = 0 ∧ HT.sIx ws.length ws.length hi = ws.length
    · rw [if_pos hc] at R; exact R.elim
    · rw [if_neg hc] at R
      refine .inr ⟨_, _, rfl, SqT.of (M.sub _ _ q), by rw [← rs.length]; exact hc, fun p hp => ?_⟩
      obtain ⟨g, M'⟩ := M.newFx (o := .tup (cutV xs lo hi)) hp
      exact R _ _ _ g M' _ (.tup upd_same ((rs.cut lo hi).mono g.toGr))
  | o eb =>
    rename_i h a
    have R : Res E (match om[h]? with | some (.lst ws) => some (Except.ok (Wv.lst (cutW ws lo hi)), om) | _ => none) F H β (PV Q) := R
    match hx : om[h]?, R with
    | none, R => exact R.elim
    | some (.ins _ _), R => exact R.elim
    | some (.exc _), R => exact R.elim
    | some (.dt _), R => exact R.elim
    | some (.dk kvs), R => exact R.elim
    | some (.lst ws), R =>
      obtain ⟨a', ea, _, xs, hxs, rs⟩ := M.at hx
      rw [eb] at ea; cases ea
      refine .inl ⟨_, _, rfl, SqL.of hxs, fun p hp => ?_⟩
      obtain ⟨g, M'⟩ := M.newFx (o := .lst (cutV xs lo hi)) hp
      exact (show Res E (ret (Wv.lst (cutW ws lo hi)) om) F H β (PV Q) from R) _ _ _ g M' _ (.lst (.inl upd_same) ((rs.cut lo hi).mono g.toGr))
  | _ => exact R.elim
theorem qe_slice {lo hi : Option Expr} {fl fh : FO} (he : PE X e (tE E f)) (hl : PO X lo (tO E fl)) (hu : PO X hi (tO E fh)) : PE X (.Subscript e (.Slice lo hi none p2) pos) (tE E (fSl f fl fh)) := (pe_slice (sl_list.or sl_tup) he hl hu).weak fun σ H Q ⟨F, β, om, sl, M, V, R⟩ => by
  refine ⟨F, β, om, sl, M, V, R.bind fun x om1 F1 H1 β1 g1 M1 R1 v rv => ?_⟩
  refine ⟨F1, β1, om1, sl, M1, V.mono g1.toGr, R1.bind fun l om2 F2 H2 β2 g2 M2 R2 => ?_⟩
  exact ⟨F2, β2, om2, sl, M2, V.mono (g1.trans g2).toGr, R2.bind fun h om3 F3 H3 β3 g3 M3 R3 => sl_K M3 (rv.mono (g2.trans g3).toGr) R3⟩

/-! ### fields -/
theorem RK.lookup {F : Hp} {β : List Addr} {k : Str} : ∀ {ps : List (Str × Wv)} {qs : List (Str × V)}, RK F β ps qs → match ps.lookup k with | some w => ∃ v, qs.lookup k = some v ∧ RW F β w v | none => qs.lookup k = none
  | _, _, .nil => rfl
  | _, _, .cons (k := k') h r => by
    rw [List.lookup_cons, List.lookup_cons]
    cases (k == k') with
    | true => exact ⟨_, rfl, h⟩
    | false => exact RK.lookup r
theorem RK.length {F : Hp} {β : List Addr} {κ : Type} : ∀ {ps : List (κ × Wv)} {qs : List (κ × V)}, RK F β ps qs → ps.length = qs.length
  | _, _, .nil => rfl
  | _, _, .cons _ r => by rw [List.length_cons, List.length_cons, RK.length r]
def insOf (om : List Ob) : Wv → Option (Addr × List (Str × Wv))
  | .o h => match om[h]? with
    | some (.ins C fs) => some (C, fs)
    | _ => none
  | _ => none
theorem insOf_rel {F H : Hp} {β : List Addr} {om : List Ob} {w : Wv} {v : V} {C : Addr} {fs : List (Str × Wv)} (M : MOk F H β om) (r : RW F β w v) (e : insOf om w = some (C, fs)) :
    ∃ h a dx fs', w = .o h ∧ om[h]? = some (.ins C fs) ∧ β[h]? = some a ∧ v = .ref a ∧ H a = some (.ins C dx fs') ∧ RK F β fs fs' := by
  cases r with
  | o eb =>
    rename_i h a
    have e : (match om[h]? with | some (.ins C fs) => some (C, fs) | _ => none) = some (C, fs) := e
    match hx : om[h]?, e with
    | none, e => exact nomatch e
    | some (.lst _), e => exact nomatch e
    | some (.exc _), e => exact nomatch e
    | some (.dt _), e => exact nomatch e
    | some (.dk kvs), e => exact nomatch e
    | some (.ins C' fs'), e =>
      have e : some (C', fs') = some (C, fs) := e
      cases e
      obtain ⟨a', ea, _, dx, fs2, hxs, rs⟩ := M.at hx
      have ea2 := ea
      rw [eb] at ea; cases ea
      exact ⟨h, _, dx, fs2, rfl, hx, ea2, rfl, hxs, rs⟩
  | _ => exact nomatch e
def kFld (C : Addr) (n : Str) (x : Wv) : Mw Wv := fun om => match insOf om x with
  | some (C', fs) => if C' = C then (match fs.lookup n with | some w => some (.ok w, om) | none => none) else none
  | none => none
theorem qe_fld {C : Addr} {n : Str} (cl : Cls X.K C) (na : NoAttr X.K C n) (he : PE X e (tE E f)) (hb : attributeBase e n X.env (eval e X.env) = eval e X.env := by rfl) : PE X (.Attribute e n pos) (tE E (f1 (kFld C n) f)) := (pe_fld he hb).weak fun σ H Q h => by
  refine tE_1 (r := fun x H1 Q => ∃ a C dx fs v, x = .ref a ∧ H1 a = some (.ins C dx fs) ∧ Cls X.K C ∧ NoAttr X.K C n ∧ fs.lookup n = some v ∧ Q v H1) ?_ h
  intro F H β om x v Q M rx R
  unfold kFld at R
  match hx : insOf om x, R with
  | none, R => exact R.elim
  | some (C', fs), R =>
    dsimp only at R
    by_cases hc : C' = C
    · have R1 : Res E (match fs.lookup n with | some w => some (Except.ok w, om) | none => none) F H β (PV Q) := by
        have := R
        rw [if_pos hc] at this
        exact this
      clear R
      subst hc
      obtain ⟨h, a, dx, fs', _, _, _, rfl, ha, rs⟩ := insOf_rel M rx hx
      have lk := rs.lookup (k := n)
      match hl : fs.lookup n, R1, lk with
      | none, R, _ => exact R.elim
      | some w, R, ⟨v, ev, rv⟩ => exact ⟨a, C', dx, fs', v, rfl, ha, cl, na, ev, (show Res E (ret w om) F H β (PV Q) from R).now M v rv⟩
    · rw [if_neg hc] at R; exact R.elim

/-! ### built-in functions -/
def CallK (E : XK) (r : List V → Hp → VK → Prop) (k : List Wv → Mw Wv) : Prop := ∀ {F H : Hp} {β : List Addr} {om : List Ob} {ws : List Wv} {vs : List V} {Q : VK}, MOk F H β om → RWs F β ws vs → Res E (k ws om) F H β (PV Q) → r vs H Q
theorem tA_K {r : List V → Hp → VK → Prop} {k : List Wv → Mw Wv} (hk : CallK E r k) {σ : St} {H : Hp} {Q : VK} (h : tE E (fA k fs) σ H Q) : tCB r (tA E fs) σ H Q := by
  obtain ⟨F, β, om, sl, M, V, R⟩ := h
  exact ⟨F, β, om, sl, M, V, R.bind fun ws om1 F1 H1 β1 g1 M1 R1 vs rs => hk M1 rs R1⟩
theorem qe_callB {id : String} {x : Str} {p : Pos} {r : List V → Hp → VK → Prop} {k : List Wv → Mw Wv} (hc : CallR X (.builtin id) r) (hk : CallK E r k) (hg : Gl X x) (hm : X.mg x = none) (hv : bootBuiltins x = some (.builtin id)) (ha : PA X (e :: es) (tA E fs)) (hn : x ≠ "__name__" := by decide) (hdb : (x == ("__debug__" : Str)) = false := by decide)
    (he : starEach (e :: es) X.env = (false, eval e X.env) :: starEach es X.env := by rfl) (hpl : (backTo pos (starEach es X.env)).any (·.1) = false := by rfl) : PE X (.Call (.Name x p) (e :: es) [] pos) (tE E (fA k fs)) := (pe_callB hc hg hm hv ha hn hdb he hpl).weak fun _ _ _ h => tA_K hk h
theorem qe_callTy {T : String} {x : Str} {p : Pos} {r : List V → Hp → VK → Prop} {k : List Wv → Mw Wv} (hc : CallR X (.type T) r) (hk : CallK E r k) (hg : Gl X x) (hm : X.mg x = none) (hv : bootBuiltins x = some (.type T)) (ha : PA X (e :: es) (tA E fs)) (hn : x ≠ "__name__" := by decide) (hdb : (x == ("__debug__" : Str)) = false := by decide)
    (he : starEach (e :: es) X.env = (false, eval e X.env) :: starEach es X.env := by rfl) (hpl : (backTo pos (starEach es X.env)).any (·.1) = false := by rfl) : PE X (.Call (.Name x p) (e :: es) [] pos) (tE E (fA k fs)) := (pe_callTy hc hg hm hv ha hn hdb he hpl).weak fun _ _ _ h => tA_K hk h
def kLen (ws : List Wv) : Mw Wv := fun om => match ws with
  | [x] => match seqOf om x with
    | some us => some (.ok (.int us.length), om)
    | none => match x with
      | .o h => match om[h]? with
        | some (.dk kvs) => some (.ok (.int kvs.length), om)
        | _ => none
      | _ => none
  | _ => none
theorem callK_len : CallK E (fun xs H Q => (∃ p ys, xs = [.ref p] ∧ (SqL X.K H p ys ∨ SqT X.K H p ys) ∧ Q (.int ys.length) H) ∨ ∃ a kvs, xs = [V.ref a] ∧ H a = some (.dK kvs) ∧ Q (.int kvs.length) H) kLen := by
  intro F H β om ws vs Q M rs R
  match ws, rs, R with
  | [], _, R => exact R.elim
  | _ :: _ :: _, _, R => exact R.elim
  | [x], .cons rx .nil, R =>
    unfold kLen at R
    dsimp only at R
    match hx : seqOf om x, R with
    | some us, R =>
      obtain ⟨p, xs, rfl, hs, r2⟩ := seqOf_rel (X := X) M rx hx
      refine .inl ⟨p, xs, rfl, hs, ?_⟩
      rw [← r2.length]
      exact (show Res E (ret (Wv.int _) om) F H β (PV Q) from R).now M _ (.int _)
    | none, R =>
      cases rx with
      | @o h a eb =>
        have R : Res E (match om[h]? with | some (.dk kvs) => some (Except.ok (Wv.int kvs.length), om) | _ => none) F H β (PV Q) := R
        match hy : om[h]?, R with
        | none, R => exact R.elim
        | some (.ins _ _), R => exact R.elim
        | some (.exc _), R => exact R.elim
        | some (.dt _), R => exact R.elim
        | some (.lst _), R => exact R.elim
        | some (.dk kvs), R =>
          obtain ⟨a', ea, _, ks, hk, r2⟩ := M.at hy
          rw [eb] at ea; cases ea
          refine .inr ⟨_, ks, rfl, hk, ?_⟩
          rw [← r2.length]
          exact (show Res E (ret (Wv.int _) om) F H β (PV Q) from R).now M _ (.int _)
      | _ => exact R.elim
theorem qe_len {p : Pos} (hg : Gl X "len") (hm : X.mg "len" = none) (ha : PA X [e] (tA E fs)) (he : starEach [e] X.env = (false, eval e X.env) :: starEach [] X.env := by rfl) (hpl : (backTo pos (starEach [] X.env)).any (·.1) = false := by rfl) :
    PE X (.Call (.Name "len" p) [e] [] pos) (tE E (fA kLen fs)) := qe_callB (call_len_seq.or call_lenD) (callK_len (X := X)) hg hm PySem.boot_len ha (by decide) (by decide) he hpl
end
end
end L2

set_option maxHeartbeats 4000000
/-! THE FUNCTIONAL READING, 5: isinstance, calls of defs, methods, making objects; lists and dicts of the store. -/
namespace L2
noncomputable section
open PySem PySem.Spec PyProof.Rows

/-! ### isinstance of a built-in type -/
inductive Kd where
  | non | bl | int | str | lst | tup | dct
  deriving DecidableEq
def Kd.nm : Kd → String
  | .non => "NoneType" | .bl => "bool" | .int => "int" | .str => "str" | .lst => "list" | .tup => "tuple" | .dct => "dict"
def Kd.isi : Kd → Kd → Bool
  | .non, .non => true
  | .bl, .bl => true
  | .bl, .int => true
  | .int, .int => true
  | .str, .str => true
  | .lst, .lst => true
  | .tup, .tup => true
  | .dct, .dct => true
  | _, _ => false
structure KIsi (K : PySem.W.Frag) (T : Kd) : Prop where
  non : PySem.W.kitOne K (.type "NoneType") (.type T.nm) = some (Kd.isi .non T)
  bl : PySem.W.kitOne K (.type "bool") (.type T.nm) = some (Kd.isi .bl T)
  int : PySem.W.kitOne K (.type "int") (.type T.nm) = some (Kd.isi .int T)
  str : PySem.W.kitOne K (.type "str") (.type T.nm) = some (Kd.isi .str T)
  lst : PySem.W.kitOne K (.type "list") (.type T.nm) = some (Kd.isi .lst T)
  tup : PySem.W.kitOne K (.type "tuple") (.type T.nm) = some (Kd.isi .tup T)
  dct : PySem.W.kitOne K (.type "dict") (.type T.nm) = some (Kd.isi .dct T)
theorem KIsi.all {K : PySem.W.Frag} {T : Kd} (h : KIsi K T) (t : Kd) : PySem.W.kitOne K (.type t.nm) (.type T.nm) = some (Kd.isi t T) := by
  cases t with
  | non => exact h.non
  | bl => exact h.bl
  | int => exact h.int
  | str => exact h.str
  | lst => exact h.lst
  | tup => exact h.tup
  | dct => exact h.dct
def kdOf (om : List Ob) : Wv → Option Kd
  | .non => some .non
  | .bl _ => some .bl
  | .int _ => some .int
  | .str _ => some .str
  | .lst _ => some .lst
  | .tup _ => some .tup
  | .o h => match om[h]? with
    | some (.lst _) => some .lst
    | some (.dk _) => some .dct
    | some (.dt _) => some .dct
    | _ => none
theorem kdOf_rel {K : PySem.W.Frag} {F H : Hp} {β : List Addr} {om : List Ob} {w : Wv} {v : V} {t : Kd} (M : MOk F H β om) (r : RW F β w v) (e : kdOf om w = some t) : TyOf K H v (.type t.nm) := by
  cases r with
  | non => cases e; exact .non
  | bl c => cases e; exact .bl c
  | int i => cases e; exact .int i
  | str x => cases e; exact .str x
  | lst q rs =>
    cases e
    rcases Rd.same M.sub q with q | ⟨ob, q⟩
    · exact .lst q
    · exact .frz q
  | tup q rs => cases e; exact .tup (M.sub _ _ q)
  | @o h a eb =>
    have e : (match om[h]? with | some (.lst _) => some Kd.lst | some (.dk _) => some Kd.dct | some (.dt _) => some Kd.dct | _ => none) = some t := e
    match hx : om[h]?, e with
    | none, e => exact nomatch e
    | some (.ins _ _), e => exact nomatch e
    | some (.exc _), e => exact nomatch e
    | some (.dt kvs), e =>
      have e : some Kd.dct = some t := e
      obtain ⟨a', ea, _, ks, hk, rs⟩ := M.at hx
      rw [eb] at ea; cases ea
      cases e
      exact .dT hk
    | some (.dk kvs), e =>
      have e : some Kd.dct = some t := e
      obtain ⟨a', ea, _, ks, hk, rs⟩ := M.at hx
      rw [eb] at ea; cases ea
      cases e
      exact .dK hk
    | some (.lst ws), e =>
      have e : some Kd.lst = some t := e
      obtain ⟨a', ea, _, xs, hxs, rs⟩ := M.at hx
      rw [eb] at ea; cases ea
      cases e
      exact .lst hxs
def kIsi (T : Kd) (x : Wv) : Mw Wv := fun om => match kdOf om x with
  | some t => some (.ok (.bl (Kd.isi t T)), om)
  | none => none
section
variable {X : Cx} {E : XK} {e a b c o : Expr} {es : List Expr} {f fa fb fc fo : FE} {fs : FA} {pos p2 p p' : Pos}
theorem qe_isi {T : Kd} {x : Str} (k : KIsi X.K T) (hg : Gl X "isinstance") (hm : X.mg "isinstance" = none) (he : PE X e (tE E f)) (hT : PE X (.Name x p2) (tC (.ty T.nm)))
    (h1 : starEach [e, .Name x p2] X.env = (false, eval e X.env) :: starEach [.Name x p2] X.env := by rfl) (h2 : starEach [.Name x p2] X.env = (false, eval (.Name x p2) X.env) :: starEach [] X.env := by rfl) (hpl : (backTo pos (starEach [.Name x p2] X.env)).any (·.1) = false := by rfl) :
    PE X (.Call (.Name "isinstance" p) [e, .Name x p2] [] pos) (tE E (f1 (kIsi T) f)) := (pe_callB call_isi hg hm PyProof.Rows.boot_isinstance (pa_cons he (pa_cons hT pa_nil h2) h1) (by decide) (by decide) h1 hpl).weak fun σ H Q h => by
  refine tE_1 (r := fun v H1 Q => ∃ x' t cv c b, [v, V.ty T.nm] = [x', cv] ∧ TyOf X.K H1 x' t ∧ clsV cv = some c ∧ PySem.W.kitOne X.K t c = some b ∧ Q (.bl b) H1) ?_ h
  intro F H β om x v Q M rx R
  unfold kIsi at R
  match hx : kdOf om x, R with
  | none, R => exact R.elim
  | some t, R => exact ⟨v, _, _, _, _, rfl, kdOf_rel M rx hx, rfl, k.all t, (show Res E (ret (Wv.bl _) om) F H β (PV Q) from R).now M _ (.bl _)⟩

/-! ### calls of the text's defs -/
def spM (n : Nat) (g : List Wv → Mw Wv) : Sp := fun vs H Q E => ∃ F β om ws, MOk F H β om ∧ RWs F β ws vs ∧ ws.length = n ∧ Res E (g ws om) F H β (PV Q)
def kN (n : Nat) (g : List Wv → Mw Wv) (ws : List Wv) : Mw Wv := bnd (chk (decide (ws.length = n))) fun _ => g ws
theorem spM_of {n : Nat} {g : List Wv → Mw Wv} {F H : Hp} {β : List Addr} {om : List Ob} {ws : List Wv} {vs : List V} {Q : VK} (M : MOk F H β om) (rs : RWs F β ws vs) (R : Res E (kN n g ws om) F H β (PV Q)) : spM n g vs H Q E := by
  obtain ⟨hc, R⟩ := Res.chk R
  exact ⟨F, β, om, ws, M, rs, of_decide_eq_true hc, R⟩
variable {CX : CXT} {k n : Nat} {fn C : Addr} {fd : FuncData} {ps : List Str} {g : List Wv → Mw Wv} {x m : Str}
theorem qe_call (G : FnOk X.prog X.w X.K X.mg X.base CX k fn fd ps (spM n g)) (hr : Room k X.A) (hg : Gl X x) (hm : X.mg x = some (.ref fn)) (hk : PySem.W.keepIn X.K (.ref fn) = true) (hb : Binds X.K fd ps []) (hx : Passes CX X E)
    (ha : PA X (e :: es) (tA E fs)) (hdb : (x == ("__debug__" : Str)) = false := by decide) (he : starEach (e :: es) X.env = (false, eval e X.env) :: starEach es X.env := by rfl) (hpl : (backTo pos (starEach es X.env)).any (·.1) = false := by rfl) :
    PE X (.Call (.Name x p) (e :: es) [] pos) (tE E (fA (kN n g) fs)) := (pe_call G hr hg hm hk hb .nil hx ha hdb he hpl).weak fun σ H Q ⟨F, β, om, sl, M, V, R⟩ => by
  refine ⟨F, β, om, sl, M, V, R.bind fun ws om1 F1 H1 β1 g1 M1 R1 vs rs => ?_⟩
  show spM n g (vs ++ []) H1 Q E
  rw [List.append_nil]
  exact spM_of M1 rs R1
theorem qe_call0 (G : FnOk X.prog X.w X.K X.mg X.base CX k fn fd ps (spM n g)) (hr : Room k X.A) (hg : Gl X x) (hm : X.mg x = some (.ref fn)) (hk : PySem.W.keepIn X.K (.ref fn) = true) (hb : Binds X.K fd ps []) (hx : Passes CX X E)
    (hdb : (x == ("__debug__" : Str)) = false := by decide) : PE X (.Call (.Name x p) [] [] pos) (tE E (fA (kN n g) fNil)) := (pe_call0 G hr hg hm hk hb .nil hx hdb).weak fun σ H Q ⟨F, β, om, sl, M, V, R⟩ => by
  show spM n g ([] ++ []) H Q E
  exact spM_of M .nil R
/-- x is an instance of C without an attribute m -/
def kIns (C : Addr) (m : Str) (x : Wv) : Mw Unit := fun om => match insOf om x with
  | some (C', fs) => if C' = C ∧ fs.lookup m = none then some (.ok (), om) else none
  | none => none
theorem kIns_rel {γ : Type} {k : Unit → Mw γ} {F H : Hp} {β : List Addr} {om : List Ob} {w : Wv} {v : V} {P : γ → Hp → Hp → List Addr → Prop} (M : MOk F H β om) (r : RW F β w v) (R : Res E (bnd (kIns C m w) k om) F H β P) :
    ∃ a dx fs', v = .ref a ∧ H a = some (.ins C dx fs') ∧ fs'.lookup m = none ∧ Res E (k () om) F H β P := by
  unfold bnd kIns at R
  match hx : insOf om w, R with
  | none, R => exact R.elim
  | some (C', fs), R =>
    dsimp only at R
    by_cases hc : C' = C ∧ fs.lookup m = none
    · have R1 : Res E (k () om) F H β P := by
        have := R
        rw [if_pos hc] at this
        exact this
      clear R
      obtain ⟨h, a, dx, fs', _, _, _, rfl, ha, rs⟩ := insOf_rel M r hx
      obtain ⟨rfl, hl⟩ := hc
      have lk := rs.lookup (k := m)
      rw [hl] at lk
      exact ⟨a, dx, fs', rfl, ha, lk, R1⟩
    · rw [if_neg hc] at R; exact R.elim
def fMeth (C : Addr) (m : Str) (n : Nat) (g : List Wv → Mw Wv) (fo : FE) (fs : FA) : FE := fun sl => bnd (fo sl) fun x => bnd (kIns C m x) fun _ => bnd (fs sl) fun ws => kN n g (x :: ws)
theorem tE_meth {dvs : List V} {σ : St} {H : Hp} {Q : VK} (h : tE E (fMeth C m n g fo fs) σ H Q) : tMeth C m (spM n g) [] E (tE E fo) (tA E fs) σ H Q := by
  obtain ⟨F, β, om, sl, M, V, R⟩ := h
  refine ⟨F, β, om, sl, M, V, R.bind fun x om1 F1 H1 β1 g1 M1 R1 v rv => ?_⟩
  obtain ⟨a, dx, fs', rfl, ha, hl, R2⟩ := kIns_rel M1 rv R1
  refine ⟨a, dx, fs', rfl, ha, hl, F1, β1, om1, sl, M1, V.mono g1.toGr, R2.bind fun ws om3 F3 H3 β3 g3 M3 R3 vs rs => ?_⟩
  show spM n g (L2.V.ref a :: (vs ++ [])) H3 Q E
  rw [List.append_nil]
  exact spM_of M3 (.cons (rv.mono g3.toGr) rs) R3
theorem qe_meth {pl : Sem Bool} {apos : Pos} (ho : PE X o (tE E fo)) (c : Cls X.K C) (hm : Meth X.K C m fn) (G : FnOk X.prog X.w X.K X.mg X.base CX k fn fd ps (spM n g)) (hr : Room k X.A) (hb : Binds X.K fd ps []) (hx : Passes CX X E) (ha : PA X (e :: es) (tA E fs))
    (hst : starEach (e :: es) X.env = (false, eval e X.env) :: starEach es X.env := by rfl) (hpl : (backTo pos (starEach es X.env)).any (·.1) = false := by rfl)
    (ht : eval (.Call (.Attribute o m apos) (e :: es) [] pos) X.env = (do
      let ov ← eval o X.env
      standAt apos.atName
      let (f, first) ← holding [ov] (getMethod ov m pl)
      callWith pos f first (backTo pos (starEach (e :: es) X.env)) (backToKw pos (keywordEach [] X.env))) := by rfl) :
    PE X (.Call (.Attribute o m apos) (e :: es) [] pos) (tE E (fMeth C m n g fo fs)) := (pe_meth ho c hm G hr hb .nil hx ha hst hpl ht).weak fun σ H Q h => tE_meth (dvs := []) h
theorem qe_meth0 {pl : Sem Bool} {apos : Pos} (ho : PE X o (tE E fo)) (c : Cls X.K C) (hm : Meth X.K C m fn) (G : FnOk X.prog X.w X.K X.mg X.base CX k fn fd ps (spM n g)) (hr : Room k X.A) (hb : Binds X.K fd ps []) (hx : Passes CX X E)
    (ht : eval (.Call (.Attribute o m apos) [] [] pos) X.env = (do
      let ov ← eval o X.env
      standAt apos.atName
      let (f, first) ← holding [ov] (getMethod ov m pl)
      callWith pos f first (backTo pos (starEach [] X.env)) (backToKw pos (keywordEach [] X.env))) := by rfl) :
    PE X (.Call (.Attribute o m apos) [] [] pos) (tE E (fMeth C m n g fo fNil)) := (pe_meth0 ho c hm G hr hb .nil hx (ht := ht)).weak fun σ H Q ⟨F, β, om, sl, M, V, R⟩ => by
  refine ⟨F, β, om, sl, M, V, R.bind fun x om1 F1 H1 β1 g1 M1 R1 v rv => ?_⟩
  obtain ⟨a, dx, fs', rfl, ha, hl, R2⟩ := kIns_rel M1 rv R1
  exact ⟨a, dx, fs', rfl, ha, hl, spM_of M1 (.cons rv .nil) R2⟩

/-! ### C(..) -/
def kMake (C : Addr) (n : Nat) (g : List Wv → Mw Wv) (ws : List Wv) : Mw Wv := fun om => bnd (kN n g (.o om.length :: ws)) (fun r => match r with | .non => ret (.o om.length) | _ => nope) (om ++ [.ins C []])
theorem MOk.newU {F H : Hp} {β : List Addr} {om : List Ob} {p : Addr} {o : HO} (M : MOk F H β om) (hp : H p = none) : MOk F (upd H p o) β om := by
  have ne : ∀ (h : Nat) (a : Addr), β[h]? = some a → a ≠ p := fun h a e z => by
    obtain ⟨y, hy⟩ := M.there e
    rw [z, hp] at hy; cases hy
  exact ⟨fun b u e => by rw [upd_ne (ne_of_none (M.sub _ _ e) hp)]; exact M.sub b u e, M.nd, M.len, M.free, fun h a x e1 e2 => (M.ob h a x e1 e2).mono (Gr.refl _ _) (upd_ne (ne h a e1))⟩
theorem make_K {F H : Hp} {β : List Addr} {om : List Ob} {ws : List Wv} {vs : List V} {Q : VK} {y dx : Addr} (M : MOk F H β om) (rs : RWs F β ws vs) (R : Res E (kMake C n g ws om) F H β (PV Q)) (hx : H y = none) (hdx : H dx = none) (hne : dx ≠ y) :
    spM n g (.ref y :: (vs ++ [])) (upd (upd H dx (.own y)) y (.ins C dx [])) (fun v H2 => v = .non ∧ Q (.ref y) H2) E := by
  have M1 := M.newU (o := .own y) hdx
  have g0 := M.gxU (o := .own y) hdx
  obtain ⟨g2, M2, e2⟩ := M1.newOx (p := y) (o := .ins C dx []) (x := .ins C []) (by rw [upd_ne hne.symm]; exact hx) fun β' _ => ⟨dx, [], upd_same, .nil⟩
  rw [List.append_nil]
  refine spM_of M2 (.cons (.o e2) (rs.mono g2.toGr)) ((Res.mono (g0.trans g2) R).bind fun r om3 F3 H3 β3 g3 M3 R3 v rv => ?_)
  cases rv with
  | non => exact ⟨rfl, (show Res E (ret (Wv.o om.length) om3) F3 H3 β3 (PV Q) from R3).now M3 _ (.o (g3.pre _ _ e2))⟩
  | _ => exact R3.elim
theorem qe_make (Mk' : Mk X.K C fn) (G : FnOk X.prog X.w X.K X.mg X.base CX k fn fd ps (spM n g)) (hr : Room (k + 1) X.A) (hg : Gl X x) (hm : X.mg x = some (.ref C)) (hb : Binds X.K fd ps []) (hx : Passes CX X E)
    (ha : PA X (e :: es) (tA E fs)) (hdb : (x == ("__debug__" : Str)) = false := by decide) (he : starEach (e :: es) X.env = (false, eval e X.env) :: starEach es X.env := by rfl) (hpl : (backTo pos (starEach es X.env)).any (·.1) = false := by rfl) :
    PE X (.Call (.Name x p) (e :: es) [] pos) (tE E (fA (kMake C n g) fs)) := (pe_make Mk' G hr hg hm hb .nil hx ha hdb he hpl).weak fun σ H Q ⟨F, β, om, sl, M, V, R⟩ =>
  ⟨F, β, om, sl, M, V, R.bind fun ws om1 F1 H1 β1 g1 M1 R1 vs rs y dx h1 h2 h3 => make_K M1 rs R1 h1 h2 h3⟩
theorem qe_make0 (Mk' : Mk X.K C fn) (G : FnOk X.prog X.w X.K X.mg X.base CX k fn fd ps (spM n g)) (hr : Room (k + 1) X.A) (hg : Gl X x) (hm : X.mg x = some (.ref C)) (hb : Binds X.K fd ps []) (hx : Passes CX X E)
    (hdb : (x == ("__debug__" : Str)) = false := by decide) : PE X (.Call (.Name x p) [] [] pos) (tE E (fA (kMake C n g) fNil)) := (pe_make0 Mk' G hr hg hm hb .nil hx hdb).weak fun σ H Q ⟨F, β, om, sl, M, V, R⟩ =>
  fun y dx h1 h2 h3 => make_K M .nil R h1 h2 h3

/-! ### lists of the store: append, clear -/
def lstOf (om : List Ob) : Wv → Option (Nat × List Wv)
  | .o h => match om[h]? with
    | some (.lst ws) => some (h, ws)
    | _ => none
  | _ => none
theorem lstOf_rel {F H : Hp} {β : List Addr} {om : List Ob} {w : Wv} {v : V} {h : Nat} {ws : List Wv} (M : MOk F H β om) (r : RW F β w v) (e : lstOf om w = some (h, ws)) :
    ∃ a xs, w = .o h ∧ om[h]? = some (.lst ws) ∧ β[h]? = some a ∧ v = .ref a ∧ H a = some (.lst xs) ∧ RWs F β ws xs := by
  cases r with
  | @o h' a eb =>
    have e : (match om[h']? with | some (.lst ws) => some (h', ws) | _ => none) = some (h, ws) := e
    match hx : om[h']?, e with
    | none, e => exact nomatch e
    | some (.ins _ _), e => exact nomatch e
    | some (.exc _), e => exact nomatch e
    | some (.dt _), e => exact nomatch e
    | some (.dk kvs), e => exact nomatch e
    | some (.lst us), e =>
      have e : some (h', us) = some (h, ws) := e
      cases e
      obtain ⟨a', ea, _, xs, hxs, rs⟩ := M.at hx
      have ea2 := ea
      rw [eb] at ea; cases ea
      exact ⟨_, xs, rfl, hx, ea2, rfl, hxs, rs⟩
  | _ => exact nomatch e
def kIsL (x : Wv) : Mw Unit := fun om => match lstOf om x with
  | some _ => some (.ok (), om)
  | none => none
theorem kIsL_rel {γ : Type} {k : Unit → Mw γ} {F H : Hp} {β : List Addr} {om : List Ob} {w : Wv} {v : V} {P : γ → Hp → Hp → List Addr → Prop} (M : MOk F H β om) (r : RW F β w v) (R : Res E (bnd (kIsL w) k om) F H β P) :
    tyV X.K "list" v H ∧ Res E (k () om) F H β P := by
  unfold bnd kIsL at R
  match hx : lstOf om w, R with
  | none, R => exact R.elim
  | some (h, ws), R =>
    obtain ⟨a, xs, _, _, _, rfl, ha, _⟩ := lstOf_rel M r hx
    exact ⟨.inl ⟨rfl, xs, SqL.of ha⟩, R⟩
def kApp (x y : Wv) : Mw Wv := fun om => match lstOf om x with
  | some (h, ws) => if ws.length < lim then some (.ok .non, om.set h (.lst (ws ++ [y]))) else none
  | none => none
def fApp (fo f : FE) : FE := fun sl => bnd (fo sl) fun x => bnd (kIsL x) fun _ => bnd (f sl) fun y => kApp x y
theorem qe_append {apos cpos : Pos} (ho : PE X o (tE E fo)) (he : PE X e (tE E f)) (hbase : attributeBase o "append" X.env (eval o X.env) = eval o X.env := by rfl)
    (hfew : ((backTo cpos (starEach [e] X.env)).all (fun x => !x.1) && (backToKw cpos (keywordEach [] X.env)).all (fun x => x.1.isSome)
      && decide (([e] : List Expr).length + ([] : List Keyword).length + (if ([] : List Keyword).isEmpty then 0 else 1) < 30)) = true := by rfl)
    (hline : (apos.endLine == cpos.line) = true := by rfl) (hs : starEach [e] X.env = (false, eval e X.env) :: starEach [] X.env := by rfl) (hplain : (backTo cpos (starEach [] X.env)).any (·.1) = false := by rfl) :
    PE X (.Call (.Attribute o "append" apos) [e] [] cpos) (tE E (fApp fo f)) := (pe_bm PySem.F.plainAttrs_list PySem.F.slot_list_append PySem.F.type_list_append mt_append ho (pa_cons he pa_nil hs) hbase hfew hline hs hplain).weak fun σ H Q ⟨F, β, om, sl, M, V, R⟩ => by
  refine ⟨F, β, om, sl, M, V, R.bind fun x om1 F1 H1 β1 g1 M1 R1 v rv => ?_⟩
  obtain ⟨ty, R2⟩ := kIsL_rel (X := X) M1 rv R1
  refine ⟨ty, F1, β1, om1, sl, M1, V.mono g1.toGr, R2.bind fun y om3 F3 H3 β3 g3 M3 R3 u ru => ?_⟩
  show rAppend v [u] H3 Q
  unfold kApp at R3
  match hx : lstOf om3 x, R3 with
  | none, R3 => exact R3.elim
  | some (h, ws), R3 =>
    dsimp only at R3
    obtain ⟨a, xs, _, _, eb, rfl, ha, rs⟩ := lstOf_rel M3 (rv.mono g3.toGr) hx
    by_cases hc : ws.length < lim
    · rw [if_pos hc] at R3
      have := lim_lt
      have := rs.length
      refine ⟨a, xs, u, rfl, rfl, ha, by omega, ?_⟩
      exact R3 F3 _ β3 (M3.gxP eb) (M3.put eb ⟨xs ++ [u], upd_same, rs.append (.cons ru .nil)⟩) _ .non
    · rw [if_neg hc] at R3; exact R3.elim
def kClr (x : Wv) : Mw Wv := fun om => match lstOf om x with
  | some (h, _) => some (.ok .non, om.set h (.lst []))
  | none => none
theorem qe_clear {apos cpos : Pos} (ho : PE X o (tE E fo)) (hbase : attributeBase o "clear" X.env (eval o X.env) = eval o X.env := by rfl) (hline : (apos.endLine == cpos.line) = true := by rfl) :
    PE X (.Call (.Attribute o "clear" apos) [] [] cpos) (tE E (f1 kClr fo)) := (pe_bm0 PySem.F.plainAttrs_list PySem.F.slot_list_clear PySem.F.type_list_clear mt_clear ho hbase hline).weak fun σ H Q h => by
  refine tE_1 (r := fun x H1 Q => tyV X.K "list" x H1 ∧ rClear x [] H1 Q) ?_ h
  intro F H β om x v Q M rx R
  unfold kClr at R
  match hx : lstOf om x, R with
  | none, R => exact R.elim
  | some (h, ws), R =>
    obtain ⟨a, xs, _, _, eb, rfl, ha, rs⟩ := lstOf_rel M rx hx
    exact ⟨.inl ⟨rfl, xs, SqL.of ha⟩, a, xs, rfl, rfl, ha, R F _ β (M.gxP eb) (M.put eb ⟨[], upd_same, .nil⟩) _ .non⟩
end
end
end L2

set_option maxHeartbeats 4000000
/-! THE FUNCTIONAL READING, 6: dicts of the store. -/
namespace L2
noncomputable section
open PySem PySem.Spec PyProof.Rows
def keyOf : Wv → Option Key
  | .int i => some (.inl i)
  | .str x => some (.inr x)
  | _ => none
def keysOf : List Wv → Option (List Key)
  | [] => some []
  | w :: r => match keyOf w, keysOf r with
    | some k, some ks => some (k :: ks)
    | _, _ => none
theorem keyOf_rel {F : Hp} {β : List Addr} {w : Wv} {v : V} {k : Key} (r : RW F β w v) (e : keyOf w = some k) : v = kV k := by
  cases r <;> first | (cases e; rfl) | exact nomatch e
theorem keysOf_rel {F : Hp} {β : List Addr} : ∀ {ws : List Wv} {vs : List V} {ks : List Key}, RWs F β ws vs → keysOf ws = some ks → vs = ks.map kV
  | _, _, _, .nil, e => by unfold keysOf at e; cases e; rfl
  | _, _, _, .cons (w := w) (ws := ws) h r, e => by
    unfold keysOf at e
    match h1 : keyOf w, h2 : keysOf ws, e with
    | some k, some ks, e =>
      have e : some (k :: ks) = some _ := e
      cases e
      rw [List.map_cons, ← keyOf_rel h h1, ← keysOf_rel r h2]
    | some k, none, e => exact nomatch e
    | none, _, e => exact nomatch e
section
variable {κ : Type} [DecidableEq κ]
def valW (kvs : List (κ × Wv)) (k : κ) : Option Wv := (kvs.find? fun kv => decide (kv.1 = k)).map (·.2)
def putW (kvs : List (κ × Wv)) (k : κ) (v : Wv) : List (κ × Wv) :=
  if (kvs.any fun kv => decide (kv.1 = k)) = true then kvs.map (fun kv => if kv.1 = k then (kv.1, v) else kv) else kvs ++ [(k, v)]
def dropW (kvs : List (κ × Wv)) (k : κ) : List (κ × Wv) := kvs.filter fun kv => decide (kv.1 ≠ k)
variable {F : Hp} {β : List Addr}
def ROp (F : Hp) (β : List Addr) (o : Option Wv) (u : Option V) : Prop := match o with
  | some w => ∃ v, u = some v ∧ RW F β w v
  | none => u = none
theorem RK.val : ∀ {ps : List (κ × Wv)} {qs : List (κ × V)}, RK F β ps qs → ∀ k, ROp F β (valW ps k) (valV qs k)
  | _, _, .nil, _ => rfl
  | _, _, .cons (k := k') h r, k => by
    unfold valW valV
    rw [List.find?_cons, List.find?_cons]
    by_cases hk : k' = k
    · simp only [hk, decide_true]; exact ⟨_, rfl, h⟩
    · simp only [hk, decide_false]; exact RK.val r k
theorem RK.any : ∀ {ps : List (κ × Wv)} {qs : List (κ × V)}, RK F β ps qs → ∀ k, (ps.any fun kv => decide (kv.1 = k)) = (qs.any fun kv => decide (kv.1 = k))
  | _, _, .nil, _ => rfl
  | _, _, .cons (k := k') h r, k => by rw [List.any_cons, List.any_cons, RK.any r k]
theorem RK.repl {k : κ} {w : Wv} {v : V} (h : RW F β w v) : ∀ {ps : List (κ × Wv)} {qs : List (κ × V)}, RK F β ps qs → RK F β (ps.map fun kv => if kv.1 = k then (kv.1, w) else kv) (qs.map fun kv => if kv.1 = k then (kv.1, v) else kv)
  | _, _, .nil => .nil
  | _, _, .cons (k := k') h' r => by
    rw [List.map_cons, List.map_cons]
    by_cases hk : k' = k
    · simp only [hk, if_true]; exact .cons h (RK.repl h r)
    · simp only [hk, if_false]; exact .cons h' (RK.repl h r)
theorem RK.append : ∀ {ps : List (κ × Wv)} {qs : List (κ × V)} {ps' : List (κ × Wv)} {qs' : List (κ × V)}, RK F β ps qs → RK F β ps' qs' → RK F β (ps ++ ps') (qs ++ qs')
  | _, _, _, _, .nil, s => s
  | _, _, _, _, .cons h r, s => .cons h (RK.append r s)
theorem RK.put {ps : List (κ × Wv)} {qs : List (κ × V)} {k : κ} {w : Wv} {v : V} (r : RK F β ps qs) (h : RW F β w v) : RK F β (putW ps k w) (putK qs k v) := by
  unfold putW putK
  rw [r.any k]
  by_cases hc : (qs.any fun kv => decide (kv.1 = k)) = true
  · rw [if_pos hc, if_pos hc]; exact r.repl h
  · rw [if_neg hc, if_neg hc]; exact r.append (.cons h .nil)
theorem RK.drop {k : κ} : ∀ {ps : List (κ × Wv)} {qs : List (κ × V)}, RK F β ps qs → RK F β (dropW ps k) (dropK qs k)
  | _, _, .nil => .nil
  | _, _, .cons (k := k') h r => by
    unfold dropW dropK
    rw [List.filter_cons, List.filter_cons]
    by_cases hk : k' = k
    · simp only [hk, ne_eq, not_true_eq_false, decide_false]; exact RK.drop r
    · simp only [hk, ne_eq, not_false_eq_true, decide_true]; exact .cons h (RK.drop r)
end
/-- the dict at a place, and its entry under a key -/
def dGet (om : List Ob) (d key : Wv) : Option (Option Wv) := match d with
  | .o h => match om[h]? with
    | some (.dk kvs) => match keyOf key with
      | some k => some (valW kvs k)
      | none => none
    | some (.dt kvs) => match key with
      | .tup ws => match keysOf ws with
        | some ks => some (valW kvs ks)
        | none => none
      | _ => none
    | _ => none
  | _ => none
theorem dGet_rel {F H : Hp} {β : List Addr} {om : List Ob} {d key : Wv} {vd vk : V} {r : Option Wv} (M : MOk F H β om) (rd : RW F β d vd) (rk : RW F β key vk) (e : dGet om d key = some r) : ∃ a o, vd = .ref a ∧ DGet H a vk o ∧ ROp F β r o := by
  cases rd with
  | @o h a eb =>
    unfold dGet at e
    dsimp only at e
    match hx : om[h]?, e with
    | none, e => exact nomatch e
    | some (.ins _ _), e => exact nomatch e
    | some (.exc _), e => exact nomatch e
    | some (.lst _), e => exact nomatch e
    | some (.dk kvs), e =>
      obtain ⟨a', ea, _, ks, hk, rs⟩ := M.at hx
      rw [eb] at ea; cases ea
      dsimp only at e
      match h1 : keyOf key, e with
      | none, e => exact nomatch e
      | some k, e =>
        have e : some (valW kvs k) = some r := e
        cases e
        rw [keyOf_rel rk h1]
        exact ⟨_, _, rfl, DGet.k hk, rs.val k⟩
    | some (.dt kvs), e =>
      obtain ⟨a', ea, _, ks, hk, rs⟩ := M.at hx
      rw [eb] at ea; cases ea
      dsimp only at e
      cases rk with
      | @tup b xs ws q rw' =>
        dsimp only at e
        match h1 : keysOf ws, e with
        | none, e => exact nomatch e
        | some k, e =>
          have e : some (valW kvs k) = some r := e
          cases e
          have hb := M.sub _ _ q
          rw [keysOf_rel rw' h1] at hb
          exact ⟨_, _, rfl, DGet.t hk hb, rs.val k⟩
      | _ => exact nomatch e
  | _ => unfold dGet at e; cases e
/-- the store behind d[key] = w -/
def dPut (om : List Ob) (d key w : Wv) : Option (List Ob) := match d with
  | .o h => match om[h]? with
    | some (.dk kvs) => match keyOf key with
      | some k => if kvs.length < lim then some (om.set h (.dk (putW kvs k w))) else none
      | none => none
    | some (.dt kvs) => match key with
      | .tup ws => match keysOf ws with
        | some ks => if kvs.length < lim then some (om.set h (.dt (putW kvs ks w))) else none
        | none => none
      | _ => none
    | _ => none
  | _ => none
theorem dPut_rel {F H : Hp} {β : List Addr} {om om' : List Ob} {d key w : Wv} {vd vk v : V} (M : MOk F H β om) (rd : RW F β d vd) (rk : RW F β key vk) (rw' : RW F β w v) (e : dPut om d key w = some om') : ∃ a H', vd = .ref a ∧ DPut H a vk v H' ∧ Gx F F H H' β β ∧ MOk F H' β om' := by
  have hlim := lim_lt
  cases rd with
  | @o h a eb =>
    unfold dPut at e
    dsimp only at e
    match hx : om[h]?, e with
    | none, e => exact nomatch e
    | some (.ins _ _), e => exact nomatch e
    | some (.exc _), e => exact nomatch e
    | some (.lst _), e => exact nomatch e
    | some (.dk kvs), e =>
      obtain ⟨a', ea, _, ks, hk, rs⟩ := M.at hx
      have eb2 := ea
      rw [eb] at ea; cases ea
      dsimp only at e
      match h1 : keyOf key, e with
      | none, e => exact nomatch e
      | some k, e =>
        have e : (if kvs.length < lim then some (om.set h (.dk (putW kvs k w))) else none) = some om' := e
        by_cases hc : kvs.length < lim
        · rw [if_pos hc] at e
          cases e
          rw [keyOf_rel rk h1]
          have := rs.length
          exact ⟨_, _, rfl, DPut.k hk (by omega), M.gxP eb2, M.put eb2 ⟨_, upd_same, rs.put rw'⟩⟩
        · rw [if_neg hc] at e; exact nomatch e
    | some (.dt kvs), e =>
      obtain ⟨a', ea, _, ks, hk, rs⟩ := M.at hx
      have eb2 := ea
      rw [eb] at ea; cases ea
      dsimp only at e
      cases rk with
      | @tup b xs ws q rw2 =>
        dsimp only at e
        match h1 : keysOf ws, e with
        | none, e => exact nomatch e
        | some k, e =>
          have e : (if kvs.length < lim then some (om.set h (.dt (putW kvs k w))) else none) = some om' := e
          by_cases hc : kvs.length < lim
          · rw [if_pos hc] at e
            cases e
            have hb := M.sub _ _ q
            rw [keysOf_rel rw2 h1] at hb
            have := rs.length
            exact ⟨_, _, rfl, DPut.t hk hb (by omega), M.gxP eb2, M.put eb2 ⟨_, upd_same, rs.put rw'⟩⟩
          · rw [if_neg hc] at e; exact nomatch e
      | _ => exact nomatch e
  | _ => unfold dPut at e; cases e
def kDGet (d key : Wv) : Mw Wv := fun om => match dGet om d key with
  | some (some w) => some (.ok w, om)
  | _ => none
def kDIn (neg : Bool) (key d : Wv) : Mw Wv := fun om => match dGet om d key with
  | some r => some (.ok (.bl (if neg then !r.isSome else r.isSome)), om)
  | none => none
def isD (om : List Ob) : Wv → Bool
  | .o h => match om[h]? with
    | some (.dk _) => true
    | some (.dt _) => true
    | _ => false
  | _ => false
def kIsD (x : Wv) : Mw Unit := fun om => if isD om x = true then some (.ok (), om) else none
def kGet1 (d key : Wv) : Mw Wv := fun om => match dGet om d key with
  | some r => some (.ok (r.getD .non), om)
  | none => none
def kGet2 (d key z : Wv) : Mw Wv := fun om => match dGet om d key with
  | some r => some (.ok (r.getD z), om)
  | none => none
def fGet1 (fd fk : FE) : FE := fun sl => bnd (fd sl) fun d => bnd (kIsD d) fun _ => bnd (fk sl) fun k => kGet1 d k
def fGet2 (fd fk fz : FE) : FE := fun sl => bnd (fd sl) fun d => bnd (kIsD d) fun _ => bnd (fk sl) fun k => bnd (fz sl) fun z => kGet2 d k z
def kPop (d key : Wv) : Mw Wv := fun om => match d with
  | .o h => match om[h]? with
    | some (.dk kvs) => match keyOf key with
      | some k => match valW kvs k with
        | some w => some (.ok w, om.set h (.dk (dropW kvs k)))
        | none => none
      | none => none
    | _ => none
  | _ => none
def fPop (fd fk : FE) : FE := fun sl => bnd (fd sl) fun d => bnd (kIsD d) fun _ => bnd (fk sl) fun k => kPop d k
section
variable {X : Cx} {E : XK} {e a b c o i : Expr} {fd fk fz : FE} {pos p2 p apos cpos : Pos}
theorem ROp.isSome {F : Hp} {β : List Addr} {r : Option Wv} {o : Option V} (h : ROp F β r o) : r.isSome = o.isSome := by
  match r, h with
  | some w, ⟨v, e, _⟩ => rw [e]; rfl
  | none, h => rw [show o = none from h]; rfl
theorem ROp.getD {F : Hp} {β : List Addr} {r : Option Wv} {o : Option V} {w : Wv} {v : V} (h : ROp F β r o) (q : RW F β w v) : RW F β (r.getD w) (o.getD v) := by
  match r, h with
  | some w, ⟨v, e, h⟩ => rw [e]; exact h
  | none, h => rw [show o = none from h]; exact q
theorem qe_dget (hu : X.A.units + 64 < cLine) (ho : PE X o (tE E fd)) (hi : PE X i (tE E fk)) (hs : NoSl i := by intro _ _; rfl) : PE X (.Subscript o i pos) (tE E (f2 kDGet fd fk)) := (pe_dget (by omega) ho hi hs).weak fun σ H Q h => by
  refine tE_2 (r := fun x y H2 Q => ∃ a v, x = .ref a ∧ DGet H2 a y (some v) ∧ Q v H2) ?_ h
  intro F H β om x y v u Q M rx ry R
  unfold kDGet at R
  match hx : dGet om x y, R with
  | none, R => exact R.elim
  | some none, R => exact R.elim
  | some (some w), R =>
    obtain ⟨a, o', rfl, hg, z, rfl, rz⟩ := dGet_rel M rx ry hx
    exact ⟨a, z, rfl, hg, (show Res E (ret w om) F H β (PV Q) from R).now M _ rz⟩
theorem qe_din (hu : X.A.units + 64 < cLine) (hi : PE X i (tE E fk)) (ho : PE X o (tE E fd)) (h1 : behindInMarks .In o = false := by with_unfolding_all rfl) : PE X (.Compare i [.In] [o] pos) (tE E (f2 (kDIn false) fk fd)) := (pe_cmp (pc_din (by omega) hi ho) h1).weak fun σ H Q h => by
  refine tE_2 (r := fun y x H2 Q => ∃ a o, x = .ref a ∧ DGet H2 a y o ∧ Q (.bl o.isSome) H2) ?_ h
  intro F H β om y x u v Q M ry rx R
  unfold kDIn at R
  match hx : dGet om x y, R with
  | none, R => exact R.elim
  | some r, R =>
    obtain ⟨a, o', rfl, hg, ro⟩ := dGet_rel M rx ry hx
    refine ⟨a, o', rfl, hg, ?_⟩
    rw [← ro.isSome]
    exact (show Res E (ret (Wv.bl r.isSome) om) F H β (PV Q) from R).now M _ (.bl _)
theorem qe_dnin (hu : X.A.units + 64 < cLine) (hi : PE X i (tE E fk)) (ho : PE X o (tE E fd)) (h1 : behindInMarks .NotIn o = false := by with_unfolding_all rfl) : PE X (.Compare i [.NotIn] [o] pos) (tE E (f2 (kDIn true) fk fd)) := (pe_cmp (pc_dnotin (by omega) hi ho) h1).weak fun σ H Q h => by
  refine tE_2 (r := fun y x H2 Q => ∃ a o, x = .ref a ∧ DGet H2 a y o ∧ Q (.bl (!o.isSome)) H2) ?_ h
  intro F H β om y x u v Q M ry rx R
  unfold kDIn at R
  match hx : dGet om x y, R with
  | none, R => exact R.elim
  | some r, R =>
    obtain ⟨a, o', rfl, hg, ro⟩ := dGet_rel M rx ry hx
    refine ⟨a, o', rfl, hg, ?_⟩
    rw [← ro.isSome]
    exact (show Res E (ret (Wv.bl (!r.isSome)) om) F H β (PV Q) from R).now M _ (.bl _)
theorem qt_din (hu : X.A.units + 64 < cLine) (hi : PE X i (tE E fk)) (ho : PE X o (tE E fd)) (h1 : behindInMarks .In o = false := by with_unfolding_all rfl) : PT X (.Compare i [.In] [o] pos) (tT E (fB (f2 (kDIn false) fk fd))) := (pt_cmp (pc_din (by omega) hi ho) h1).weak fun σ H Q h => by
  refine tE_2 (r := fun y x H2 Q => ∃ a o, x = .ref a ∧ DGet H2 a y o ∧ Q (.bl o.isSome) H2) ?_ (tT_B h)
  intro F H β om y x u v Q M ry rx R
  unfold kDIn at R
  match hx : dGet om x y, R with
  | none, R => exact R.elim
  | some r, R =>
    obtain ⟨a, o', rfl, hg, ro⟩ := dGet_rel M rx ry hx
    refine ⟨a, o', rfl, hg, ?_⟩
    rw [← ro.isSome]
    exact (show Res E (ret (Wv.bl r.isSome) om) F H β (PV Q) from R).now M _ (.bl _)
theorem qt_dnin (hu : X.A.units + 64 < cLine) (hi : PE X i (tE E fk)) (ho : PE X o (tE E fd)) (h1 : behindInMarks .NotIn o = false := by with_unfolding_all rfl) : PT X (.Compare i [.NotIn] [o] pos) (tT E (fB (f2 (kDIn true) fk fd))) := (pt_cmp (pc_dnotin (by omega) hi ho) h1).weak fun σ H Q h => by
  refine tE_2 (r := fun y x H2 Q => ∃ a o, x = .ref a ∧ DGet H2 a y o ∧ Q (.bl (!o.isSome)) H2) ?_ (tT_B h)
  intro F H β om y x u v Q M ry rx R
  unfold kDIn at R
  match hx : dGet om x y, R with
  | none, R => exact R.elim
  | some r, R =>
    obtain ⟨a, o', rfl, hg, ro⟩ := dGet_rel M rx ry hx
    refine ⟨a, o', rfl, hg, ?_⟩
    rw [← ro.isSome]
    exact (show Res E (ret (Wv.bl (!r.isSome)) om) F H β (PV Q) from R).now M _ (.bl _)
theorem kIsD_rel {γ : Type} {k : Unit → Mw γ} {F H : Hp} {β : List Addr} {om : List Ob} {w : Wv} {v : V} {P : γ → Hp → Hp → List Addr → Prop} (M : MOk F H β om) (r : RW F β w v) (R : Res E (bnd (kIsD w) k om) F H β P) : ∃ a, v = .ref a ∧ IsD H a ∧ Res E (k () om) F H β P := by
  by_cases hc : isD om w = true
  · have e1 : kIsD w om = some (.ok (), om) := if_pos hc
    unfold bnd at R
    rw [e1] at R
    have R1 : Res E (k () om) F H β P := R
    clear R
    cases r with
    | @o h a eb =>
      refine ⟨a, rfl, ?_, R1⟩
      have hc : (match om[h]? with | some (.dk _) => true | some (.dt _) => true | _ => false) = true := hc
      match hx : om[h]?, hc with
      | none, e => exact nomatch e
      | some (.ins _ _), e => exact nomatch e
      | some (.exc _), e => exact nomatch e
      | some (.lst _), e => exact nomatch e
      | some (.dk kvs), e =>
        obtain ⟨a', ea, _, ks, hk, rs⟩ := M.at hx
        rw [eb] at ea; cases ea
        exact .inl ⟨ks, .inl hk⟩
      | some (.dt kvs), e =>
        obtain ⟨a', ea, _, ks, hk, rs⟩ := M.at hx
        rw [eb] at ea; cases ea
        exact .inr ⟨ks, .inl hk⟩
    | _ => exact nomatch hc
  · have e1 : kIsD w om = none := if_neg hc
    unfold bnd at R
    rw [e1] at R
    exact R.elim
theorem qe_get1 (hu : X.A.units + 64 < cLine) (ho : PE X o (tE E fd)) (he : PE X e (tE E fk)) (m : M1 X o "get" apos e cpos := by exact ⟨rfl, rfl, rfl, rfl⟩) : PE X (.Call (.Attribute o "get" apos) [e] [] cpos) (tE E (fGet1 fd fk)) := (pe_dget1 (by omega) ho he m).weak fun σ H Q ⟨F, β, om, sl, M, V, R⟩ => by
  refine ⟨F, β, om, sl, M, V, R.bind fun x om1 F1 H1 β1 g1 M1 R1 v rv => ?_⟩
  obtain ⟨a, rfl, hd, R2⟩ := kIsD_rel M1 rv R1
  refine ⟨a, rfl, hd, F1, β1, om1, sl, M1, V.mono g1.toGr, R2.bind fun y om3 F3 H3 β3 g3 M3 R3 u ru => ?_⟩
  unfold kGet1 at R3
  match hx : dGet om3 x y, R3 with
  | none, R => exact R.elim
  | some r, R =>
    obtain ⟨a', o', e, hg, ro⟩ := dGet_rel M3 (rv.mono g3.toGr) ru hx
    cases e
    exact ⟨o', hg, (show Res E (ret (r.getD Wv.non) om3) F3 H3 β3 _ from R).now M3 _ (ro.getD .non)⟩
theorem qe_get2 {f' : Expr} (hu : X.A.units + 64 < cLine) (ho : PE X o (tE E fd)) (he : PE X e (tE E fk)) (hf : PE X f' (tE E fz)) (m : M2 X o "get" apos e f' cpos := by exact ⟨rfl, rfl, rfl, rfl⟩) : PE X (.Call (.Attribute o "get" apos) [e, f'] [] cpos) (tE E (fGet2 fd fk fz)) := (pe_dget2 (by omega) ho he hf m).weak fun σ H Q ⟨F, β, om, sl, M, V, R⟩ => by
  refine ⟨F, β, om, sl, M, V, R.bind fun x om1 F1 H1 β1 g1 M1 R1 v rv => ?_⟩
  obtain ⟨a, rfl, hd, R2⟩ := kIsD_rel M1 rv R1
  refine ⟨a, rfl, hd, F1, β1, om1, sl, M1, V.mono g1.toGr, R2.bind fun y om3 F3 H3 β3 g3 M3 R3 u ru => ?_⟩
  refine ⟨F3, β3, om3, sl, M3, V.mono (g1.trans g3).toGr, R3.bind fun z om4 F4 H4 β4 g4 M4 R4 zv rz => ?_⟩
  unfold kGet2 at R4
  match hx : dGet om4 x y, R4 with
  | none, R => exact R.elim
  | some r, R =>
    obtain ⟨a', o', e, hg, ro⟩ := dGet_rel M4 (rv.mono (g3.trans g4).toGr) (ru.mono g4.toGr) hx
    cases e
    exact ⟨o', hg, (show Res E (ret (r.getD z) om4) F4 H4 β4 _ from R).now M4 _ (ro.getD rz)⟩
theorem qe_pop (ho : PE X o (tE E fd)) (he : PE X e (tE E fk)) (m : M1 X o "pop" apos e cpos := by exact ⟨rfl, rfl, rfl, rfl⟩) : PE X (.Call (.Attribute o "pop" apos) [e] [] cpos) (tE E (fPop fd fk)) := (pe_dpop1 ho he m).weak fun σ H Q ⟨F, β, om, sl, M, V, R⟩ => by
  refine ⟨F, β, om, sl, M, V, R.bind fun x om1 F1 H1 β1 g1 M1 R1 v rv => ?_⟩
  obtain ⟨a, rfl, hd, R2⟩ := kIsD_rel M1 rv R1
  refine ⟨a, rfl, hd, F1, β1, om1, sl, M1, V.mono g1.toGr, R2.bind fun y om3 F3 H3 β3 g3 M3 R3 u ru => ?_⟩
  have rv3 := rv.mono g3.toGr
  cases rv3 with
  | @o h _ eb =>
    unfold kPop at R3
    dsimp only at R3
    match hx : om3[h]?, R3 with
    | none, R => exact R.elim
    | some (.ins _ _), R => exact R.elim
    | some (.exc _), R => exact R.elim
    | some (.lst _), R => exact R.elim
    | some (.dt _), R => exact R.elim
    | some (.dk kvs), R =>
      obtain ⟨a', ea, _, ks, hk, rs⟩ := M3.at hx
      have eb2 := ea
      rw [eb] at ea; cases ea
      dsimp only at R
      match h1 : keyOf y, R with
      | none, R => exact R.elim
      | some k, R =>
        dsimp only at R
        have rv := rs.val k
        match h2 : valW kvs k, R, rv with
        | none, R, _ => exact R.elim
        | some w, R, ⟨z, ez, rz⟩ =>
          refine ⟨ks, k, z, hk, keyOf_rel ru h1, ez, ?_⟩
          exact (show Res E (some (Except.ok w, om3.set h (.dk (dropW kvs k)))) F3 H3 β3 _ from R) F3 _ β3 (M3.gxP eb2) (M3.put eb2 ⟨_, upd_same, rs.drop⟩) _ rz
  | _ => exact R3.elim
theorem qe_dnewK : PE X (.Dict [] [] pos) (tE E fun _ => newO (.dk [])) := pe_dnewK.weak fun σ H Q ⟨F, β, om, sl, M, V, R⟩ p hp => Res.newO R M hp fun β' _ => ⟨[], upd_same, .nil⟩
theorem qe_dnewT : PE X (.Dict [] [] pos) (tE E fun _ => newO (.dt [])) := pe_dnewT.weak fun σ H Q ⟨F, β, om, sl, M, V, R⟩ p hp => Res.newO R M hp fun β' _ => ⟨[], upd_same, .nil⟩
end
end
end L2

set_option maxHeartbeats 4000000
/-! THE FUNCTIONAL READING, 7: statements, loops, comprehensions, defs. -/
namespace L2
noncomputable section
open PySem PySem.Spec PyProof.Rows

def sNil : FS := fun sl => ret (.nx, sl)
def kSeq (S : FS) : Fl × Sl → Mw (Fl × Sl)
  | (.nx, sl) => S sl
  | x => ret x
def sSeq (S1 S2 : FS) : FS := fun sl => bnd (S1 sl) (kSeq S2)
def sSet (i : Nat) (f : FE) : FS := fun sl => bnd (f sl) fun w => ret (.nx, sl.set i (some w))
def sExpr (f : FE) : FS := fun sl => bnd (f sl) fun _ => ret (.nx, sl)
def sRet (f : FE) : FS := fun sl => bnd (f sl) fun w => ret (.rt w, sl)
def sRetN : FS := fun sl => ret (.rt .non, sl)
def sIf (c : FT) (S1 S2 : FS) : FS := fun sl => bnd (c sl) fun b => if b = true then S1 sl else S2 sl
def sBrk : FS := fun sl => ret (.bk, sl)
def sCont : FS := fun sl => ret (.ct, sl)
section
variable {X : Cx} {E : XK} {st : Stmt} {rest : List Stmt} {e : Expr} {f fo fi fv : FE} {S S1 S2 : FS} {c : FT} {pos : Pos}
theorem qss_nil : PSs X [] (tS E sNil) := pss_nil.weak fun D σ H ⟨F, β, om, sl, M, V, R⟩ => (show Res E (ret (Fl.nx, sl) om) F H β (FlP D) from R).now M σ V
theorem qss_cons (h1 : PS X st (tS E S1)) (h2 : PSs X rest (tS E S2)) : PSs X (st :: rest) (tS E (sSeq S1 S2)) := (pss_cons h1 h2).weak fun D σ H ⟨F, β, om, sl, M, V, R⟩ => by
  refine ⟨F, β, om, sl, M, V, R.bind fun x om1 F1 H1 β1 g1 M1 R1 => ?_⟩
  obtain ⟨fl, sl1⟩ := x
  cases fl with
  | nx => exact fun σ' V' => ⟨F1, β1, om1, sl1, M1, V', R1⟩
  | bk => exact (show Res E (ret (Fl.bk, sl1) om1) F1 H1 β1 (FlP D) from R1).now M1
  | ct => exact (show Res E (ret (Fl.ct, sl1) om1) F1 H1 β1 (FlP D) from R1).now M1
  | rt w => exact (show Res E (ret (Fl.rt w, sl1) om1) F1 H1 β1 (FlP D) from R1).now M1
theorem qss_one (h1 : PS X st (tS E S1)) : PSs X [st] (tS E S1) := pss_one h1
theorem qs_set {i : Nat} {x : Str} {pos' : Pos} (hN : X.N.Nodup) (hi : X.N[i]? = some x) (hx : Loc X.env.scope x) (he : PE X e (tE E f)) (hs : swapsWith e (some (.Name x pos')) pos.line X.env = pure false := by rfl) (hf : X.fn x = true ∨ X.env.scope.names.lookup x = some .local := by first | exact .inl rfl | exact .inr rfl | assumption) :
    PS X (.Assign [.Name x pos'] e pos) (tS E (sSet i f)) := (ps_set hN hi hx he hs hf).weak fun D σ H ⟨F, β, om, sl, M, V, R⟩ =>
  ⟨F, β, om, sl, M, V, R.bind fun x om1 F1 H1 β1 g1 M1 R1 v rv => (show Res E (ret (Fl.nx, sl.set i (some x)) om1) F1 H1 β1 (FlP D) from R1).now M1 _ ((V.mono g1.toGr).set i rv)⟩
theorem qs_expr (he : PE X e (tE E f)) (hs : swapsWith e none pos.line X.env = pure false := by rfl) : PS X (.Expr e pos) (tS E (sExpr f)) := (ps_expr he hs).weak fun D σ H ⟨F, β, om, sl, M, V, R⟩ =>
  ⟨F, β, om, sl, M, V, R.bind fun x om1 F1 H1 β1 g1 M1 R1 v rv => (show Res E (ret (Fl.nx, sl) om1) F1 H1 β1 (FlP D) from R1).now M1 _ (V.mono g1.toGr)⟩
theorem qs_ret (he : PE X e (tE E f)) : PS X (.Return (some e) pos) (tS E (sRet f)) := (ps_ret he).weak fun D σ H ⟨F, β, om, sl, M, V, R⟩ =>
  ⟨F, β, om, sl, M, V, R.bind fun x om1 F1 H1 β1 g1 M1 R1 v rv => (show Res E (ret (Fl.rt x, sl) om1) F1 H1 β1 (FlP D) from R1).now M1 _ rv⟩
theorem qs_retN : PS X (.Return none pos) (tS E sRetN) := ps_retN.weak fun D σ H ⟨F, β, om, sl, M, V, R⟩ => (show Res E (ret (Fl.rt .non, sl) om) F H β (FlP D) from R).now M _ .non
theorem qs_pass : PS X (.Pass pos) (tS E sNil) := ps_pass.weak fun D σ H ⟨F, β, om, sl, M, V, R⟩ => (show Res E (ret (Fl.nx, sl) om) F H β (FlP D) from R).now M _ V
theorem qs_break : PS X (.Break pos) (tS E sBrk) := ps_break.weak fun D σ H ⟨F, β, om, sl, M, V, R⟩ => (show Res E (ret (Fl.bk, sl) om) F H β (FlP D) from R).now M _ V
theorem qs_continue : PS X (.Continue pos) (tS E sCont) := ps_continue.weak fun D σ H ⟨F, β, om, sl, M, V, R⟩ => (show Res E (ret (Fl.ct, sl) om) F H β (FlP D) from R).now M _ V
theorem tS_if {D : Ends} {σ : St} {H : Hp} (h : tS E (sIf c S1 S2) D σ H) : tIfS (tT E c) (tS E S1) (tS E S2) D σ H := by
  obtain ⟨F, β, om, sl, M, V, R⟩ := h
  refine ⟨F, β, om, sl, M, V, R.bind fun b om1 F1 H1 β1 g1 M1 R1 => ?_⟩
  cases b with
  | true => rw [if_pos rfl] at R1 ⊢; exact ⟨F1, β1, om1, sl, M1, V.mono g1.toGr, R1⟩
  | false => rw [if_neg Bool.false_ne_true] at R1 ⊢; exact ⟨F1, β1, om1, sl, M1, V.mono g1.toGr, R1⟩
theorem qs_if {t : Expr} {a b : List Stmt} (hc : PT X t (tT E c)) (ha : PSs X a (tS E S1)) (hb : PSs X b (tS E S2)) : PS X (.If t a b pos) (tS E (sIf c S1 S2)) := (ps_if hc ha hb).weak fun D σ H h => tS_if h

/-! ### stores into lists, dicts, fields -/
def kSetI (o i v : Wv) : Mw Unit := fun om => match lstOf om o, i with
  | some (h, ws), .int k => match ixN ws.length k with
    | some j => some (.ok (), om.set h (.lst (ws.set j v)))
    | none => none
  | _, _ => none
def sSetI (fv fo fi : FE) : FS := fun sl => bnd (fv sl) fun v => bnd (fo sl) fun o => bnd (fi sl) fun i => bnd (kSetI o i v) fun _ => ret (.nx, sl)
theorem qs_setI {o i v : Expr} {p1 : Pos} (hv : PE X v (tE E fv)) (ho : PE X o (tE E fo)) (hi : PE X i (tE E fi)) {w} (hg : PG X (.Subscript o i p1) (gSub (tE E fo) (tE E fi) rSetL) := by exact pg_sub ‹_› ‹_› set_list)
    (hs : swapsWithSole [.Subscript o i p1] v pos.line X.env = pure false := by rfl) (hw : swappedStores [.Subscript o i p1] v X.env = pure w := by rfl)
    (h1 : (assignEach [.Subscript o i p1] X.env).map (·.2) = [assign (.Subscript o i p1) X.env] := by rfl) (hwn : w = none := by rfl) : PS X (.Assign [.Subscript o i p1] v pos) (tS E (sSetI fv fo fi)) := by
  subst hwn
  refine (ps_asg hv hg hs hw h1).weak fun D σ H ⟨F, β, om, sl, M, V, R⟩ => ?_
  refine ⟨F, β, om, sl, M, V, R.bind fun x om1 F1 H1 β1 g1 M1 R1 xv rx => ?_⟩
  refine ⟨F1, β1, om1, sl, M1, V.mono g1.toGr, R1.bind fun y om2 F2 H2 β2 g2 M2 R2 yv ry => ?_⟩
  refine ⟨F2, β2, om2, sl, M2, V.mono (g1.trans g2).toGr, R2.bind fun z om3 F3 H3 β3 g3 M3 R3 zv rz => ?_⟩
  unfold bnd kSetI at R3
  match hx : lstOf om3 y, z, rz, R3 with
  | none, _, _, R3 => exact R3.elim
  | some (h, ws), .int k, .int _, R3 =>
    dsimp only at R3
    obtain ⟨a, xs, _, _, eb, rfl, ha, rs⟩ := lstOf_rel M3 (ry.mono g3.toGr) hx
    match hj : ixN ws.length k, R3 with
    | none, R3 => exact R3.elim
    | some j, R3 =>
      refine ⟨a, xs, k, j, rfl, rfl, ha, by rw [← rs.length]; exact hj, ?_⟩
      exact (show Res E (some (Except.ok (Fl.nx, sl), om3.set h (.lst (ws.set j x)))) F3 H3 β3 (FlP D) from R3) F3 _ β3 (M3.gxP eb) (M3.put eb ⟨_, upd_same, RWs.set (rx.mono (g2.trans g3).toGr) j rs⟩) σ (V.mono (g1.trans (g2.trans g3)).toGr)
def kDPut (v d k : Wv) : Mw Unit := fun om => match dPut om d k v with
  | some om' => some (.ok (), om')
  | none => none
def sDPut' (fv fd fk : FE) : FS := fun sl => bnd (fv sl) fun v => bnd (fd sl) fun d => bnd (fk sl) fun k => bnd (kDPut v d k) fun _ => ret (.nx, sl)
theorem qs_dput {o i v : Expr} {p1 : Pos} (hu : X.A.units + 64 < cLine) (hv : PE X v (tE E fv)) (ho : PE X o (tE E fo)) (hi : PE X i (tE E fi)) (hs : swapsWith v (some (.Subscript o i p1)) pos.line X.env = pure false := by rfl) :
    PS X (.Assign [.Subscript o i p1] v pos) (tS E (sDPut' fv fo fi)) := by
  refine (ps_dput (by omega) ho hi hv hs).weak fun D σ H ⟨F, β, om, sl, M, V, R⟩ => ?_
  refine ⟨F, β, om, sl, M, V, R.bind fun x om1 F1 H1 β1 g1 M1 R1 xv rx => ?_⟩
  refine ⟨F1, β1, om1, sl, M1, V.mono g1.toGr, R1.bind fun y om2 F2 H2 β2 g2 M2 R2 yv ry => ?_⟩
  refine ⟨F2, β2, om2, sl, M2, V.mono (g1.trans g2).toGr, R2.bind fun z om3 F3 H3 β3 g3 M3 R3 zv rz => ?_⟩
  unfold bnd kDPut at R3
  match hx : dPut om3 y z x, R3 with
  | none, R3 => exact R3.elim
  | some om', R3 =>
    obtain ⟨a, H', rfl, hp, gg, MM⟩ := dPut_rel M3 (ry.mono g3.toGr) rz (rx.mono (g2.trans g3).toGr) hx
    exact ⟨a, H', rfl, hp, (show Res E (some (Except.ok (Fl.nx, sl), om')) F3 H3 β3 (FlP D) from R3) F3 H' β3 gg MM σ (V.mono (g1.trans (g2.trans g3)).toGr)⟩
def putFW (f : Str) (v : Wv) : List (Str × Wv) → List (Str × Wv)
  | [] => [(f, v)]
  | (g, u) :: r => if g = f then (g, v) :: r else (g, u) :: putFW f v r
theorem RK.putF {F : Hp} {β : List Addr} {n : Str} {w : Wv} {v : V} (h : RW F β w v) : ∀ {ps : List (Str × Wv)} {qs : List (Str × V)}, RK F β ps qs → RK F β (putFW n w ps) (L2.putF n v qs)
  | _, _, .nil => .cons h .nil
  | _, _, .cons (k := k') h' r => by
    unfold putFW L2.putF
    by_cases hk : k' = n
    · rw [if_pos hk, if_pos hk]; exact .cons h r
    · rw [if_neg hk, if_neg hk]; exact .cons h' (RK.putF h r)
def kSetF (C : Addr) (n : Str) (v x : Wv) : Mw Unit := fun om => match x with
  | .o h => match om[h]? with
    | some (.ins C' fs) => if C' = C ∧ fs.length < 900 then some (.ok (), om.set h (.ins C' (putFW n v fs))) else none
    | _ => none
  | _ => none
def sSetF (C : Addr) (n : Str) (fv fo : FE) : FS := fun sl => bnd (fv sl) fun v => bnd (fo sl) fun x => bnd (kSetF C n v x) fun _ => ret (.nx, sl)
theorem qs_fld {o v : Expr} {n : Str} {C : Addr} {p1 : Pos} (cl : Cls X.K C) (na : NoAttr X.K C n) (hv : PE X v (tE E fv)) (ho : PE X o (tE E fo)) (hs : swapsWith v (some (.Attribute o n p1)) pos.line X.env = pure false := by rfl) :
    PS X (.Assign [.Attribute o n p1] v pos) (tS E (sSetF C n fv fo)) := by
  refine (ps_fld ho hv hs).weak fun D σ H ⟨F, β, om, sl, M, V, R⟩ => ?_
  refine ⟨F, β, om, sl, M, V, R.bind fun x om1 F1 H1 β1 g1 M1 R1 xv rx => ?_⟩
  refine ⟨F1, β1, om1, sl, M1, V.mono g1.toGr, R1.bind fun y om2 F2 H2 β2 g2 M2 R2 yv ry => ?_⟩
  unfold bnd kSetF at R2
  cases ry with
  | @o h a eb =>
    dsimp only at R2
    match hx : om2[h]?, R2 with
    | none, R => exact R.elim
    | some (.exc _), R => exact R.elim
    | some (.lst _), R => exact R.elim
    | some (.dt _), R => exact R.elim
    | some (.dk _), R => exact R.elim
    | some (.ins C' fs), R =>
      obtain ⟨a', ea, _, dx, fs', hf, rs⟩ := M2.at hx
      have eb2 := ea
      rw [eb] at ea; cases ea
      dsimp only at R
      by_cases hc : C' = C ∧ fs.length < 900
      · have R5 : Res E (some (Except.ok (Fl.nx, sl), om2.set h (.ins C' (putFW n x fs)))) F2 H2 β2 (FlP D) := by
          have := R
          rw [if_pos hc] at this
          exact this
        obtain ⟨rfl, hl⟩ := hc
        have := rs.length
        refine ⟨a, C', dx, fs', rfl, hf, cl, na, by omega, ?_⟩
        exact R5 F2 _ β2 (M2.gxP eb2) (M2.put eb2 ⟨dx, _, upd_same, rs.putF (rx.mono g2.toGr)⟩) σ (V.mono (g1.trans g2).toGr)
      · rw [if_neg hc] at R; exact R.elim
  | _ => exact R2.elim
end

/-! ### what is walked -/
def ItOk (J : It) (ws : List Wv) (F : Hp) (β : List Addr) : Prop := ∀ F' β' H, Gr F F' β β' → Same F' H → (∀ (i : Nat) w, ws[i]? = some w → J.go i H ∧ ∀ x H', J.yld i H x H' → H' = H ∧ RW F' β' w x) ∧ ∀ i, ws.length ≤ i → J.stop i H
theorem ItOk.mono {J : It} {ws : List Wv} {F F' : Hp} {β β' : List Addr} (h : ItOk J ws F β) (g : Gr F F' β β') : ItOk J ws F' β' := fun F2 β2 H g2 s => h F2 β2 H (g.trans g2) s
abbrev FI := Sl → Mw (List Wv)
def tI (E : XK) (f : FI) : TI := fun σ H R => ∃ F β om sl, MOk F H β om ∧ EnvOk F β σ sl ∧ Res E (f sl om) F H β fun ws F' H' β' => ∀ J, ItOk J ws F' β' → R J H'
theorem PI.weak {X : Cx} {tg e : Expr} {t t' : TI} (h : PI X tg e t) (w : ∀ σ H Q, t' σ H Q → t σ H Q) : PI X tg e t' := fun pins s σ H Q I q => h pins s σ H Q I (w σ H Q q)
def kItems : Wv → Mw (List Wv)
  | .lst ws => ret ws
  | _ => nope
def kItemsT : Wv → Mw (List Wv)
  | .tup ws => ret ws
  | _ => nope
def rng1 (n : Nat) : List Wv := (List.range n).map fun (i : Nat) => .int i
def rng2 (lo : Int) (n : Nat) : List Wv := (List.range n).map fun (i : Nat) => .int (lo + i)
def kRng1 : Wv → Mw (List Wv)
  | .int j => bnd (chk (decide (-(2 ^ 62) ≤ j ∧ j < 2 ^ 62))) fun _ => ret (rng1 j.toNat)
  | _ => nope
def kRng2 : Wv → Wv → Mw (List Wv)
  | .int i, .int j => bnd (chk (decide (-(2 ^ 62) ≤ i ∧ i < 2 ^ 62 ∧ -(2 ^ 62) ≤ j ∧ j < 2 ^ 62))) fun _ => ret (rng2 i (j - i).toNat)
  | _, _ => nope
section
variable {X : Cx} {E : XK} {e a b tg : Expr} {es : List Expr} {f : FE} {fs : FA} {p pos : Pos}
theorem itl_ok {K : PySem.W.Frag} {F : Hp} {β : List Addr} {a : Addr} {xs : List V} {ws : List Wv} (q : Rd F a (.lst xs)) (rs : RWs F β ws xs) : ItOk (Itl K a) ws F β := fun F' β' H g s => by
  have hS : SqL K H a xs := .inl (Rd.same s (Rd.same g.same q))
  refine ⟨fun i w e => ?_, fun i hi => ⟨xs, hS, by rw [← rs.length]; exact hi⟩⟩
  obtain ⟨v, ev, rv⟩ := rs.get e
  refine ⟨⟨xs, v, hS, ev⟩, fun x H' ⟨e1, e2⟩ => ⟨e1, ?_⟩⟩
  have := e2 xs hS
  rw [ev] at this
  cases this
  exact rv.mono g
theorem itt_ok {K : PySem.W.Frag} {F : Hp} {β : List Addr} {a : Addr} {xs : List V} {ws : List Wv} (q : F a = some (.tup xs)) (rs : RWs F β ws xs) : ItOk (Itt K a) ws F β := fun F' β' H g s => by
  have hS : SqT K H a xs := SqT.of (s _ _ (g.same _ _ q))
  refine ⟨fun i w e => ?_, fun i hi => ⟨xs, hS, by rw [← rs.length]; exact hi⟩⟩
  obtain ⟨v, ev, rv⟩ := rs.get e
  refine ⟨⟨xs, v, hS, ev⟩, fun x H' ⟨e1, e2⟩ => ⟨e1, ?_⟩⟩
  have := e2 xs hS
  rw [ev] at this
  cases this
  exact rv.mono g
theorem itr_ok {F : Hp} {β : List Addr} (lo : Int) (n : Nat) : ItOk (Itr lo n) (rng2 lo n) F β := fun F' β' H g s => by
  unfold rng2
  refine ⟨fun i w e => ?_, fun i hi => (show n ≤ i by simpa using hi)⟩
  have hi : i < n := by have := (List.getElem?_eq_some_iff.mp e).1; simpa using this
  rw [List.getElem?_map, List.getElem?_range hi] at e
  cases e
  exact ⟨hi, fun x H' ⟨e1, e2⟩ => ⟨e1, by rw [e2]; exact .int _⟩⟩
theorem rng1_eq (n : Nat) : rng1 n = rng2 0 n := by
  unfold rng1 rng2
  exact List.map_congr_left fun i _ => by rw [Int.zero_add]
theorem qi_list (hl : PE X e (tE E f)) : PI X tg e (tI E fun sl => bnd (f sl) kItems) := (pi_list hl).weak fun σ H Q ⟨F, β, om, sl, M, V, R⟩ => by
  refine ⟨F, β, om, sl, M, V, R.bind fun x om1 F1 H1 β1 g1 M1 R1 v rv => ?_⟩
  cases rv with
  | @lst a xs ws q rs => exact ⟨a, rfl, ⟨xs, .inl (Rd.same M1.sub q)⟩, (show Res E (ret ws om1) F1 H1 β1 _ from R1).now M1 _ (itl_ok q rs)⟩
  | _ => exact R1.elim
theorem qi_tup (hl : PE X e (tE E f)) : PI X tg e (tI E fun sl => bnd (f sl) kItemsT) := (pi_tup hl).weak fun σ H Q ⟨F, β, om, sl, M, V, R⟩ => by
  refine ⟨F, β, om, sl, M, V, R.bind fun x om1 F1 H1 β1 g1 M1 R1 v rv => ?_⟩
  cases rv with
  | @tup a xs ws q rs => exact ⟨a, rfl, ⟨xs, SqT.of (M1.sub _ _ q)⟩, (show Res E (ret ws om1) F1 H1 β1 _ from R1).now M1 _ (itt_ok q rs)⟩
  | _ => exact R1.elim
theorem qi_range1 (hg : Gl X "range") (hm : X.mg "range" = none) (ha : PE X a (tE E f)) (h0 : starEach [a] X.env = (false, eval a X.env) :: starEach [] X.env := by rfl) (hs : starEach [a] X.env = [(false, eval a X.env)] := by rfl) : PI X tg (.Call (.Name "range" p) [a] [] pos) (tI E fun sl => bnd (f sl) kRng1) := (pi_range1 hg hm (pa_cons ha pa_nil h0) hs).weak fun σ H Q ⟨F, β, om, sl, M, V, R⟩ => by
  refine ⟨F, β, om, sl, M, V, R.bind fun w om1 F1 H1 β1 g1 M1 R1 v rv => ?_⟩
  cases rv with
  | int j =>
    obtain ⟨hc, R2⟩ := Res.chk R1
    obtain ⟨h1, h2⟩ := of_decide_eq_true hc
    refine ⟨j, rfl, h1, h2, ?_⟩
    have R3 : Res E (ret (rng1 j.toNat) om1) F1 H1 β1 fun ws F' H' β' => ∀ J, ItOk J ws F' β' → Q J H' := R2
    exact R3.now M1 _ (by rw [rng1_eq]; exact itr_ok 0 _)
  | _ => exact R1.elim
theorem qi_range2 {f' : FE} (hg : Gl X "range") (hm : X.mg "range" = none) (ha : PE X a (tE E f)) (hb : PE X b (tE E f')) (h0 : starEach [a, b] X.env = (false, eval a X.env) :: starEach [b] X.env := by rfl) (h1 : starEach [b] X.env = (false, eval b X.env) :: starEach [] X.env := by rfl)
    (hs : starEach [a, b] X.env = [(false, eval a X.env), (false, eval b X.env)] := by rfl) (hs2 : starEach [b] X.env = [(false, eval b X.env)] := by rfl) : PI X tg (.Call (.Name "range" p) [a, b] [] pos) (tI E fun sl => bnd (f sl) fun x => bnd (f' sl) fun y => kRng2 x y) := (pi_range2 hg hm (pa_cons ha (pa_cons hb pa_nil h1) h0) hs hs2).weak fun σ H Q ⟨F, β, om, sl, M, V, R⟩ => by
  refine ⟨F, β, om, sl, M, V, R.bind fun w om1 F1 H1 β1 g1 M1 R1 v rv => ?_⟩
  refine ⟨F1, β1, om1, sl, M1, V.mono g1.toGr, R1.bind fun y om2 F2 H2 β2 g2 M2 R2 yv ry => ?_⟩
  cases rv with
  | int i =>
    cases ry with
    | int j =>
      obtain ⟨hc, R3⟩ := Res.chk R2
      have hc := of_decide_eq_true hc
      refine ⟨i, j, rfl, hc, ?_⟩
      have R3 : Res E (ret (rng2 i (j - i).toNat) om2) F2 H2 β2 fun ws F' H' β' => ∀ J, ItOk J ws F' β' → Q J H' := R3
      exact R3.now M2 _ (itr_ok i _)
    | _ => exact R2.elim
  | _ => exact R2.elim
end

/-! ### for -/
abbrev TgW := Wv → Sl → Option Sl
def TgOk (g : TG) (T : TgW) : Prop := ∀ {F H : Hp} {β : List Addr} {om : List Ob} {σ : St} {sl sl' : Sl} {w : Wv} {v : V} {Q : St → Hp → Prop}, MOk F H β om → EnvOk F β σ sl → RW F β w v → T w sl = some sl' → (∀ σ', EnvOk F β σ' sl' → Q σ' H) → g v σ H Q
def tgN (i : Nat) : TgW := fun w sl => some (sl.set i (some w))
theorem tgOk_name (i : Nat) : TgOk (gName i) (tgN i) := fun M V r e q => by
  cases e
  exact q _ (V.set i r)
def tgT (Ts : List TgW) : TgW := fun w sl => match w with
  | .tup ws => if ws.length = Ts.length then (ws.zip Ts).foldl (fun o p => o.bind fun s => p.2 p.1 s) (some sl) else none
  | _ => none
def kFor (again : Sl → Mw (Fl × Sl)) : Fl × Sl → Mw (Fl × Sl)
  | (.nx, sl) => again sl
  | (.ct, sl) => again sl
  | (.bk, sl) => ret (.nx, sl)
  | (.rt w, sl) => ret (.rt w, sl)
def forS (T : TgW) (S : FS) : List Wv → FS
  | [], sl => ret (.nx, sl)
  | w :: r, sl => match T w sl with
    | none => nope
    | some sl1 => bnd (S sl1) (kFor fun sl2 => forS T S r sl2)
def sFor (fi : FI) (T : TgW) (S : FS) : FS := fun sl => bnd (fi sl) fun ws => forS T S ws sl
section
variable {X : Cx} {E : XK} {tg iter : Expr} {body : List Stmt} {fi : FI} {T : TgW} {g : TG} {S : FS} {pos : Pos}
theorem for_go {D : Ends} {J : It} {ws : List Wv} {σ : St} {H F : Hp} {β : List Addr} {om : List Ob} {sl : Sl} (ht : TgOk g T) (hJ : ItOk J ws F β) (M : MOk F H β om) (V : EnvOk F β σ sl) (R : Res E (forS T S ws sl om) F H β (FlP D)) :
    ∃ W : Nat → Nat → St → Hp → Prop, (∃ m, W 0 m σ H) ∧ ∀ i m σ H, W i m σ H →
      (J.stop i H ∧ D.nx σ H) ∨ (J.go i H ∧ ∃ N : St → Hp → Prop, (∀ σ' H', N σ' H' → ∃ m', m' < m ∧ W (i + 1) m' σ' H') ∧ ∀ x H', J.yld i H x H' → g x σ H' fun σ2 H2 => tS E S { D with nx := N, ct := N, bk := D.nx } σ2 H2) := by
  refine ⟨fun i m σ H => m = ws.length - i ∧ i ≤ ws.length ∧ ∃ F β om sl, ItOk J ws F β ∧ MOk F H β om ∧ EnvOk F β σ sl ∧ Res E (forS T S (ws.drop i) sl om) F H β (FlP D), ⟨ws.length, by simp, Nat.zero_le _, F, β, om, sl, hJ, M, V, R⟩, ?_⟩
  rintro i m σ H ⟨rfl, hi, F, β, om, sl, hJ, M, V, R⟩
  obtain ⟨j1, j2⟩ := hJ F β H (Gr.refl _ _) M.sub
  by_cases hlt : i < ws.length
  · obtain ⟨go, yl⟩ := j1 i ws[i] (List.getElem?_eq_getElem hlt)
    refine .inr ⟨go, fun σ' H' => i + 1 ≤ ws.length ∧ ∃ F β om sl, ItOk J ws F β ∧ MOk F H' β om ∧ EnvOk F β σ' sl ∧ Res E (forS T S (ws.drop (i + 1)) sl om) F H' β (FlP D), fun σ' H' ⟨h1, h2⟩ => ⟨ws.length - (i + 1), by omega, rfl, h1, h2⟩, fun x H' hy => ?_⟩
    obtain ⟨rfl, rx⟩ := yl x H' hy
    rw [List.drop_eq_getElem_cons hlt] at R
    have R : Res E ((match T ws[i] sl with | none => nope | some sl1 => bnd (S sl1) (kFor fun sl2 => forS T S (ws.drop (i + 1)) sl2)) om) F H' β (FlP D) := R
    match hT : T ws[i] sl, R with
    | none, R => exact R.elim
    | some sl1, R =>
      refine ht M V rx hT fun σ2 V2 => ?_
      refine ⟨F, β, om, sl1, M, V2, Res.bind R fun y om1 F1 H1 β1 g1 M1 R1 => ?_⟩
      obtain ⟨fl, sl2⟩ := y
      cases fl with
      | nx => exact fun σ' V' => ⟨hlt, F1, β1, om1, sl2, hJ.mono g1.toGr, M1, V', R1⟩
      | ct => exact fun σ' V' => ⟨hlt, F1, β1, om1, sl2, hJ.mono g1.toGr, M1, V', R1⟩
      | bk => exact (show Res E (ret (Fl.nx, sl2) om1) F1 H1 β1 (FlP D) from R1).now M1
      | rt w => exact (show Res E (ret (Fl.rt w, sl2) om1) F1 H1 β1 (FlP D) from R1).now M1
  · have e : i = ws.length := by omega
    subst e
    rw [List.drop_length] at R
    exact .inl ⟨j2 _ (Nat.le_refl _), (show Res E (ret (Fl.nx, sl) om) F H β (FlP D) from R).now M σ V⟩
theorem qs_for (hp : PassesOwn (model X.prog X.w) X.A X.env X.xe) (hc : X.calm = true) (hi : PI X tg iter (tI E fi)) (hg : PG X tg g) (ht : TgOk g T) (hb : PSs X body (tS E S)) (hs : ∀ x, foldedSetIterable iter X.env x = pure x := by intro _; rfl) : PS X (.For tg iter body [] pos) (tS E (sFor fi T S)) := (ps_for hp hc hi hg hb hs).weak fun D σ H ⟨F, β, om, sl, M, V, R⟩ => by
  refine ⟨F, β, om, sl, M, V, R.bind fun ws om1 F1 H1 β1 g1 M1 R1 J hJ => ?_⟩
  exact for_go ht hJ M1 (V.mono g1.toGr) R1
end
end
end L2

set_option maxHeartbeats 4000000
/-! THE FUNCTIONAL READING, 8: comprehensions, while, raise, try, defs. -/
namespace L2
noncomputable section
open PySem PySem.Spec PyProof.Rows

/-! ### comprehensions -/
def compSl (js : List Nat) (w : Wv) (sl : Sl) : Sl := some w :: js.map fun j => (sl[j]?).join
theorem EnvOk.comp {F : Hp} {β : List Addr} {σ : St} {sl : Sl} {w : Wv} {v : V} (V : EnvOk F β σ sl) (js : List Nat) (r : RW F β w v) : EnvOk F β (compSt js (some v) σ) (compSl js w sl) := by
  refine ⟨by simp [compSl, compSt], fun i u e => ?_⟩
  cases i with
  | zero =>
    have e : some (some w) = some (some u) := e
    cases e
    exact ⟨v, rfl, r⟩
  | succ k =>
    have e : (js.map fun j => (sl[j]?).join)[k]? = some (some u) := e
    rw [List.getElem?_map] at e
    match hj : js[k]?, e with
    | none, e => exact nomatch e
    | some j, e =>
      have e : some (sl[j]?).join = some (some u) := e
      have e2 : sl[j]? = some (some u) := by
        cases q : sl[j]? with
        | none => rw [q] at e; cases e
        | some o =>
          rw [q] at e
          have e : some o = some (some u) := e
          cases e
          rfl
      obtain ⟨v', h1, h2⟩ := V.get j u e2
      refine ⟨v', ?_, h2⟩
      show (js.map fun j => (σ[j]?).join)[k]? = some (some v')
      rw [List.getElem?_map, hj, Option.map_some, h1]
      rfl
def kOne (again : Mw (List Wv)) (f : Mw Wv) (b : Bool) : Mw (List Wv) := if b = true then bnd (calmly f) fun x => bnd again fun xs => ret (x :: xs) else again
def compW (c : FT) (f : FE) (mk : Wv → Sl) : List Wv → Mw (List Wv)
  | [] => ret []
  | w :: r => bnd (calmly (c (mk w))) (kOne (compW c f mk r) (f (mk w)))
def fComp (k : List Wv → Mw Wv) (js : List Nat) (fi : FI) (c : FT) (f : FE) : FE := fun sl => bnd (fi sl) fun ws => bnd (chk (decide (ws.length ≤ lim))) fun _ => bnd (compW c f (fun w => compSl js w sl) ws) k
def fYes : FT := fun _ => ret true
theorem qifs_nil {X : Cx} {E : XK} : PIfs X [] (tT E fYes) := fun pins s σ H Q I ⟨F, β, om, sl, M, V, R⟩ => pifs_nil pins s σ H Q I ((show Res E (ret true om) F H β _ from R).now M)
theorem qifs_one {X : Cx} {E : XK} {e : Expr} {c : FT} (h : PT X e (tT E c)) : PIfs X [e] (tT E c) := pifs_one h
theorem bnd_assoc {α γ δ : Type} (m : Mw α) (k : α → Mw γ) (l : γ → Mw δ) : bnd (bnd m k) l = bnd m fun x => bnd (k x) l := by
  funext om
  unfold bnd
  match m om with
  | none => rfl
  | some (.ok a, om') => rfl
  | some (.error c, om') => rfl
theorem Res.calm {E E' : XK} {α γ : Type} {m : Mw α} {k : α → Mw γ} {F H : Hp} {β : List Addr} {om : List Ob} {P : γ → Hp → Hp → List Addr → Prop} {P' : α → Hp → Hp → List Addr → Prop} (R : Res E (bnd (calmly m) k om) F H β P)
    (h : ∀ x om1 F1 H1 β1, Gx F F1 H H1 β β1 → MOk F1 H1 β1 om1 → Res E (k x om1) F1 H1 β1 P → P' x F1 H1 β1) : Res E' (m om) F H β P' := by
  unfold bnd calmly at R
  match hm : m om, R with
  | some (.ok x, om'), R => exact fun F' H' β' g M => h x om' F' H' β' g M (Res.mono g R)
  | some (.error c, om'), R => exact R.elim
  | none, R => exact R.elim
/-- the heap without what stands at D -/
def wo (H : Hp) (D : Addr) : Hp := fun b => if b = D then none else H b
theorem wo_upd {H : Hp} {D : Addr} {o : HO} (e : H D = some o) : upd (wo H D) D o = H := by
  funext b
  unfold upd wo
  by_cases h : b = D
  · rw [if_pos h, h, e]
  · rw [if_neg h, if_neg h]
theorem wo_ne {H : Hp} {D b : Addr} (h : b ≠ D) : wo H D b = H b := if_neg h
theorem wo_same {H : Hp} {D : Addr} : wo H D D = none := if_pos rfl
section
variable {X : Cx} {E : XK} {js : List Nat} {c : FT} {f : FE} {k : List Wv → Mw Wv}
/-- the turn's evaluation, the list at D beside -/
theorem beside {F F' Hm H' : Hp} {β β' : List Addr} {om om' : List Ob} {D : Addr} {ys : List V} (hD : Hm D = none) (M : MOk F Hm β om) (g : Gx F F' (upd Hm D (.lst ys)) H' β β') (M' : MOk F' H' β' om') :
    H' D = some (.lst ys) ∧ Gx F F' Hm (wo H' D) β β' ∧ MOk F' (wo H' D) β' om' := by
  have nD : D ∉ β := fun hm => by
    obtain ⟨i, hi⟩ := List.getElem?_of_mem hm
    obtain ⟨x, hx⟩ := M.there hi
    rw [hD] at hx; cases hx
  have fD : F D = none := M.sub.free hD
  have e1 : H' D = some (.lst ys) := g.keep D _ upd_same nD
  have nD' : D ∉ β' := fun hm => (g.new D hm).elim nD fun z => by rw [upd_same] at z; cases z
  have fD' : F' D = none := by
    cases q : F' D with
    | none => rfl
    | some o =>
      rcases g.fnew D o q with z | z
      · rw [fD] at z; cases z
      · rw [upd_same] at z; cases z
  refine ⟨e1, ⟨g.toGr, fun b o e hb => ?_, fun b e => ?_, fun b hb => ?_, fun b o e => ?_⟩, ⟨fun b o e => ?_, M'.nd, M'.len, M'.free, fun h a x h1 h2 => (M'.ob h a x h1 h2).mono (Gr.refl _ _) ?_⟩⟩
  · have hbD : b ≠ D := ne_of_none e hD
    rw [wo_ne hbD]
    exact g.keep b o (by rw [upd_ne hbD]; exact e) hb
  · by_cases hbD : b = D
    · rw [hbD]; exact hD
    · rw [wo_ne hbD] at e
      have := g.there b e
      rw [upd_ne hbD] at this
      exact this
  · rcases g.new b hb with h | h
    · exact .inl h
    · have hbD : b ≠ D := fun z => nD' (z ▸ hb)
      rw [upd_ne hbD] at h
      exact .inr h
  · rcases g.fnew b o e with h | h
    · exact .inl h
    · have hbD : b ≠ D := fun z => by rw [z, fD'] at e; cases e
      rw [upd_ne hbD] at h
      exact .inr h
  · have hbD : b ≠ D := fun z => by rw [z, fD'] at e; cases e
    rw [wo_ne hbD]
    exact M'.sub b o e
  · exact wo_ne fun z => nD' (z ▸ List.mem_of_getElem? h1)
theorem comp_go {fi : FI} (hk : LayK E k) {σ : St} {H : Hp} {Q : VK} (h : tE E (fComp k js fi c f) σ H Q) : tComp (tI E fi) js (fun _ _ _ _ => tT E0 c) (fun _ _ _ _ => tE E0 f) σ H Q := by
  obtain ⟨F, β, om, sl, M, V, R⟩ := h
  refine ⟨F, β, om, sl, M, V, R.bind fun ws om1 F1 H1 β1 g1 M1 R1 J hJ D hD _ _ _ _ => ?_⟩
  have hlim := lim_lt
  obtain ⟨hws, R1⟩ := Res.chk R1
  have hws := of_decide_eq_true hws
  refine ⟨fun i m ys H2 => m = ws.length - i ∧ i ≤ ws.length ∧ ys.length ≤ i ∧ ∃ F β om Hm acc, H2 = upd Hm D (.lst ys) ∧ Hm D = none ∧ ItOk J ws F β ∧ MOk F Hm β om ∧ EnvOk F β σ sl ∧ RWs F β acc ys ∧ Res E (bnd (compW c f (fun w => compSl js w sl) (ws.drop i)) (fun xs => k (acc ++ xs)) om) F Hm β (PV Q),
    ⟨ws.length, by simp, Nat.zero_le _, Nat.zero_le _, F1, β1, om1, H1, [], rfl, hD, hJ, M1, V.mono g1.toGr, .nil, R1⟩, ?_⟩
  rintro i m ys H2 ⟨rfl, hi, hys, F, β, om, Hm, acc, rfl, hDm, hJ, M, V, ra, R⟩
  refine ⟨upd_same, ?_⟩
  have MU : MOk F (upd Hm D (.lst ys)) β om := M.newU hDm
  obtain ⟨j1, j2⟩ := hJ F β _ (Gr.refl _ _) MU.sub
  by_cases hlt : i < ws.length
  · obtain ⟨go, yl⟩ := j1 i ws[i] (List.getElem?_eq_getElem hlt)
    refine .inr ⟨go, fun x H' hy => ?_⟩
    obtain ⟨rfl, rx⟩ := yl x H' hy
    rw [List.drop_eq_getElem_cons hlt] at R
    have R : Res E (bnd (bnd (calmly (c (compSl js ws[i] sl))) (kOne (compW c f (fun w => compSl js w sl) (ws.drop (i + 1))) (f (compSl js ws[i] sl)))) (fun xs => k (acc ++ xs)) om) F Hm β (PV Q) := R
    rw [bnd_assoc] at R
    refine ⟨F, β, om, _, MU, V.comp js rx, ?_⟩
    -- the test
    have R' := R
    unfold bnd calmly at R'
    match hm : c (compSl js ws[i] sl) om, R' with
    | none, R' => exact R'.elim
    | some (.error _, _), R' => exact R'.elim
    | some (.ok b, om1), R' =>
      clear R
      intro F1 H1 β1 g1 M1
      obtain ⟨e1, g1', M1'⟩ := beside hDm M g1 M1
      have R1 : Res E (bnd (kOne (compW c f (fun w => compSl js w sl) (ws.drop (i + 1))) (f (compSl js ws[i] sl)) b) (fun xs => k (acc ++ xs)) om1) F Hm β (PV Q) := R'
      have R1 := Res.mono g1' R1
      cases b with
      | false =>
        rw [if_neg Bool.false_ne_true]
        refine ⟨ws.length - (i + 1), by omega, rfl, hlt, by omega, F1, β1, om1, wo H1 D, acc, (wo_upd e1).symm, wo_same, hJ.mono g1.toGr, M1', V.mono g1.toGr, ra.mono g1.toGr, R1⟩
      | true =>
        rw [if_pos rfl]
        have R2 : Res E (bnd (bnd (calmly (f (compSl js ws[i] sl))) fun x => bnd (compW c f (fun w => compSl js w sl) (ws.drop (i + 1))) fun xs => ret (x :: xs)) (fun xs => k (acc ++ xs)) om1) F1 (wo H1 D) β1 (PV Q) := R1
        rw [bnd_assoc] at R2
        refine ⟨F1, β1, om1, _, M1, (V.mono g1.toGr).comp js (rx.mono g1.toGr), ?_⟩
        unfold bnd calmly at R2
        match hm2 : f (compSl js ws[i] sl) om1, R2 with
        | none, R2 => exact R2.elim
        | some (.error _, _), R2 => exact R2.elim
        | some (.ok y, om2), R2 =>
          intro F2 H2 β2 g2 M2 v rv
          obtain ⟨e2, g2', M2'⟩ := beside (Hm := wo H1 D) (ys := ys) wo_same M1' (by rw [wo_upd e1]; exact g2) M2
          have R3 : Res E (bnd (bnd (compW c f (fun w => compSl js w sl) (ws.drop (i + 1))) fun xs => ret (y :: xs)) (fun xs => k (acc ++ xs)) om2) F1 (wo H1 D) β1 (PV Q) := R2
          rw [bnd_assoc] at R3
          have R3 : Res E (bnd (compW c f (fun w => compSl js w sl) (ws.drop (i + 1))) (fun xs => k ((acc ++ [y]) ++ xs)) om2) F1 (wo H1 D) β1 (PV Q) := by
            have e : (fun xs => k ((acc ++ [y]) ++ xs)) = fun xs => k (acc ++ y :: xs) := by funext xs; rw [List.append_assoc]; rfl
            rw [e]
            exact R3
          have R3 := Res.mono g2' R3
          have ra2 : RWs F2 β2 (acc ++ [y]) (ys ++ [v]) := (ra.mono (g1.trans g2).toGr).append (.cons rv .nil)
          refine ⟨e2, by omega, ws.length - (i + 1), by omega, rfl, hlt, by rw [List.length_append, List.length_singleton]; omega, F2, β2, om2, wo H2 D, acc ++ [y], ?_, wo_same, hJ.mono (g1.trans g2).toGr, M2', V.mono (g1.trans g2).toGr, ra2, R3⟩
          rw [← wo_upd e2, upd_upd, wo_upd e2]
  · have e : i = ws.length := by omega
    subst e
    rw [List.drop_length] at R
    have R : Res E (k (acc ++ []) om) F Hm β (PV Q) := R
    rw [List.append_nil] at R
    exact .inl ⟨j2 _ (Nat.le_refl _), (hk M ra R).2 hDm⟩
section
variable {scope : Scope} {cl : List (Str × Addr)} {x : Str} {cn : List Str} {elt iter : Expr} {ifs : List Expr} {px pos : Pos} {fi : FI}
theorem qe_comp (hk : LayK E k) (O : CompOk X scope cl x cn js) (hc : X.calm = true) (hi : PI X (.Name x px) iter (tI E fi)) (ht : ∀ C s₂ H₂ fp, PIfs (compCx X scope cl x cn C s₂ H₂ fp) ifs (tT E0 c)) (he : ∀ C s₂ H₂ fp, PE (compCx X scope cl x cn C s₂ H₂ fp) elt (tE E0 f))
    (hs : ∀ v, foldedSetIterable iter X.env v = pure v := by intro _; rfl) : PE X (.ListComp elt [⟨.Name x px, iter, ifs, 0⟩] scope pos) (tE E (fComp k js fi c f)) := (pe_comp O hc hi ht he hs).weak fun σ H Q h => comp_go hk h
theorem qs_setComp {j : Nat} {y : Str} {py spos : Pos} (hk : LayK E k) (O : CompOk X scope cl x cn js) (hc : X.calm = true) (hi : PI X (.Name x px) iter (tI E fi)) (ht : ∀ C s₂ H₂ fp, PIfs (compCx X scope cl x cn C s₂ H₂ fp) ifs (tT E0 c)) (he : ∀ C s₂ H₂ fp, PE (compCx X scope cl x cn C s₂ H₂ fp) elt (tE E0 f))
    (hN : X.N.Nodup) (hj : X.N[j]? = some y) (hy : Loc X.env.scope y) (hsw : swapsWith (.ListComp elt [⟨.Name x px, iter, ifs, 0⟩] scope pos) (some (.Name y py)) spos.line X.env = pure true)
    (hs : ∀ v, foldedSetIterable iter X.env v = pure v := by intro _; rfl) (hf : X.fn y = true ∨ X.env.scope.names.lookup y = some .local := by first | exact .inl rfl | exact .inr rfl) :
    PS X (.Assign [.Name y py] (.ListComp elt [⟨.Name x px, iter, ifs, 0⟩] scope pos) spos) (tS E (sSet j (fComp k js fi c f))) := (ps_setComp O hc hi ht he hN hj hy hsw hs hf).weak fun D σ H ⟨F, β, om, sl, M, V, R⟩ => by
  refine comp_go hk ⟨F, β, om, sl, M, V, R.bind fun w om1 F1 H1 β1 g1 M1 R1 v rv => ?_⟩
  exact (show Res E (ret (Fl.nx, sl.set j (some w)) om1) F1 H1 β1 (FlP D) from R1).now M1 _ ((V.mono g1.toGr).set j rv)
end
end

/-! ### while -/
def kWh (again : Sl → Mw (Fl × Sl)) (S : FS) (sl : Sl) (b : Bool) : Mw (Fl × Sl) := if b = true then bnd (S sl) (kFor again) else ret (.nx, sl)
def whileS (c : FT) (S : FS) : Nat → FS
  | 0, _ => nope
  | n + 1, sl => bnd (c sl) (kWh (fun sl2 => whileS c S n sl2) S sl)
section
variable {X : Cx} {E : XK} {t : Expr} {body : List Stmt} {c : FT} {S : FS} {pos : Pos}
theorem qs_while (n : Nat) (hp : PassesOwn (model X.prog X.w) X.A X.env X.xe) (hc : PT X t (tT E c)) (hb : PSs X body (tS E S)) : PS X (.While t body [] pos) (tS E (whileS c S n)) := (ps_while hp hc hb).weak fun D σ H ⟨F, β, om, sl, M, V, R⟩ => by
  refine ⟨fun m σ H => ∃ F β om sl, MOk F H β om ∧ EnvOk F β σ sl ∧ Res E (whileS c S m sl om) F H β (FlP D), ⟨n, F, β, om, sl, M, V, R⟩, ?_⟩
  rintro m σ H ⟨F, β, om, sl, M, V, R⟩
  cases m with
  | zero => exact R.elim
  | succ m =>
    refine ⟨F, β, om, sl, M, V, Res.bind (m := c sl) (k := kWh (fun sl2 => whileS c S m sl2) S sl) R fun b om1 F1 H1 β1 g1 M1 R1 => ?_⟩
    cases b with
    | false =>
      rw [if_neg Bool.false_ne_true]
      exact (show Res E (ret (Fl.nx, sl) om1) F1 H1 β1 (FlP D) from R1).now M1 σ (V.mono g1.toGr)
    | true =>
      rw [if_pos rfl]
      refine ⟨fun σ' H' => ∃ F β om sl, MOk F H' β om ∧ EnvOk F β σ' sl ∧ Res E (whileS c S m sl om) F H' β (FlP D), fun σ' H' h => ⟨m, Nat.lt_succ_self m, h⟩, ?_⟩
      refine ⟨F1, β1, om1, sl, M1, V.mono g1.toGr, Res.bind (m := S sl) (k := kFor fun sl2 => whileS c S m sl2) R1 fun y om2 F2 H2 β2 g2 M2 R2 => ?_⟩
      obtain ⟨fl, sl2⟩ := y
      cases fl with
      | nx => exact fun σ' V' => ⟨F2, β2, om2, sl2, M2, V', R2⟩
      | ct => exact fun σ' V' => ⟨F2, β2, om2, sl2, M2, V', R2⟩
      | bk => exact (show Res E (ret (Fl.nx, sl2) om2) F2 H2 β2 (FlP D) from R2).now M2
      | rt w => exact (show Res E (ret (Fl.rt w, sl2) om2) F2 H2 β2 (FlP D) from R2).now M2
end

/-! ### raise -/
def tM (E : XK) (f : Sl → Mw Unit) : TA := fun σ H Q => ∃ F β om sl, MOk F H β om ∧ EnvOk F β σ sl ∧ Res E (f sl om) F H β fun _ F' H' β' => ∀ vs, Q vs H'
def kFmt : Wv → Mw Unit
  | .int i => chk (decide (i.natAbs < 1000000000000))
  | _ => nope
def mNil : Sl → Mw Unit := fun _ => ret ()
def mInt (f : FE) (r : Sl → Mw Unit) : Sl → Mw Unit := fun sl => bnd (f sl) fun x => bnd (kFmt x) fun _ => r sl
def sRaise (C : Addr) (m : Sl → Mw Unit) : FS := fun sl => bnd (m sl) fun _ => raise C
theorem small_log {i : Int} (h : i.natAbs < 1000000000000) : i.natAbs.log2 < 1920 := by
  by_cases h0 : i.natAbs = 0
  · rw [h0]; decide
  · exact (Nat.log2_lt h0).mpr (Nat.lt_of_lt_of_le (show i.natAbs < 2 ^ 40 by omega) (Nat.pow_le_pow_right (by decide) (by decide)))
section
variable {X : Cx} {E : XK} {e : Expr} {es : List Expr} {f : FE} {m : Sl → Mw Unit} {pos : Pos}
theorem PJ.weak {n : Nat} {t t' : TA} (h : PJ X n es t) (w : ∀ σ H Q, t' σ H Q → t σ H Q) : PJ X n es t' := fun pins s σ H acc Q I hl q => h pins s σ H acc Q I hl (w σ H _ q)
theorem qj_nil : PJ X 2000 [] (tM E mNil) := pj_nil.weak fun σ H Q ⟨F, β, om, sl, M, V, R⟩ => (show Res E (ret () om) F H β _ from R).now M []
theorem qj_str {x : Str} {j p} (hr : PJ X 2000 es (tM E m)) (hx : x.length ≤ 2000 := by decide) (hs : evalEach (.Constant (.str x) j p :: es) X.env = eval (.Constant (.str x) j p) X.env :: evalEach es X.env := by rfl) : PJ X 2000 (.Constant (.str x) j p :: es) (tM E m) := (pj_cons pe_str hr hs).weak fun σ H Q h => ⟨⟨x, rfl, hx⟩, h⟩
theorem qj_int {p : Pos} (he : PE X e (tE E f)) (hr : PJ X 2000 es (tM E m)) (hs : evalEach (.FormattedValue e (-1) none p :: es) X.env = eval (.FormattedValue e (-1) none p) X.env :: evalEach es X.env := by rfl) : PJ X 2000 (.FormattedValue e (-1) none p :: es) (tM E (mInt f m)) := (pj_cons (pe_fmt he) hr hs).weak fun σ H Q ⟨F, β, om, sl, M, V, R⟩ => by
  refine ⟨F, β, om, sl, M, V, R.bind fun w om1 F1 H1 β1 g1 M1 R1 v rv => ?_⟩
  cases rv with
  | int i =>
    obtain ⟨hc, R2⟩ := Res.chk R1
    have hl := small_log (of_decide_eq_true hc)
    exact ⟨i, rfl, hl, ⟨_, rfl, tFmt_part hl (by decide)⟩, F1, β1, om1, sl, M1, V.mono g1.toGr, R2⟩
  | _ => exact R1.elim
theorem qs_raise {x : Str} {C : Addr} {bmB : List Value} {B newId initId : String} {v₁ v₂ : Expr} {rest : List Expr} {np cpos p2 : Pos} (FB : ExcBaseFacts B newId initId bmB) (q : PySem.W.excIn X.K C bmB newId = true) (hg : Gl X x) (hm : X.mg x = some (.ref C)) (hc : X.calm = true) (hE : Throws X E)
    (h : PJ X 2000 (v₁ :: v₂ :: rest) (tM E m)) (hn : 2000 * (v₁ :: v₂ :: rest).length ≤ 16000000 := by decide)
    (hs : evalEach (v₁ :: v₂ :: rest) X.env = eval v₁ X.env :: eval v₂ X.env :: evalEach rest X.env := by rfl)
    (he : starEach [.JoinedStr (v₁ :: v₂ :: rest) p2] X.env = (false, eval (.JoinedStr (v₁ :: v₂ :: rest) p2) X.env) :: starEach [] X.env := by rfl) (hpl : (backTo cpos (starEach [] X.env)).any (·.1) = false := by rfl) (hdb : (x == ("__debug__" : Str)) = false := by decide) :
    PS X (.Raise (some (.Call (.Name x np) [.JoinedStr (v₁ :: v₂ :: rest) p2] [] cpos)) none pos) (tS E (sRaise C m)) := (ps_raise (E := E) FB q hg hm hc hE (pa_cons (pe_join h hn hs) pa_nil he) he hpl hdb).weak fun D σ H ⟨F, β, om, sl, M, V, R⟩ => by
  refine ⟨F, β, om, sl, M, V, R.bind fun w om1 F1 H1 β1 g1 M1 R1 vs z => ⟨by show 1 ≤ sizeLine; decide, ?_⟩⟩
  exact (show Res E (raise C om1) F1 H1 β1 (FlP D) from R1) F1 H1 β1 (Gx.refl _ _ _) M1
end

/-! ### defs -/
def kFin : Fl × Sl → Mw Wv
  | (.rt w, _) => ret w
  | (.nx, _) => ret .non
  | _ => nope
def startW (n : Nat) (ws : List Wv) : Sl := ws.map some ++ List.replicate (n - ws.length) none
def runB (n : Nat) (S : FS) (ws : List Wv) : Mw Wv := bnd (S (startW n ws)) kFin
theorem EnvOk.start {F : Hp} {β : List Addr} {ws : List Wv} {vs : List V} (N : List Str) (r : RWs F β ws vs) : EnvOk F β (L2.start N vs) (startW N.length ws) := by
  have hl := r.length
  refine ⟨by simp [L2.start, startW, hl], fun i w e => ?_⟩
  unfold startW at e
  unfold L2.start
  by_cases hi : i < ws.length
  · rw [List.getElem?_append_left (by simpa using hi), List.getElem?_map] at e
    match hw : ws[i]?, e with
    | none, e => exact nomatch e
    | some u, e =>
      have e : some (some u) = some (some w) := e
      cases e
      obtain ⟨v, ev, rv⟩ := r.get hw
      refine ⟨v, ?_, rv⟩
      rw [List.getElem?_append_left (by rw [List.length_map]; omega), List.getElem?_map, ev]
      rfl
  · rw [List.getElem?_append_right (by simpa using hi)] at e
    have := List.mem_of_getElem? e
    rw [List.mem_replicate] at this
    exact nomatch this.2
section
variable {P : Program} {w : World} {K : PySem.W.Frag} {mg : Str → Option Value} {base : Heap}
theorem fn_ok {x qual : Str} {st : Stmt} {f : Addr} {fd : FuncData} {N ps : List Str} {k : Nat} {S : FS} (F : Fun K x qual st f fd) (Sc : FnScope N ps (defScope st))
    (h : ∀ (cdv : Value) (A : Around) (outer : List Env) (s : Shared) (H : Hp) (E : XK), Room k (A.deeper (envOfC qual (defScope st) s.heap.objs.size f cdv)) → PSs (cxOf (CXw P w) P w K mg base N qual (defScope st) f cdv A outer s H E) (defBody st) (tS E S)) :
    FnOk P w K mg base (CXw P w) (k + 1) f fd ps (spM ps.length (runB N.length S)) := by
  refine F.okX Sc (fun vs H Q E h => ?_) (fun cdv A outer s H vs Q E hr hsp => ⟨_, h cdv A outer s H E hr, ?_⟩)
  · obtain ⟨F, β, om, ws, M, rs, hl, R⟩ := h
    rw [← rs.length, hl]
  · obtain ⟨F, β, om, ws, M, rs, hl, R⟩ := hsp
    refine ⟨F, β, om, _, M, EnvOk.start N rs, Res.bind (m := S (startW N.length ws)) (k := kFin) R fun y om1 F1 H1 β1 g1 M1 R1 => ?_⟩
    obtain ⟨fl, sl⟩ := y
    cases fl with
    | nx => exact fun σ' V' => (show Res E (ret Wv.non om1) F1 H1 β1 (PV Q) from R1).now M1 _ .non
    | bk => exact R1.elim
    | ct => exact R1.elim
    | rt u => exact (show Res E (ret u om1) F1 H1 β1 (PV Q) from R1).now M1
/-- another way to say what a def does -/
theorem FnOk.as {k n : Nat} {f : Addr} {fd : FuncData} {ps : List Str} {CX : CXT} {g g' : List Wv → Mw Wv} (F : FnOk P w K mg base CX k f fd ps (spM n g)) (h : ∀ ws om, ws.length = n → g' ws om ≠ none → g ws om = g' ws om) : FnOk P w K mg base CX k f fd ps (spM n g') :=
  F.imp fun vs H Q E ⟨F, β, om, ws, M, rs, hl, R⟩ => ⟨F, β, om, ws, M, rs, hl, by
    rw [h ws om hl (fun z => by rw [z] at R; exact R)]
    exact R⟩
end
end
end L2

set_option maxHeartbeats 4000000
/-! SORTING by asks: the tree of asks ends with a sorted permutation. -/
namespace L2
open PySem PySem.W PyProof.Rows
structure Swo (lt : Nat → Nat → Bool) : Prop where
  irr : ∀ a, lt a a = false
  tr : ∀ a b c, lt a b = true → lt b c = true → lt a c = true
  neg : ∀ a b c, lt a c = true → lt a b = true ∨ lt b c = true
def Hs {α : Type} (lt : Nat → Nat → Bool) (n : Nat) (Q : α → Prop) : KasT α → Prop
  | .ret a => Q a
  | .ask i j k => i < n ∧ j < n ∧ Hs lt n Q (k (lt i j))
theorem Hs.bind {α γ : Type} {lt : Nat → Nat → Bool} {n : Nat} {Q : γ → Prop} {f : α → KasT γ} : ∀ {t : KasT α}, Hs lt n (fun a => Hs lt n Q (f a)) t → Hs lt n Q (t.bind f)
  | .ret a, h => h
  | .ask i j k, ⟨h1, h2, h3⟩ => ⟨h1, h2, Hs.bind h3⟩
theorem Hs.mono {α : Type} {lt : Nat → Nat → Bool} {n : Nat} {Q Q' : α → Prop} (hq : ∀ a, Q a → Q' a) : ∀ {t : KasT α}, Hs lt n Q t → Hs lt n Q' t
  | .ret a, h => hq a h
  | .ask i j k, ⟨h1, h2, h3⟩ => ⟨h1, h2, Hs.mono hq h3⟩
theorem Hs.wp {α : Type} {lt : Nat → Nat → Bool} {n : Nat} {Q' : α → Prop} {Q : α → Shared → Prop} {cmp : Nat → Nat → (Bool → Shared → Prop) → Shared → Prop} {s : Shared} (hc : ∀ i j C, i < n → j < n → C (lt i j) s → cmp i j C s) (hq : ∀ a, Q' a → Q a s) : ∀ {t : KasT α}, Hs lt n Q' t → t.kasWp cmp Q s
  | .ret a, h => hq a h
  | .ask i j k, ⟨h1, h2, h3⟩ => hc i j _ h1 h2 (Hs.wp hc hq h3)
/-- the item at a place -/
def gN (p : Array Nat) (i : Nat) : Nat := p.getD i 0
theorem gN_of {p q : Array Nat} {i j : Nat} (h : p[i]? = q[j]?) : gN p i = gN q j := by
  unfold gN
  rw [Array.getD_eq_getD_getElem?, Array.getD_eq_getD_getElem?, h]
theorem gN_rev {p : Array Nat} {i j : Nat} (hj : j ≤ p.size) (k : Nat) : gN (kas_rev p i j) k = if i ≤ k ∧ k < j then gN p (i + j - 1 - k) else gN p k := by
  have e := getElem?_mirror_all (xs := p) (i := i) hj k
  unfold kas_rev
  split at e <;> rename_i h
  · rw [if_pos h]; exact gN_of e
  · rw [if_neg h]; exact gN_of e
theorem gN_bub {p : Array Nat} {k d : Nat} (hs : k < p.size) (hd : d ≤ k) (i : Nat) : gN (bubble p k d) i = if i = k - d then gN p k else if k - d < i ∧ i ≤ k then gN p (i - 1) else gN p i := by
  have e := getElem?_bubble hs d hd i
  by_cases h1 : i = k - d
  · rw [if_pos h1] at e ⊢; exact gN_of e
  · rw [if_neg h1] at e ⊢
    by_cases h2 : k - d < i ∧ i ≤ k
    · rw [if_pos h2] at e ⊢; exact gN_of e
    · rw [if_neg h2] at e ⊢; exact gN_of e
/-- a permutation of 0 .. n - 1 -/
structure Pm (n : Nat) (p : Array Nat) : Prop where
  size : p.size = n
  perm : p.toList.Perm (List.range n)
theorem Pm.lt {n : Nat} {p : Array Nat} (P : Pm n p) (hn : 0 < n) (i : Nat) : gN p i < n := by
  unfold gN
  by_cases h : i < p.size
  · rw [Array.getD_eq_getD_getElem?, Array.getElem?_eq_getElem h]
    have : p[i] ∈ p.toList := by simp
    have := P.perm.mem_iff.mp this
    simpa using this
  · rw [Array.getD_eq_getD_getElem?, Array.getElem?_eq_none (by omega)]
    exact hn
theorem Pm.rev {n : Nat} {p : Array Nat} (P : Pm n p) (i j : Nat) : Pm n (kas_rev p i j) :=
  ⟨(mirror_size _ _ _ _).trans P.size, (Array.perm_iff_toList_perm.mp (mirror_perm _ _ _ _)).trans P.perm⟩
theorem Pm.bub {n : Nat} {p : Array Nat} (P : Pm n p) (k d : Nat) : Pm n (bubble p k d) :=
  ⟨(bubble_size _ _ _).trans P.size, (Array.perm_iff_toList_perm.mp (bubble_perm _ _ _)).trans P.perm⟩
section
variable {lt : Nat → Nat → Bool} (O : Swo lt) {n : Nat}
/-- not behind -/
def le' (lt : Nat → Nat → Bool) (a b : Nat) : Prop := lt b a = false
include O
theorem le'_tr {a b c : Nat} (h1 : le' lt a b) (h2 : le' lt b c) : le' lt a c := by
  unfold le' at *
  cases h : lt c a with
  | false => rfl
  | true => rcases O.neg c b a h with z | z
            · rw [h2] at z; cases z
            · rw [h1] at z; cases z
theorem le'_of {a b : Nat} (h : lt a b = true) : le' lt a b := by
  unfold le'
  cases z : lt b a with
  | false => rfl
  | true => have := O.tr a b a h z; rw [O.irr] at this; cases this
theorem lt_le' {a b c : Nat} (h1 : lt a b = true) (h2 : le' lt b c) : lt a c = true := by
  rcases O.neg a c b h1 with z | z
  · exact z
  · rw [h2] at z; cases z
omit O in
def Srt (lt : Nat → Nat → Bool) (p : Array Nat) (m : Nat) : Prop := ∀ i j, i ≤ j → j < m → le' lt (gN p i) (gN p j)
omit O in
def Fal (lt : Nat → Nat → Bool) (p : Array Nat) (m : Nat) : Prop := ∀ i j, i ≤ j → j < m → le' lt (gN p j) (gN p i)
/-- one more at the end -/
theorem Srt.more {p : Array Nat} {m : Nat} (h1 : 1 ≤ m) (S : Srt lt p m) (h : le' lt (gN p (m - 1)) (gN p m)) : Srt lt p (m + 1) := fun i j hij hj => by
  by_cases hjm : j < m
  · exact S i j hij hjm
  · have : j = m := by omega
    subst this
    by_cases hi : i = j
    · subst hi; exact O.irr _
    · exact le'_tr O (S i (j - 1) (by omega) (by omega)) h
theorem Fal.more {p : Array Nat} {m : Nat} (h1 : 1 ≤ m) (S : Fal lt p m) (h : le' lt (gN p m) (gN p (m - 1))) : Fal lt p (m + 1) := fun i j hij hj => by
  by_cases hjm : j < m
  · exact S i j hij hjm
  · have : j = m := by omega
    subst this
    by_cases hi : i = j
    · subst hi; exact O.irr _
    · exact le'_tr O h (S i (j - 1) (by omega) (by omega))
theorem hs_asc {p : Array Nat} (P : Pm n p) (hn : 0 < n) {Q : Nat → Prop} : ∀ (f m : Nat), 1 ≤ m → Srt lt p m → (∀ k, m ≤ k → k ≤ m + f → Srt lt p k → (k < m + f → lt (gN p k) (gN p (k - 1)) = true) → Q k) → Hs lt n Q (kas_asc p f m)
  | 0, m, h1, S, q => q m (Nat.le_refl _) (Nat.le_refl _) S fun z => absurd z (Nat.lt_irrefl _)
  | f + 1, m, h1, S, q => by
    refine ⟨P.lt hn m, P.lt hn (m - 1), ?_⟩
    cases h : lt (p.getD m 0) (p.getD (m - 1) 0) with
    | true => dsimp only; rw [if_pos rfl]; exact q m (Nat.le_refl _) (by omega) S fun _ => h
    | false =>
      dsimp only; rw [if_neg Bool.false_ne_true]
      exact hs_asc P hn f (m + 1) (by omega) (S.more O h1 h) fun k h2 h3 S' h4 => q k (by omega) (by omega) S' fun z => h4 (by omega)
omit O in
/-- keys that are alike -/
def Eq' (lt : Nat → Nat → Bool) (a b : Nat) : Prop := le' lt a b ∧ le' lt b a
omit O in
/-- the last c of the first m are alike -/
def Tl (lt : Nat → Nat → Bool) (p : Array Nat) (m c : Nat) : Prop := ∀ i, m - c ≤ i → i < m → Eq' lt (gN p i) (gN p (m - 1))
theorem fal_rev {p : Array Nat} {m c : Nat} (hm : m ≤ p.size) (hc : c ≤ m) (S : Fal lt p m) (T : Tl lt p m c) : Fal lt (kas_rev p (m - c) m) m ∧ (∀ i, i < m → Eq' lt (gN (kas_rev p (m - c) m) i) (gN p i)) := by
  have e : ∀ i, i < m → Eq' lt (gN (kas_rev p (m - c) m) i) (gN p i) := fun i hi => by
    rw [gN_rev hm]
    by_cases h : m - c ≤ i ∧ i < m
    · rw [if_pos h]
      have t1 := T (m - c + m - 1 - i) (by omega) (by omega)
      have t2 := T i h.1 h.2
      exact ⟨le'_tr O t1.1 t2.2, le'_tr O t2.1 t1.2⟩
    · rw [if_neg h]; exact ⟨O.irr _, O.irr _⟩
  exact ⟨fun i j hij hj => le'_tr O (e j hj).1 (le'_tr O (S i j hij hj) (e i (by omega)).2), e⟩
theorem hs_desc (hn : 0 < n) {Q : Array Nat × Nat × Nat → Prop} : ∀ (f : Nat) (p : Array Nat) (m q : Nat), Pm n p → 1 ≤ m → q + 1 ≤ m → m + f ≤ n → Fal lt p m → Tl lt p m (q + 1) →
    (∀ p' k q', Pm n p' → m ≤ k → k ≤ m + f → q' + 1 ≤ k → Fal lt p' k → Tl lt p' k (q' + 1) → Q (p', k, q')) → Hs lt n Q (kas_desc f p m q)
  | 0, p, m, q, P, h1, hq, hm, S, T, k => k p m q P (Nat.le_refl _) (Nat.le_refl _) hq S T
  | f + 1, p, m, q, P, h1, hq, hm, S, T, k => by
    refine ⟨P.lt hn m, P.lt hn (m - 1), ?_⟩
    cases h : lt (p.getD m 0) (p.getD (m - 1) 0) with
    | true =>
      dsimp only; rw [if_pos rfl]
      have hl : le' lt (gN p m) (gN p (m - 1)) := le'_of O h
      by_cases hq0 : q > 0
      · rw [if_pos hq0]
        obtain ⟨S1, E1⟩ := fal_rev O (by rw [P.size]; omega) hq S T
        refine hs_desc hn f _ (m + 1) 0 (P.rev _ _) (by omega) (by omega) (by omega) (Fal.more O h1 S1 ?_) (fun i hi hi2 => ?_) fun p' k' q' P' a1 a2 a3 a4 a5 => k p' k' q' P' (by omega) (by omega) a3 a4 a5
        · have e2 : gN (kas_rev p (m - (q + 1)) m) m = gN p m := by rw [gN_rev (by rw [P.size]; omega), if_neg (by omega)]
          rw [e2]
          exact le'_tr O hl (E1 (m - 1) (by omega)).2
        · have : i = m + 1 - 1 := by omega
          rw [this]; exact ⟨O.irr _, O.irr _⟩
      · rw [if_neg hq0]
        refine hs_desc hn f _ (m + 1) 0 P (by omega) (by omega) (by omega) (Fal.more O h1 S hl) (fun i hi hi2 => ?_) fun p' k' q' P' a1 a2 a3 a4 a5 => k p' k' q' P' (by omega) (by omega) a3 a4 a5
        have : i = m + 1 - 1 := by omega
        rw [this]; exact ⟨O.irr _, O.irr _⟩
    | false =>
      dsimp only; rw [if_neg Bool.false_ne_true]
      refine ⟨P.lt hn (m - 1), P.lt hn m, ?_⟩
      cases h2 : lt (p.getD (m - 1) 0) (p.getD m 0) with
      | true => dsimp only; rw [if_pos rfl]; exact k p m q P (Nat.le_refl _) (by omega) hq S T
      | false =>
        dsimp only; rw [if_neg Bool.false_ne_true]
        have e : Eq' lt (gN p m) (gN p (m - 1)) := ⟨h2, h⟩
        refine hs_desc hn f p (m + 1) (q + 1) P (by omega) (by omega) (by omega) (Fal.more O h1 S e.1) (fun i hi hi2 => ?_) fun p' k' q' P' a1 a2 a3 a4 a5 => k p' k' q' P' (by omega) (by omega) a3 a4 a5
        show Eq' lt (gN p i) (gN p m)
        by_cases him : i = m
        · rw [him]; exact ⟨O.irr _, O.irr _⟩
        · have t := T i (by omega) (by omega)
          exact ⟨le'_tr O t.1 e.2, le'_tr O e.1 t.2⟩
theorem srt_rev {p : Array Nat} {m : Nat} (hm : m ≤ p.size) (S : Fal lt p m) : Srt lt (kas_rev p 0 m) m := fun i j hij hj => by
  rw [gN_rev hm, gN_rev hm, if_pos (by omega), if_pos (by omega)]
  exact S _ _ (by omega) (by omega)
theorem hs_tail {p : Array Nat} {m : Nat} (P : Pm n p) (hn : 0 < n) (h1 : 1 ≤ m) (hm : m ≤ n) (S : Fal lt p m) {Q : Nat × Array Nat → Prop} (k : ∀ c p', Pm n p' → 1 ≤ c → c ≤ n → Srt lt p' c → Q (c, p')) : Hs lt n Q (kas_tail3 m n p) := by
  unfold kas_tail3
  refine Hs.bind (hs_asc O (P.rev 0 m) hn (n - m) m h1 (srt_rev O (by rw [P.size]; exact hm) S) fun c h2 h3 S' _ => ?_)
  exact k c _ (P.rev 0 m) (by omega) (by omega) S'
theorem hs_descPart {p : Array Nat} {m : Nat} (P : Pm n p) (hn : 0 < n) (h1 : 1 ≤ m) (hm : m + 1 ≤ n) (S : Fal lt p (m + 1)) {Q : Nat × Array Nat → Prop} (k : ∀ c p', Pm n p' → 1 ≤ c → c ≤ n → Srt lt p' c → Q (c, p')) : Hs lt n Q (kas_descPart m n p) := by
  unfold kas_descPart
  refine Hs.bind (hs_desc O hn _ p (m + 1) 0 P (by omega) (by omega) (by omega) S (fun i hi hi2 => ?_) fun p' c q P' a1 a2 a3 a4 a5 => ?_)
  · have : i = m + 1 - 1 := by omega
    rw [this]; exact ⟨O.irr _, O.irr _⟩
  · dsimp only
    by_cases hq : q > 0
    · rw [if_pos hq]
      exact hs_tail O (P'.rev _ _) hn (by omega) (by omega) (fal_rev O (by rw [P'.size]; omega) a3 a4 a5).1 k
    · rw [if_neg hq]
      exact hs_tail O P' hn (by omega) (by omega) a4 k
theorem hs_count {p : Array Nat} (P : Pm n p) (hn : 0 < n) {Q : Nat × Array Nat → Prop} (k : ∀ c p', Pm n p' → 1 ≤ c → c ≤ n → Srt lt p' c → Q (c, p')) : Hs lt n Q (kas_count n p) := by
  unfold kas_count
  refine Hs.bind (hs_asc O P hn (n - 1) 1 (Nat.le_refl _) (fun i j hij hj => ?_) fun m h1 h2 S h3 => ?_)
  · have : i = j := by omega
    rw [this]; exact O.irr _
  · by_cases he : (m == n) = true
    · rw [if_pos he]
      exact k m p P h1 (by have := eq_of_beq he; omega) S
    · rw [if_neg he]
      have hne : m ≠ n := fun z => he (beq_iff_eq.mpr z)
      have hlt := h3 (by omega)
      by_cases hm : m > 1
      · rw [if_pos hm]
        refine ⟨P.lt hn 0, P.lt hn (m - 1), ?_⟩
        cases hc : lt (p.getD 0 0) (p.getD (m - 1) 0) with
        | true => dsimp only; rw [if_pos rfl]; exact k m p P h1 (by omega) S
        | false =>
          dsimp only; rw [if_neg Bool.false_ne_true]
          have alike : ∀ i, i < m → Eq' lt (gN p i) (gN p (m - 1)) := fun i hi => ⟨S i (m - 1) (by omega) (by omega), le'_tr O (show le' lt (gN p (m - 1)) (gN p 0) from hc) (S 0 i (by omega) hi)⟩
          have F : Fal lt p m := fun i j hij hj => le'_tr O (alike j hj).1 (alike i (by omega)).2
          obtain ⟨F1, E1⟩ := fal_rev O (c := m) (by rw [P.size]; omega) (Nat.le_refl _) F fun i _ hi => alike i hi
          rw [Nat.sub_self] at F1 E1
          refine hs_descPart O (P.rev 0 m) hn (by omega) (by omega) (Fal.more O (by omega) F1 ?_) k
          have e2 : gN (kas_rev p 0 m) m = gN p m := by rw [gN_rev (by rw [P.size]; omega), if_neg (by omega)]
          rw [e2]
          exact le'_tr O (le'_of O hlt) (E1 (m - 1) (by omega)).2
      · rw [if_neg hm]
        have hm1 : m = 1 := by omega
        subst hm1
        refine hs_descPart O P hn (by omega) (by omega) (Fal.more O (by omega) (fun i j hij hj => ?_) (le'_of O hlt)) k
        have : i = j := by omega
        rw [this]; exact O.irr _
theorem hs_place {p : Array Nat} {k : Nat} (P : Pm n p) (hn : 0 < n) (S : Srt lt p k) {Q : Nat → Prop} : ∀ (f l r : Nat), l ≤ r → r ≤ k → r - l ≤ f → (∀ i, i < l → le' lt (gN p i) (gN p k)) → (∀ i, r ≤ i → i < k → lt (gN p k) (gN p i) = true) →
    (∀ m, m ≤ k → (∀ i, i < m → le' lt (gN p i) (gN p k)) → (∀ i, m ≤ i → i < k → lt (gN p k) (gN p i) = true) → Q m) → Hs lt n Q (kas_place p k f l r)
  | 0, l, r, h1, h2, h3, a, b, q => q l (by omega) a fun i hi hk => b i (by omega) hk
  | f + 1, l, r, h1, h2, h3, a, b, q => by
    unfold kas_place
    by_cases hlr : l ≥ r
    · rw [if_pos hlr]
      exact q l (by omega) a fun i hi hk => b i (by omega) hk
    · rw [if_neg hlr]
      refine ⟨P.lt hn k, P.lt hn _, ?_⟩
      cases hc : lt (p.getD k 0) (p.getD ((l + r) / 2) 0) with
      | true =>
        dsimp only; rw [if_pos rfl]
        refine hs_place P hn S f l ((l + r) / 2) (by omega) (by omega) (by omega) a (fun i hi hk => lt_le' O hc (S _ _ hi hk)) q
      | false =>
        dsimp only; rw [if_neg Bool.false_ne_true]
        refine hs_place P hn S f ((l + r) / 2 + 1) r (by omega) (by omega) (by omega) (fun i hi => le'_tr O (S i ((l + r) / 2) (by omega) (by omega)) hc) b q
theorem srt_bub {p : Array Nat} {k m : Nat} (hk : k < p.size) (hm : m ≤ k) (S : Srt lt p k) (a : ∀ i, i < m → le' lt (gN p i) (gN p k)) (b : ∀ i, m ≤ i → i < k → lt (gN p k) (gN p i) = true) : Srt lt (bubble p k (k - m)) (k + 1) := fun i j hij hj => by
  have e : k - (k - m) = m := by omega
  rw [gN_bub hk (by omega), gN_bub hk (by omega), e]
  by_cases hi : i = m
  · rw [if_pos hi]
    by_cases hj2 : j = m
    · rw [if_pos hj2]; exact O.irr _
    · rw [if_neg hj2, if_pos (by omega)]; exact le'_of O (b _ (by omega) (by omega))
  · rw [if_neg hi]
    by_cases hi2 : m < i ∧ i ≤ k
    · rw [if_pos hi2, if_neg (by omega), if_pos (by omega)]; exact S _ _ (by omega) (by omega)
    · rw [if_neg hi2]
      by_cases hj2 : j = m
      · rw [if_pos hj2]; exact a i (by omega)
      · rw [if_neg hj2]
        by_cases hj3 : m < j ∧ j ≤ k
        · rw [if_pos hj3]; exact S _ _ (by omega) (by omega)
        · rw [if_neg hj3]; exact S _ _ hij (by omega)
theorem hs_bin (hn : 0 < n) {Q : Array Nat → Prop} : ∀ (f : Nat) (p : Array Nat) (k : Nat), Pm n p → k + f ≤ n → Srt lt p k → (∀ p', Pm n p' → Srt lt p' (k + f) → Q p') → Hs lt n Q (kas_bin f p k)
  | 0, p, k, P, h, S, q => q p P S
  | f + 1, p, k, P, h, S, q => by
    unfold kas_bin
    refine Hs.bind (hs_place O P hn S k 0 k (Nat.zero_le _) (Nat.le_refl _) (by omega) (fun i hi => absurd hi (Nat.not_lt_zero _)) (fun i h1 h2 => absurd h2 (by omega)) fun m hm a b => ?_)
    exact hs_bin hn f _ (k + 1) (P.bub _ _) (by omega) (srt_bub O (by rw [P.size]; omega) hm S a b) fun p' P' S' => q p' P' (by rw [show k + (f + 1) = k + 1 + f by omega]; exact S')
theorem hs_sort (hn : 0 < n) : Hs lt n (fun p => Pm n p ∧ Srt lt p n) (kas_sort n) := by
  unfold kas_sort
  have P0 : Pm n (List.toArray (List.range n)) := ⟨by simp, by simp⟩
  refine Hs.bind (hs_count O P0 hn fun c p' P h1 h2 S => ?_)
  dsimp only
  by_cases hc : c < n
  · rw [if_pos hc]
    have hm : max c 1 = c := by omega
    rw [hm]
    refine hs_bin O hn (n - c) p' c P (by omega) S fun p2 P2 S2 => ⟨P2, ?_⟩
    rw [show c + (n - c) = n by omega] at S2
    exact S2
  · rw [if_neg hc]
    have : c = n := by omega
    subst this
    exact ⟨P, S⟩
end
end L2

set_option maxHeartbeats 4000000
/-! THE FUNCTIONAL READING, 9: constants of the text, +, try, isinstance of exceptions, what a def leaves behind. -/
namespace L2
noncomputable section
open PySem PySem.Spec PyProof.Rows
section
variable {X : Cx} {E : XK} {e a b c o : Expr} {es : List Expr} {f fa fb fc fo : FE} {fs : FA} {pos p2 p p' : Pos}
theorem qe_cG {x : Str} {i : Int} (hg : Gl X x) (h : ∃ t, X.mg x = some (.int i t)) (hd : (x == ("__debug__" : Str)) = false := by decide) : PE X (.Name x pos) (tE E (fC (.int i))) :=
  let ⟨_, h⟩ := h; qe_c (pe_glob (v := .int i) hg h ⟨_, rfl⟩ hd) fun _ _ => .int i
/-! ### lists added -/
def rCatR : R2 := fun x y H Q => ∃ l b xs zs, x = .ref l ∧ y = .ref b ∧ Rd H l (.lst xs) ∧ Rd H b (.lst zs) ∧ xs.length + zs.length ≤ sizeLine ∧ ∀ p, H p = none → Q (.ref p) (upd H p (.lst (xs ++ zs)))
theorem op_catR : OpR X (binaryOp .Add) rCatR := by
  intro pins s σ H x y v u Q I rx ry h
  obtain ⟨l, b, xs, zs, rfl, rfl, hl, hb, hz, q⟩ := h
  cases rx
  cases ry
  obtain ⟨_, its, n, r, e1⟩ := hl.ok I.hok
  obtain ⟨_, jts, m, r', e2⟩ := hb.ok I.hok
  have l1 := r.length
  have l2 := r'.length
  refine PySem.P.add_list e1 e2 ?_ (by simp only [List.size_toArray]; omega)
  have ej : its.toArray ++ jts.toArray = (its ++ jts).toArray := by simp
  rw [ej]
  exact ⟨.ref _, _, I.lnew (t' := s.toks) (r.append r') (by rw [List.length_append]; exact hz), rfl, q _ I.fresh⟩
def kCat (x y : Wv) : Mw Wv := fun om => match x, y with
  | .lst ws, .lst us => if ws.length + us.length ≤ lim then some (.ok (.lst (ws ++ us)), om) else none
  | _, _ => none
theorem qe_cat (ha : PE X a (tE E fa)) (hb : PE X b (tE E fb)) : PE X (.BinOp a .Add b pos) (tE E (f2 kCat fa fb)) := qe_op op_catR (by
  intro F H β om x y v u Q M rx ry R
  cases rx <;> first | exact R.elim | skip
  cases ry <;> first | exact R.elim | skip
  rename_i a xs ws q rs a' zs us q' rs'
  have R : Res E (if ws.length + us.length ≤ lim then some (Except.ok (Wv.lst (ws ++ us)), om) else none) F H β (PV Q) := R
  by_cases hc : ws.length + us.length ≤ lim
  · rw [if_pos hc] at R
    have := lim_lt
    have := rs.length
    have := rs'.length
    refine ⟨a, a', xs, zs, rfl, rfl, Rd.same M.sub q, Rd.same M.sub q', by omega, fun p hp => ?_⟩
    obtain ⟨g, M'⟩ := M.newFx (o := .lst (xs ++ zs)) hp
    exact R _ _ _ g M' _ (.lst (.inl upd_same) ((rs.append rs').mono g.toGr))
  · rw [if_neg hc] at R; exact R.elim) ha hb
end

/-! ### try -/
def kUn (i : Nat) : Fl × Sl → Mw (Fl × Sl) := fun x => ret (x.1, x.2.set i none)
def sTry (caught : Addr → Bool) (i : Nat) (S suite : FS) : FS := fun sl om => match S sl om with
  | some (.error C, om') => if caught C = true then bnd (calmly (suite (sl.set i (some (.o om'.length))))) (kUn i) (om' ++ [.exc C]) else none
  | r => r
section
variable {X : Cx} {E : XK} {pins : List (Addr × Obj)} {σ : St} {e o : Expr} {es : List Expr} {st : Stmt} {f fo : FE} {fs : FA} {S S1 S2 : FS} {c : FT} {pos : Pos}
theorem PSat.weak {t t' : TS} (h : PSat X pins σ st t) (w : ∀ D H, t' D σ H → t D σ H) : PSat X pins σ st t' := fun s H D I q => h s H D I (w D H q)
theorem PEat.weak {t t' : TE} (h : PEat X pins σ e t) (w : ∀ H Q, t' σ H Q → t σ H Q) : PEat X pins σ e t' := fun s H Q I q => h s H Q I (w H Q q)
theorem qs_ifAt {t : Expr} {a b : List Stmt} (hc : PT X t (tT E c)) (ha : PSsAt X pins σ a (tS E S1)) (hb : PSsAt X pins σ b (tS E S2)) : PSat X pins σ (.If t a b pos) (tS E (sIf c S1 S2)) := (ps_ifAt hc ha hb).weak fun D H h => tS_if h
theorem qs_exprAt (he : PEat X pins σ e (tE E f)) (hs : swapsWith e none pos.line X.env = pure false := by rfl) : PSat X pins σ (.Expr e pos) (tS E (sExpr f)) := (ps_exprAt he hs).weak fun D H ⟨F, β, om, sl, M, V, R⟩ =>
  ⟨F, β, om, sl, M, V, R.bind fun x om1 F1 H1 β1 g1 M1 R1 v rv => (show Res E (ret (Fl.nx, sl) om1) F1 H1 β1 (FlP D) from R1).now M1 _ (V.mono g1.toGr)⟩
variable {CX : CXT} {k n : Nat} {fn C : Addr} {fd : FuncData} {ps : List Str} {g : List Wv → Mw Wv} {x m : Str}
theorem qe_methAt {pl : Sem Bool} {apos : Pos} (ho : PE X o (tE E fo)) (c : Cls X.K C) (hm : Meth X.K C m fn) (G : FnOk X.prog X.w X.K X.mg X.base CX k fn fd ps (spM n g)) (hr : Room k X.A) (hb : Binds X.K fd ps []) (hx : PassesAt CX X pins σ E) (ha : PA X (e :: es) (tA E fs))
    (hst : starEach (e :: es) X.env = (false, eval e X.env) :: starEach es X.env := by rfl) (hpl : (backTo pos (starEach es X.env)).any (·.1) = false := by rfl)
    (ht : eval (.Call (.Attribute o m apos) (e :: es) [] pos) X.env = (do
      let ov ← eval o X.env
      standAt apos.atName
      let (f, first) ← holding [ov] (getMethod ov m pl)
      callWith pos f first (backTo pos (starEach (e :: es) X.env)) (backToKw pos (keywordEach [] X.env))) := by rfl) :
    PEat X pins σ (.Call (.Attribute o m apos) (e :: es) [] pos) (tE E (fMeth C m n g fo fs)) := (pe_methAt ho c hm G hr hb .nil hx ha hst hpl ht).weak fun H Q h => tE_meth (dvs := []) h
theorem qs_try {P : Program} {w : World} {body : List Stmt} {n : Str} {np hpos : Pos} {b₀ : Stmt} {suite : List Stmt} {CE : Value} {i : Nat} {caught : Addr → Bool} (hX : X.prog = P ∧ X.w = w) (hex : X.ex = []) (hstk : X.stack = X.env :: X.outer ∧ X.env.frame = some X.env.locals)
    (hN : X.N.Nodup) (hi : X.N[i]? = some n) (hl : X.env.scope.names.lookup n = some .local) (hg : Gl X x) (hm : X.mg x = some CE) (hct : ∀ C, caught C = true → PySem.W.exmOne X.K (.ref C) CE = some true)
    (hb : ∀ (E : XK) (xe : Value → Shared → Prop) (pins : List (Addr × Obj)) (σ : St), PassesAt (CXw P w) (X.wish xe) pins σ E → PSsAt (X.wish xe) pins σ body (tS E S))
    (hs : ∀ a, PSs (X.held a) (b₀ :: suite) (tS E0 S2)) (hdb : (x == ("__debug__" : Str)) = false := by decide) :
    PS X (.Try body [.ExceptHandler (some (.Name x np)) (some n) (b₀ :: suite) hpos] [] [] pos) (tS E (sTry caught i S S2)) := by
  refine (ps_try (tb := fun E' => tS E' S) (ts := fun _ => tS E0 S2) hX hex hstk hN hi hl hg hm hb hs hdb).weak fun D σ H ⟨F, β, om, sl, M, V, R⟩ => ?_
  refine ⟨fun cls _ H' => ∃ C, cls = .ref C ∧ caught C = true ∧ ∃ F' β' om', MOk F' H' β' om' ∧ EnvOk F' β' σ sl ∧ Res E (bnd (calmly (S2 (sl.set i (some (.o om'.length))))) (kUn i) (om' ++ [.exc C])) F' H' β' (FlP D), ⟨F, β, om, sl, M, V, ?_⟩, ?_⟩
  · have R : Res E (match S sl om with | some (.error C, om') => if caught C = true then bnd (calmly (S2 (sl.set i (some (.o om'.length))))) (kUn i) (om' ++ [.exc C]) else none | r => r) F H β (FlP D) := R
    match hS : S sl om, R with
    | none, R => exact R.elim
    | some (.ok y, om'), R => exact R
    | some (.error C, om'), R =>
      intro F' H' β' g' M'
      by_cases hc : caught C = true
      · have R2 : Res E (bnd (calmly (S2 (sl.set i (some (.o om'.length))))) (kUn i) (om' ++ [.exc C])) F H β (FlP D) := by
          have := R
          dsimp only at this
          rw [if_pos hc] at this
          exact this
        exact ⟨C, rfl, hc, F', β', om', M', V.mono g'.toGr, Res.mono g' R2⟩
      · have := R
        dsimp only at this
        rw [if_neg hc] at this
        exact this.elim
  · rintro cls o H' ⟨C, rfl, hc, F', β', om', M', V', R'⟩
    refine ⟨C, rfl, hct C hc, fun a ha => ?_⟩
    obtain ⟨g2, M2, e2⟩ := M'.newOx (p := a) (o := excO a C) (x := .exc C) ha fun β'' _ => upd_same
    refine ⟨F', _, _, sl.set i (some (.o om'.length)), M2, (V'.mono g2.toGr).set i (.o e2), Res.calm (Res.mono g2 R') fun y om3 F3 H3 β3 g3 M3 R3 => ?_⟩
    obtain ⟨fl, sl2⟩ := y
    have R3 := (show Res E (ret (fl, sl2.set i none) om3) F3 H3 β3 (FlP D) from R3).now M3
    cases fl with
    | nx => exact fun σ' V3 => R3 _ (V3.setN i)
    | bk => exact fun σ' V3 => R3 _ (V3.setN i)
    | ct => exact fun σ' V3 => R3 _ (V3.setN i)
    | rt w => exact R3
end

/-! ### isinstance of a caught exception -/
structure ExcAll (K : PySem.W.Frag) (isE : Addr → Bool) (kit : Addr → Value → Bool) (Ds : List Value) : Prop where
  k : ∀ C, isE C = true → ExcK K C
  a : ∀ C D, isE C = true → D ∈ Ds → PySem.W.kitOne K (.ref C) D = some (kit C D)
def kIsE (isE : Addr → Bool) (kit : Addr → Value → Bool) (D : Value) (x : Wv) : Mw Wv := fun om => match x with
  | .o h => match om[h]? with
    | some (.exc C) => if isE C = true then some (.ok (.bl (kit C D)), om) else none
    | _ => none
  | _ => none
section
variable {X : Cx} {E : XK} {e : Expr} {f : FE} {pos p p2 : Pos} {isE : Addr → Bool} {kit : Addr → Value → Bool} {Ds : List Value}
theorem qe_isiE {x : Str} {D : Value} {dv : V} (k : ExcAll X.K isE kit Ds) (hg : Gl X "isinstance") (hm : X.mg "isinstance" = none) (he : PE X e (tE E f)) (hT : PE X (.Name x p2) (tC dv)) (hD : clsV dv = some D) (hm2 : D ∈ Ds)
    (h1 : starEach [e, .Name x p2] X.env = (false, eval e X.env) :: starEach [.Name x p2] X.env := by rfl) (h2 : starEach [.Name x p2] X.env = (false, eval (.Name x p2) X.env) :: starEach [] X.env := by rfl) (hpl : (backTo pos (starEach [.Name x p2] X.env)).any (·.1) = false := by rfl) :
    PE X (.Call (.Name "isinstance" p) [e, .Name x p2] [] pos) (tE E (f1 (kIsE isE kit D) f)) := (pe_callB call_isiE hg hm PyProof.Rows.boot_isinstance (pa_cons he (pa_cons hT pa_nil h2) h1) (by decide) (by decide) h1 hpl).weak fun σ H Q h => by
  refine tE_1 (r := fun v H1 Q => ∃ a C cv c b, [v, dv] = [.ref a, cv] ∧ H1 a = some (excO a C) ∧ ExcK X.K C ∧ clsV cv = some c ∧ PySem.W.kitOne X.K (.ref C) c = some b ∧ Q (.bl b) H1) ?_ h
  intro F H β om x v Q M rx R
  cases rx with
  | @o h a eb =>
    have R : Res E (match om[h]? with | some (.exc C) => if isE C = true then some (Except.ok (Wv.bl (kit C D)), om) else none | _ => none) F H β (PV Q) := R
    match hx : om[h]?, R with
    | none, R => exact R.elim
    | some (.ins _ _), R => exact R.elim
    | some (.lst _), R => exact R.elim
    | some (.dk _), R => exact R.elim
    | some (.dt _), R => exact R.elim
    | some (.exc C), R =>
      obtain ⟨a', ea, _, ho⟩ := M.at hx
      rw [eb] at ea; cases ea
      dsimp only at R
      by_cases hc : isE C = true
      · have R2 : Res E (ret (Wv.bl (kit C D)) om) F H β (PV Q) := by
          have := R
          rw [if_pos hc] at this
          exact this
        exact ⟨a, C, dv, D, _, rfl, ho, k.k C hc, hD, k.a C D hc hm2, R2.now M _ (.bl _)⟩
      · rw [if_neg hc] at R; exact R.elim
  | _ => exact R.elim
end
end
end L2

set_option maxHeartbeats 4000000
/-! THE FUNCTIONAL READING, 10: what a def made for itself is forgotten, lists that it made become data. -/
namespace L2
noncomputable section
open PySem PySem.Spec PyProof.Rows
mutual
def small (n : Nat) : Wv → Prop
  | .o h => h < n
  | .lst ws => smalls n ws
  | .tup ws => smalls n ws
  | _ => True
def smalls (n : Nat) : List Wv → Prop
  | [] => True
  | w :: r => small n w ∧ smalls n r
end
def smallOb (n : Nat) : Ob → Prop
  | .ins _ fs => ∀ p ∈ fs, small n p.2
  | .lst ws => smalls n ws
  | .dk kvs => ∀ p ∈ kvs, small n p.2
  | .dt kvs => ∀ p ∈ kvs, small n p.2
  | .exc _ => True
mutual
theorem RW.small {F : Hp} {β : List Addr} : ∀ {w : Wv} {v : V}, RW F β w v → small β.length w
  | _, _, .non => trivial
  | _, _, .bl _ => trivial
  | _, _, .int _ => trivial
  | _, _, .str _ => trivial
  | _, _, .lst _ r => RWs.small r
  | _, _, .tup _ r => RWs.small r
  | _, _, .o e => (List.getElem?_eq_some_iff.mp e).1
theorem RWs.small {F : Hp} {β : List Addr} : ∀ {ws : List Wv} {vs : List V}, RWs F β ws vs → smalls β.length ws
  | _, _, .nil => trivial
  | _, _, .cons h r => ⟨RW.small h, RWs.small r⟩
end
theorem RK.small {F : Hp} {β : List Addr} {κ : Type} : ∀ {ps : List (κ × Wv)} {qs : List (κ × V)}, RK F β ps qs → ∀ p ∈ ps, L2.small β.length p.2
  | _, _, .nil, _, hp => nomatch hp
  | _, _, .cons h r, p, hp => by
    rcases List.mem_cons.mp hp with rfl | hp
    · exact h.small
    · exact RK.small r p hp
theorem MOk.small {F H : Hp} {β : List Addr} {om : List Ob} (M : MOk F H β om) : ∀ x ∈ om, smallOb om.length x := fun x hx => by
  obtain ⟨i, hi⟩ := List.getElem?_of_mem hx
  obtain ⟨a, _, _, r⟩ := M.at hi
  rw [← M.len]
  cases x with
  | ins C fs => obtain ⟨_, _, _, r⟩ := r; exact r.small
  | lst ws => obtain ⟨_, _, r⟩ := r; exact r.small
  | dk kvs => obtain ⟨_, _, r⟩ := r; exact r.small
  | dt kvs => obtain ⟨_, _, r⟩ := r; exact r.small
  | exc C => trivial
mutual
inductive FzW (om : List Ob) (n : Nat) : Wv → Wv → Prop
  | same {w : Wv} (h : small n w) : FzW om n w w
  | own {h : Nat} {xs ys : List Wv} (hn : n ≤ h) (e : om[h]? = some (.lst xs)) (r : FzWs om n xs ys) : FzW om n (.o h) (.lst ys)
  | lst {xs ys : List Wv} (r : FzWs om n xs ys) : FzW om n (.lst xs) (.lst ys)
  | tup {xs ys : List Wv} (r : FzWs om n xs ys) : FzW om n (.tup xs) (.tup ys)
inductive FzWs (om : List Ob) (n : Nat) : List Wv → List Wv → Prop
  | nil : FzWs om n [] []
  | cons {x y : Wv} {xs ys : List Wv} (h : FzW om n x y) (r : FzWs om n xs ys) : FzWs om n (x :: xs) (y :: ys)
end
theorem FzWs.of_smalls {om : List Ob} {n : Nat} : ∀ {ws : List Wv}, smalls n ws → FzWs om n ws ws
  | [], _ => .nil
  | _ :: _, ⟨h, r⟩ => .cons (.same h) (FzWs.of_smalls r)
section
variable {F' F'' : Hp} {β β' : List Addr} {n : Nat} (same' : Same F' F'') (ext : ∀ (h : Nat), h < n → β'[h]? = β[h]?)
mutual
theorem RW.down (same' : Same F' F'') (ext : ∀ (h : Nat), h < n → β'[h]? = β[h]?) : ∀ {w : Wv} {v : V}, RW F' β' w v → L2.small n w → RW F'' β w v
  | _, _, .non, _ => .non
  | _, _, .bl b, _ => .bl b
  | _, _, .int i, _ => .int i
  | _, _, .str x, _ => .str x
  | _, _, .lst e r, hs => .lst (Rd.same same' e) (RWs.down same' ext r hs)
  | _, _, .tup e r, hs => .tup (same' _ _ e) (RWs.down same' ext r hs)
  | _, _, .o (h := h) e, hs => .o ((ext h hs).symm.trans e)
theorem RWs.down (same' : Same F' F'') (ext : ∀ (h : Nat), h < n → β'[h]? = β[h]?) : ∀ {ws : List Wv} {vs : List V}, RWs F' β' ws vs → smalls n ws → RWs F'' β ws vs
  | _, _, .nil, _ => .nil
  | _, _, .cons h r, hs => .cons (RW.down same' ext h hs.1) (RWs.down same' ext r hs.2)
end
theorem RK.down (same' : Same F' F'') (ext : ∀ (h : Nat), h < n → β'[h]? = β[h]?) {κ : Type} : ∀ {ps : List (κ × Wv)} {qs : List (κ × V)}, RK F' β' ps qs → (∀ p ∈ ps, L2.small n p.2) → RK F'' β ps qs
  | _, _, .nil, _ => .nil
  | _, _, .cons h r, hs => .cons (RW.down same' ext h (hs _ (.head _))) (RK.down same' ext r fun q hq => hs q (.tail _ hq))
variable {om : List Ob}
mutual
theorem FzW.rel (same' : Same F' F'') (ext : ∀ (h : Nat), h < n → β'[h]? = β[h]?) (own : ∀ h a xs, n ≤ h → β'[h]? = some a → om[h]? = some (.lst xs) → ∃ zs, F'' a = some (.lst zs) ∧ RWs F' β' xs zs) : ∀ {w w' : Wv} {v : V}, FzW om n w w' → RW F' β' w v → RW F'' β w' v
  | _, _, _, .same h, r => r.down same' ext h
  | _, _, _, .own hn e r, .o eb => let ⟨_, h1, h2⟩ := own _ _ _ hn eb e; .lst (.inl h1) (FzWs.rel same' ext own r h2)
  | _, _, _, .lst r, .lst e rs => .lst (Rd.same same' e) (FzWs.rel same' ext own r rs)
  | _, _, _, .tup r, .tup e rs => .tup (same' _ _ e) (FzWs.rel same' ext own r rs)
theorem FzWs.rel (same' : Same F' F'') (ext : ∀ (h : Nat), h < n → β'[h]? = β[h]?) (own : ∀ h a xs, n ≤ h → β'[h]? = some a → om[h]? = some (.lst xs) → ∃ zs, F'' a = some (.lst zs) ∧ RWs F' β' xs zs) : ∀ {ws ws' : List Wv} {vs : List V}, FzWs om n ws ws' → RWs F' β' ws vs → RWs F'' β ws' vs
  | _, _, _, .nil, .nil => .nil
  | _, _, _, .cons h r, .cons h' r' => .cons (FzW.rel same' ext own h h') (FzWs.rel same' ext own r r')
end
end
section
variable {F F' H H' : Hp} {β β' : List Addr} {om om1 l : List Ob}
/-- the new lists are frozen -/
def onlyL : Option HO → Option HO
  | some (.lst xs) => some (.lst xs)
  | _ => none
theorem onlyL_sub {x : Option HO} {o : HO} (h : onlyL x = some o) : x = some o := by
  unfold onlyL at h
  split at h
  · exact h
  · cases h
def frzN (F' H' : Hp) (new : List Addr) : Hp := fun b => if b ∈ new then onlyL (H' b) else F' b
theorem tidy_core (M : MOk F H β om) (g : Gx F F' H H' β β') (M' : MOk F' H' β' (om1 ++ l)) (hl : om1.length = om.length) (hs : ∀ x ∈ om1, smallOb om.length x) :
    ∃ F'', Gx F F'' H H' β β ∧ MOk F'' H' β om1 ∧ ∀ w w' v, FzW (om1 ++ l) om.length w w' → RW F' β' w v → RW F'' β w' v := by
  have hβ : β.length = om.length := M.len
  have hβ' : β'.length = om.length + l.length := by rw [M'.len, List.length_append, hl]
  have ext : ∀ (h : Nat), h < om.length → β'[h]? = β[h]? := fun h hh => by
    have e : β[h]? = some β[h] := List.getElem?_eq_getElem (by omega)
    rw [e]; exact g.pre h _ e
  have inNew : ∀ (h : Nat) (a : Addr), om.length ≤ h → β'[h]? = some a → a ∈ β'.drop om.length := fun h a hh e => by
    refine List.mem_of_getElem? (i := h - om.length) ?_
    rw [List.getElem?_drop]
    rw [show om.length + (h - om.length) = h by omega]
    exact e
  have ofNew : ∀ a, a ∈ β'.drop om.length → ∃ h, om.length ≤ h ∧ β'[h]? = some a := fun a ha => by
    obtain ⟨i, hi⟩ := List.getElem?_of_mem ha
    rw [List.getElem?_drop] at hi
    exact ⟨_, Nat.le_add_right _ _, hi⟩
  have oldNew : ∀ (h : Nat) (a : Addr), β[h]? = some a → a ∉ β'.drop om.length := fun h a e ha => by
    obtain ⟨j, hj, ej⟩ := ofNew a ha
    have hh : h < om.length := by rw [← hβ]; exact (List.getElem?_eq_some_iff.mp e).1
    have := ndx M'.nd ej (g.pre h a e)
    omega
  have newNone : ∀ a, a ∈ β'.drop om.length → H a = none := fun a ha => by
    rcases g.new a (List.mem_of_mem_drop ha) with h | h
    · obtain ⟨i, hi⟩ := List.getElem?_of_mem h
      exact absurd ha (oldNew i a hi)
    · exact h
  have same' : Same F' (frzN F' H' (β'.drop om.length)) := fun b o e => by
    unfold frzN
    by_cases hb : b ∈ β'.drop om.length
    · obtain ⟨j, _, ej⟩ := ofNew b hb
      rw [M'.free j b ej] at e; cases e
    · rw [if_neg hb]; exact e
  have sub' : Same (frzN F' H' (β'.drop om.length)) H' := fun b o e => by
    unfold frzN at e
    by_cases hb : b ∈ β'.drop om.length
    · rw [if_pos hb] at e; exact onlyL_sub e
    · rw [if_neg hb] at e; exact M'.sub b o e
  refine ⟨frzN F' H' (β'.drop om.length), ⟨⟨g.same.trans same', fun _ _ e => e⟩, g.keep, g.there, fun b hb => .inl hb, fun b o e => ?_⟩, ⟨sub', M.nd, by rw [hβ, hl], fun h a e => ?_, fun h a x e1 e2 => ?_⟩, ?_⟩
  · unfold frzN at e
    by_cases hb : b ∈ β'.drop om.length
    · exact .inr (newNone b hb)
    · rw [if_neg hb] at e; exact g.fnew b o e
  · unfold frzN
    rw [if_neg (oldNew h a e)]
    exact M'.free h a (g.pre h a e)
  · have hh : h < om1.length := (List.getElem?_eq_some_iff.mp e2).1
    have hx := M'.ob h a x (g.pre h a e1) (by rw [List.getElem?_append_left hh]; exact e2)
    have sx := hs x (List.mem_of_getElem? e2)
    cases x with
    | ins C fs => obtain ⟨dx, fs', h1, r⟩ := hx; exact ⟨dx, fs', h1, r.down same' ext sx⟩
    | lst ws => obtain ⟨xs, h1, r⟩ := hx; exact ⟨xs, h1, r.down same' ext sx⟩
    | dk kvs => obtain ⟨ks, h1, r⟩ := hx; exact ⟨ks, h1, r.down same' ext sx⟩
    | dt kvs => obtain ⟨ks, h1, r⟩ := hx; exact ⟨ks, h1, r.down same' ext sx⟩
    | exc C => exact hx
  · intro w w' v fz r
    refine FzW.rel same' ext (fun h a xs hn eb e => ?_) fz r
    obtain ⟨a', ea, _, zs, hz, rs⟩ := M'.at e
    rw [eb] at ea; cases ea
    refine ⟨zs, ?_, rs⟩
    unfold frzN
    rw [if_pos (inNew h _ hn eb), hz]
    rfl
end
inductive Tidy (om : List Ob) : Option (Except Addr Wv × List Ob) → Option (Except Addr Wv × List Ob) → Prop
  | same (r : Option (Except Addr Wv × List Ob)) : Tidy om r r
  | ok {w w' : Wv} {om1 l : List Ob} (hl : om1.length = om.length) (hs : ∀ x ∈ om1, smallOb om.length x) (fz : FzW (om1 ++ l) om.length w w') : Tidy om (some (.ok w, om1 ++ l)) (some (.ok w', om1))
  | err {C : Addr} {om1 l : List Ob} (hl : om1.length = om.length) (hs : ∀ x ∈ om1, smallOb om.length x) : Tidy om (some (.error C, om1 ++ l)) (some (.error C, om1))
theorem FnOk.tidy {P : Program} {w : World} {K : PySem.W.Frag} {mg : Str → Option Value} {base : Heap} {k n : Nat} {f : Addr} {fd : FuncData} {ps : List Str} {CX : CXT} {g g' : List Wv → Mw Wv} (F : FnOk P w K mg base CX k f fd ps (spM n g))
    (h : ∀ ws om, ws.length = n → (∀ x ∈ om, smallOb om.length x) → g' ws om ≠ none → Tidy om (g ws om) (g' ws om)) : FnOk P w K mg base CX k f fd ps (spM n g') :=
  F.imp fun vs H Q E ⟨F, β, om, ws, M, rs, hl, R⟩ => ⟨F, β, om, ws, M, rs, hl, by
    have t := h ws om hl M.small (fun z => by rw [z] at R; exact R)
    generalize g ws om = r at t
    generalize g' ws om = r' at t R
    cases t with
    | same => exact R
    | ok hl' hs fz =>
      intro F' H' β' g1 M' v rv
      obtain ⟨F'', g2, M2, rel⟩ := tidy_core M g1 M' hl' hs
      exact R F'' H' β g2 M2 v (rel _ _ v fz rv)
    | err hl' hs =>
      intro F' H' β' g1 M'
      obtain ⟨F'', g2, M2, _⟩ := tidy_core M g1 M' hl' hs
      exact R F'' H' β g2 M2⟩
end
end L2

set_option maxHeartbeats 4000000
/-! THE FUNCTIONAL READING, 11: sorted of pairs of ints. -/
namespace L2
noncomputable section
open PySem PySem.Spec PyProof.Rows PySem.W
def ltP (a b : Int × Int) : Bool := if a.1 = b.1 then decide (a.2 < b.2) else decide (a.1 < b.1)
theorem ltP_iff {a b : Int × Int} : ltP a b = true ↔ a.1 < b.1 ∨ (a.1 = b.1 ∧ a.2 < b.2) := by
  unfold ltP
  split
  · rw [decide_eq_true_iff]; omega
  · rw [decide_eq_true_iff]; omega
def ltAt (ps : List (Int × Int)) (i j : Nat) : Bool := ltP (ps.getD i (0, 0)) (ps.getD j (0, 0))
theorem swo_at (ps : List (Int × Int)) : Swo (ltAt ps) where
  irr := fun a => by
    cases h : ltAt ps a a with
    | false => rfl
    | true => have := ltP_iff.mp h; omega
  tr := fun a b c h1 h2 => by
    have h1 := ltP_iff.mp h1
    have h2 := ltP_iff.mp h2
    exact ltP_iff.mpr (by omega)
  neg := fun a b c h => by
    have h := ltP_iff.mp h
    by_cases hb : ltAt ps a b = true
    · exact .inl hb
    · refine .inr (ltP_iff.mpr ?_)
      have hb : ¬ (_ ∨ _) := fun z => hb (ltP_iff.mpr z)
      omega
section
variable {prog : Program} {w : World} {A : Around} {E : Value → Shared → Prop} {s : Shared}
/-- pairs of ints at their places -/
structure PrsAt (h : Heap) (as : List Addr) (ps : List (Int × Int)) : Prop where
  len : as.length = ps.length
  at' : ∀ (i : Nat) (a : Addr) (p : Int × Int), as[i]? = some a → ps[i]? = some p → ∃ t u, h.get? a = some { cls := .type "tuple", data := .seq #[.int p.1 t, .int p.2 u] }
theorem PrsAt.keep {h h' : Heap} {as : List Addr} {ps : List (Int × Int)} (x : PrsAt h as ps) (k : ∀ a ∈ as, ∀ o, h.get? a = some o → h'.get? a = some o) : PrsAt h' as ps :=
  ⟨x.len, fun i a p e1 e2 => let ⟨t, u, e⟩ := x.at' i a p e1 e2; ⟨t, u, k a (List.mem_of_getElem? e1) _ e⟩⟩
theorem ask_pair {a b : Addr} {x y : Int × Int} {t u t' u' : Tok} {C : Bool → Shared → Prop} (h1 : s.heap.get? a = some { cls := .type "tuple", data := .seq #[.int x.1 t, .int x.2 u] }) (h2 : s.heap.get? b = some { cls := .type "tuple", data := .seq #[.int y.1 t', .int y.2 u'] })
    (h : C (ltP x y) s) : wpAny (model prog w) A (keyLt' (tuples' true) (.ref a) (.ref b)) C E s := by
  refine kat_lt h1 rfl h2 rfl (kat_cons (wpAny_eqBool_int ?_))
  unfold ltP at h
  by_cases he : x.1 = y.1
  · rw [if_pos he] at h
    rw [show (x.1 == y.1) = true from beq_iff_eq.mpr he]
    refine kat_yes (kat_cons (wpAny_eqBool_int ?_))
    by_cases he2 : x.2 = y.2
    · rw [show (x.2 == y.2) = true from beq_iff_eq.mpr he2]
      rw [decide_eq_false (by omega)] at h
      exact kat_yes (kat_nil h)
    · rw [show (x.2 == y.2) = false from beq_eq_false_iff_ne.mpr he2]
      exact kat_no (kat_one _ _ (lt_int h))
  · rw [if_neg he] at h
    rw [show (x.1 == y.1) = false from beq_eq_false_iff_ne.mpr he]
    exact kat_no (oneLt_int h)
theorem kind_pair {as : List Addr} {ps : List (Int × Int)} {Q : SortKind → Shared → Prop} (pa : PrsAt s.heap as ps) (hn : 0 < ps.length) (h : Q (tuples' true) s) : wpAny (model prog w) A (keyKind' (as.map Value.ref).toArray) Q E s := by
  have key : ∀ (as : List Addr) (ps : List (Int × Int)), PrsAt s.heap as ps → ∃ fs, KatTups s.heap (as.map Value.ref) fs ∧ fs.length = ps.length ∧ ∀ v ∈ fs, ∃ i t, v = Value.int i t := by
    intro as
    induction as with
    | nil =>
      intro ps pa
      have : ps = [] := List.length_eq_zero_iff.mp pa.len.symm
      subst this
      exact ⟨[], KatTups.nil, rfl, fun v hv => nomatch hv⟩
    | cons a as ih =>
      intro ps pa
      match ps, pa with
      | [], pa => exact absurd pa.len (by simp)
      | p :: ps, pa =>
        obtain ⟨fs, h1, h2, h3⟩ := ih ps ⟨by have := pa.len; simpa using this, fun i a' p' e1 e2 => pa.at' (i + 1) a' p' (by simpa using e1) (by simpa using e2)⟩
        obtain ⟨t, u, e⟩ := pa.at' 0 a p rfl rfl
        refine ⟨.int p.1 t :: fs, KatTups.cons e rfl rfl rfl h1, by simp [h2], fun v hv => ?_⟩
        rcases List.mem_cons.mp hv with rfl | hv
        · exact ⟨_, _, rfl⟩
        · exact h3 v hv
  obtain ⟨fs, h1, h2, h3⟩ := key as ps pa
  refine kat_kind (T := .type "int") h1 (by omega) (fun v hv => ?_) rfl h
  obtain ⟨i, t, rfl⟩ := h3 v hv
  exact Looks.now
theorem sort_shell {a : Addr} {as : List Addr} {ps : List (Int × Int)} {n : Nat} {P : PySem.Fin → Shared → Prop} (ho : s.heap.get? a = some (seqObj "list" (as.map Value.ref).toArray n)) (pa : PrsAt s.heap as ps) (hna : a ∉ as) (h64 : as.length < 64)
    (fin : ∀ h' bs qs c, (∀ b o, b ≠ a → s.heap.get? b = some o → h'.get? b = some o) → h'.get? a = some (seqObj "list" (bs.map Value.ref).toArray c) → (∃ p : List Nat, p.Perm (List.range as.length) ∧ bs = p.map (fun i => as.getD i 0) ∧ qs = p.map (fun i => ps.getD i (0, 0))) → qs.Pairwise (fun x y => ltP y x = false) → P (.done (.ret .none)) { s with heap := h' }) :
    wpAny (model prog w) A (Builtin.«list.sort» ⟨[.ref a], []⟩) P E s := by
  have ha : a < s.heap.objs.size := Heap.lt_size ho
  have upd1 := Heap.SameBut.update s.heap a (Obj.mapSeq fun _ => (#[] : Array Value))
  obtain ⟨e1, g1⟩ : ∃ e1, (s.heap.update a (Obj.mapSeq fun _ => (#[] : Array Value))).get? a = some (seqObj "list" #[] e1) := ⟨_, get?_update_seq ho fun _ => #[]⟩
  have hvl : (as.map Value.ref).toArray.size = as.length := by simp
  rw [list_sort_plain]
  refine wpAny_bind (listItems_at ho rfl (wpAny_bind (listUpdate_at ho rfl (wpAny_bind (seqEpoch_at g1 rfl (wpAny_bind (wpAny_newTuple (wpAny_bind (wpAny_newList (wpAny_holding ?_) (Nat.zero_le _))) (by show (as.map Value.ref).length ≤ _; rw [List.length_map, sizeLine_eq]; omega))))) (by rw [hvl, sizeLine_eq]; omega) (Nat.zero_le _))))
  generalize hH : ((s.heap.update a (Obj.mapSeq fun _ => (#[] : Array Value))).push (seqObj "tuple" (as.map Value.ref).toArray 0)).push (seqObj "list" #[] 0) = h3
  have keep3 : ∀ b o, b ≠ a → s.heap.get? b = some o → h3.get? b = some o := fun b o hb e => by
    rw [← hH]
    exact Heap.get?_push_of_some _ (Heap.get?_push_of_some _ ((upd1.2 b hb).trans e))
  have g3 : h3.get? a = some (seqObj "list" #[] e1) := by rw [← hH]; exact Heap.get?_push_of_some _ (Heap.get?_push_of_some _ g1)
  have pa3 : PrsAt h3 as ps := pa.keep fun b hb o e => keep3 b o (fun z => hna (z ▸ hb)) e
  show wpAny (model prog w) A _ P E { s with heap := h3 }
  have hend : ∀ (bs : List Addr) (qs : List (Int × Int)) (st : SortSt), (arrOf st).map (·.2) = (bs.map Value.ref).toArray → bs.length ≤ as.length → failedOf st = none → (∃ p : List Nat, p.Perm (List.range as.length) ∧ bs = p.map (fun i => as.getD i 0) ∧ qs = p.map (fun i => ps.getD i (0, 0))) → qs.Pairwise (fun x y => ltP y x = false) →
      wpAny (model prog w) A (do
        let touched := (← seqEpoch a) != e1
        Builtin.List.listUpdate (.ref a) fun _ => (arrOf st).map (·.2)
        if let some e := failedOf st then rule "list.sort.comparison-raised"; throw e
        if touched then rule "list.sort.modified"; raiseError "ValueError" "list modified during sort"
        PySem.ret .none) P E { s with heap := h3 } := fun bs qs st hout hbl hf hp hs => by
    refine wpAny_bind (seqEpoch_at g3 rfl (wpAny_bind (listUpdate_at g3 rfl ?_ (Nat.zero_le _) (by rw [hout]; simp only [List.size_toArray, List.length_map]; rw [sizeLine_eq]; omega))))
    rw [hout, hf]
    obtain ⟨c2, g4⟩ : ∃ c2, (h3.update a (Obj.mapSeq fun _ => (bs.map Value.ref).toArray)).get? a = some (seqObj "list" (bs.map Value.ref).toArray c2) := ⟨_, get?_update_seq g3 fun _ => (bs.map Value.ref).toArray⟩
    have upd2 := Heap.SameBut.update h3 a (Obj.mapSeq fun _ => (bs.map Value.ref).toArray)
    simp only [bne_self_eq_false, Bool.false_eq_true, if_false]
    exact wpAny_pure (fin _ bs qs c2 (fun b o hb e => (upd2.2 b hb).trans (keep3 b o hb e)) g4 hp hs)
  by_cases h2 : as.length < 2
  · have h2' : (as.map Value.ref).toArray.size < 2 := by omega
    dsimp only
    rw [if_pos h2', if_pos h2']
    refine wpAny_bind (wpAny_pure ?_)
    rw [StateT.run_pure]
    refine wpAny_bind (wpAny_pure (hend as ps (SortSt.mk' general' ((as.map Value.ref).toArray.zip (as.map Value.ref).toArray) #[] 7 none) ?_ (Nat.le_refl _) rfl ⟨List.range as.length, List.Perm.refl _, ?_, ?_⟩ ?_))
    · show ((as.map Value.ref).toArray.zip (as.map Value.ref).toArray).map (·.2) = _
      apply Array.toList_inj.mp
      simp only [Array.toList_map, Array.toList_zip]
      exact List.map_snd_zip (Nat.le_refl _)
    · refine List.ext_getElem? fun i => ?_
      by_cases hi : i < as.length
      · simp [hi]
      · simp [hi]
    · refine List.ext_getElem? fun i => ?_
      have := pa.len
      by_cases hi : i < as.length
      · simp [hi, show i < ps.length by omega]
      · simp [hi, show ps.length ≤ i by omega]
    · have := pa.len
      match ps, this with
      | [], _ => exact List.Pairwise.nil
      | [_], _ => exact List.pairwise_singleton _ _
      | _ :: _ :: _, h => simp at h; omega
  · have h2' : ¬ (as.map Value.ref).toArray.size < 2 := by omega
    dsimp only
    rw [if_neg h2', if_neg h2']
    have hvs : (as.map Value.ref).length = as.length := by simp
    refine wpAny_bind (kind_pair (s := { s with heap := h3 }) pa3 (by have := pa.len; omega) ?_)
    have O := swo_at ps
    have tree := Hs.wp (Q := fun (p : Array Nat) s'' => s'' = { s with heap := h3 } ∧ Pm as.length p ∧ L2.Srt (ltAt ps) p as.length) (cmp := kas_ask prog w A (tuples' true) (as.map Value.ref)) (s := { s with heap := h3 })
      (fun i j C hi hj hC => by
        unfold kas_ask
        have gi : (as.map Value.ref).getD i Value.none = .ref as[i] := by simp [hi]
        have gj : (as.map Value.ref).getD j Value.none = .ref as[j] := by simp [hj]
        rw [gi, gj]
        have hl := pa.len
        obtain ⟨t, u, ei⟩ := pa3.at' i as[i] (ps[i]'(by omega)) (List.getElem?_eq_getElem hi) (List.getElem?_eq_getElem (by omega))
        obtain ⟨t', u', ej⟩ := pa3.at' j as[j] (ps[j]'(by omega)) (List.getElem?_eq_getElem hj) (List.getElem?_eq_getElem (by omega))
        refine ask_pair ei ej ?_
        have d1 : ps.getD i (0, 0) = ps[i]'(by omega) := by simp [show i < ps.length by omega]
        have d2 : ps.getD j (0, 0) = ps[j]'(by omega) := by simp [show j < ps.length by omega]
        unfold ltAt at hC
        rw [d1, d2] at hC
        exact hC) (fun p hp => ⟨rfl, hp⟩) (hs_sort O (n := as.length) (by omega))
    have tree2 : (kas_sort (as.map Value.ref).length).kasWp (kas_ask prog w A (tuples' true) (as.map Value.ref)) (fun (p : Array Nat) s'' => s'' = { s with heap := h3 } ∧ Pm as.length p ∧ L2.Srt (ltAt ps) p as.length) { s with heap := h3 } := by rw [hvs]; exact tree
    refine wpAny_bind (wpAny_mono (kat_run (Q := fun st' s' => s' = { s with heap := h3 } ∧ ∃ p : Array Nat, arrOf st' = p.map (kas_item ((as.map Value.ref).toArray.zip (as.map Value.ref).toArray)) ∧ failedOf st' = none ∧ Pm as.length p ∧ L2.Srt (ltAt ps) p as.length) rfl (by omega) (by omega)
      (fun p st' s' _ a2 a3 a4 => ⟨a4.1, p, a2, a3, a4.2.1, a4.2.2⟩) tree2) (fun r s' hr => ?_) fun _ _ e => e)
    obtain ⟨⟨⟩, st'⟩ := r
    obtain ⟨rfl, p, har, hf, hPm, hSr⟩ := hr
    have hout := kat_snds rfl har
    have hall : ∀ i ∈ p.toList, i < as.length := fun i hi => by have := hPm.perm.mem_iff.mp hi; simpa using this
    refine hend (p.toList.map fun i => as.getD i 0) (p.toList.map fun i => ps.getD i (0, 0)) st' ?_ (by rw [List.length_map, hPm.perm.length_eq, List.length_range]; exact Nat.le_refl _) hf ⟨p.toList, hPm.perm, rfl, rfl⟩ ?_
    · rw [hout, List.map_map]
      congr 1
      refine List.map_congr_left fun i hi => ?_
      have := hall i hi
      simp [this]
    · rw [List.pairwise_map]
      refine List.pairwise_iff_getElem.mpr fun i j hi hj hij => ?_
      have hpl : p.toList.length = as.length := by rw [hPm.perm.length_eq, List.length_range]
      have := hSr i j (by omega) (by omega)
      unfold le' gN ltAt at this
      have q1 : p.getD i 0 = p.toList[i] := by simp [Array.getD, show i < p.size by simpa using hi]
      have q2 : p.getD j 0 = p.toList[j] := by simp [Array.getD, show j < p.size by simpa using hj]
      rw [q1, q2] at this
      exact this
end
end
end L2

set_option maxHeartbeats 4000000
/-! THE FUNCTIONAL READING, 12: sorted(d.items()) of a dict of ints. -/
namespace L2
noncomputable section
open PySem PySem.Spec PyProof.Rows PySem.W
theorem lookup_zip {α : Type} : ∀ {as : List Addr} {ps : List α} {i : Nat} {a : Addr} {p : α}, as.Nodup → as[i]? = some a → ps[i]? = some p → (as.zip ps).lookup a = some p
  | [], _, _, _, _, _, e, _ => by simp at e
  | _ :: _, [], _, _, _, _, _, e => by simp at e
  | b :: as, q :: ps, 0, a, p, nd, e1, e2 => by
    simp at e1 e2
    subst e1 e2
    simp [List.lookup_cons]
  | b :: as, q :: ps, i + 1, a, p, nd, e1, e2 => by
    have e1 : as[i]? = some a := by simpa using e1
    have e2 : ps[i]? = some p := by simpa using e2
    have hb : (a == b) = false := beq_eq_false_iff_ne.mpr fun z => (List.nodup_cons.mp nd).1 (z ▸ List.mem_of_getElem? e1)
    rw [List.zip_cons_cons, List.lookup_cons, hb]
    exact lookup_zip (List.nodup_cons.mp nd).2 e1 e2
theorem lookup_zip_mem {α : Type} : ∀ {as : List Addr} {ps : List α} {a : Addr} {p : α}, (as.zip ps).lookup a = some p → ∃ i : Nat, as[i]? = some a ∧ ps[i]? = some p
  | [], _, _, _, e => by simp at e
  | _ :: _, [], _, _, e => by simp at e
  | b :: as, q :: ps, a, p, e => by
    rw [List.zip_cons_cons, List.lookup_cons] at e
    cases hb : (a == b) with
    | true => rw [hb] at e; cases e; exact ⟨0, by simp [eq_of_beq hb], rfl⟩
    | false =>
      rw [hb] at e
      obtain ⟨i, h1, h2⟩ := lookup_zip_mem e
      exact ⟨i + 1, by simpa using h1, by simpa using h2⟩
theorem paired_get {α γ : Type} {R : α → γ → Prop} : ∀ {xs : List α} {ys : List γ} {i : Nat} {x : α} {y : γ}, Paired R xs ys → xs[i]? = some x → ys[i]? = some y → R x y
  | _, _, _, _, _, .nil, e, _ => by simp at e
  | _, _, 0, _, _, .cons h _, e1, e2 => by simp at e1 e2; subst e1 e2; exact h
  | _, _, i + 1, _, _, .cons _ r, e1, e2 => paired_get (i := i) r (by simpa using e1) (by simpa using e2)
theorem vals_refs : ∀ bs : List Addr, Vals (bs.map V.ref) (bs.map Value.ref)
  | [] => .nil
  | _ :: r => .cons rfl (vals_refs r)
def prT (p : Int × Int) : HO := .tup [.int p.1, .int p.2]
/-- the heap with pairs laid at as -/
def withP (H : Hp) (as : List Addr) (ps : List (Int × Int)) : Hp := fun b => match (as.zip ps).lookup b with
  | some p => some (prT p)
  | none => H b
def viewO (v d : Addr) : HO := .ext fun h => h.IsItemsView v d
section
variable {X : Cx} {E : XK}
def rItems : V → List V → Hp → VK → Prop := fun x vs H Q => ∃ d kvs, x = .ref d ∧ vs = [] ∧ H d = some (.dK kvs) ∧ ∀ p, H p = none → Q (.ref p) (upd H p (viewO p d))
theorem mt_items : MtM X "dict.items" rItems := by
  intro pins s σ H x vs v us Q I rx rv h
  obtain ⟨d, kvs, rfl, rfl, hd, q⟩ := h
  cases rx
  cases rv
  obtain ⟨z, hS, ws, r, m⟩ := I.hok d _ hd
  refine call_meetsIn PySem.F.slot_dict_items m.typeIs PySem.F.entry_dict_items (PySem.F.args_dict_items_1 _) (meets_dict_items (mixKind X.prog X.w) d hS) ⟨⟨ws, m⟩, ?_⟩
  refine ⟨.ref s.heap.objs.size, _, I.laid (o := viewO s.heap.objs.size d) (t' := s.toks) (fun b u e => Heap.get?_push_of_some _ e) (Nat.le_refl _) ?_, rfl, q _ I.fresh⟩
  exact ⟨⟨_, Heap.get?_push_size _ rfl, rfl, rfl⟩, ⟨_, Heap.get?_push_size _ rfl⟩, fun h1 h2 ⟨o, e1, e2, e3⟩ k => ⟨o, k o e1, e2, e3⟩⟩
def rSortV : List V → Hp → VK → Prop := fun xs H Q => ∃ v d ps, xs = [.ref v] ∧ H v = some (viewO v d) ∧ H d = some (.dK (ps.map fun (p : Int × Int) => ((Sum.inl p.1 : Key), V.int p.2))) ∧ ps.length < 64 ∧
  ∀ (B : Addr) (as bs : List Addr) (qs : List (Int × Int)), as.Nodup → as.length = ps.length → (∀ a ∈ as, H a = none) → H B = none → B ∉ as → (∃ p : List Nat, p.Perm (List.range as.length) ∧ bs = p.map (fun i => as.getD i 0) ∧ qs = p.map (fun i => ps.getD i (0, 0))) → qs.Pairwise (fun x y => ltP y x = false) →
    Q (.ref B) (upd (withP H as ps) B (.lst (bs.map V.ref)))
theorem call_sortV (hc : X.calm = true) : CallR X (.builtin "sorted") rSortV := by
  intro pins s σ H xs us Q I r h
  obtain ⟨v, d, ps, rfl, hv, hd, h64, q⟩ := h
  obtain ⟨u, rfl, ru⟩ := vals1 r
  cases (show u = Value.ref v from ru)
  obtain ⟨hview, _, _⟩ := I.hok v _ hv
  obtain ⟨z, hS, ws, rk, m⟩ := I.hok d _ hd
  obtain ⟨o, es, ep, hm⟩ := m
  have hwl : ws.length = ps.length := by have := rk.length; rw [List.length_map] at this; exact this.symm
  refine Calls.call_function_entry kind_sorted plain_sorted entry_sorted (args_sorted1 _) (show wpAny _ _ (Builtin.«sorted» _) _ _ _ from ?_)
  unfold Builtin.«sorted»
  refine wpAny_bind (m := checkCount "sorted" 1 1 _) (wpAny_pure (wpAny_bind (kdx_collect (A := X.A.in1) (knd := mixKind X.prog X.w) (kvs := ws) (ep := ep) (I.ok.hd hc) hview ⟨o, es, hm⟩ (by rw [sizeLine_eq]; omega) fun h' tk as hk hl hG => ?_)))
  have nd : as.Nodup := hG.rise.imp fun h => Nat.ne_of_lt h
  have hal : as.length = ps.length := by omega
  have pa : PrsAt h' as ps := ⟨hal, fun i a p e1 e2 => by
    obtain ⟨key, k, x, f1, f2, f3⟩ := hG.pairs i a e1
    have e3 : (ps.map fun (p : Int × Int) => ((Sum.inl p.1 : Key), V.int p.2))[i]? = some ((Sum.inl p.1 : Key), V.int p.2) := by rw [List.getElem?_map, e2]; rfl
    obtain ⟨g1, g2⟩ := paired_get rk e3 f1
    have g1 : (Sum.inl p.1 : Key) = k := g1
    subst g1
    obtain ⟨u, g2⟩ := (show ∃ u, x = Value.int p.2 u from g2)
    subst g2
    obtain ⟨t, g3⟩ := Value.isInt_shape (k := p.1) (v := key) f2
    subst g3
    exact ⟨t, u, f3⟩⟩
  have hB : ∀ a ∈ as, a < h'.objs.size := fun a ha => hG.there ha
  refine wpAny_bind (wpAny_newList ?_ (by rw [List.length_map, sizeLine_eq]; omega))
  generalize hH1 : h'.push { cls := .type "list", data := .seq (as.map Value.ref).toArray } = h1
  have k1 : ∀ b o, h'.get? b = some o → h1.get? b = some o := fun b o e => by rw [← hH1]; exact Heap.get?_push_of_some _ e
  have hoL : h1.get? h'.objs.size = some (seqObj "list" (as.map Value.ref).toArray 0) := by rw [← hH1]; exact Heap.get?_push_size _ rfl
  have hBn : h'.objs.size ∉ as := fun hm => Nat.lt_irrefl _ (hB _ hm)
  refine wpAny_bind (wpAny_holding (wpAny_call_entry slot_list_sort ⟨_, hoL, rfl⟩ entry_list_sort (sort_shell (s := { s with heap := h1, toks := tk }) hoL (pa.keep fun a _ o e => k1 a o e) hBn (by omega) fun h2 bs qs c k2 g2 hp hs => ⟨_, rfl, wpAny_pure ⟨_, rfl, ?_⟩⟩) (args_list_sort _)))
  have kp : ∀ b o, s.heap.get? b = some o → h2.get? b = some o := fun b o e => k2 b o (Nat.ne_of_lt (Heap.lt_size (hk b o e))) (k1 b o (hk b o e))
  have fa : ∀ a ∈ as, s.heap.get? a = none := fun a ha => Heap.get?_none_of_le (Nat.le_of_lt (hG.above a ha))
  have fH : ∀ a ∈ as, H a = none := fun a ha => I.hok.fresh (Nat.le_of_lt (hG.above a ha))
  have fB : H h'.objs.size = none := by
    cases hh : H h'.objs.size with
    | none => rfl
    | some ob =>
      obtain ⟨x, ex⟩ := (I.hok _ _ hh).ex
      exact absurd (Heap.lt_size (hk _ _ ex)) (Nat.lt_irrefl _)
  have inA : ∀ {b : Addr} {p : Int × Int}, (as.zip ps).lookup b = some p → b ∈ as := fun {b p} e => let ⟨i, h1, _⟩ := lookup_zip_mem e; List.mem_of_getElem? h1
  have old : ∀ b o, H b = some o → upd (withP H as ps) h'.objs.size (.lst (bs.map V.ref)) b = some o := fun b o e => by
    rw [upd_ne (ne_of_none e fB)]
    unfold withP
    match hx : (as.zip ps).lookup b with
    | some p => rw [fH b (inA hx)] at e; cases e
    | none => exact e
  have notOld : ∀ b o, s.heap.get? b = some o → H b = none → upd (withP H as ps) h'.objs.size (.lst (bs.map V.ref)) b = none := fun b o e n => by
    rw [upd_ne (Nat.ne_of_lt (Heap.lt_size (hk b o e)))]
    unfold withP
    match hx : (as.zip ps).lookup b with
    | some p => rw [fa b (inA hx)] at e; cases e
    | none => exact n
  refine ⟨.ref h'.objs.size, _, I.un (t' := tk) (H' := upd (withP H as ps) h'.objs.size (.lst (bs.map V.ref))) ⟨fun b o e n _ _ => kp b o e, fun b o e n _ _ => ⟨o.slots, kp b o e⟩, fun b o e n _ => notOld b o e n, fun b o e _ => ⟨o, kp b o e⟩, fun b xs e => old b _ e, fun b o u e => old b _ e, fun b xs e => ⟨#[], by rw [Array.append_empty]; exact old b _ e⟩⟩ (fun b o e => ?_), rfl, q _ as bs qs nd hal fH fB hBn hp hs⟩
  by_cases hb : b = h'.objs.size
  · subst hb
    rw [upd_same] at e
    cases e
    obtain ⟨p, hp1, hp2, hp3⟩ := hp
    refine ⟨?_, bs.map Value.ref, c, ?_, g2⟩
    · rw [List.length_map, hp2, List.length_map, hp1.length_eq, List.length_range, sizeLine_eq]; omega
    · exact vals_refs bs
  · rw [upd_ne hb] at e
    unfold withP at e
    match hx : (as.zip ps).lookup b, e with
    | some p, e =>
      have e : some (prT p) = some o := e
      cases e
      obtain ⟨i, h1', h2'⟩ := lookup_zip_mem hx
      obtain ⟨t, u, ho⟩ := pa.at' i b p h1' h2'
      exact ⟨by show 2 ≤ sizeLine; decide, [.int p.1 t, .int p.2 u], .cons ⟨t, rfl⟩ (.cons ⟨u, rfl⟩ .nil), ⟨_, k2 b _ hb (k1 b _ ho), rfl, _, rfl⟩⟩
    | none, e =>
      exact (I.hok b o e).stay (fun c w' _ q' => kp c w' q') (fun c q' => old c _ q') fun c xs q' => old c _ q'
/-! ### its meaning -/
def insP (p : Int × Int) : List (Int × Int) → List (Int × Int)
  | [] => [p]
  | q :: r => if ltP q p = true then q :: insP p r else p :: q :: r
def sortP : List (Int × Int) → List (Int × Int)
  | [] => []
  | p :: r => insP p (sortP r)
theorem insP_perm (p : Int × Int) : ∀ l, (insP p l).Perm (p :: l)
  | [] => List.Perm.refl _
  | q :: r => by
    unfold insP
    split
    · exact ((insP_perm p r).cons q).trans (List.Perm.swap p q r)
    · exact List.Perm.refl _
theorem sortP_perm : ∀ l, (sortP l).Perm l
  | [] => List.Perm.refl _
  | p :: r => (insP_perm p (sortP r)).trans ((sortP_perm r).cons p)
abbrev SrtP (l : List (Int × Int)) : Prop := l.Pairwise fun x y => ltP y x = false
theorem insP_srt (p : Int × Int) : ∀ l, SrtP l → SrtP (insP p l)
  | [], _ => List.pairwise_singleton _ _
  | q :: r, h => by
    have h' := List.pairwise_cons.mp h
    unfold insP
    by_cases hc : ltP q p = true
    · rw [if_pos hc]
      refine List.pairwise_cons.mpr ⟨fun y hy => ?_, insP_srt p r h'.2⟩
      rcases List.mem_cons.mp ((insP_perm p r).mem_iff.mp hy) with rfl | hy
      · cases z : ltP y q with
        | false => rfl
        | true => have a := ltP_iff.mp hc; have b := ltP_iff.mp z; omega
      · exact h'.1 y hy
    · rw [if_neg hc]
      refine List.pairwise_cons.mpr ⟨fun y hy => ?_, h⟩
      have hc' : ltP q p = false := by simpa using hc
      rcases List.mem_cons.mp hy with rfl | hy
      · exact hc'
      · cases z : ltP y p with
        | false => rfl
        | true =>
          have e := h'.1 y hy
          have a := ltP_iff.mp z
          have b : ¬ _ := fun w' => hc (ltP_iff.mpr w')
          have c : ¬ _ := fun w' => absurd (ltP_iff.mpr w') (by rw [e]; exact Bool.false_ne_true)
          omega
theorem sortP_srt : ∀ l, SrtP (sortP l)
  | [] => List.Pairwise.nil
  | p :: r => insP_srt p _ (sortP_srt r)
theorem srtP_uniq : ∀ {l m : List (Int × Int)}, l.Perm m → SrtP l → SrtP m → l = m
  | [], m, h, _, _ => (List.nil_perm.mp h).symm
  | x :: l, [], h, _, _ => absurd h (by simp)
  | x :: l, y :: m, h, h1, h2 => by
    have h1' := List.pairwise_cons.mp h1
    have h2' := List.pairwise_cons.mp h2
    have e : x = y := by
      have hx := h.mem_iff.mp (List.mem_cons_self (a := x) (l := l))
      have hy := h.mem_iff.mpr (List.mem_cons_self (a := y) (l := m))
      rcases List.mem_cons.mp hx with hx | hx
      · exact hx
      · rcases List.mem_cons.mp hy with hy | hy
        · exact hy.symm
        · have a := h1'.1 y hy
          have b := h2'.1 x hx
          have a' : ¬ _ := fun w' => absurd (ltP_iff.mpr w') (by rw [a]; exact Bool.false_ne_true)
          have b' : ¬ _ := fun w' => absurd (ltP_iff.mpr w') (by rw [b]; exact Bool.false_ne_true)
          exact Prod.ext (by omega) (by omega)
    subst e
    rw [srtP_uniq h.cons_inv h1'.2 h2'.2]
def prsOf : List (Key × Wv) → Option (List (Int × Int))
  | [] => some []
  | (.inl k, .int v) :: r => match prsOf r with
    | some ps => some ((k, v) :: ps)
    | none => none
  | _ => none
def prW (p : Int × Int) : Wv := .tup [.int p.1, .int p.2]
def kSortIt (d : Wv) : Mw (List Wv) := fun om => match d with
  | .o h => match om[h]? with
    | some (.dk kvs) => match prsOf kvs with
      | some ps => if ps.length < 64 then some (.ok ((sortP ps).map prW), om) else none
      | none => none
    | _ => none
  | _ => none
theorem prsOf_rel {F : Hp} {β : List Addr} : ∀ {kvs : List (Key × Wv)} {qs : List (Key × V)} {ps : List (Int × Int)}, RK F β kvs qs → prsOf kvs = some ps → qs = ps.map fun (p : Int × Int) => ((Sum.inl p.1 : Key), V.int p.2)
  | _, _, _, .nil, e => by cases e; rfl
  | (.inr _, _) :: _, _, _, .cons _ _, e => by cases e
  | (.inl k, w) :: r, _, _, .cons h rr, e => by
    cases h with
    | int v =>
      have e : (match prsOf r with | some ps => some ((k, v) :: ps) | none => none) = some _ := e
      match hr : prsOf r, e with
      | some ps, e =>
        have e : some ((k, v) :: ps) = some _ := e
        cases e
        rw [List.map_cons, ← prsOf_rel rr hr]
      | none, e => exact nomatch e
    | _ => exact nomatch e
/-- pairs are laid and frozen -/
theorem MOk.newP {F H : Hp} {β : List Addr} {om : List Ob} {as : List Addr} {ps : List (Int × Int)} (M : MOk F H β om) (hf : ∀ a ∈ as, H a = none) : Gx F (withP F as ps) H (withP H as ps) β β ∧ MOk (withP F as ps) (withP H as ps) β om := by
  have inA : ∀ {b : Addr} {p : Int × Int}, (as.zip ps).lookup b = some p → b ∈ as := fun {b p} e => let ⟨i, h1, _⟩ := lookup_zip_mem e; List.mem_of_getElem? h1
  have oldH : ∀ b o, H b = some o → withP H as ps b = some o := fun b o e => by
    unfold withP
    match hx : (as.zip ps).lookup b with
    | some p => rw [hf b (inA hx)] at e; cases e
    | none => exact e
  have oldF : ∀ b o, F b = some o → withP F as ps b = some o := fun b o e => by
    unfold withP
    match hx : (as.zip ps).lookup b with
    | some p => have := M.sub b o e; rw [hf b (inA hx)] at this; cases this
    | none => exact e
  have out : ∀ b, b ∉ as → withP F as ps b = F b ∧ withP H as ps b = H b := fun b hb => by
    unfold withP
    match hx : (as.zip ps).lookup b with
    | some p => exact absurd (inA hx) hb
    | none => exact ⟨rfl, rfl⟩
  have nb : ∀ (h : Nat) (a : Addr), β[h]? = some a → a ∉ as := fun h a e ha => by
    obtain ⟨x, hx⟩ := M.there e
    rw [hf a ha] at hx; cases hx
  have g : Gr F (withP F as ps) β β := ⟨oldF, fun _ _ e => e⟩
  refine ⟨⟨g, fun b o e _ => oldH b o e, fun b e => ?_, fun b hb => .inl hb, fun b o e => ?_⟩, ⟨fun b o e => ?_, M.nd, M.len, fun h a e => by rw [(out a (nb h a e)).1]; exact M.free h a e, fun h a x e1 e2 => (M.ob h a x e1 e2).mono g (out a (nb h a e1)).2⟩⟩
  · cases hh : H b with
    | none => rfl
    | some o => rw [oldH b o hh] at e; cases e
  · by_cases hb : b ∈ as
    · exact .inr (hf b hb)
    · rw [(out b hb).1] at e; exact .inl e
  · unfold withP at e ⊢
    match hx : (as.zip ps).lookup b, e with
    | some p, e => exact e
    | none, e => exact M.sub b o e
def fSortIt (k : List Wv → Mw Wv) (f : FE) : FE := fun sl => bnd (f sl) fun d => bnd (kSortIt d) k
variable {o : Expr} {f : FE} {k : List Wv → Mw Wv} {p pos apos cpos : Pos}
theorem qe_sortIt (hk : LayK E k) (hc : X.calm = true) (hg : Gl X "sorted") (hm : X.mg "sorted" = none) (ho : PE X o (tE E f)) (hbase : attributeBase o "items" X.env (eval o X.env) = eval o X.env := by rfl) (hline : (apos.endLine == cpos.line) = true := by rfl)
    (h0 : starEach [.Call (.Attribute o "items" apos) [] [] cpos] X.env = (false, eval (.Call (.Attribute o "items" apos) [] [] cpos) X.env) :: starEach [] X.env := by rfl) (hpl : (backTo pos (starEach [] X.env)).any (·.1) = false := by rfl) :
    PE X (.Call (.Name "sorted" p) [.Call (.Attribute o "items" apos) [] [] cpos] [] pos) (tE E (fSortIt k f)) :=
  (pe_callB (call_sortV hc) hg hm PyProof.Rows.boot_sorted (pa_cons (pe_bm0 PySem.F.plainAttrs_dict PySem.F.slot_dict_items PySem.F.type_dict_items mt_items ho hbase hline) pa_nil h0) (by decide) (by decide) h0 hpl).weak fun σ H Q ⟨F, β, om, sl, M, V, R⟩ => by
  refine ⟨F, β, om, sl, M, V, R.bind fun x om1 F1 H1 β1 g1 M1 R1 v rv => ?_⟩
  cases rv with
  | @o h a eb =>
    unfold bnd kSortIt at R1
    dsimp only at R1
    match hx : om1[h]?, R1 with
    | none, R1 => exact R1.elim
    | some (.ins _ _), R1 => exact R1.elim
    | some (.exc _), R1 => exact R1.elim
    | some (.lst _), R1 => exact R1.elim
    | some (.dt _), R1 => exact R1.elim
    | some (.dk kvs), R1 =>
      obtain ⟨a', ea, _, ks, hks, rs⟩ := M1.at hx
      rw [eb] at ea; cases ea
      dsimp only at R1
      match hp : prsOf kvs, R1 with
      | none, R1 => exact R1.elim
      | some ps, R1 =>
        dsimp only at R1
        by_cases hl : ps.length < 64
        · have R2 : Res E (k ((sortP ps).map prW) om1) F1 H1 β1 (PV Q) := by
            have := R1
            rw [if_pos hl] at this
            exact this
          have eks := prsOf_rel rs hp
          refine ⟨.inr (.inr (.inl ⟨rfl, .inl ⟨ks, hks⟩⟩)), a, ks, rfl, rfl, hks, fun v hv => ?_⟩
          have MU := M1.newU (o := viewO v a) hv
          have gU := M1.gxU (o := viewO v a) hv
          refine ⟨v, a, ps, rfl, upd_same, by rw [upd_ne (ne_of_none hks hv), hks, eks], hl, fun B as bs qs nd hal hf hB hBa ⟨p, hp1, hp2, hp3⟩ hs => ?_⟩
          obtain ⟨g3, M3⟩ := MU.newP (ps := ps) hf
          have eqs : qs = sortP ps := by
            refine srtP_uniq ?_ hs (sortP_srt ps)
            refine List.Perm.trans ?_ (sortP_perm ps).symm
            rw [hp3]
            refine (hp1.map _).trans ?_
            rw [hal]
            have : (List.range ps.length).map (fun i => ps.getD i (0, 0)) = ps := List.ext_getElem? fun i => by
              by_cases hi : i < ps.length
              · simp [hi]
              · simp [hi]
            rw [this]
          have rws : RWs (withP F1 as ps) β1 ((sortP ps).map prW) (bs.map L2.V.ref) := by
            rw [← eqs, hp3, hp2]
            have hall : ∀ i ∈ p, i < as.length := fun i hi => by have := hp1.mem_iff.mp hi; simpa using this
            clear hp1 hp2 hp3 eqs hs
            induction p with
            | nil => exact .nil
            | cons i p ih =>
              have hi := hall i (.head _)
              refine .cons ?_ (ih fun j hj => hall j (.tail _ hj))
              have e1 : as.getD i 0 = as[i] := by simp [hi]
              have e2 : ps.getD i (0, 0) = ps[i]'(by omega) := by simp [show i < ps.length by omega]
              show RW (withP F1 as ps) β1 (prW (ps.getD i (0, 0))) (L2.V.ref (as.getD i 0))
              rw [e1, e2]
              refine .tup ?_ (.cons (.int _) (.cons (.int _) .nil))
              unfold withP
              rw [lookup_zip nd (List.getElem?_eq_getElem hi) (List.getElem?_eq_getElem (by omega))]
              rfl
          exact (hk M3 rws (Res.mono (gU.trans g3) R2)).2 (by
            unfold withP
            match hx2 : (as.zip ps).lookup B with
            | some p => exact absurd (let ⟨i, h1, _⟩ := lookup_zip_mem hx2; List.mem_of_getElem? h1) hBa
            | none => exact hB)
        · rw [if_neg hl] at R1; exact R1.elim
  | _ => exact R1.elim
end
end
end L2

set_option maxHeartbeats 4000000
/-! Lemmas over the functional reading: loops, comprehensions, dicts of ints. -/
namespace L2
noncomputable section
open PySem
theorem compW_pure {c : FT} {f : FE} {mk : Wv → Sl} {om : List Ob} (p : Wv → Bool) (g : Wv → Wv) : ∀ {l : List Wv}, (∀ w ∈ l, c (mk w) om = some (.ok (p w), om)) → (∀ w ∈ l, p w = true → f (mk w) om = some (.ok (g w), om)) → compW c f mk l om = some (.ok ((l.filter p).map g), om)
  | [], _, _ => rfl
  | w :: r, hc, hf => by
    have ih := compW_pure p g (l := r) (fun x hx => hc x (.tail _ hx)) (fun x hx => hf x (.tail _ hx))
    have h1 := hc w (.head _)
    show bnd (calmly (c (mk w))) (kOne (compW c f mk r) (f (mk w))) om = _
    cases hp : p w with
    | false => simp [bnd, calmly, h1, hp, kOne, ih, List.filter_cons]
    | true =>
      have h2 := hf w (.head _) hp
      simp [bnd, calmly, h1, hp, kOne, ih, h2, List.filter_cons, ret]
theorem forS_inv {T : TgW} {S : FS} (J : Sl → List Ob → Prop) : ∀ {l : List Wv} {sl : Sl} {om : List Ob}, (∀ w ∈ l, ∀ sl om, J sl om → ∃ sl1 fl sl2 om2, T w sl = some sl1 ∧ S sl1 om = some (.ok (fl, sl2), om2) ∧ (fl = .nx ∨ fl = .ct) ∧ J sl2 om2) → J sl om → ∃ sl' om', forS T S l sl om = some (.ok (.nx, sl'), om') ∧ J sl' om'
  | [], sl, om, _, j => ⟨sl, om, rfl, j⟩
  | w :: r, sl, om, h, j => by
    obtain ⟨sl1, fl, sl2, om2, h1, h2, h3, h4⟩ := h w (.head _) sl om j
    obtain ⟨sl', om', e, j'⟩ := forS_inv J (l := r) (fun x hx => h x (.tail _ hx)) h4
    refine ⟨sl', om', ?_, j'⟩
    show (match T w sl with | none => nope | some sl1 => bnd (S sl1) (kFor fun sl2 => forS T S r sl2)) om = _
    rw [h1]
    rcases h3 with rfl | rfl
    · simp [bnd, h2, kFor, e]
    · simp [bnd, h2, kFor, e]
theorem filter_rng1 (p : Wv → Bool) (n : Nat) : (rng1 n).filter p = ((List.range n).filter fun k => p (.int (k : Nat))).map fun (k : Nat) => Wv.int k := by
  unfold rng1
  rw [List.filter_map]
  rfl
theorem mem_rng1 {n : Nat} {w : Wv} (h : w ∈ rng1 n) : ∃ k, k < n ∧ w = .int (k : Nat) := by
  obtain ⟨k, hk, e⟩ := List.mem_map.mp h
  exact ⟨k, List.mem_range.mp hk, e.symm⟩
theorem rng1_len (n : Nat) : (rng1 n).length = n := by simp [rng1]

/-! a dict of ints -/
def kvsOf (us : List (Int × Int)) : List (Key × Wv) := us.map fun p => (.inl p.1, .int p.2)
theorem valW_us (us : List (Int × Int)) (k : Int) : valW (kvsOf us) (.inl k) = (us.lookup k).map Wv.int := by
  induction us with
  | nil => rfl
  | cons p us ih =>
    unfold valW kvsOf at ih ⊢
    rw [List.map_cons, List.find?_cons, List.lookup_cons]
    by_cases h : p.1 = k
    · simp [h]
    · have h' : (k == p.1) = false := beq_eq_false_iff_ne.mpr (Ne.symm h)
      have h2 : ¬ (Sum.inl p.1 : Key) = Sum.inl k := fun z => h (Sum.inl.inj z)
      simp only [h2, decide_false, h']
      exact ih
theorem putW_us {us : List (Int × Int)} {k : Int} (s : Int) (h : us.lookup k = none) : putW (kvsOf us) (.inl k) (.int s) = kvsOf (us ++ [(k, s)]) := by
  have : ((kvsOf us).any fun kv => decide (kv.1 = (Sum.inl k : Key))) = false := by
    have hv := valW_us us k
    rw [h] at hv
    unfold valW at hv
    cases hf : (kvsOf us).find? fun kv => decide (kv.1 = (Sum.inl k : Key)) with
    | some x => rw [hf] at hv; cases hv
    | none =>
      rw [List.any_eq_false]
      intro x hx
      exact List.find?_eq_none.mp hf x hx
  unfold putW
  rw [this, if_neg Bool.false_ne_true]
  simp [kvsOf]
theorem dropW_us (us : List (Int × Int)) (k : Int) : dropW (kvsOf us) (.inl k) = kvsOf (us.filter fun p => decide (p.1 ≠ k)) := by
  unfold dropW kvsOf
  rw [List.filter_map]
  congr 1
  refine List.filter_congr fun p _ => ?_
  show decide (¬ (Sum.inl p.1 : Key) = Sum.inl k) = decide (¬ p.1 = k)
  by_cases h : p.1 = k
  · simp [h]
  · have h2 : ¬ (Sum.inl p.1 : Key) = Sum.inl k := fun z => h (Sum.inl.inj z)
    rw [decide_eq_true h2, decide_eq_true h]
theorem prsOf_us : ∀ us : List (Int × Int), prsOf (kvsOf us) = some us
  | [] => rfl
  | p :: us => by
    show (match prsOf (kvsOf us) with | some ps => some ((p.1, p.2) :: ps) | none => none) = _
    rw [prsOf_us us]
theorem kvsOf_len (us : List (Int × Int)) : (kvsOf us).length = us.length := by simp [kvsOf]

/-! a row of sides, None or an int, against a dict of them -/
def sideW : Option Int → Wv
  | none => .non
  | some s => .int s
structure UR (us : List (Int × Int)) (f : List (Option Int)) : Prop where
  nd : (us.map (·.1)).Nodup
  mem : ∀ k s, (k, s) ∈ us ↔ 0 ≤ k ∧ f[k.toNat]? = some (some s)
def dueL (f : List (Option Int)) : List (Int × Int) := (List.range f.length).filterMap fun k => (f.getD k none).map fun s => ((k : Int), s)
theorem mem_dueL {f : List (Option Int)} {k s : Int} : (k, s) ∈ dueL f ↔ 0 ≤ k ∧ f[k.toNat]? = some (some s) := by
  unfold dueL
  rw [List.mem_filterMap]
  constructor
  · rintro ⟨j, hj, e⟩
    obtain ⟨t, ht, e2⟩ := Option.map_eq_some_iff.mp e
    cases e2
    have hj := List.mem_range.mp hj
    refine ⟨by omega, ?_⟩
    rw [Int.toNat_natCast]
    rw [List.getD_eq_getElem?_getD, List.getElem?_eq_getElem hj] at ht
    rw [List.getElem?_eq_getElem hj]
    simpa using ht
  · rintro ⟨h0, e⟩
    have hl := (List.getElem?_eq_some_iff.mp e).1
    refine ⟨k.toNat, List.mem_range.mpr hl, ?_⟩
    rw [List.getD_eq_getElem?_getD, e]
    simp; omega
theorem strict_uniq : ∀ {l m : List (Int × Int)}, l.Pairwise (fun x y => x.1 < y.1) → m.Pairwise (fun x y => x.1 < y.1) → (∀ p, p ∈ l ↔ p ∈ m) → l = m
  | [], [], _, _, _ => rfl
  | [], y :: m, _, _, h => absurd ((h y).mpr (.head _)) (by simp)
  | x :: l, [], _, _, h => absurd ((h x).mp (.head _)) (by simp)
  | x :: l, y :: m, h1, h2, h => by
    have h1' := List.pairwise_cons.mp h1
    have h2' := List.pairwise_cons.mp h2
    have e : x = y := by
      rcases List.mem_cons.mp ((h x).mp (.head _)) with hx | hx
      · exact hx
      · rcases List.mem_cons.mp ((h y).mpr (.head _)) with hy | hy
        · exact hy.symm
        · have a := h1'.1 y hy
          have b := h2'.1 x hx
          omega
    subst e
    congr 1
    refine strict_uniq h1'.2 h2'.2 fun p => ⟨fun hp => ?_, fun hp => ?_⟩
    · rcases List.mem_cons.mp ((h p).mp (.tail _ hp)) with rfl | hq
      · have := h1'.1 p hp; omega
      · exact hq
    · rcases List.mem_cons.mp ((h p).mpr (.tail _ hp)) with rfl | hq
      · have := h2'.1 p hp; omega
      · exact hq
theorem dueL_strict (f : List (Option Int)) : (dueL f).Pairwise (fun x y => x.1 < y.1) := by
  unfold dueL
  refine List.Pairwise.filterMap (R := (· < ·)) _ (fun a b hab x hx y hy => ?_) List.pairwise_lt_range
  obtain ⟨s, _, rfl⟩ := Option.map_eq_some_iff.mp hx
  obtain ⟨t, _, rfl⟩ := Option.map_eq_some_iff.mp hy
  show (a : Int) < b
  omega
theorem UR.sort {us : List (Int × Int)} {f : List (Option Int)} (u : UR us f) : sortP us = dueL f := by
  have hp := sortP_perm us
  have hn : ((sortP us).map (·.1)).Nodup := (hp.map _).nodup_iff.mpr u.nd
  refine strict_uniq ?_ (dueL_strict f) fun p => ?_
  · have hs := sortP_srt us
    have hn' := List.pairwise_map.mp hn
    refine (hs.and hn').imp fun {x y} h => ?_
    have a : ¬ _ := fun w' => absurd (ltP_iff.mpr w') (by rw [h.1]; exact Bool.false_ne_true)
    have b := h.2
    omega
  · obtain ⟨k, s⟩ := p
    rw [hp.mem_iff, u.mem, mem_dueL]
theorem lookup_mem {k s : Int} : ∀ {us : List (Int × Int)}, us.lookup k = some s → (k, s) ∈ us
  | [], e => by cases e
  | p :: us, e => by
    rw [List.lookup_cons] at e
    cases h : (k == p.1) with
    | true => rw [h] at e; cases e; rw [eq_of_beq h]; exact .head _
    | false => rw [h] at e; exact .tail _ (lookup_mem e)
theorem UR.lookup {us : List (Int × Int)} {f : List (Option Int)} (u : UR us f) {k : Nat} (hk : k < f.length) : us.lookup (k : Int) = f.getD k none := by
  rw [List.getD_eq_getElem?_getD, List.getElem?_eq_getElem hk]
  show us.lookup (k : Int) = f[k]
  cases h : f[k] with
  | none =>
    cases h2 : us.lookup (k : Int) with
    | none => rfl
    | some s =>
      have := (u.mem k s).mp (lookup_mem h2)
      rw [Int.toNat_natCast, List.getElem?_eq_getElem hk, h] at this
      simp at this
  | some s =>
    have hm : ((k : Int), s) ∈ us := (u.mem k s).mpr ⟨by omega, by rw [Int.toNat_natCast, List.getElem?_eq_getElem hk, h]⟩
    have nd := u.nd
    clear u h
    induction us with
    | nil => simp at hm
    | cons p us ih =>
      rw [List.lookup_cons]
      rcases List.mem_cons.mp hm with rfl | hm
      · simp
      · have nd' := List.nodup_cons.mp (show (p.1 :: us.map (·.1)).Nodup from nd)
        have hne : ((k : Int) == p.1) = false := beq_eq_false_iff_ne.mpr fun z => nd'.1 (List.mem_map.mpr ⟨_, hm, z⟩)
        rw [hne]
        exact ih hm nd'.2
theorem UR.put {us : List (Int × Int)} {f : List (Option Int)} (u : UR us f) {k : Nat} {s : Int} (hk : k < f.length) (h : f.getD k none = none) : UR (us ++ [((k : Int), s)]) (f.set k (some s)) := by
  have hno : ∀ t, ((k : Int), t) ∉ us := fun t ht => by
    have := (u.mem k t).mp ht
    rw [Int.toNat_natCast, List.getElem?_eq_getElem hk] at this
    rw [List.getD_eq_getElem?_getD, List.getElem?_eq_getElem hk] at h
    simp only [Option.getD_some] at h
    rw [h] at this
    simp at this
  refine ⟨?_, fun j t => ?_⟩
  · rw [List.map_append, List.nodup_append]
    refine ⟨u.nd, by simp, fun a ha b hb z => ?_⟩
    obtain ⟨p, hp, rfl⟩ := List.mem_map.mp ha
    have hb : b = (k : Int) := by simpa using hb
    exact hno p.2 (by rw [← hb, ← z]; exact hp)
  · rw [List.mem_append, u.mem]
    by_cases hj : j.toNat = k
    · subst hj
      rw [List.getElem?_set_self hk]
      constructor
      · rintro (⟨h0, e⟩ | e)
        · have := hno t (by rw [Int.toNat_of_nonneg h0]; exact (u.mem j t).mpr ⟨h0, e⟩)
          exact this.elim
        · simp at e
          exact ⟨by omega, by simp [e.2]⟩
      · rintro ⟨h0, e⟩
        simp at e
        right
        simp [e]; omega
    · rw [List.getElem?_set_ne (Ne.symm hj)]
      constructor
      · rintro (h | e)
        · exact h
        · simp at e; omega
      · exact fun h => .inl h
theorem UR.del {us : List (Int × Int)} {f : List (Option Int)} (u : UR us f) {k : Nat} (hk : k < f.length) : UR (us.filter fun p => decide (p.1 ≠ (k : Int))) (f.set k none) := by
  refine ⟨?_, fun j t => ?_⟩
  · exact (List.Sublist.map _ (List.filter_sublist)).nodup u.nd
  · rw [List.mem_filter, u.mem]
    by_cases hj : j.toNat = k
    · subst hj
      rw [List.getElem?_set_self hk]
      constructor
      · rintro ⟨⟨h0, _⟩, e⟩
        simp at e; omega
      · rintro ⟨_, e⟩; simp at e
    · rw [List.getElem?_set_ne (Ne.symm hj)]
      constructor
      · rintro ⟨h, _⟩; exact h
      · intro h; exact ⟨h, by simp; omega⟩
theorem UR.len {us : List (Int × Int)} {f : List (Option Int)} (u : UR us f) : us.length ≤ f.length := by
  rw [← (sortP_perm us).length_eq, u.sort]
  unfold dueL
  exact Nat.le_trans (List.length_filterMap_le _ _) (by simp)
theorem ofS_inj {a b : String} : (Str.ofString a = Str.ofString b) = (a = b) := by
  refine propext ⟨fun h => ?_, fun h => by rw [h]⟩
  rw [Str.ofString_eq_toList, Str.ofString_eq_toList] at h
  injection h with h
  have h := congrArg Array.toList h
  simp only at h
  have inj : ∀ {l m : List Char}, l.map Char.toNat = m.map Char.toNat → l = m := by
    intro l
    induction l with
    | nil => intro m e; cases m with | nil => rfl | cons _ _ => simp at e
    | cons x l ih =>
      intro m e
      cases m with
      | nil => simp at e
      | cons y m =>
        simp only [List.map_cons, List.cons.injEq] at e
        rw [ih e.2, Char.ext (UInt32.toNat_inj.mp e.1)]
  exact String.toList_inj.mp (inj h)
theorem ofS_beq {a b : String} : (Str.ofString a == Str.ofString b) = decide (a = b) := by
  rw [Bool.eq_iff_iff, beq_iff_eq, decide_eq_true_iff, ofS_inj]
theorem isNon_non : isNon .non = true := rfl
theorem isNon_int (i : Int) : isNon (.int i) = false := rfl
theorem isNon_bl (b : Bool) : isNon (.bl b) = false := rfl
theorem isNon_tup (ws : List Wv) : isNon (.tup ws) = false := rfl
theorem isNon_lst (ws : List Wv) : isNon (.lst ws) = false := rfl
theorem isNon_o (h : Nat) : isNon (.o h) = false := rfl
theorem chk_true {γ : Type} {b : Bool} (h : b = true) (k : Unit → Mw γ) (om : List Ob) : bnd (chk b) k om = k () om := by
  subst h; rfl
theorem kRng1_nat (n : Nat) (om : List Ob) (h : n ≤ lim) : kRng1 (.int n) om = some (.ok (rng1 n), om) := by
  have hl : n ≤ 100000 := lim_eq ▸ h
  have hd : decide (-(2 ^ 62) ≤ (n : Int) ∧ (n : Int) < 2 ^ 62) = true := by
    rw [decide_eq_true_iff]
    exact ⟨by omega, by omega⟩
  simp only [kRng1, hd]
  rw [Int.toNat_natCast]
  rfl
theorem ne_int (a b : Int) (om : List Ob) : kEqD true (.int a) (.int b) om = some (.ok (.bl (!decide (a = b))), om) := by
  simp [kEqD, pyTop, pyOf, lays, PyData.canLay0, PyData.depth, PyData.eqv]
  rfl
theorem eq_int (a b : Int) (om : List Ob) : kEqD false (.int a) (.int b) om = some (.ok (.bl (decide (a = b))), om) := by
  simp [kEqD, pyTop, pyOf, lays, PyData.canLay0, PyData.depth, PyData.eqv]
  rfl
theorem sSeq_nx {S1 S2 : FS} {sl sl1 : Sl} {om om1 : List Ob} (h : S1 sl om = some (.ok (.nx, sl1), om1)) : sSeq S1 S2 sl om = S2 sl1 om1 := by
  simp [sSeq, bnd, h, kSeq]
theorem sSeq_rt {S1 S2 : FS} {sl sl1 : Sl} {om om1 : List Ob} {w : Wv} (h : S1 sl om = some (.ok (.rt w, sl1), om1)) : sSeq S1 S2 sl om = some (.ok (.rt w, sl1), om1) := by
  simp [sSeq, bnd, h, kSeq, ret]
theorem sSeq_er {S1 S2 : FS} {sl : Sl} {om om1 : List Ob} {C : Addr} (h : S1 sl om = some (.error C, om1)) : sSeq S1 S2 sl om = some (.error C, om1) := by
  simp [sSeq, bnd, h]
theorem run_rt {N : Nat} {S : FS} {ws : List Wv} {sl1 : Sl} {om om1 : List Ob} {w : Wv} (h : S (startW N ws) om = some (.ok (.rt w, sl1), om1)) : runB N S ws om = some (.ok w, om1) := by
  simp [runB, bnd, h, kFin, ret]
theorem run_nx {N : Nat} {S : FS} {ws : List Wv} {sl1 : Sl} {om om1 : List Ob} (h : S (startW N ws) om = some (.ok (.nx, sl1), om1)) : runB N S ws om = some (.ok .non, om1) := by
  simp [runB, bnd, h, kFin, ret]
theorem run_er {N : Nat} {S : FS} {ws : List Wv} {om om1 : List Ob} {C : Addr} (h : S (startW N ws) om = some (.error C, om1)) : runB N S ws om = some (.error C, om1) := by
  simp [runB, bnd, h]
theorem sFor_nx {fi : FI} {T : TgW} {S : FS} {sl sl1 : Sl} {om om1 om2 : List Ob} {ws : List Wv} {r : Fl × Sl} (h : fi sl om = some (.ok ws, om1)) (hf : forS T S ws sl om1 = some (.ok r, om2)) : sFor fi T S sl om = some (.ok r, om2) := by
  simp [sFor, bnd, h, hf]
theorem sComp {k : List Wv → Mw Wv} {js : List Nat} {fi : FI} {c : FT} {f : FE} {sl : Sl} {om om1 om2 : List Ob} {ws us : List Wv} (h : fi sl om = some (.ok ws, om1)) (hl : ws.length ≤ lim) (hc : compW c f (fun w => compSl js w sl) ws om1 = some (.ok us, om2)) : fComp k js fi c f sl om = k us om2 := by
  simp [fComp, bnd, h, chk, hl, hc, ret]
theorem sSet_ok {i : Nat} {f : FE} {sl : Sl} {om om1 : List Ob} {w : Wv} (h : f sl om = some (.ok w, om1)) : sSet i f sl om = some (.ok (.nx, sl.set i (some w)), om1) := by
  simp [sSet, bnd, h, ret]
end
end L2

set_option maxHeartbeats 400000
/-! Steps of the functional reading, one lemma a step: for runs too long for one simp. -/
namespace L2
open PySem
theorem bnd_ok {α β : Type} {m : Mw α} {k : α → Mw β} {om om1 : List Ob} {a : α} (h : m om = some (.ok a, om1)) : bnd m k om = k a om1 := by
  simp [bnd, h]
theorem bnd_er {α β : Type} {m : Mw α} {k : α → Mw β} {om om1 : List Ob} {C : Addr} (h : m om = some (.error C, om1)) : bnd m k om = some (.error C, om1) := by
  simp [bnd, h]
section
variable {sl sl1 : Sl} {om om1 om2 : List Ob} {f fa fb fo : FE} {c c1 c2 : FT} {S S1 S2 : FS} {fs : FA} {w x y : Wv} {ws : List Wv} {b : Bool} {i j n : Nat}
theorem sIf_t (h : c sl om = some (.ok true, om1)) : sIf c S1 S2 sl om = S1 sl om1 := by simp [sIf, bnd, h]
theorem sIf_f (h : c sl om = some (.ok false, om1)) : sIf c S1 S2 sl om = S2 sl om1 := by simp [sIf, bnd, h]
theorem sNil_ok : sNil sl om = some (.ok (.nx, sl), om) := rfl
theorem sIf_no (h : c sl om = some (.ok false, om1)) : sIf c S1 sNil sl om = some (.ok (.nx, sl), om1) := (sIf_f h).trans rfl
theorem fVar_ok (h : sl[i]? = some (some w)) : fVar i sl om = some (.ok w, om) := by simp [fVar, h, ret]
theorem fC_ok : fC w sl om = some (.ok w, om) := rfl
theorem fNil_ok : fNil sl om = some (.ok [], om) := rfl
theorem fCons_ok (h : f sl om = some (.ok w, om1)) (hr : fs sl om1 = some (.ok ws, om2)) : fCons f fs sl om = some (.ok (w :: ws), om2) := by simp [fCons, bnd, h, hr, ret]
theorem fA_ok {k : List Wv → Mw Wv} (h : fs sl om = some (.ok ws, om1)) : fA k fs sl om = k ws om1 := by simp [fA, bnd, h]
theorem f1_ok {k : Wv → Mw Wv} (h : f sl om = some (.ok w, om1)) : f1 k f sl om = k w om1 := by simp [f1, bnd, h]
theorem f2_ok {k : Wv → Wv → Mw Wv} (h : fa sl om = some (.ok x, om1)) (h2 : fb sl om1 = some (.ok y, om2)) : f2 k fa fb sl om = k x y om2 := by simp [f2, bnd, h, h2]
theorem kN_ok {g : List Wv → Mw Wv} (h : ws.length = n) : kN n g ws om = g ws om := by subst h; simp [kN, chk, bnd, ret]
theorem fB_ok (h : f sl om = some (.ok (.bl b), om1)) : fB f sl om = some (.ok b, om1) := by simp [fB, bnd, h, kB, ret]
theorem fTru_bl (h : f sl om = some (.ok (.bl b), om1)) : fTru f sl om = some (.ok b, om1) := by simp [fTru, bnd, h, kTru, truOf]
theorem fNot_ok (h : c sl om = some (.ok b, om1)) : fNot c sl om = some (.ok (!b), om1) := by simp [fNot, bnd, h, ret]
theorem fAnd_t (h : c1 sl om = some (.ok true, om1)) : fAnd c1 c2 sl om = c2 sl om1 := by simp [fAnd, bnd, h]
theorem fAnd_f (h : c1 sl om = some (.ok false, om1)) : fAnd c1 c2 sl om = some (.ok false, om1) := by simp [fAnd, bnd, h, ret]
theorem fOr_t (h : c1 sl om = some (.ok true, om1)) : fOr c1 c2 sl om = some (.ok true, om1) := by simp [fOr, bnd, h, ret]
theorem fOr_f (h : c1 sl om = some (.ok false, om1)) : fOr c1 c2 sl om = c2 sl om1 := by simp [fOr, bnd, h]
theorem fAndV_t (h : fa sl om = some (.ok (.bl true), om1)) : fAndV fa fb sl om = fb sl om1 := by simp [fAndV, bnd, h, kB, ret]
theorem sRet_ok (h : f sl om = some (.ok w, om1)) : sRet f sl om = some (.ok (.rt w, sl), om1) := by simp [sRet, bnd, h, ret]
theorem sExpr_ok (h : f sl om = some (.ok w, om1)) : sExpr f sl om = some (.ok (.nx, sl), om1) := by simp [sExpr, bnd, h, ret]
theorem fMeth_ok {C : Addr} {m : Str} {g : List Wv → Mw Wv} {k : List (Str × Wv)} (h : fo sl om = some (.ok w, om1)) (hi : insOf om1 w = some (C, k)) (hk : k.lookup m = none) (hs : fs sl om1 = some (.ok ws, om2)) (hn : ws.length + 1 = n) : fMeth C m n g fo fs sl om = g (w :: ws) om2 := by
  subst hn
  simp [fMeth, bnd, h, kIns, hi, hk, hs, kN, chk, ret]
end
end L2

set_option maxHeartbeats 400000
/-! The end of a law over the functional reading: its script, and the facts of the written part, several in one row. -/
namespace L2
open PySem
def tyL : Value → Bool
  | .type s => s == "list"
  | _ => false
def notL (K : PySem.W.Frag) : Bool := K.all fun p => !tyL p.2.cls
theorem notL_no {K : PySem.W.Frag} (h : notL K = true) {a : Addr} {o : Obj} (e : K.lookup a = some o) : o.cls ≠ .type "list" := by
  intro z
  have hm : ∃ b, (b, o) ∈ K := by
    clear h z
    induction K with
    | nil => cases e
    | cons p K ih =>
      rw [List.lookup_cons] at e
      split at e
      · cases e; exact ⟨p.1, .head _⟩
      · obtain ⟨b, hb⟩ := ih e; exact ⟨b, .tail _ hb⟩
  obtain ⟨b, hb⟩ := hm
  have := List.all_eq_true.mp h _ hb
  rw [show tyL ((b, o) : Addr × Obj).2.cls = true by show tyL o.cls = true; rw [z]; rfl] at this
  cases this
def spLaw (K : PySem.W.Frag) : Sp := fun vs H Q _ => ∃ (a : Addr) (ns : List Int), vs = [.ref a] ∧ SqL K H a (ns.map V.int) ∧ ns.length ≤ 63 ∧ ∀ H', Q (.bl true) H'
theorem rws_ints (F : Hp) (β : List Addr) : ∀ ns : List Int, RWs F β (ns.map Wv.int) (ns.map V.int)
  | [] => .nil
  | i :: ns => .cons (.int i) (rws_ints F β ns)
theorem law_fin {P : Program} {w : World} {K : PySem.W.Frag} {mg : Str → Option Value} {base : Heap} {CX : CXT} {k : Nat} {f : Addr} {fd : FuncData} {ps : List Str} {g : List Wv → Mw Wv} (hK : notL K = true) (G : FnOk P w K mg base CX k f fd ps (spM 1 g))
    (h : ∀ ns : List Int, ∃ om, g [.lst (ns.map .int)] [] = some (.ok (.bl true), om)) : FnOk P w K mg base CX k f fd ps (spLaw K) := G.imp fun vs H Q E ⟨a, ns, e, S, _, q⟩ => by
  subst e
  have r : Rd H a (.lst (ns.map V.int)) := S.resolve_right fun ⟨o, its, n, e, hc, _⟩ => notL_no hK e hc
  obtain ⟨om, e⟩ := h ns
  refine ⟨fun b => if b = a then H b else none, [], [], [.lst (ns.map .int)], ⟨fun b u z => ?_, .nil, rfl, fun h a z => (by cases z), fun h a x z _ => (by cases z)⟩, .cons (.lst ?_ (rws_ints _ _ ns)) .nil, rfl, ?_⟩
  · by_cases hb : b = a
    · exact (if_pos hb).symm.trans z
    · have := (if_neg hb).symm.trans z; cases this
  · rcases r with r | ⟨o, r⟩
    · exact .inl ((if_pos rfl).trans r)
    · exact .inr ⟨o, (if_pos rfl).trans r⟩
  · rw [e]
    exact fun F' H' β' _ _ v rv => by cases rv; exact q H'
def sevenT : List String := ["NoneType", "bool", "int", "str", "list", "tuple", "dict"]
theorem KIsi.of {K : PySem.W.Frag} {T : Kd} (h : sevenT.map (fun s => PySem.W.kitOne K (.type s) (.type T.nm)) = [Kd.non, .bl, .int, .str, .lst, .tup, .dct].map fun t => some (Kd.isi t T)) : KIsi K T := by
  simp only [sevenT, List.map_cons, List.map_nil, List.cons.injEq] at h
  exact ⟨h.1, h.2.1, h.2.2.1, h.2.2.2.1, h.2.2.2.2.1, h.2.2.2.2.2.1, h.2.2.2.2.2.2.1⟩
theorem kit_some {f : Value → Option Bool} {Ds : List Value} {l : List Bool} (q : Ds.map f = l.map some) {D : Value} (h : D ∈ Ds) : f D = some ((f D).getD false) := by
  have : f D ∈ l.map some := by rw [← q]; exact List.mem_map_of_mem h
  obtain ⟨b, _, e⟩ := List.mem_map.mp this
  rw [← e]; rfl
theorem kit_map {f : Value → Option Bool} {Ds : List Value} {l : List Bool} (q : Ds.map f = l.map some) : Ds.map (fun D => (f D).getD false) = l := by
  have := congrArg (List.map (fun o : Option Bool => o.getD false)) q
  rw [List.map_map, List.map_map] at this
  refine Eq.trans this ?_
  induction l with
  | nil => rfl
  | cons b l ih => exact List.map_id _
end L2

set_option maxHeartbeats 4000000
namespace MP
noncomputable section
open PySem L2
structure CA where
  Map : Addr
  Board : Addr
  Orders : Addr
  Turn : Addr
  OrderError : Addr
  NoPlace : Addr
  NoSide : Addr
  Crowded : Addr
  NoUnit : Addr
  OutOfReach : Addr
  kit : Addr → Value → Bool
  caught : Addr → Addr → Bool
def CA.isE (c : CA) (C : Addr) : Bool := C == c.NoPlace || C == c.NoSide || C == c.Crowded || C == c.NoUnit || C == c.OutOfReach
def CA.Ds (c : CA) : List Value := [.ref c.NoPlace, .ref c.NoSide, .ref c.Crowded, .ref c.NoUnit, .ref c.OutOfReach, .type "ValueError"]
def S_Board_init (c : CA) : FS :=
  (sSeq (sSetF c.Board "chart" (fVar 1) (fVar 0))
    (sSetF c.Board "units" (fun _ => newO (.dk [])) (fVar 0)))
def g_Board_init (c : CA) : List Wv → Mw Wv := runB 2 (S_Board_init c)
def S_Map_need_place (c : CA) : FS :=
  (sIf (fOr (fB (f2 kLt (fVar 1) (fC (.int 0)))) (fB (f2 kGe (fVar 1) (f1 (kFld c.Map "size") (fVar 0))))) (sRaise c.NoPlace (mInt (fVar 1) mNil)) sNil)
def g_Map_need_place (c : CA) : List Wv → Mw Wv := runB 2 (S_Map_need_place c)
def S_Board_post (c : CA) : FS :=
  (sSeq (sExpr (fMeth c.Map "need_place" 2 (g_Map_need_place c) (f1 (kFld c.Board "chart") (fVar 0)) (fCons (fVar 1) fNil)))
    (sSeq (sIf (fOr (fB (f2 kLt (fVar 2) (fC (.int 0)))) (fB (f2 kGt (fVar 2) (fC (.int 7))))) (sRaise c.NoSide (mInt (fVar 2) mNil)) sNil)
    (sSeq (sIf (fB (f2 (kDIn false) (fVar 1) (f1 (kFld c.Board "units") (fVar 0)))) (sRaise c.Crowded (mInt (fVar 1) mNil)) sNil)
    (sDPut' (fVar 2) (f1 (kFld c.Board "units") (fVar 0)) (fVar 1)))))
def g_Board_post (c : CA) : List Wv → Mw Wv := runB 3 (S_Board_post c)
def S_Board_side_at (c : CA) : FS :=
  (sSeq (sExpr (fMeth c.Map "need_place" 2 (g_Map_need_place c) (f1 (kFld c.Board "chart") (fVar 0)) (fCons (fVar 1) fNil)))
    (sRet (fGet1 (f1 (kFld c.Board "units") (fVar 0)) (fVar 1))))
def g_Board_side_at (c : CA) : List Wv → Mw Wv := runB 2 (S_Board_side_at c)
def S_Board_need_unit (c : CA) : FS :=
  (sIf (fB (f1 kIsN (fMeth c.Board "side_at" 2 (g_Board_side_at c) (fVar 0) (fCons (fVar 1) fNil)))) (sRaise c.NoUnit (mInt (fVar 1) mNil)) sNil)
def g_Board_need_unit (c : CA) : List Wv → Mw Wv := runB 2 (S_Board_need_unit c)
def S_Board_lift (c : CA) : FS :=
  (sSeq (sExpr (fMeth c.Board "need_unit" 2 (g_Board_need_unit c) (fVar 0) (fCons (fVar 1) fNil)))
    (sExpr (fPop (f1 (kFld c.Board "units") (fVar 0)) (fVar 1))))
def g_Board_lift (c : CA) : List Wv → Mw Wv := runB 2 (S_Board_lift c)
def S_Board_roll (c : CA) : FS :=
  (sRet (fSortIt kLst (f1 (kFld c.Board "units") (fVar 0))))
def g_Board_roll (c : CA) : List Wv → Mw Wv := runB 1 (S_Board_roll c)
def S_Board_rollM (c : CA) : FS :=
  (sRet (fSortIt kLstM (f1 (kFld c.Board "units") (fVar 0))))
def g_Board_rollM (c : CA) : List Wv → Mw Wv := runB 1 (S_Board_rollM c)
def S_Map_init (c : CA) : FS :=
  (sSeq (sSetF c.Map "size" (fVar 1) (fVar 0))
    (sSetF c.Map "links" (fun _ => newO (.dk [])) (fVar 0)))
def g_Map_init (c : CA) : List Wv → Mw Wv := runB 2 (S_Map_init c)
def S__law_cell_at (c : CA) : FS :=
  (sSeq (sIf (fB (f2 kLt (fVar 1) (fA kLen (fCons (fVar 0) fNil)))) (sRet (f2 kIx (fVar 0) (fVar 1))) sNil)
    (sRet (fC (.int 0))))
def g__law_cell_at (c : CA) : List Wv → Mw Wv := runB 2 (S__law_cell_at c)
def S__law_whole (c : CA) : FS :=
  (sRet (fAndV (f1 (kIsi .int) (fVar 0)) (f1 kNotV (f1 (kIsi .bl) (fVar 0)))))
def g__law_whole (c : CA) : List Wv → Mw Wv := runB 1 (S__law_whole c)
def S__law_done (c : CA) : FS :=
  (sSeq (sSet 3 (fC (.int 0)))
    (sSeq (sTry (c.caught c.OrderError) 4 (sIf (fB (f1 kIsN (fVar 2))) (sExpr (fMeth c.Board "lift" 2 (g_Board_lift c) (fVar 0) (fCons (fVar 1) fNil))) (sExpr (fMeth c.Board "post" 3 (g_Board_post c) (fVar 0) (fCons (fVar 1) (fCons (fVar 2) fNil))))) (sSeq (sSet 3 (fA kLst (fCons (f1 (kIsE c.isE c.kit (.ref c.NoPlace)) (fVar 4)) (fCons (f1 (kIsE c.isE c.kit (.ref c.NoSide)) (fVar 4)) (fCons (f1 (kIsE c.isE c.kit (.ref c.Crowded)) (fVar 4)) (fCons (f1 (kIsE c.isE c.kit (.ref c.NoUnit)) (fVar 4)) fNil))))))
    (sSet 3 (f2 kCat (fVar 3) (fA kLst (fCons (f1 (kIsE c.isE c.kit (.ref c.OutOfReach)) (fVar 4)) (fCons (f1 (kIsE c.isE c.kit (.type "ValueError")) (fVar 4)) fNil)))))))
    (sRet (fVar 3))))
def g__law_done (c : CA) : List Wv → Mw Wv := runB 5 (S__law_done c)
def S__law_due (c : CA) : FS :=
  (sSeq (sIf (fNot (fB (fChain kLe kLt (fC (.int 0)) (fVar 1) (fA kLen (fCons (fVar 0) fNil))))) (sRet (fA kLst (fCons (fC (.bl true)) (fCons (fC (.bl false)) (fCons (fC (.bl false)) (fCons (fC (.bl false)) (fCons (fC (.bl false)) (fCons (fC (.bl true)) fNil)))))))) sNil)
    (sSeq (sIf (fAnd (fB (f1 kIsN (fVar 2))) (fB (f1 kIsN (f2 kIx (fVar 0) (fVar 1))))) (sRet (fA kLst (fCons (fC (.bl false)) (fCons (fC (.bl false)) (fCons (fC (.bl false)) (fCons (fC (.bl true)) (fCons (fC (.bl false)) (fCons (fC (.bl true)) fNil)))))))) sNil)
    (sSeq (sIf (fAnd (fB (f1 kNotN (fVar 2))) (fNot (fB (fChain kLe kLe (fC (.int 0)) (fVar 2) (fC (.int 7)))))) (sRet (fA kLst (fCons (fC (.bl false)) (fCons (fC (.bl true)) (fCons (fC (.bl false)) (fCons (fC (.bl false)) (fCons (fC (.bl false)) (fCons (fC (.bl true)) fNil)))))))) sNil)
    (sSeq (sIf (fAnd (fB (f1 kNotN (fVar 2))) (fB (f1 kNotN (f2 kIx (fVar 0) (fVar 1))))) (sRet (fA kLst (fCons (fC (.bl false)) (fCons (fC (.bl false)) (fCons (fC (.bl true)) (fCons (fC (.bl false)) (fCons (fC (.bl false)) (fCons (fC (.bl true)) fNil)))))))) sNil)
    (sRet (fC (.int 0)))))))
def g__law_due (c : CA) : List Wv → Mw Wv := runB 3 (S__law_due c)
def P1__law_roll (c : CA) : FT :=
  (fB (f1 kNotN (f2 kIx (fVar 1) (fVar 0))))
def E1__law_roll (c : CA) : FE :=
  (fA kTup (fCons (fVar 0) (fCons (f2 kIx (fVar 1) (fVar 0)) fNil)))
def B1__law_roll (c : CA) : FS :=
  (sSeq (sIf (fOr (fNot (fTru (f1 (kIsi .tup) (f2 kIx (fVar 0) (fVar 3))))) (fB (f2 kNe (fA kLen (fCons (f2 kIx (fVar 0) (fVar 3)) fNil)) (fC (.int 2))))) (sRet (fC (.bl false))) sNil)
    (sIf (fOr (fNot (fTru (fA (kN 1 (g__law_whole c)) (fCons (f2 kIx (f2 kIx (fVar 0) (fVar 3)) (fC (.int 0))) fNil)))) (fOr (fNot (fTru (fA (kN 1 (g__law_whole c)) (fCons (f2 kIx (f2 kIx (fVar 0) (fVar 3)) (fC (.int 1))) fNil)))) (fB (f2 kNe (f2 kIx (fVar 0) (fVar 3)) (f2 kIx (fVar 2) (fVar 3)))))) (sRet (fC (.bl false))) sNil))
def S__law_roll (c : CA) : FS :=
  (sSeq (sSet 2 (fComp kLst [1] (fun sl => bnd ((fA kLen (fCons (fVar 1) fNil)) sl) kRng1) (P1__law_roll c) (E1__law_roll c)))
    (sSeq (sIf (fOr (fNot (fTru (f1 (kIsi .lst) (fVar 0)))) (fB (f2 kNe (fA kLen (fCons (fVar 0) fNil)) (fA kLen (fCons (fVar 2) fNil))))) (sRet (fC (.bl false))) sNil)
    (sSeq (sFor (fun sl => bnd ((fA kLen (fCons (fVar 2) fNil)) sl) kRng1) (tgN 3) (B1__law_roll c))
    (sRet (fC (.bl true))))))
def g__law_roll (c : CA) : List Wv → Mw Wv := runB 4 (S__law_roll c)
def B1_law (c : CA) : FS :=
  (sSeq (sSet 6 (f2 kSub (f2 kMod (f2 kDiv (fVar 5) (fC (.int 3))) (f2 kAdd (fVar 1) (fC (.int 4)))) (fC (.int 2))))
    (sSeq (sSet 7 (f2 kSub (f2 kMod (f2 kDiv (fVar 5) (fC (.int 200))) (fC (.int 12))) (fC (.int 2))))
    (sSeq (sIf (fB (f2 kEq (f2 kMod (fVar 5) (fC (.int 3))) (fC (.int 0)))) (sSet 7 (fC .non)) sNil)
    (sSeq (sSet 8 (fA (kN 3 (g__law_due c)) (fCons (fVar 4) (fCons (fVar 6) (fCons (fVar 7) fNil)))))
    (sSeq (sIf (fB (f2 kNe (fA (kN 3 (g__law_done c)) (fCons (fVar 3) (fCons (fVar 6) (fCons (fVar 7) fNil)))) (fVar 8))) (sRet (fC (.bl false))) sNil)
    (sSeq (sIf (fB (f2 kEq (fVar 8) (fC (.int 0)))) (sSetI (fVar 7) (fVar 4) (fVar 6)) sNil)
    (sSeq (sIf (fNot (fTru (fA (kN 2 (g__law_roll c)) (fCons (fMeth c.Board "roll" 1 (g_Board_roll c) (fVar 3) fNil) (fCons (fVar 4) fNil))))) (sRet (fC (.bl false))) sNil)
    (sIf (fAnd (fB (fChain kLe kLt (fC (.int 0)) (fVar 6) (fVar 1))) (fB (f2 kNe (fMeth c.Board "side_at" 2 (g_Board_side_at c) (fVar 3) (fCons (fVar 6) fNil)) (f2 kIx (fVar 4) (fVar 6))))) (sRet (fC (.bl false))) sNil))))))))
def S_law (c : CA) : FS :=
  (sSeq (sSet 1 (f2 kAdd (fC (.int 1)) (f2 kMod (f2 kDiv (fA (kN 2 (g__law_cell_at c)) (fCons (fVar 0) (fCons (fC (.int 0)) fNil))) (fC (.int 2))) (fC (.int 5)))))
    (sSeq (sIf (fB (f2 kEq (f2 kMod (fA (kN 2 (g__law_cell_at c)) (fCons (fVar 0) (fCons (fC (.int 0)) fNil))) (fC (.int 2))) (fC (.int 1)))) (sSet 1 (f2 kAdd (fC (.int 1)) (f2 kMod (f2 kDiv (fA (kN 2 (g__law_cell_at c)) (fCons (fVar 0) (fCons (fC (.int 0)) fNil))) (fC (.int 2))) (fC (.int 60))))) sNil)
    (sSeq (sSet 2 (fA (kMake c.Map 2 (g_Map_init c)) (fCons (fVar 1) fNil)))
    (sSeq (sSet 3 (fA (kMake c.Board 2 (g_Board_init c)) (fCons (fVar 2) fNil)))
    (sSeq (sSet 4 (fRep kLstM (fCons (fC .non) fNil) (fVar 1)))
    (sSeq (sFor (fun sl => bnd ((fSl (fVar 0) fNoP (fPart (fC (.int 30)))) sl) kItems) (tgN 5) (B1_law c))
    (sSeq (sExpr (f1 kClr (fMeth c.Board "roll" 1 (g_Board_rollM c) (fVar 3) fNil)))
    (sRet (fAndV (f2 kEq (f1 (kFld c.Map "size") (f1 (kFld c.Board "chart") (fVar 3))) (fVar 1)) (fA (kN 2 (g__law_roll c)) (fCons (fMeth c.Board "roll" 1 (g_Board_roll c) (fVar 3) fNil) (fCons (fVar 4) fNil))))))))))))
def g_law (c : CA) : List Wv → Mw Wv := runB 9 (S_law c)
end
end MP

set_option maxHeartbeats 4000000
namespace MP
open PySem L2
abbrev intsW (ns : List Int) : Wv := .lst (ns.map .int)
theorem atI_ints {ns : List Int} {k : Nat} (h : k < ns.length) : atI (ns.map Wv.int) (k : Int) = some (.int (ns.getD k 0)) := by
  refine atI_nat ?_
  simp [h]
theorem cell_at (c : CA) (ns : List Int) (k : Nat) (om : List Ob) : g__law_cell_at c [intsW ns, .int k] om = some (.ok (.int (ns.getD k 0)), om) := by
  by_cases h : k < ns.length
  · simp [g__law_cell_at, S__law_cell_at, runB, startW, sSeq, kSeq, sSet, sExpr, sRet, sRetN, sIf, sNil, fVar, fC, f1, f2, fB, kB, fA, fCons, fNil, kLen, seqOf, bnd, L2.ret, kI, kIc, kIx, kFin, fAnd, fOr, fNot, fAndV, fOrV, fChain, kIsN, kNotN, isNon_non, isNon_int, isNon_bl, isNon_tup, isNon_lst, isNon_o, kNotV, kIsi, kdOf, Kd.isi, fTru, kTru, truOf, kFld, insOf, fMeth, kIns, kN, chk, kMake, sSetF, kSetF, putFW, newO, kDIn, dGet, keyOf, sDPut', kDPut, dPut, kGet1, fGet1, kIsD, isD, fPop, kPop, sRaise, mInt, mNil, kFmt, L2.raise, kTup, kLst, kLstM, fRep, kRepD, kSl, fSl, fNoP, fPart, kPart, sSetI, kSetI, lstOf, fComp, sFor, kItems, kRng1_nat, tgN, kClr, fSortIt, kSortIt, calmly, kIsE, sTry, kUn, fYes, kCat, nope, ofS_inj, ofS_beq, L2.ne_int, L2.eq_int, List.lookup_cons, List.lookup_nil, h, intsW, atI_ints h]
  · simp [g__law_cell_at, S__law_cell_at, runB, startW, sSeq, kSeq, sSet, sExpr, sRet, sRetN, sIf, sNil, fVar, fC, f1, f2, fB, kB, fA, fCons, fNil, kLen, seqOf, bnd, L2.ret, kI, kIc, kIx, kFin, fAnd, fOr, fNot, fAndV, fOrV, fChain, kIsN, kNotN, isNon_non, isNon_int, isNon_bl, isNon_tup, isNon_lst, isNon_o, kNotV, kIsi, kdOf, Kd.isi, fTru, kTru, truOf, kFld, insOf, fMeth, kIns, kN, chk, kMake, sSetF, kSetF, putFW, newO, kDIn, dGet, keyOf, sDPut', kDPut, dPut, kGet1, fGet1, kIsD, isD, fPop, kPop, sRaise, mInt, mNil, kFmt, L2.raise, kTup, kLst, kLstM, fRep, kRepD, kSl, fSl, fNoP, fPart, kPart, sSetI, kSetI, lstOf, fComp, sFor, kItems, kRng1_nat, tgN, kClr, fSortIt, kSortIt, calmly, kIsE, sTry, kUn, fYes, kCat, nope, ofS_inj, ofS_beq, L2.ne_int, L2.eq_int, List.lookup_cons, List.lookup_nil, h, intsW]
theorem whole (c : CA) (i : Int) (om : List Ob) : g__law_whole c [.int i] om = some (.ok (.bl true), om) := by
  simp [g__law_whole, S__law_whole, runB, startW, sSeq, kSeq, sSet, sExpr, sRet, sRetN, sIf, sNil, fVar, fC, f1, f2, fB, kB, fA, fCons, fNil, kLen, seqOf, bnd, L2.ret, kI, kIc, kIx, kFin, fAnd, fOr, fNot, fAndV, fOrV, fChain, kIsN, kNotN, isNon_non, isNon_int, isNon_bl, isNon_tup, isNon_lst, isNon_o, kNotV, kIsi, kdOf, Kd.isi, fTru, kTru, truOf, kFld, insOf, fMeth, kIns, kN, chk, kMake, sSetF, kSetF, putFW, newO, kDIn, dGet, keyOf, sDPut', kDPut, dPut, kGet1, fGet1, kIsD, isD, fPop, kPop, sRaise, mInt, mNil, kFmt, L2.raise, kTup, kLst, kLstM, fRep, kRepD, kSl, fSl, fNoP, fPart, kPart, sSetI, kSetI, lstOf, fComp, sFor, kItems, kRng1_nat, tgN, kClr, fSortIt, kSortIt, calmly, kIsE, sTry, kUn, fYes, kCat, nope, ofS_inj, ofS_beq, L2.ne_int, L2.eq_int, List.lookup_cons, List.lookup_nil]
abbrev mapO (c : CA) (n : Int) : Ob := .ins c.Map [("size", .int n), ("links", .o 1)]
abbrev boardO (c : CA) : Ob := .ins c.Board [("chart", .o 0), ("units", .o 3)]
abbrev stO (c : CA) (n : Int) (us : List (Int × Int)) (f : List (Option Int)) (j : List Ob) : List Ob := mapO c n :: .dk [] :: boardO c :: .dk (kvsOf us) :: .lst (f.map sideW) :: j
section
variable (c : CA) {n : Int} {us : List (Int × Int)} {f : List (Option Int)} {j : List Ob}
theorem need_ok {at' : Int} (h0 : 0 ≤ at') (h1 : at' < n) : g_Map_need_place c [.o 0, .int at'] (stO c n us f j) = some (.ok .non, stO c n us f j) := by
  simp [g_Map_need_place, S_Map_need_place, runB, startW, sSeq, kSeq, sSet, sExpr, sRet, sRetN, sIf, sNil, fVar, fC, f1, f2, fB, kB, fA, fCons, fNil, kLen, seqOf, bnd, L2.ret, kI, kIc, kIx, kFin, fAnd, fOr, fNot, fAndV, fOrV, fChain, kIsN, kNotN, isNon_non, isNon_int, isNon_bl, isNon_tup, isNon_lst, isNon_o, kNotV, kIsi, kdOf, Kd.isi, fTru, kTru, truOf, kFld, insOf, fMeth, kIns, kN, chk, kMake, sSetF, kSetF, putFW, newO, kDIn, dGet, keyOf, sDPut', kDPut, dPut, kGet1, fGet1, kIsD, isD, fPop, kPop, sRaise, mInt, mNil, kFmt, L2.raise, kTup, kLst, kLstM, fRep, kRepD, kSl, fSl, fNoP, fPart, kPart, sSetI, kSetI, lstOf, fComp, sFor, kItems, kRng1_nat, tgN, kClr, fSortIt, kSortIt, calmly, kIsE, sTry, kUn, fYes, kCat, nope, ofS_inj, ofS_beq, L2.ne_int, L2.eq_int, List.lookup_cons, List.lookup_nil, show ¬ at' < 0 by omega, show ¬ n ≤ at' by omega]
theorem need_no {at' : Int} (h : ¬ (0 ≤ at' ∧ at' < n)) (hs : at'.natAbs < 1000000000000) : g_Map_need_place c [.o 0, .int at'] (stO c n us f j) = some (.error c.NoPlace, stO c n us f j) := by
  by_cases h0 : at' < 0
  · simp [g_Map_need_place, S_Map_need_place, runB, startW, sSeq, kSeq, sSet, sExpr, sRet, sRetN, sIf, sNil, fVar, fC, f1, f2, fB, kB, fA, fCons, fNil, kLen, seqOf, bnd, L2.ret, kI, kIc, kIx, kFin, fAnd, fOr, fNot, fAndV, fOrV, fChain, kIsN, kNotN, isNon_non, isNon_int, isNon_bl, isNon_tup, isNon_lst, isNon_o, kNotV, kIsi, kdOf, Kd.isi, fTru, kTru, truOf, kFld, insOf, fMeth, kIns, kN, chk, kMake, sSetF, kSetF, putFW, newO, kDIn, dGet, keyOf, sDPut', kDPut, dPut, kGet1, fGet1, kIsD, isD, fPop, kPop, sRaise, mInt, mNil, kFmt, L2.raise, kTup, kLst, kLstM, fRep, kRepD, kSl, fSl, fNoP, fPart, kPart, sSetI, kSetI, lstOf, fComp, sFor, kItems, kRng1_nat, tgN, kClr, fSortIt, kSortIt, calmly, kIsE, sTry, kUn, fYes, kCat, nope, ofS_inj, ofS_beq, L2.ne_int, L2.eq_int, List.lookup_cons, List.lookup_nil, h0, hs]
  · simp [g_Map_need_place, S_Map_need_place, runB, startW, sSeq, kSeq, sSet, sExpr, sRet, sRetN, sIf, sNil, fVar, fC, f1, f2, fB, kB, fA, fCons, fNil, kLen, seqOf, bnd, L2.ret, kI, kIc, kIx, kFin, fAnd, fOr, fNot, fAndV, fOrV, fChain, kIsN, kNotN, isNon_non, isNon_int, isNon_bl, isNon_tup, isNon_lst, isNon_o, kNotV, kIsi, kdOf, Kd.isi, fTru, kTru, truOf, kFld, insOf, fMeth, kIns, kN, chk, kMake, sSetF, kSetF, putFW, newO, kDIn, dGet, keyOf, sDPut', kDPut, dPut, kGet1, fGet1, kIsD, isD, fPop, kPop, sRaise, mInt, mNil, kFmt, L2.raise, kTup, kLst, kLstM, fRep, kRepD, kSl, fSl, fNoP, fPart, kPart, sSetI, kSetI, lstOf, fComp, sFor, kItems, kRng1_nat, tgN, kClr, fSortIt, kSortIt, calmly, kIsE, sTry, kUn, fYes, kCat, nope, ofS_inj, ofS_beq, L2.ne_int, L2.eq_int, List.lookup_cons, List.lookup_nil, h0, show n ≤ at' by omega, hs]
theorem side_at_ok {k : Nat} (u : UR us f) (hk : k < f.length) (h1 : (k : Int) < n) : g_Board_side_at c [.o 2, .int k] (stO c n us f j) = some (.ok (sideW (f.getD k none)), stO c n us f j) := by
  have hn := need_ok c (us := us) (f := f) (j := j) (at' := k) (by omega) h1
  have hl := u.lookup hk
  simp only [stO] at hn
  simp [g_Board_side_at, S_Board_side_at, runB, startW, sSeq, kSeq, sSet, sExpr, sRet, sRetN, sIf, sNil, fVar, fC, f1, f2, fB, kB, fA, fCons, fNil, kLen, seqOf, bnd, L2.ret, kI, kIc, kIx, kFin, fAnd, fOr, fNot, fAndV, fOrV, fChain, kIsN, kNotN, isNon_non, isNon_int, isNon_bl, isNon_tup, isNon_lst, isNon_o, kNotV, kIsi, kdOf, Kd.isi, fTru, kTru, truOf, kFld, insOf, fMeth, kIns, kN, chk, kMake, sSetF, kSetF, putFW, newO, kDIn, dGet, keyOf, sDPut', kDPut, dPut, kGet1, fGet1, kIsD, isD, fPop, kPop, sRaise, mInt, mNil, kFmt, L2.raise, kTup, kLst, kLstM, fRep, kRepD, kSl, fSl, fNoP, fPart, kPart, sSetI, kSetI, lstOf, fComp, sFor, kItems, kRng1_nat, tgN, kClr, fSortIt, kSortIt, calmly, kIsE, sTry, kUn, fYes, kCat, nope, ofS_inj, ofS_beq, L2.ne_int, L2.eq_int, List.lookup_cons, List.lookup_nil, hn, valW_us, hl]
  cases f[k]?.getD none <;> rfl
theorem roll_ok (u : UR us f) (hl : f.length < 64) : g_Board_roll c [.o 2] (stO c n us f j) = some (.ok (.lst ((dueL f).map prW)), stO c n us f j) := by
  have h1 := u.len
  have hs := u.sort
  have h2 : (sortP us).length = us.length := (sortP_perm us).length_eq
  rw [hs] at h2
  have h3 : (dueL f).length ≤ lim := by have := lim_eq; omega
  simp [g_Board_roll, S_Board_roll, runB, startW, sSeq, kSeq, sSet, sExpr, sRet, sRetN, sIf, sNil, fVar, fC, f1, f2, fB, kB, fA, fCons, fNil, kLen, seqOf, bnd, L2.ret, kI, kIc, kIx, kFin, fAnd, fOr, fNot, fAndV, fOrV, fChain, kIsN, kNotN, isNon_non, isNon_int, isNon_bl, isNon_tup, isNon_lst, isNon_o, kNotV, kIsi, kdOf, Kd.isi, fTru, kTru, truOf, kFld, insOf, fMeth, kIns, kN, chk, kMake, sSetF, kSetF, putFW, newO, kDIn, dGet, keyOf, sDPut', kDPut, dPut, kGet1, fGet1, kIsD, isD, fPop, kPop, sRaise, mInt, mNil, kFmt, L2.raise, kTup, kLst, kLstM, fRep, kRepD, kSl, fSl, fNoP, fPart, kPart, sSetI, kSetI, lstOf, fComp, sFor, kItems, kRng1_nat, tgN, kClr, fSortIt, kSortIt, calmly, kIsE, sTry, kUn, fYes, kCat, nope, ofS_inj, ofS_beq, L2.ne_int, L2.eq_int, List.lookup_cons, List.lookup_nil, prsOf_us, show us.length < 64 by omega, hs, h3]
theorem rollM_ok (u : UR us f) (hl : f.length < 64) : g_Board_rollM c [.o 2] (stO c n us f j) = some (.ok (.o (j.length + 5)), stO c n us f (j ++ [.lst ((dueL f).map prW)])) := by
  have h1 := u.len
  have hs := u.sort
  have h2 : (sortP us).length = us.length := (sortP_perm us).length_eq
  rw [hs] at h2
  have h3 : (dueL f).length ≤ lim := by have := lim_eq; omega
  simp [g_Board_rollM, S_Board_rollM, runB, startW, sSeq, kSeq, sSet, sExpr, sRet, sRetN, sIf, sNil, fVar, fC, f1, f2, fB, kB, fA, fCons, fNil, kLen, seqOf, bnd, L2.ret, kI, kIc, kIx, kFin, fAnd, fOr, fNot, fAndV, fOrV, fChain, kIsN, kNotN, isNon_non, isNon_int, isNon_bl, isNon_tup, isNon_lst, isNon_o, kNotV, kIsi, kdOf, Kd.isi, fTru, kTru, truOf, kFld, insOf, fMeth, kIns, kN, chk, kMake, sSetF, kSetF, putFW, newO, kDIn, dGet, keyOf, sDPut', kDPut, dPut, kGet1, fGet1, kIsD, isD, fPop, kPop, sRaise, mInt, mNil, kFmt, L2.raise, kTup, kLst, kLstM, fRep, kRepD, kSl, fSl, fNoP, fPart, kPart, sSetI, kSetI, lstOf, fComp, sFor, kItems, kRng1_nat, tgN, kClr, fSortIt, kSortIt, calmly, kIsE, sTry, kUn, fYes, kCat, nope, ofS_inj, ofS_beq, L2.ne_int, L2.eq_int, List.lookup_cons, List.lookup_nil, prsOf_us, show us.length < 64 by omega, hs, h3]
theorem post_ok {k : Nat} {s : Int} (u : UR us f) (hk : k < f.length) (h1 : (k : Int) < n) (hs : 0 ≤ s ∧ s ≤ 7) (hf : f.getD k none = none) (hl : us.length < lim) :
    g_Board_post c [.o 2, .int k, .int s] (stO c n us f j) = some (.ok .non, stO c n (us ++ [((k : Int), s)]) f j) := by
  have hn := need_ok c (us := us) (f := f) (j := j) (at' := k) (by omega) h1
  have hv := u.lookup hk
  rw [hf] at hv
  simp only [stO] at hn
  simp [g_Board_post, S_Board_post, runB, startW, sSeq, kSeq, sSet, sExpr, sRet, sRetN, sIf, sNil, fVar, fC, f1, f2, fB, kB, fA, fCons, fNil, kLen, seqOf, bnd, L2.ret, kI, kIc, kIx, kFin, fAnd, fOr, fNot, fAndV, fOrV, fChain, kIsN, kNotN, isNon_non, isNon_int, isNon_bl, isNon_tup, isNon_lst, isNon_o, kNotV, kIsi, kdOf, Kd.isi, fTru, kTru, truOf, kFld, insOf, fMeth, kIns, kN, chk, kMake, sSetF, kSetF, putFW, newO, kDIn, dGet, keyOf, sDPut', kDPut, dPut, kGet1, fGet1, kIsD, isD, fPop, kPop, sRaise, mInt, mNil, kFmt, L2.raise, kTup, kLst, kLstM, fRep, kRepD, kSl, fSl, fNoP, fPart, kPart, sSetI, kSetI, lstOf, fComp, sFor, kItems, kRng1_nat, tgN, kClr, fSortIt, kSortIt, calmly, kIsE, sTry, kUn, fYes, kCat, nope, ofS_inj, ofS_beq, L2.ne_int, L2.eq_int, List.lookup_cons, List.lookup_nil, hn, valW_us, hv, show ¬ s < 0 by omega, show ¬ 7 < s by omega, kvsOf_len, hl, putW_us s hv]
theorem post_np {at' s : Int} (h : ¬ (0 ≤ at' ∧ at' < n)) (ha : at'.natAbs < 1000000000000) : g_Board_post c [.o 2, .int at', .int s] (stO c n us f j) = some (.error c.NoPlace, stO c n us f j) := by
  have hn := need_no c (us := us) (f := f) (j := j) h ha
  simp only [stO] at hn
  simp [g_Board_post, S_Board_post, runB, startW, sSeq, kSeq, sSet, sExpr, sRet, sRetN, sIf, sNil, fVar, fC, f1, f2, fB, kB, fA, fCons, fNil, kLen, seqOf, bnd, L2.ret, kI, kIc, kIx, kFin, fAnd, fOr, fNot, fAndV, fOrV, fChain, kIsN, kNotN, isNon_non, isNon_int, isNon_bl, isNon_tup, isNon_lst, isNon_o, kNotV, kIsi, kdOf, Kd.isi, fTru, kTru, truOf, kFld, insOf, fMeth, kIns, kN, chk, kMake, sSetF, kSetF, putFW, newO, kDIn, dGet, keyOf, sDPut', kDPut, dPut, kGet1, fGet1, kIsD, isD, fPop, kPop, sRaise, mInt, mNil, kFmt, L2.raise, kTup, kLst, kLstM, fRep, kRepD, kSl, fSl, fNoP, fPart, kPart, sSetI, kSetI, lstOf, fComp, sFor, kItems, kRng1_nat, tgN, kClr, fSortIt, kSortIt, calmly, kIsE, sTry, kUn, fYes, kCat, nope, ofS_inj, ofS_beq, L2.ne_int, L2.eq_int, List.lookup_cons, List.lookup_nil, hn]
theorem post_ns {at' s : Int} (h0 : 0 ≤ at') (h1 : at' < n) (hs : ¬ (0 ≤ s ∧ s ≤ 7)) (ha : s.natAbs < 1000000000000) : g_Board_post c [.o 2, .int at', .int s] (stO c n us f j) = some (.error c.NoSide, stO c n us f j) := by
  have hn := need_ok c (us := us) (f := f) (j := j) h0 h1
  simp only [stO] at hn
  by_cases hz : s < 0
  · simp [g_Board_post, S_Board_post, runB, startW, sSeq, kSeq, sSet, sExpr, sRet, sRetN, sIf, sNil, fVar, fC, f1, f2, fB, kB, fA, fCons, fNil, kLen, seqOf, bnd, L2.ret, kI, kIc, kIx, kFin, fAnd, fOr, fNot, fAndV, fOrV, fChain, kIsN, kNotN, isNon_non, isNon_int, isNon_bl, isNon_tup, isNon_lst, isNon_o, kNotV, kIsi, kdOf, Kd.isi, fTru, kTru, truOf, kFld, insOf, fMeth, kIns, kN, chk, kMake, sSetF, kSetF, putFW, newO, kDIn, dGet, keyOf, sDPut', kDPut, dPut, kGet1, fGet1, kIsD, isD, fPop, kPop, sRaise, mInt, mNil, kFmt, L2.raise, kTup, kLst, kLstM, fRep, kRepD, kSl, fSl, fNoP, fPart, kPart, sSetI, kSetI, lstOf, fComp, sFor, kItems, kRng1_nat, tgN, kClr, fSortIt, kSortIt, calmly, kIsE, sTry, kUn, fYes, kCat, nope, ofS_inj, ofS_beq, L2.ne_int, L2.eq_int, List.lookup_cons, List.lookup_nil, hn, hz, ha]
  · simp [g_Board_post, S_Board_post, runB, startW, sSeq, kSeq, sSet, sExpr, sRet, sRetN, sIf, sNil, fVar, fC, f1, f2, fB, kB, fA, fCons, fNil, kLen, seqOf, bnd, L2.ret, kI, kIc, kIx, kFin, fAnd, fOr, fNot, fAndV, fOrV, fChain, kIsN, kNotN, isNon_non, isNon_int, isNon_bl, isNon_tup, isNon_lst, isNon_o, kNotV, kIsi, kdOf, Kd.isi, fTru, kTru, truOf, kFld, insOf, fMeth, kIns, kN, chk, kMake, sSetF, kSetF, putFW, newO, kDIn, dGet, keyOf, sDPut', kDPut, dPut, kGet1, fGet1, kIsD, isD, fPop, kPop, sRaise, mInt, mNil, kFmt, L2.raise, kTup, kLst, kLstM, fRep, kRepD, kSl, fSl, fNoP, fPart, kPart, sSetI, kSetI, lstOf, fComp, sFor, kItems, kRng1_nat, tgN, kClr, fSortIt, kSortIt, calmly, kIsE, sTry, kUn, fYes, kCat, nope, ofS_inj, ofS_beq, L2.ne_int, L2.eq_int, List.lookup_cons, List.lookup_nil, hn, hz, ha, show 7 < s by omega]
theorem post_cr {k : Nat} {s t : Int} (u : UR us f) (hk : k < f.length) (h1 : (k : Int) < n) (hs : 0 ≤ s ∧ s ≤ 7) (hf : f.getD k none = some t) (ha : k < 1000000000000) : g_Board_post c [.o 2, .int k, .int s] (stO c n us f j) = some (.error c.Crowded, stO c n us f j) := by
  have hn := need_ok c (us := us) (f := f) (j := j) (at' := k) (by omega) h1
  have hv := u.lookup hk
  rw [hf] at hv
  simp only [stO] at hn
  simp [g_Board_post, S_Board_post, runB, startW, sSeq, kSeq, sSet, sExpr, sRet, sRetN, sIf, sNil, fVar, fC, f1, f2, fB, kB, fA, fCons, fNil, kLen, seqOf, bnd, L2.ret, kI, kIc, kIx, kFin, fAnd, fOr, fNot, fAndV, fOrV, fChain, kIsN, kNotN, isNon_non, isNon_int, isNon_bl, isNon_tup, isNon_lst, isNon_o, kNotV, kIsi, kdOf, Kd.isi, fTru, kTru, truOf, kFld, insOf, fMeth, kIns, kN, chk, kMake, sSetF, kSetF, putFW, newO, kDIn, dGet, keyOf, sDPut', kDPut, dPut, kGet1, fGet1, kIsD, isD, fPop, kPop, sRaise, mInt, mNil, kFmt, L2.raise, kTup, kLst, kLstM, fRep, kRepD, kSl, fSl, fNoP, fPart, kPart, sSetI, kSetI, lstOf, fComp, sFor, kItems, kRng1_nat, tgN, kClr, fSortIt, kSortIt, calmly, kIsE, sTry, kUn, fYes, kCat, nope, ofS_inj, ofS_beq, L2.ne_int, L2.eq_int, List.lookup_cons, List.lookup_nil, hn, valW_us, hv, show ¬ s < 0 by omega, show ¬ 7 < s by omega, ha]
theorem side_at_no {at' : Int} (h : ¬ (0 ≤ at' ∧ at' < n)) (ha : at'.natAbs < 1000000000000) : g_Board_side_at c [.o 2, .int at'] (stO c n us f j) = some (.error c.NoPlace, stO c n us f j) := by
  have hn := need_no c (us := us) (f := f) (j := j) h ha
  simp only [stO] at hn
  simp [g_Board_side_at, S_Board_side_at, runB, startW, sSeq, kSeq, sSet, sExpr, sRet, sRetN, sIf, sNil, fVar, fC, f1, f2, fB, kB, fA, fCons, fNil, kLen, seqOf, bnd, L2.ret, kI, kIc, kIx, kFin, fAnd, fOr, fNot, fAndV, fOrV, fChain, kIsN, kNotN, isNon_non, isNon_int, isNon_bl, isNon_tup, isNon_lst, isNon_o, kNotV, kIsi, kdOf, Kd.isi, fTru, kTru, truOf, kFld, insOf, fMeth, kIns, kN, chk, kMake, sSetF, kSetF, putFW, newO, kDIn, dGet, keyOf, sDPut', kDPut, dPut, kGet1, fGet1, kIsD, isD, fPop, kPop, sRaise, mInt, mNil, kFmt, L2.raise, kTup, kLst, kLstM, fRep, kRepD, kSl, fSl, fNoP, fPart, kPart, sSetI, kSetI, lstOf, fComp, sFor, kItems, kRng1_nat, tgN, kClr, fSortIt, kSortIt, calmly, kIsE, sTry, kUn, fYes, kCat, nope, ofS_inj, ofS_beq, L2.ne_int, L2.eq_int, List.lookup_cons, List.lookup_nil, hn]
theorem needu_ok {k : Nat} {t : Int} (u : UR us f) (hk : k < f.length) (h1 : (k : Int) < n) (hf : f.getD k none = some t) : g_Board_need_unit c [.o 2, .int k] (stO c n us f j) = some (.ok .non, stO c n us f j) := by
  have hs := side_at_ok c (j := j) u hk h1
  rw [hf] at hs
  simp only [stO, sideW] at hs
  simp [g_Board_need_unit, S_Board_need_unit, runB, startW, sSeq, kSeq, sSet, sExpr, sRet, sRetN, sIf, sNil, fVar, fC, f1, f2, fB, kB, fA, fCons, fNil, kLen, seqOf, bnd, L2.ret, kI, kIc, kIx, kFin, fAnd, fOr, fNot, fAndV, fOrV, fChain, kIsN, kNotN, isNon_non, isNon_int, isNon_bl, isNon_tup, isNon_lst, isNon_o, kNotV, kIsi, kdOf, Kd.isi, fTru, kTru, truOf, kFld, insOf, fMeth, kIns, kN, chk, kMake, sSetF, kSetF, putFW, newO, kDIn, dGet, keyOf, sDPut', kDPut, dPut, kGet1, fGet1, kIsD, isD, fPop, kPop, sRaise, mInt, mNil, kFmt, L2.raise, kTup, kLst, kLstM, fRep, kRepD, kSl, fSl, fNoP, fPart, kPart, sSetI, kSetI, lstOf, fComp, sFor, kItems, kRng1_nat, tgN, kClr, fSortIt, kSortIt, calmly, kIsE, sTry, kUn, fYes, kCat, nope, ofS_inj, ofS_beq, L2.ne_int, L2.eq_int, List.lookup_cons, List.lookup_nil, hs]
theorem needu_nu {k : Nat} (u : UR us f) (hk : k < f.length) (h1 : (k : Int) < n) (hf : f.getD k none = none) (ha : k < 1000000000000) : g_Board_need_unit c [.o 2, .int k] (stO c n us f j) = some (.error c.NoUnit, stO c n us f j) := by
  have hs := side_at_ok c (j := j) u hk h1
  rw [hf] at hs
  simp only [stO, sideW] at hs
  simp [g_Board_need_unit, S_Board_need_unit, runB, startW, sSeq, kSeq, sSet, sExpr, sRet, sRetN, sIf, sNil, fVar, fC, f1, f2, fB, kB, fA, fCons, fNil, kLen, seqOf, bnd, L2.ret, kI, kIc, kIx, kFin, fAnd, fOr, fNot, fAndV, fOrV, fChain, kIsN, kNotN, isNon_non, isNon_int, isNon_bl, isNon_tup, isNon_lst, isNon_o, kNotV, kIsi, kdOf, Kd.isi, fTru, kTru, truOf, kFld, insOf, fMeth, kIns, kN, chk, kMake, sSetF, kSetF, putFW, newO, kDIn, dGet, keyOf, sDPut', kDPut, dPut, kGet1, fGet1, kIsD, isD, fPop, kPop, sRaise, mInt, mNil, kFmt, L2.raise, kTup, kLst, kLstM, fRep, kRepD, kSl, fSl, fNoP, fPart, kPart, sSetI, kSetI, lstOf, fComp, sFor, kItems, kRng1_nat, tgN, kClr, fSortIt, kSortIt, calmly, kIsE, sTry, kUn, fYes, kCat, nope, ofS_inj, ofS_beq, L2.ne_int, L2.eq_int, List.lookup_cons, List.lookup_nil, hs, ha]
theorem needu_np {at' : Int} (h : ¬ (0 ≤ at' ∧ at' < n)) (ha : at'.natAbs < 1000000000000) : g_Board_need_unit c [.o 2, .int at'] (stO c n us f j) = some (.error c.NoPlace, stO c n us f j) := by
  have hs := side_at_no c (us := us) (f := f) (j := j) h ha
  simp only [stO] at hs
  simp [g_Board_need_unit, S_Board_need_unit, runB, startW, sSeq, kSeq, sSet, sExpr, sRet, sRetN, sIf, sNil, fVar, fC, f1, f2, fB, kB, fA, fCons, fNil, kLen, seqOf, bnd, L2.ret, kI, kIc, kIx, kFin, fAnd, fOr, fNot, fAndV, fOrV, fChain, kIsN, kNotN, isNon_non, isNon_int, isNon_bl, isNon_tup, isNon_lst, isNon_o, kNotV, kIsi, kdOf, Kd.isi, fTru, kTru, truOf, kFld, insOf, fMeth, kIns, kN, chk, kMake, sSetF, kSetF, putFW, newO, kDIn, dGet, keyOf, sDPut', kDPut, dPut, kGet1, fGet1, kIsD, isD, fPop, kPop, sRaise, mInt, mNil, kFmt, L2.raise, kTup, kLst, kLstM, fRep, kRepD, kSl, fSl, fNoP, fPart, kPart, sSetI, kSetI, lstOf, fComp, sFor, kItems, kRng1_nat, tgN, kClr, fSortIt, kSortIt, calmly, kIsE, sTry, kUn, fYes, kCat, nope, ofS_inj, ofS_beq, L2.ne_int, L2.eq_int, List.lookup_cons, List.lookup_nil, hs]
theorem lift_ok {k : Nat} {t : Int} (u : UR us f) (hk : k < f.length) (h1 : (k : Int) < n) (hf : f.getD k none = some t) : g_Board_lift c [.o 2, .int k] (stO c n us f j) = some (.ok .non, stO c n (us.filter fun p => decide (p.1 ≠ (k : Int))) f j) := by
  have hn := needu_ok c (j := j) u hk h1 hf
  have hv := u.lookup hk
  rw [hf] at hv
  simp only [stO] at hn
  simp [g_Board_lift, S_Board_lift, runB, startW, sSeq, kSeq, sSet, sExpr, sRet, sRetN, sIf, sNil, fVar, fC, f1, f2, fB, kB, fA, fCons, fNil, kLen, seqOf, bnd, L2.ret, kI, kIc, kIx, kFin, fAnd, fOr, fNot, fAndV, fOrV, fChain, kIsN, kNotN, isNon_non, isNon_int, isNon_bl, isNon_tup, isNon_lst, isNon_o, kNotV, kIsi, kdOf, Kd.isi, fTru, kTru, truOf, kFld, insOf, fMeth, kIns, kN, chk, kMake, sSetF, kSetF, putFW, newO, kDIn, dGet, keyOf, sDPut', kDPut, dPut, kGet1, fGet1, kIsD, isD, fPop, kPop, sRaise, mInt, mNil, kFmt, L2.raise, kTup, kLst, kLstM, fRep, kRepD, kSl, fSl, fNoP, fPart, kPart, sSetI, kSetI, lstOf, fComp, sFor, kItems, kRng1_nat, tgN, kClr, fSortIt, kSortIt, calmly, kIsE, sTry, kUn, fYes, kCat, nope, ofS_inj, ofS_beq, L2.ne_int, L2.eq_int, List.lookup_cons, List.lookup_nil, hn, valW_us, hv, dropW_us]
theorem lift_np {at' : Int} (h : ¬ (0 ≤ at' ∧ at' < n)) (ha : at'.natAbs < 1000000000000) : g_Board_lift c [.o 2, .int at'] (stO c n us f j) = some (.error c.NoPlace, stO c n us f j) := by
  have hn := needu_np c (us := us) (f := f) (j := j) h ha
  simp only [stO] at hn
  simp [g_Board_lift, S_Board_lift, runB, startW, sSeq, kSeq, sSet, sExpr, sRet, sRetN, sIf, sNil, fVar, fC, f1, f2, fB, kB, fA, fCons, fNil, kLen, seqOf, bnd, L2.ret, kI, kIc, kIx, kFin, fAnd, fOr, fNot, fAndV, fOrV, fChain, kIsN, kNotN, isNon_non, isNon_int, isNon_bl, isNon_tup, isNon_lst, isNon_o, kNotV, kIsi, kdOf, Kd.isi, fTru, kTru, truOf, kFld, insOf, fMeth, kIns, kN, chk, kMake, sSetF, kSetF, putFW, newO, kDIn, dGet, keyOf, sDPut', kDPut, dPut, kGet1, fGet1, kIsD, isD, fPop, kPop, sRaise, mInt, mNil, kFmt, L2.raise, kTup, kLst, kLstM, fRep, kRepD, kSl, fSl, fNoP, fPart, kPart, sSetI, kSetI, lstOf, fComp, sFor, kItems, kRng1_nat, tgN, kClr, fSortIt, kSortIt, calmly, kIsE, sTry, kUn, fYes, kCat, nope, ofS_inj, ofS_beq, L2.ne_int, L2.eq_int, List.lookup_cons, List.lookup_nil, hn]
theorem lift_nu {k : Nat} (u : UR us f) (hk : k < f.length) (h1 : (k : Int) < n) (hf : f.getD k none = none) (ha : k < 1000000000000) : g_Board_lift c [.o 2, .int k] (stO c n us f j) = some (.error c.NoUnit, stO c n us f j) := by
  have hn := needu_nu c (j := j) u hk h1 hf ha
  simp only [stO] at hn
  simp [g_Board_lift, S_Board_lift, runB, startW, sSeq, kSeq, sSet, sExpr, sRet, sRetN, sIf, sNil, fVar, fC, f1, f2, fB, kB, fA, fCons, fNil, kLen, seqOf, bnd, L2.ret, kI, kIc, kIx, kFin, fAnd, fOr, fNot, fAndV, fOrV, fChain, kIsN, kNotN, isNon_non, isNon_int, isNon_bl, isNon_tup, isNon_lst, isNon_o, kNotV, kIsi, kdOf, Kd.isi, fTru, kTru, truOf, kFld, insOf, fMeth, kIns, kN, chk, kMake, sSetF, kSetF, putFW, newO, kDIn, dGet, keyOf, sDPut', kDPut, dPut, kGet1, fGet1, kIsD, isD, fPop, kPop, sRaise, mInt, mNil, kFmt, L2.raise, kTup, kLst, kLstM, fRep, kRepD, kSl, fSl, fNoP, fPart, kPart, sSetI, kSetI, lstOf, fComp, sFor, kItems, kRng1_nat, tgN, kClr, fSortIt, kSortIt, calmly, kIsE, sTry, kUn, fYes, kCat, nope, ofS_inj, ofS_beq, L2.ne_int, L2.eq_int, List.lookup_cons, List.lookup_nil, hn]
abbrev bls (l : List Bool) : Wv := .lst (l.map .bl)
theorem at_side {k : Nat} (hk : k < f.length) : atI (f.map sideW) (k : Int) = some (sideW (f.getD k none)) := by
  refine atI_nat ?_
  simp [hk]
theorem isNon_side (o : Option Int) : isNon (sideW o) = o.isNone := by cases o <;> rfl
theorem lim6 : 6 ≤ lim := by rw [lim_eq]; decide
theorem due_np {at' : Int} {w : Wv} (h : ¬ (0 ≤ at' ∧ at' < f.length)) : g__law_due c [.o 4, .int at', w] (stO c n us f j) = some (.ok (bls [true, false, false, false, false, true]), stO c n us f j) := by
  by_cases h0 : 0 ≤ at'
  · simp [g__law_due, S__law_due, runB, startW, sSeq, kSeq, sSet, sExpr, sRet, sRetN, sIf, sNil, fVar, fC, f1, f2, fB, kB, fA, fCons, fNil, kLen, seqOf, bnd, L2.ret, kI, kIc, kIx, kFin, fAnd, fOr, fNot, fAndV, fOrV, fChain, kIsN, kNotN, isNon_non, isNon_int, isNon_bl, isNon_tup, isNon_lst, isNon_o, kNotV, kIsi, kdOf, Kd.isi, fTru, kTru, truOf, kFld, insOf, fMeth, kIns, kN, chk, kMake, sSetF, kSetF, putFW, newO, kDIn, dGet, keyOf, sDPut', kDPut, dPut, kGet1, fGet1, kIsD, isD, fPop, kPop, sRaise, mInt, mNil, kFmt, L2.raise, kTup, kLst, kLstM, fRep, kRepD, kSl, fSl, fNoP, fPart, kPart, sSetI, kSetI, lstOf, fComp, sFor, kItems, kRng1_nat, tgN, kClr, fSortIt, kSortIt, calmly, kIsE, sTry, kUn, fYes, kCat, nope, ofS_inj, ofS_beq, L2.ne_int, L2.eq_int, List.lookup_cons, List.lookup_nil, h0, show ¬ at' < (f.length : Int) by omega, lim6]
  · simp [g__law_due, S__law_due, runB, startW, sSeq, kSeq, sSet, sExpr, sRet, sRetN, sIf, sNil, fVar, fC, f1, f2, fB, kB, fA, fCons, fNil, kLen, seqOf, bnd, L2.ret, kI, kIc, kIx, kFin, fAnd, fOr, fNot, fAndV, fOrV, fChain, kIsN, kNotN, isNon_non, isNon_int, isNon_bl, isNon_tup, isNon_lst, isNon_o, kNotV, kIsi, kdOf, Kd.isi, fTru, kTru, truOf, kFld, insOf, fMeth, kIns, kN, chk, kMake, sSetF, kSetF, putFW, newO, kDIn, dGet, keyOf, sDPut', kDPut, dPut, kGet1, fGet1, kIsD, isD, fPop, kPop, sRaise, mInt, mNil, kFmt, L2.raise, kTup, kLst, kLstM, fRep, kRepD, kSl, fSl, fNoP, fPart, kPart, sSetI, kSetI, lstOf, fComp, sFor, kItems, kRng1_nat, tgN, kClr, fSortIt, kSortIt, calmly, kIsE, sTry, kUn, fYes, kCat, nope, ofS_inj, ofS_beq, L2.ne_int, L2.eq_int, List.lookup_cons, List.lookup_nil, h0, lim6]
theorem due_nu {k : Nat} (hk : k < f.length) (hf : f.getD k none = none) : g__law_due c [.o 4, .int k, .non] (stO c n us f j) = some (.ok (bls [false, false, false, true, false, true]), stO c n us f j) := by
  have h1 := at_side (f := f) hk
  rw [hf] at h1
  simp [g__law_due, S__law_due, runB, startW, sSeq, kSeq, sSet, sExpr, sRet, sRetN, sIf, sNil, fVar, fC, f1, f2, fB, kB, fA, fCons, fNil, kLen, seqOf, bnd, L2.ret, kI, kIc, kIx, kFin, fAnd, fOr, fNot, fAndV, fOrV, fChain, kIsN, kNotN, isNon_non, isNon_int, isNon_bl, isNon_tup, isNon_lst, isNon_o, kNotV, kIsi, kdOf, Kd.isi, fTru, kTru, truOf, kFld, insOf, fMeth, kIns, kN, chk, kMake, sSetF, kSetF, putFW, newO, kDIn, dGet, keyOf, sDPut', kDPut, dPut, kGet1, fGet1, kIsD, isD, fPop, kPop, sRaise, mInt, mNil, kFmt, L2.raise, kTup, kLst, kLstM, fRep, kRepD, kSl, fSl, fNoP, fPart, kPart, sSetI, kSetI, lstOf, fComp, sFor, kItems, kRng1_nat, tgN, kClr, fSortIt, kSortIt, calmly, kIsE, sTry, kUn, fYes, kCat, nope, ofS_inj, ofS_beq, L2.ne_int, L2.eq_int, List.lookup_cons, List.lookup_nil, hk, h1, sideW, lim6]
theorem due_l {k : Nat} {t : Int} (hk : k < f.length) (hf : f.getD k none = some t) : g__law_due c [.o 4, .int k, .non] (stO c n us f j) = some (.ok (.int 0), stO c n us f j) := by
  have h1 := at_side (f := f) hk
  rw [hf] at h1
  simp [g__law_due, S__law_due, runB, startW, sSeq, kSeq, sSet, sExpr, sRet, sRetN, sIf, sNil, fVar, fC, f1, f2, fB, kB, fA, fCons, fNil, kLen, seqOf, bnd, L2.ret, kI, kIc, kIx, kFin, fAnd, fOr, fNot, fAndV, fOrV, fChain, kIsN, kNotN, isNon_non, isNon_int, isNon_bl, isNon_tup, isNon_lst, isNon_o, kNotV, kIsi, kdOf, Kd.isi, fTru, kTru, truOf, kFld, insOf, fMeth, kIns, kN, chk, kMake, sSetF, kSetF, putFW, newO, kDIn, dGet, keyOf, sDPut', kDPut, dPut, kGet1, fGet1, kIsD, isD, fPop, kPop, sRaise, mInt, mNil, kFmt, L2.raise, kTup, kLst, kLstM, fRep, kRepD, kSl, fSl, fNoP, fPart, kPart, sSetI, kSetI, lstOf, fComp, sFor, kItems, kRng1_nat, tgN, kClr, fSortIt, kSortIt, calmly, kIsE, sTry, kUn, fYes, kCat, nope, ofS_inj, ofS_beq, L2.ne_int, L2.eq_int, List.lookup_cons, List.lookup_nil, hk, h1, sideW, lim6]
theorem due_ns {k : Nat} {s : Int} (hk : k < f.length) (hs : ¬ (0 ≤ s ∧ s ≤ 7)) : g__law_due c [.o 4, .int k, .int s] (stO c n us f j) = some (.ok (bls [false, true, false, false, false, true]), stO c n us f j) := by
  by_cases h0 : 0 ≤ s
  · simp [g__law_due, S__law_due, runB, startW, sSeq, kSeq, sSet, sExpr, sRet, sRetN, sIf, sNil, fVar, fC, f1, f2, fB, kB, fA, fCons, fNil, kLen, seqOf, bnd, L2.ret, kI, kIc, kIx, kFin, fAnd, fOr, fNot, fAndV, fOrV, fChain, kIsN, kNotN, isNon_non, isNon_int, isNon_bl, isNon_tup, isNon_lst, isNon_o, kNotV, kIsi, kdOf, Kd.isi, fTru, kTru, truOf, kFld, insOf, fMeth, kIns, kN, chk, kMake, sSetF, kSetF, putFW, newO, kDIn, dGet, keyOf, sDPut', kDPut, dPut, kGet1, fGet1, kIsD, isD, fPop, kPop, sRaise, mInt, mNil, kFmt, L2.raise, kTup, kLst, kLstM, fRep, kRepD, kSl, fSl, fNoP, fPart, kPart, sSetI, kSetI, lstOf, fComp, sFor, kItems, kRng1_nat, tgN, kClr, fSortIt, kSortIt, calmly, kIsE, sTry, kUn, fYes, kCat, nope, ofS_inj, ofS_beq, L2.ne_int, L2.eq_int, List.lookup_cons, List.lookup_nil, hk, h0, show ¬ s ≤ 7 by omega, lim6]
  · simp [g__law_due, S__law_due, runB, startW, sSeq, kSeq, sSet, sExpr, sRet, sRetN, sIf, sNil, fVar, fC, f1, f2, fB, kB, fA, fCons, fNil, kLen, seqOf, bnd, L2.ret, kI, kIc, kIx, kFin, fAnd, fOr, fNot, fAndV, fOrV, fChain, kIsN, kNotN, isNon_non, isNon_int, isNon_bl, isNon_tup, isNon_lst, isNon_o, kNotV, kIsi, kdOf, Kd.isi, fTru, kTru, truOf, kFld, insOf, fMeth, kIns, kN, chk, kMake, sSetF, kSetF, putFW, newO, kDIn, dGet, keyOf, sDPut', kDPut, dPut, kGet1, fGet1, kIsD, isD, fPop, kPop, sRaise, mInt, mNil, kFmt, L2.raise, kTup, kLst, kLstM, fRep, kRepD, kSl, fSl, fNoP, fPart, kPart, sSetI, kSetI, lstOf, fComp, sFor, kItems, kRng1_nat, tgN, kClr, fSortIt, kSortIt, calmly, kIsE, sTry, kUn, fYes, kCat, nope, ofS_inj, ofS_beq, L2.ne_int, L2.eq_int, List.lookup_cons, List.lookup_nil, hk, h0, lim6]
theorem due_cr {k : Nat} {s t : Int} (hk : k < f.length) (hs : 0 ≤ s ∧ s ≤ 7) (hf : f.getD k none = some t) : g__law_due c [.o 4, .int k, .int s] (stO c n us f j) = some (.ok (bls [false, false, true, false, false, true]), stO c n us f j) := by
  have h1 := at_side (f := f) hk
  rw [hf] at h1
  simp [g__law_due, S__law_due, runB, startW, sSeq, kSeq, sSet, sExpr, sRet, sRetN, sIf, sNil, fVar, fC, f1, f2, fB, kB, fA, fCons, fNil, kLen, seqOf, bnd, L2.ret, kI, kIc, kIx, kFin, fAnd, fOr, fNot, fAndV, fOrV, fChain, kIsN, kNotN, isNon_non, isNon_int, isNon_bl, isNon_tup, isNon_lst, isNon_o, kNotV, kIsi, kdOf, Kd.isi, fTru, kTru, truOf, kFld, insOf, fMeth, kIns, kN, chk, kMake, sSetF, kSetF, putFW, newO, kDIn, dGet, keyOf, sDPut', kDPut, dPut, kGet1, fGet1, kIsD, isD, fPop, kPop, sRaise, mInt, mNil, kFmt, L2.raise, kTup, kLst, kLstM, fRep, kRepD, kSl, fSl, fNoP, fPart, kPart, sSetI, kSetI, lstOf, fComp, sFor, kItems, kRng1_nat, tgN, kClr, fSortIt, kSortIt, calmly, kIsE, sTry, kUn, fYes, kCat, nope, ofS_inj, ofS_beq, L2.ne_int, L2.eq_int, List.lookup_cons, List.lookup_nil, hk, h1, sideW, hs.1, hs.2, lim6]
theorem due_p {k : Nat} {s : Int} (hk : k < f.length) (hs : 0 ≤ s ∧ s ≤ 7) (hf : f.getD k none = none) : g__law_due c [.o 4, .int k, .int s] (stO c n us f j) = some (.ok (.int 0), stO c n us f j) := by
  have h1 := at_side (f := f) hk
  rw [hf] at h1
  simp [g__law_due, S__law_due, runB, startW, sSeq, kSeq, sSet, sExpr, sRet, sRetN, sIf, sNil, fVar, fC, f1, f2, fB, kB, fA, fCons, fNil, kLen, seqOf, bnd, L2.ret, kI, kIc, kIx, kFin, fAnd, fOr, fNot, fAndV, fOrV, fChain, kIsN, kNotN, isNon_non, isNon_int, isNon_bl, isNon_tup, isNon_lst, isNon_o, kNotV, kIsi, kdOf, Kd.isi, fTru, kTru, truOf, kFld, insOf, fMeth, kIns, kN, chk, kMake, sSetF, kSetF, putFW, newO, kDIn, dGet, keyOf, sDPut', kDPut, dPut, kGet1, fGet1, kIsD, isD, fPop, kPop, sRaise, mInt, mNil, kFmt, L2.raise, kTup, kLst, kLstM, fRep, kRepD, kSl, fSl, fNoP, fPart, kPart, sSetI, kSetI, lstOf, fComp, sFor, kItems, kRng1_nat, tgN, kClr, fSortIt, kSortIt, calmly, kIsE, sTry, kUn, fYes, kCat, nope, ofS_inj, ofS_beq, L2.ne_int, L2.eq_int, List.lookup_cons, List.lookup_nil, hk, h1, sideW, hs.1, hs.2, lim6]
/-- what the exceptions answer -/
structure CAok (c : CA) : Prop where
  np : [.ref c.NoPlace, .ref c.NoSide, .ref c.Crowded, .ref c.NoUnit, .ref c.OutOfReach, .type "ValueError"].map (c.kit c.NoPlace) = [true, false, false, false, false, true]
  ns : [.ref c.NoPlace, .ref c.NoSide, .ref c.Crowded, .ref c.NoUnit, .ref c.OutOfReach, .type "ValueError"].map (c.kit c.NoSide) = [false, true, false, false, false, true]
  cr : [.ref c.NoPlace, .ref c.NoSide, .ref c.Crowded, .ref c.NoUnit, .ref c.OutOfReach, .type "ValueError"].map (c.kit c.Crowded) = [false, false, true, false, false, true]
  nu : [.ref c.NoPlace, .ref c.NoSide, .ref c.Crowded, .ref c.NoUnit, .ref c.OutOfReach, .type "ValueError"].map (c.kit c.NoUnit) = [false, false, false, true, false, true]
  ct : c.caught c.OrderError c.NoPlace = true ∧ c.caught c.OrderError c.NoSide = true ∧ c.caught c.OrderError c.Crowded = true ∧ c.caught c.OrderError c.NoUnit = true
theorem done_post_ok {at' s : Int} {om om' : List Ob} (h : g_Board_post c [.o 2, .int at', .int s] (stO c n us f j) = some (.ok .non, om')) : g__law_done c [.o 2, .int at', .int s] (stO c n us f j) = some (.ok (.int 0), om') := by
  simp only [stO] at h
  simp [g__law_done, S__law_done, runB, startW, sSeq, kSeq, sSet, sExpr, sRet, sRetN, sIf, sNil, fVar, fC, f1, f2, fB, kB, fA, fCons, fNil, kLen, seqOf, bnd, L2.ret, kI, kIc, kIx, kFin, fAnd, fOr, fNot, fAndV, fOrV, fChain, kIsN, kNotN, isNon_non, isNon_int, isNon_bl, isNon_tup, isNon_lst, isNon_o, kNotV, kIsi, kdOf, Kd.isi, fTru, kTru, truOf, kFld, insOf, fMeth, kIns, kN, chk, kMake, sSetF, kSetF, putFW, newO, kDIn, dGet, keyOf, sDPut', kDPut, dPut, kGet1, fGet1, kIsD, isD, fPop, kPop, sRaise, mInt, mNil, kFmt, L2.raise, kTup, kLst, kLstM, fRep, kRepD, kSl, fSl, fNoP, fPart, kPart, sSetI, kSetI, lstOf, fComp, sFor, kItems, kRng1_nat, tgN, kClr, fSortIt, kSortIt, calmly, kIsE, sTry, kUn, fYes, kCat, nope, ofS_inj, ofS_beq, L2.ne_int, L2.eq_int, List.lookup_cons, List.lookup_nil, h]
theorem done_lift_ok {at' : Int} {om om' : List Ob} (h : g_Board_lift c [.o 2, .int at'] (stO c n us f j) = some (.ok .non, om')) : g__law_done c [.o 2, .int at', .non] (stO c n us f j) = some (.ok (.int 0), om') := by
  simp only [stO] at h
  simp [g__law_done, S__law_done, runB, startW, sSeq, kSeq, sSet, sExpr, sRet, sRetN, sIf, sNil, fVar, fC, f1, f2, fB, kB, fA, fCons, fNil, kLen, seqOf, bnd, L2.ret, kI, kIc, kIx, kFin, fAnd, fOr, fNot, fAndV, fOrV, fChain, kIsN, kNotN, isNon_non, isNon_int, isNon_bl, isNon_tup, isNon_lst, isNon_o, kNotV, kIsi, kdOf, Kd.isi, fTru, kTru, truOf, kFld, insOf, fMeth, kIns, kN, chk, kMake, sSetF, kSetF, putFW, newO, kDIn, dGet, keyOf, sDPut', kDPut, dPut, kGet1, fGet1, kIsD, isD, fPop, kPop, sRaise, mInt, mNil, kFmt, L2.raise, kTup, kLst, kLstM, fRep, kRepD, kSl, fSl, fNoP, fPart, kPart, sSetI, kSetI, lstOf, fComp, sFor, kItems, kRng1_nat, tgN, kClr, fSortIt, kSortIt, calmly, kIsE, sTry, kUn, fYes, kCat, nope, ofS_inj, ofS_beq, L2.ne_int, L2.eq_int, List.lookup_cons, List.lookup_nil, h]
theorem lim4 : 4 ≤ lim := by rw [lim_eq]; decide
theorem lim2 : 2 ≤ lim := by rw [lim_eq]; decide
theorem done_post_no {at' s : Int} {C : Addr} {l : List Bool} (h : g_Board_post c [.o 2, .int at', .int s] (stO c n us f j) = some (.error C, stO c n us f j)) (hc : c.caught c.OrderError C = true) (hE : c.isE C = true)
    (hl : [.ref c.NoPlace, .ref c.NoSide, .ref c.Crowded, .ref c.NoUnit, .ref c.OutOfReach, .type "ValueError"].map (c.kit C) = l) : g__law_done c [.o 2, .int at', .int s] (stO c n us f j) = some (.ok (bls l), stO c n us f (j ++ [.exc C])) := by
  subst hl
  simp only [stO] at h
  simp [g__law_done, S__law_done, runB, startW, sSeq, kSeq, sSet, sExpr, sRet, sRetN, sIf, sNil, fVar, fC, f1, f2, fB, kB, fA, fCons, fNil, kLen, seqOf, bnd, L2.ret, kI, kIc, kIx, kFin, fAnd, fOr, fNot, fAndV, fOrV, fChain, kIsN, kNotN, isNon_non, isNon_int, isNon_bl, isNon_tup, isNon_lst, isNon_o, kNotV, kIsi, kdOf, Kd.isi, fTru, kTru, truOf, kFld, insOf, fMeth, kIns, kN, chk, kMake, sSetF, kSetF, putFW, newO, kDIn, dGet, keyOf, sDPut', kDPut, dPut, kGet1, fGet1, kIsD, isD, fPop, kPop, sRaise, mInt, mNil, kFmt, L2.raise, kTup, kLst, kLstM, fRep, kRepD, kSl, fSl, fNoP, fPart, kPart, sSetI, kSetI, lstOf, fComp, sFor, kItems, kRng1_nat, tgN, kClr, fSortIt, kSortIt, calmly, kIsE, sTry, kUn, fYes, kCat, nope, ofS_inj, ofS_beq, L2.ne_int, L2.eq_int, List.lookup_cons, List.lookup_nil, h, hc, hE, lim4, lim2, lim6]
theorem done_lift_no {at' : Int} {C : Addr} {l : List Bool} (h : g_Board_lift c [.o 2, .int at'] (stO c n us f j) = some (.error C, stO c n us f j)) (hc : c.caught c.OrderError C = true) (hE : c.isE C = true)
    (hl : [.ref c.NoPlace, .ref c.NoSide, .ref c.Crowded, .ref c.NoUnit, .ref c.OutOfReach, .type "ValueError"].map (c.kit C) = l) : g__law_done c [.o 2, .int at', .non] (stO c n us f j) = some (.ok (bls l), stO c n us f (j ++ [.exc C])) := by
  subst hl
  simp only [stO] at h
  simp [g__law_done, S__law_done, runB, startW, sSeq, kSeq, sSet, sExpr, sRet, sRetN, sIf, sNil, fVar, fC, f1, f2, fB, kB, fA, fCons, fNil, kLen, seqOf, bnd, L2.ret, kI, kIc, kIx, kFin, fAnd, fOr, fNot, fAndV, fOrV, fChain, kIsN, kNotN, isNon_non, isNon_int, isNon_bl, isNon_tup, isNon_lst, isNon_o, kNotV, kIsi, kdOf, Kd.isi, fTru, kTru, truOf, kFld, insOf, fMeth, kIns, kN, chk, kMake, sSetF, kSetF, putFW, newO, kDIn, dGet, keyOf, sDPut', kDPut, dPut, kGet1, fGet1, kIsD, isD, fPop, kPop, sRaise, mInt, mNil, kFmt, L2.raise, kTup, kLst, kLstM, fRep, kRepD, kSl, fSl, fNoP, fPart, kPart, sSetI, kSetI, lstOf, fComp, sFor, kItems, kRng1_nat, tgN, kClr, fSortIt, kSortIt, calmly, kIsE, sTry, kUn, fYes, kCat, nope, ofS_inj, ofS_beq, L2.ne_int, L2.eq_int, List.lookup_cons, List.lookup_nil, h, hc, hE, lim4, lim2, lim6]
/-- the due row of a roll -/
theorem due_row : ((rng1 f.length).filter fun w => match w with | .int k => !((f.getD k.toNat none).isNone) | _ => false).map (fun w => match w with | .int k => Wv.tup [.int k, sideW (f.getD k.toNat none)] | _ => .non) = (dueL f).map prW := by
  rw [filter_rng1, List.map_map]
  unfold dueL
  rw [List.map_filterMap]
  generalize List.range f.length = l
  induction l with
  | nil => rfl
  | cons k l ih =>
    rw [List.filter_cons, List.filterMap_cons]
    simp only [Int.toNat_natCast] at ih ⊢
    cases h : f.getD k none with
    | none => simpa [h] using ih
    | some s =>
      simp only [Option.isNone_some, Bool.not_false, if_true, List.map_cons, Option.map_some]
      rw [ih]
      congr 1
      show Wv.tup [Wv.int k, sideW (f.getD (k : Int).toNat none)] = _
      rw [Int.toNat_natCast, h]
      rfl
theorem lays_pr (p : Int × Int) (om : List Ob) : pyTop om (prW p) = some (.tuple [.int p.1, .int p.2]) ∧ lays (.tuple [.int p.1, .int p.2]) = true := by
  refine ⟨by simp [prW, pyTop, pyOf, pysOf], by simp [lays, PyData.canLay0, PyData.canLayAll0, PyData.depth, PyData.depthAll]⟩
theorem ne_self (p : Int × Int) (om : List Ob) : kEqD true (prW p) (prW p) om = some (.ok (.bl false), om) := by
  obtain ⟨h1, h2⟩ := lays_pr p om
  simp [kEqD, h1, h2, PyData.eqv, PyData.eqvAll]
theorem dueL_len : (dueL f).length ≤ f.length := by
  unfold dueL
  exact Nat.le_trans (List.length_filterMap_le _ _) (by simp)
theorem roll_comp (x0 x2 x3 : Option Wv) : compW (P1__law_roll c) (E1__law_roll c) (fun w => compSl [1] w [x0, some (.o 4), x2, x3]) (rng1 f.length) (stO c n us f j) = some (.ok ((dueL f).map prW), stO c n us f j) := by
  rw [← due_row]
  refine compW_pure _ _ (fun w hw => ?_) (fun w hw _ => ?_)
  · obtain ⟨k, hk, rfl⟩ := mem_rng1 hw
    simp [P1__law_roll, compSl, runB, startW, sSeq, kSeq, sSet, sExpr, sRet, sRetN, sIf, sNil, fVar, fC, f1, f2, fB, kB, fA, fCons, fNil, kLen, seqOf, bnd, L2.ret, kI, kIc, kIx, kFin, fAnd, fOr, fNot, fAndV, fOrV, fChain, kIsN, kNotN, isNon_non, isNon_int, isNon_bl, isNon_tup, isNon_lst, isNon_o, kNotV, kIsi, kdOf, Kd.isi, fTru, kTru, truOf, kFld, insOf, fMeth, kIns, kN, chk, kMake, sSetF, kSetF, putFW, newO, kDIn, dGet, keyOf, sDPut', kDPut, dPut, kGet1, fGet1, kIsD, isD, fPop, kPop, sRaise, mInt, mNil, kFmt, L2.raise, kTup, kLst, kLstM, fRep, kRepD, kSl, fSl, fNoP, fPart, kPart, sSetI, kSetI, lstOf, fComp, sFor, kItems, kRng1_nat, tgN, kClr, fSortIt, kSortIt, calmly, kIsE, sTry, kUn, fYes, kCat, nope, ofS_inj, ofS_beq, L2.ne_int, L2.eq_int, List.lookup_cons, List.lookup_nil, at_side hk, isNon_side]
  · obtain ⟨k, hk, rfl⟩ := mem_rng1 hw
    simp [E1__law_roll, compSl, runB, startW, sSeq, kSeq, sSet, sExpr, sRet, sRetN, sIf, sNil, fVar, fC, f1, f2, fB, kB, fA, fCons, fNil, kLen, seqOf, bnd, L2.ret, kI, kIc, kIx, kFin, fAnd, fOr, fNot, fAndV, fOrV, fChain, kIsN, kNotN, isNon_non, isNon_int, isNon_bl, isNon_tup, isNon_lst, isNon_o, kNotV, kIsi, kdOf, Kd.isi, fTru, kTru, truOf, kFld, insOf, fMeth, kIns, kN, chk, kMake, sSetF, kSetF, putFW, newO, kDIn, dGet, keyOf, sDPut', kDPut, dPut, kGet1, fGet1, kIsD, isD, fPop, kPop, sRaise, mInt, mNil, kFmt, L2.raise, kTup, kLst, kLstM, fRep, kRepD, kSl, fSl, fNoP, fPart, kPart, sSetI, kSetI, lstOf, fComp, sFor, kItems, kRng1_nat, tgN, kClr, fSortIt, kSortIt, calmly, kIsE, sTry, kUn, fYes, kCat, nope, ofS_inj, ofS_beq, L2.ne_int, L2.eq_int, List.lookup_cons, List.lookup_nil, at_side hk, lim2]
theorem roll_turn {l : List (Int × Int)} {k : Nat} (hk : k < l.length) (om : List Ob) : B1__law_roll c [some (.lst (l.map prW)), some (.o 4), some (.lst (l.map prW)), some (.int k)] om = some (.ok (.nx, [some (.lst (l.map prW)), some (.o 4), some (.lst (l.map prW)), some (.int k)]), om) := by
  have e : atI (l.map prW) (k : Int) = some (prW l[k]) := atI_nat (by simp [hk])
  generalize l[k] = p at e
  obtain ⟨a, b⟩ := p
  have e0 : atI [Wv.int a, Wv.int b] 0 = some (.int a) := rfl
  have e1 : atI [Wv.int a, Wv.int b] 1 = some (.int b) := rfl
  have hn := fun om => ne_self (a, b) om
  simp only [prW] at hn e
  simp [B1__law_roll, runB, startW, sSeq, kSeq, sSet, sExpr, sRet, sRetN, sIf, sNil, fVar, fC, f1, f2, fB, kB, fA, fCons, fNil, kLen, seqOf, bnd, L2.ret, kI, kIc, kIx, kFin, fAnd, fOr, fNot, fAndV, fOrV, fChain, kIsN, kNotN, isNon_non, isNon_int, isNon_bl, isNon_tup, isNon_lst, isNon_o, kNotV, kIsi, kdOf, Kd.isi, fTru, kTru, truOf, kFld, insOf, fMeth, kIns, kN, chk, kMake, sSetF, kSetF, putFW, newO, kDIn, dGet, keyOf, sDPut', kDPut, dPut, kGet1, fGet1, kIsD, isD, fPop, kPop, sRaise, mInt, mNil, kFmt, L2.raise, kTup, kLst, kLstM, fRep, kRepD, kSl, fSl, fNoP, fPart, kPart, sSetI, kSetI, lstOf, fComp, sFor, kItems, kRng1_nat, tgN, kClr, fSortIt, kSortIt, calmly, kIsE, sTry, kUn, fYes, kCat, nope, ofS_inj, ofS_beq, L2.ne_int, L2.eq_int, List.lookup_cons, List.lookup_nil, e, e0, e1, whole, hn]
end
end MP

set_option maxHeartbeats 400000
namespace MP
open PySem L2
section
variable (c : CA) {n : Int} {us : List (Int × Int)} {f : List (Option Int)} {j : List Ob}
theorem roll_loop {l : List (Int × Int)} (om : List Ob) (x : Option Wv) : ∃ y, forS (tgN 3) (B1__law_roll c) (rng1 l.length) [some (.lst (l.map prW)), some (.o 4), some (.lst (l.map prW)), x] om = some (.ok (.nx, [some (.lst (l.map prW)), some (.o 4), some (.lst (l.map prW)), y]), om) := by
  obtain ⟨sl', om', hf, rfl, y, rfl⟩ := forS_inv (T := tgN 3) (S := B1__law_roll c) (fun sl om' => om' = om ∧ ∃ y, sl = [some (.lst (l.map prW)), some (.o 4), some (.lst (l.map prW)), y]) (l := rng1 l.length)
    (sl := [some (.lst (l.map prW)), some (.o 4), some (.lst (l.map prW)), x]) (om := om) (fun w hw sl om' ⟨h1, y, h2⟩ => by
      subst h1 h2
      obtain ⟨k, hk, rfl⟩ := mem_rng1 hw
      exact ⟨_, .nx, _, _, rfl, roll_turn c hk _, .inl rfl, rfl, _, rfl⟩) ⟨rfl, x, rfl⟩
  exact ⟨y, hf⟩
theorem len_of {i : Nat} {sl : Sl} {om : List Ob} {ws : List Wv} (h : sl[i]? = some (some (.lst ws))) : (fA kLen (fCons (fVar i) fNil)) sl om = some (.ok (.int ws.length), om) := by
  simp [fA, fCons, fVar, fNil, kLen, seqOf, bnd, L2.ret, h]
theorem len_o4 (a b d : Option Wv) : (fA kLen (fCons (fVar 1) fNil)) [a, some (.o 4), b, d] (stO c n us f j) = some (.ok (.int f.length), stO c n us f j) := by
  simp [runB, startW, sSeq, kSeq, sSet, sExpr, sRet, sRetN, sIf, sNil, fVar, fC, f1, f2, fB, kB, fA, fCons, fNil, kLen, seqOf, bnd, L2.ret, kI, kIc, kIx, kFin, fAnd, fOr, fNot, fAndV, fOrV, fChain, kIsN, kNotN, isNon_non, isNon_int, isNon_bl, isNon_tup, isNon_lst, isNon_o, kNotV, kIsi, kdOf, Kd.isi, fTru, kTru, truOf, kFld, insOf, fMeth, kIns, kN, chk, kMake, sSetF, kSetF, putFW, newO, kDIn, dGet, keyOf, sDPut', kDPut, dPut, kGet1, fGet1, kIsD, isD, fPop, kPop, sRaise, mInt, mNil, kFmt, L2.raise, kTup, kLst, kLstM, fRep, kRepD, kSl, fSl, fNoP, fPart, kPart, sSetI, kSetI, lstOf, fComp, sFor, kItems, kRng1_nat, tgN, kClr, fSortIt, kSortIt, calmly, kIsE, sTry, kUn, fYes, kCat, nope, ofS_inj, ofS_beq, L2.ne_int, L2.eq_int, List.lookup_cons, List.lookup_nil]
end
end MP

set_option maxHeartbeats 400000
namespace MP
open PySem L2
section
variable (c : CA) {n : Int} {us : List (Int × Int)} {f : List (Option Int)} {j : List Ob}
theorem bndo {α β : Type} {m : Mw α} {k : α → Mw β} {om om1 : List Ob} {a : α} (h : m om = some (.ok a, om1)) : bnd m k om = k a om1 := by
  simp [bnd, h]
theorem roll_same (hl : f.length < 64) : g__law_roll c [.lst ((dueL f).map prW), .o 4] (stO c n us f j) = some (.ok (.bl true), stO c n us f j) := by
  have hd := dueL_len (f := f)
  have l1 : f.length ≤ lim := by have := lim_eq; omega
  have l2 : (dueL f).length ≤ lim := by omega
  have comp := roll_comp c (n := n) (us := us) (f := f) (j := j) (some (.lst ((dueL f).map prW))) none none
  have lo := len_o4 c (n := n) (us := us) (f := f) (j := j) (some (.lst ((dueL f).map prW))) none none
  generalize hD : dueL f = D at *
  generalize hS : stO c n us f j = st at *
  obtain ⟨y, hf⟩ := roll_loop c (l := D) st none
  have e1 : (sSet 2 (fComp kLst [1] (fun sl => bnd ((fA kLen (fCons (fVar 1) fNil)) sl) kRng1) (P1__law_roll c) (E1__law_roll c))) [some (.lst (D.map prW)), some (.o 4), none, none] st = some (.ok (.nx, [some (.lst (D.map prW)), some (.o 4), some (.lst (D.map prW)), none]), st) := by
    refine sSet_ok (i := 2) (sl := [some (.lst (D.map prW)), some (.o 4), none, none]) (om1 := st) ?_
    rw [sComp (ws := rng1 f.length) (om1 := st) ((bndo lo).trans (kRng1_nat _ _ l1)) (by rw [rng1_len]; exact l1) comp]
    simp [kLst, l2, L2.ret]
  have e3 := sFor_nx (sl1 := []) (fi := fun sl => bnd ((fA kLen (fCons (fVar 2) fNil)) sl) kRng1) (sl := [some (.lst (D.map prW)), some (.o 4), some (.lst (D.map prW)), none]) (om := st) (om1 := st) ((bndo (len_of rfl)).trans (kRng1_nat _ _ (by rw [List.length_map]; exact l2))) (by rw [List.length_map]; exact hf)
  refine run_rt (sl1 := [some (.lst (D.map prW)), some (.o 4), some (.lst (D.map prW)), y]) ?_
  show S__law_roll c [some (.lst (D.map prW)), some (.o 4), none, none] _ = _
  unfold S__law_roll
  rw [sSeq_nx e1]
  rw [sSeq_nx (sl1 := [some (.lst (D.map prW)), some (.o 4), some (.lst (D.map prW)), none]) (om1 := st) (by simp [runB, startW, sSeq, kSeq, sSet, sExpr, sRet, sRetN, sIf, sNil, fVar, fC, f1, f2, fB, kB, fA, fCons, fNil, kLen, seqOf, bnd, L2.ret, kI, kIc, kIx, kFin, fAnd, fOr, fNot, fAndV, fOrV, fChain, kIsN, kNotN, isNon_non, isNon_int, isNon_bl, isNon_tup, isNon_lst, isNon_o, kNotV, kIsi, kdOf, Kd.isi, fTru, kTru, truOf, kFld, insOf, fMeth, kIns, kN, chk, kMake, sSetF, kSetF, putFW, newO, kDIn, dGet, keyOf, sDPut', kDPut, dPut, kGet1, fGet1, kIsD, isD, fPop, kPop, sRaise, mInt, mNil, kFmt, L2.raise, kTup, kLst, kLstM, fRep, kRepD, kSl, fSl, fNoP, fPart, kPart, sSetI, kSetI, lstOf, fComp, sFor, kItems, kRng1_nat, tgN, kClr, fSortIt, kSortIt, calmly, kIsE, sTry, kUn, fYes, kCat, nope, ofS_inj, ofS_beq, L2.ne_int, L2.eq_int, List.lookup_cons, List.lookup_nil])]
  rw [sSeq_nx e3]
  simp [runB, startW, sSeq, kSeq, sSet, sExpr, sRet, sRetN, sIf, sNil, fVar, fC, f1, f2, fB, kB, fA, fCons, fNil, kLen, seqOf, bnd, L2.ret, kI, kIc, kIx, kFin, fAnd, fOr, fNot, fAndV, fOrV, fChain, kIsN, kNotN, isNon_non, isNon_int, isNon_bl, isNon_tup, isNon_lst, isNon_o, kNotV, kIsi, kdOf, Kd.isi, fTru, kTru, truOf, kFld, insOf, fMeth, kIns, kN, chk, kMake, sSetF, kSetF, putFW, newO, kDIn, dGet, keyOf, sDPut', kDPut, dPut, kGet1, fGet1, kIsD, isD, fPop, kPop, sRaise, mInt, mNil, kFmt, L2.raise, kTup, kLst, kLstM, fRep, kRepD, kSl, fSl, fNoP, fPart, kPart, sSetI, kSetI, lstOf, fComp, sFor, kItems, kRng1_nat, tgN, kClr, fSortIt, kSortIt, calmly, kIsE, sTry, kUn, fYes, kCat, nope, ofS_inj, ofS_beq, L2.ne_int, L2.eq_int, List.lookup_cons, List.lookup_nil]
end
end MP

set_option maxHeartbeats 400000
namespace MP
open PySem L2
section
variable (c : CA) {n : Int} {us : List (Int × Int)} {f : List (Option Int)} {j : List Ob}
theorem ne_side (o : Option Int) (om : List Ob) : kEqD true (sideW o) (sideW o) om = some (.ok (.bl false), om) := by
  cases o with
  | none => simp [sideW, kEqD, pyTop, pyOf, lays, PyData.canLay0, PyData.depth, PyData.eqv]
  | some s => simp [sideW, ne_int]
noncomputable def endS (c : CA) : FS := (sSeq (sIf (fNot (fTru (fA (kN 2 (g__law_roll c)) (fCons (fMeth c.Board "roll" 1 (g_Board_roll c) (fVar 3) fNil) (fCons (fVar 4) fNil))))) (sRet (fC (.bl false))) sNil)
    (sIf (fAnd (fB (fChain kLe kLt (fC (.int 0)) (fVar 6) (fVar 1))) (fB (f2 kNe (fMeth c.Board "side_at" 2 (g_Board_side_at c) (fVar 3) (fCons (fVar 6) fNil)) (f2 kIx (fVar 4) (fVar 6))))) (sRet (fC (.bl false))) sNil))
abbrev endsl (n a : Int) (s x5 x7 x8 : Option Wv) : Sl := [s, some (.int n), some (.o 0), some (.o 2), some (.o 4), x5, some (.int a), x7, x8]
theorem look_board (m : String) (h1 : m ≠ "chart") (h2 : m ≠ "units") : List.lookup (Str.ofString m) [(Str.ofString "chart", Wv.o 0), (Str.ofString "units", Wv.o 3)] = none := by
  simp [List.lookup_cons, ofS_beq, h1, h2]
theorem tail_end (u : UR us f) (hn : (f.length : Int) = n) (hl : f.length < 64) {a : Int} (s x5 x7 x8 : Option Wv) : endS c (endsl n a s x5 x7 x8) (stO c n us f j) = some (.ok (.nx, endsl n a s x5 x7 x8), stO c n us f j) := by
  have m1 : fMeth c.Board "roll" 1 (g_Board_roll c) (fVar 3) fNil (endsl n a s x5 x7 x8) (stO c n us f j) = _ := (fMeth_ok (fVar_ok rfl) rfl (look_board _ (by decide) (by decide)) fNil_ok rfl).trans (roll_ok c (n := n) (j := j) u hl)
  have r1 := roll_same c (n := n) (us := us) (j := j) hl
  have e1 := sIf_no (S1 := sRet (fC (.bl false))) (fNot_ok (fTru_bl ((fA_ok (k := kN 2 (g__law_roll c)) (fCons_ok m1 (fCons_ok (fVar_ok (i := 4) rfl) fNil_ok))).trans ((kN_ok rfl).trans r1))))
  refine (sSeq_nx e1).trans ?_
  clear e1 r1 m1
  refine sIf_no ?_
  by_cases h : 0 ≤ a ∧ a < n
  · obtain ⟨k, rfl⟩ : ∃ k : Nat, a = k := ⟨a.toNat, by omega⟩
    have hk : k < f.length := by omega
    have h2 := side_at_ok c (j := j) u hk h.2
    refine (fAnd_t (om1 := stO c n us f j) (by simp [endsl, runB, startW, sSeq, kSeq, sSet, sExpr, sRet, sRetN, sIf, sNil, fVar, fC, f1, f2, fB, kB, fA, fCons, fNil, kLen, seqOf, bnd, L2.ret, kI, kIc, kIx, kFin, fAnd, fOr, fNot, fAndV, fOrV, fChain, kIsN, kNotN, isNon_non, isNon_int, isNon_bl, isNon_tup, isNon_lst, isNon_o, kNotV, kIsi, kdOf, Kd.isi, fTru, kTru, truOf, kFld, insOf, fMeth, kIns, kN, chk, kMake, sSetF, kSetF, putFW, newO, kDIn, dGet, keyOf, sDPut', kDPut, dPut, kGet1, fGet1, kIsD, isD, fPop, kPop, sRaise, mInt, mNil, kFmt, L2.raise, kTup, kLst, kLstM, fRep, kRepD, kSl, fSl, fNoP, fPart, kPart, sSetI, kSetI, lstOf, fComp, sFor, kItems, kRng1_nat, tgN, kClr, fSortIt, kSortIt, calmly, kIsE, sTry, kUn, fYes, kCat, nope, ofS_inj, ofS_beq, L2.ne_int, L2.eq_int, List.lookup_cons, List.lookup_nil, h.2])).trans ?_
    refine fB_ok ((f2_ok ((fMeth_ok (fVar_ok rfl) rfl (look_board _ (by decide) (by decide)) (fCons_ok (fVar_ok rfl) fNil_ok) rfl).trans h2) (y := sideW (f.getD k none)) (om2 := stO c n us f j) (by simp [runB, startW, sSeq, kSeq, sSet, sExpr, sRet, sRetN, sIf, sNil, fVar, fC, f1, f2, fB, kB, fA, fCons, fNil, kLen, seqOf, bnd, L2.ret, kI, kIc, kIx, kFin, fAnd, fOr, fNot, fAndV, fOrV, fChain, kIsN, kNotN, isNon_non, isNon_int, isNon_bl, isNon_tup, isNon_lst, isNon_o, kNotV, kIsi, kdOf, Kd.isi, fTru, kTru, truOf, kFld, insOf, fMeth, kIns, kN, chk, kMake, sSetF, kSetF, putFW, newO, kDIn, dGet, keyOf, sDPut', kDPut, dPut, kGet1, fGet1, kIsD, isD, fPop, kPop, sRaise, mInt, mNil, kFmt, L2.raise, kTup, kLst, kLstM, fRep, kRepD, kSl, fSl, fNoP, fPart, kPart, sSetI, kSetI, lstOf, fComp, sFor, kItems, kRng1_nat, tgN, kClr, fSortIt, kSortIt, calmly, kIsE, sTry, kUn, fYes, kCat, nope, ofS_inj, ofS_beq, L2.ne_int, L2.eq_int, List.lookup_cons, List.lookup_nil, at_side hk])).trans ?_)
    exact ne_side _ _
  · refine fAnd_f ?_
    by_cases h0 : 0 ≤ a
    · have : ¬ a < n := fun z => h ⟨h0, z⟩
      simp [endsl, runB, startW, sSeq, kSeq, sSet, sExpr, sRet, sRetN, sIf, sNil, fVar, fC, f1, f2, fB, kB, fA, fCons, fNil, kLen, seqOf, bnd, L2.ret, kI, kIc, kIx, kFin, fAnd, fOr, fNot, fAndV, fOrV, fChain, kIsN, kNotN, isNon_non, isNon_int, isNon_bl, isNon_tup, isNon_lst, isNon_o, kNotV, kIsi, kdOf, Kd.isi, fTru, kTru, truOf, kFld, insOf, fMeth, kIns, kN, chk, kMake, sSetF, kSetF, putFW, newO, kDIn, dGet, keyOf, sDPut', kDPut, dPut, kGet1, fGet1, kIsD, isD, fPop, kPop, sRaise, mInt, mNil, kFmt, L2.raise, kTup, kLst, kLstM, fRep, kRepD, kSl, fSl, fNoP, fPart, kPart, sSetI, kSetI, lstOf, fComp, sFor, kItems, kRng1_nat, tgN, kClr, fSortIt, kSortIt, calmly, kIsE, sTry, kUn, fYes, kCat, nope, ofS_inj, ofS_beq, L2.ne_int, L2.eq_int, List.lookup_cons, List.lookup_nil, h0, this]
    · simp [endsl, runB, startW, sSeq, kSeq, sSet, sExpr, sRet, sRetN, sIf, sNil, fVar, fC, f1, f2, fB, kB, fA, fCons, fNil, kLen, seqOf, bnd, L2.ret, kI, kIc, kIx, kFin, fAnd, fOr, fNot, fAndV, fOrV, fChain, kIsN, kNotN, isNon_non, isNon_int, isNon_bl, isNon_tup, isNon_lst, isNon_o, kNotV, kIsi, kdOf, Kd.isi, fTru, kTru, truOf, kFld, insOf, fMeth, kIns, kN, chk, kMake, sSetF, kSetF, putFW, newO, kDIn, dGet, keyOf, sDPut', kDPut, dPut, kGet1, fGet1, kIsD, isD, fPop, kPop, sRaise, mInt, mNil, kFmt, L2.raise, kTup, kLst, kLstM, fRep, kRepD, kSl, fSl, fNoP, fPart, kPart, sSetI, kSetI, lstOf, fComp, sFor, kItems, kRng1_nat, tgN, kClr, fSortIt, kSortIt, calmly, kIsE, sTry, kUn, fYes, kCat, nope, ofS_inj, ofS_beq, L2.ne_int, L2.eq_int, List.lookup_cons, List.lookup_nil, h0]
end
end MP

set_option maxHeartbeats 400000
namespace MP
open PySem L2
section
variable (c : CA) {n : Int} {us us' : List (Int × Int)} {f : List (Option Int)} {j j' : List Ob}
noncomputable def midS (c : CA) : FS := (sSeq (sSet 8 (fA (kN 3 (g__law_due c)) (fCons (fVar 4) (fCons (fVar 6) (fCons (fVar 7) fNil)))))
    (sSeq (sIf (fB (f2 kNe (fA (kN 3 (g__law_done c)) (fCons (fVar 3) (fCons (fVar 6) (fCons (fVar 7) fNil)))) (fVar 8))) (sRet (fC (.bl false))) sNil)
    (sSeq (sIf (fB (f2 kEq (fVar 8) (fC (.int 0)))) (sSetI (fVar 7) (fVar 4) (fVar 6)) sNil) (endS c))))
theorem ne_bls (a b d e g h : Bool) (om : List Ob) : kEqD true (bls [a, b, d, e, g, h]) (bls [a, b, d, e, g, h]) om = some (.ok (.bl false), om) := by
  simp [kEqD, pyTop, pyOf, pysOf, lays, PyData.canLay0, PyData.canLayAll0, PyData.depth, PyData.depthAll, PyData.eqv, PyData.eqvAll]
theorem eq_bls (a b d e g h : Bool) (om : List Ob) : kEqD false (bls [a, b, d, e, g, h]) (.int 0) om = some (.ok (.bl false), om) := by
  simp [kEqD, pyTop, pyOf, pysOf, lays, PyData.canLay0, PyData.canLayAll0, PyData.depth, PyData.depthAll, PyData.eqv, PyData.eqvAll]
theorem mid_no (u : UR us f) (hn : (f.length : Int) = n) (hl : f.length < 64) {a : Int} {w : Wv} (s x5 x8 : Option Wv) {p q r t v z : Bool}
    (h1 : g__law_due c [.o 4, .int a, w] (stO c n us f j) = some (.ok (bls [p, q, r, t, v, z]), stO c n us f j))
    (h2 : g__law_done c [.o 2, .int a, w] (stO c n us f j) = some (.ok (bls [p, q, r, t, v, z]), stO c n us f j')) :
    midS c (endsl n a s x5 (some w) x8) (stO c n us f j) = some (.ok (.nx, endsl n a s x5 (some w) (some (bls [p, q, r, t, v, z]))), stO c n us f j') := by
  have e1 := sSet_ok (i := 8) ((fA_ok (sl := endsl n a s x5 (some w) x8) (k := kN 3 (g__law_due c)) (fCons_ok (fVar_ok (i := 4) rfl) (fCons_ok (fVar_ok (i := 6) rfl) (fCons_ok (fVar_ok (i := 7) rfl) fNil_ok)))).trans ((kN_ok rfl).trans h1))
  refine (sSeq_nx e1).trans ?_
  have e2 := sIf_no (S1 := sRet (fC (.bl false))) (fB_ok ((f2_ok (k := kNe) (fb := fVar 8) ((fA_ok (sl := endsl n a s x5 (some w) (some (bls [p, q, r, t, v, z]))) (k := kN 3 (g__law_done c)) (fCons_ok (fVar_ok (i := 3) rfl) (fCons_ok (fVar_ok (i := 6) rfl) (fCons_ok (fVar_ok (i := 7) rfl) fNil_ok)))).trans ((kN_ok rfl).trans h2)) (fVar_ok rfl)).trans (ne_bls ..)))
  refine (sSeq_nx e2).trans ?_
  have e3 := sIf_no (S1 := sSetI (fVar 7) (fVar 4) (fVar 6)) (om := stO c n us f j') (fB_ok ((f2_ok (k := kEq) (sl := endsl n a s x5 (some w) (some (bls [p, q, r, t, v, z]))) (fVar_ok (i := 8) rfl) fC_ok).trans (eq_bls ..)))
  refine (sSeq_nx e3).trans ?_
  exact tail_end c u hn hl ..
theorem eq00 (om : List Ob) : kEqD false (.int 0) (.int 0) om = some (.ok (.bl true), om) := (eq_int 0 0 om).trans (by simp)
theorem setI_ok {k : Nat} {o : Option Int} {sl : Sl} (hk : k < f.length) (h7 : sl[7]? = some (some (sideW o))) (h4 : sl[4]? = some (some (.o 4))) (h6 : sl[6]? = some (some (.int k))) : sSetI (fVar 7) (fVar 4) (fVar 6) sl (stO c n us f j) = some (.ok (.nx, sl), stO c n us (f.set k o) j) := by
  have hi : ixN (f.map sideW).length (k : Int) = some k := by simp [ixN, hk]
  unfold sSetI
  rw [bnd_ok (fVar_ok h7), bnd_ok (fVar_ok h4), bnd_ok (fVar_ok h6)]
  refine (bnd_ok (om1 := stO c n us (f.set k o) j) (a := ()) ?_).trans rfl
  simp only [kSetI, lstOf, stO]
  simp [ixN, hk, List.map_set]
theorem mid_ok {k : Nat} {o : Option Int} (hk : k < f.length) (u : UR us' (f.set k o)) (hn : (f.length : Int) = n) (hl : f.length < 64) (s x5 x8 : Option Wv)
    (h1 : g__law_due c [.o 4, .int k, sideW o] (stO c n us f j) = some (.ok (.int 0), stO c n us f j))
    (h2 : g__law_done c [.o 2, .int k, sideW o] (stO c n us f j) = some (.ok (.int 0), stO c n us' f j)) :
    midS c (endsl n k s x5 (some (sideW o)) x8) (stO c n us f j) = some (.ok (.nx, endsl n k s x5 (some (sideW o)) (some (.int 0))), stO c n us' (f.set k o) j) := by
  have e1 := sSet_ok (i := 8) ((fA_ok (sl := endsl n k s x5 (some (sideW o)) x8) (k := kN 3 (g__law_due c)) (fCons_ok (fVar_ok (i := 4) rfl) (fCons_ok (fVar_ok (i := 6) rfl) (fCons_ok (fVar_ok (i := 7) rfl) fNil_ok)))).trans ((kN_ok rfl).trans h1))
  refine (sSeq_nx e1).trans ?_
  have e2 := sIf_no (S1 := sRet (fC (.bl false))) (fB_ok ((f2_ok (k := kNe) (fb := fVar 8) ((fA_ok (sl := endsl n k s x5 (some (sideW o)) (some (.int 0))) (k := kN 3 (g__law_done c)) (fCons_ok (fVar_ok (i := 3) rfl) (fCons_ok (fVar_ok (i := 6) rfl) (fCons_ok (fVar_ok (i := 7) rfl) fNil_ok)))).trans ((kN_ok rfl).trans h2)) (fVar_ok rfl)).trans (ne_int ..)))
  refine (sSeq_nx e2).trans ?_
  have e3 := (sIf_t (S1 := sSetI (fVar 7) (fVar 4) (fVar 6)) (S2 := sNil) (om := stO c n us' f j) (fB_ok ((f2_ok (k := kEq) (sl := endsl n k s x5 (some (sideW o)) (some (.int 0))) (fVar_ok (i := 8) rfl) fC_ok).trans (eq00 _)))).trans (setI_ok c (o := o) hk rfl rfl rfl)
  refine (sSeq_nx e3).trans ?_
  exact tail_end c u (by rw [List.length_set]; exact hn) (by rw [List.length_set]; exact hl) ..
end
end MP

set_option maxHeartbeats 400000
namespace MP
open PySem L2
section
variable (c : CA) {n : Int} {us us' : List (Int × Int)} {f : List (Option Int)} {j j' : List Ob}
theorem CAok.isE_np (c : CA) : c.isE c.NoPlace = true := by simp [CA.isE]
theorem mid_all (hc : CAok c) (u : UR us f) (hn : (f.length : Int) = n) (hl : f.length < 64) {a : Int} {o : Option Int} (ha : a.natAbs < 1000) (ho : ∀ t, o = some t → t.natAbs < 1000) (s x5 x8 : Option Wv) :
    ∃ us' f' j' y8, midS c (endsl n a s x5 (some (sideW o)) x8) (stO c n us f j) = some (.ok (.nx, endsl n a s x5 (some (sideW o)) y8), stO c n us' f' j') ∧ UR us' f' ∧ f'.length = f.length := by
  by_cases hp : 0 ≤ a ∧ a < n
  · obtain ⟨k, rfl⟩ : ∃ k : Nat, a = k := ⟨a.toNat, by omega⟩
    have hk : k < f.length := by omega
    cases o with
    | none =>
      cases hf : f.getD k none with
      | none =>
        exact ⟨us, f, _, _, mid_no c u hn hl s x5 x8 (due_nu c hk hf) (done_lift_no c (lift_nu c u hk hp.2 hf (by omega)) hc.ct.2.2.2 (by simp [CA.isE]) hc.nu), u, rfl⟩
      | some t =>
        exact ⟨_, _, _, _, mid_ok c (o := none) hk (u.del hk) hn hl s x5 x8 (due_l c hk hf) (done_lift_ok (om := []) c (lift_ok c u hk hp.2 hf)), u.del hk, by simp⟩
    | some sd =>
      by_cases hs : 0 ≤ sd ∧ sd ≤ 7
      · cases hf : f.getD k none with
        | none =>
          have := u.len
          exact ⟨_, _, _, _, mid_ok c (o := some sd) hk (u.put hk hf) hn hl s x5 x8 (due_p c hk hs hf) (done_post_ok (om := []) c (post_ok c u hk hp.2 hs hf (by have := lim_eq; omega))), u.put hk hf, by simp⟩
        | some t =>
          exact ⟨us, f, _, _, mid_no c u hn hl s x5 x8 (due_cr c hk hs hf) (done_post_no c (post_cr c u hk hp.2 hs hf (by omega)) hc.ct.2.2.1 (by simp [CA.isE]) hc.cr), u, rfl⟩
      · have := ho sd rfl
        exact ⟨us, f, _, _, mid_no c u hn hl s x5 x8 (due_ns c hk hs) (done_post_no c (post_ns c hp.1 hp.2 hs (by omega)) hc.ct.2.1 (by simp [CA.isE]) hc.ns), u, rfl⟩
  · have hp' : ¬ (0 ≤ a ∧ a < (f.length : Int)) := by rw [hn]; exact hp
    cases o with
    | none => exact ⟨us, f, _, _, mid_no c u hn hl s x5 x8 (due_np c hp') (done_lift_no c (lift_np c hp (by omega)) hc.ct.1 (by simp [CA.isE]) hc.np), u, rfl⟩
    | some sd => exact ⟨us, f, _, _, mid_no c u hn hl s x5 x8 (due_np c hp') (done_post_no c (post_np c hp (by omega)) hc.ct.1 (by simp [CA.isE]) hc.np), u, rfl⟩
abbrev lawsl (n : Int) (s x5 x6 x7 x8 : Option Wv) : Sl := [s, some (.int n), some (.o 0), some (.o 2), some (.o 4), x5, x6, x7, x8]
theorem law_turn (hc : CAok c) (u : UR us f) (hn : (f.length : Int) = n) (h1 : 1 ≤ n) (hl : f.length < 64) (w : Int) (s x6 x7 x8 : Option Wv) :
    ∃ us' f' j' y6 y7 y8, B1_law c (lawsl n s (some (.int w)) x6 x7 x8) (stO c n us f j) = some (.ok (.nx, lawsl n s (some (.int w)) y6 y7 y8), stO c n us' f' j') ∧ UR us' f' ∧ f'.length = f.length := by
  have hb : B1_law c = (sSeq (sSet 6 (f2 kSub (f2 kMod (f2 kDiv (fVar 5) (fC (.int 3))) (f2 kAdd (fVar 1) (fC (.int 4)))) (fC (.int 2))))
    (sSeq (sSet 7 (f2 kSub (f2 kMod (f2 kDiv (fVar 5) (fC (.int 200))) (fC (.int 12))) (fC (.int 2))))
    (sSeq (sIf (fB (f2 kEq (f2 kMod (fVar 5) (fC (.int 3))) (fC (.int 0)))) (sSet 7 (fC .non)) sNil) (midS c)))) := rfl
  have l1 : 0 ≤ (w / 3) % (n + 4) := Int.emod_nonneg _ (by omega)
  have l2 : (w / 3) % (n + 4) < n + 4 := Int.emod_lt_of_pos _ (by omega)
  have l3 : 0 ≤ (w / 200) % 12 := Int.emod_nonneg _ (by omega)
  have l4 : (w / 200) % 12 < 12 := Int.emod_lt_of_pos _ (by omega)
  generalize hA : (w / 3) % (n + 4) - 2 = A
  generalize hB : (w / 200) % 12 - 2 = B
  have e6 : f2 kSub (f2 kMod (f2 kDiv (fVar 5) (fC (.int 3))) (f2 kAdd (fVar 1) (fC (.int 4)))) (fC (.int 2)) (lawsl n s (some (.int w)) x6 x7 x8) (stO c n us f j) = some (.ok (.int A), stO c n us f j) := by
    generalize stO c n us f j = st
    simp [f2, kI, kIc, fVar, fC, bnd, L2.ret, show 0 < n + 4 by omega, hA]
  have e7 : f2 kSub (f2 kMod (f2 kDiv (fVar 5) (fC (.int 200))) (fC (.int 12))) (fC (.int 2)) (lawsl n s (some (.int w)) (some (.int A)) x7 x8) (stO c n us f j) = some (.ok (.int B), stO c n us f j) := by
    generalize stO c n us f j = st
    simp [f2, kI, kIc, fVar, fC, bnd, L2.ret, hB]
  have em : f2 kEq (f2 kMod (fVar 5) (fC (.int 3))) (fC (.int 0)) (lawsl n s (some (.int w)) (some (.int A)) (some (.int B)) x8) (stO c n us f j) = some (.ok (.bl (decide (w % 3 = 0))), stO c n us f j) := by
    generalize stO c n us f j = st
    refine (f2_ok (x := .int (w % 3)) (y := .int 0) (om1 := st) (by simp [f2, kI, kIc, fVar, fC, bnd, L2.ret]) fC_ok).trans (eq_int ..)
  rw [hb]
  by_cases h3 : w % 3 = 0
  · rw [decide_eq_true h3] at em
    obtain ⟨us', f', j', y8, e, u', hf'⟩ := mid_all c (j := j) hc u hn hl (a := A) (o := none) (by omega) (fun _ z => by cases z) s (some (.int w)) x8
    refine ⟨us', f', j', some (.int A), some .non, y8, ?_, u', hf'⟩
    refine (sSeq_nx (sSet_ok (i := 6) e6)).trans ((sSeq_nx (sSet_ok (i := 7) e7)).trans ((sSeq_nx ((sIf_t (fB_ok em)).trans (sSet_ok (i := 7) fC_ok))).trans e))
  · rw [decide_eq_false h3] at em
    obtain ⟨us', f', j', y8, e, u', hf'⟩ := mid_all c (j := j) hc u hn hl (a := A) (o := some B) (by omega) (fun _ z => by cases z; omega) s (some (.int w)) x8
    refine ⟨us', f', j', some (.int A), some (.int B), y8, ?_, u', hf'⟩
    refine (sSeq_nx (sSet_ok (i := 6) e6)).trans ((sSeq_nx (sSet_ok (i := 7) e7)).trans ((sSeq_nx (sIf_no (fB_ok em))).trans e))
end
end MP

set_option maxHeartbeats 400000
namespace MP
open PySem L2
section
variable (c : CA) {n : Int} {us us' : List (Int × Int)} {f : List (Option Int)} {j j' : List Ob}
theorem mk_map (n : Int) : kMake c.Map 2 (g_Map_init c) [.int n] [] = some (.ok (.o 0), [mapO c n, .dk []]) := by
  simp [g_Map_init, S_Map_init, runB, startW, sSeq, kSeq, sSet, sExpr, sRet, sRetN, sIf, sNil, fVar, fC, f1, f2, fB, kB, fA, fCons, fNil, kLen, seqOf, bnd, L2.ret, kI, kIc, kIx, kFin, fAnd, fOr, fNot, fAndV, fOrV, fChain, kIsN, kNotN, isNon_non, isNon_int, isNon_bl, isNon_tup, isNon_lst, isNon_o, kNotV, kIsi, kdOf, Kd.isi, fTru, kTru, truOf, kFld, insOf, fMeth, kIns, kN, chk, kMake, sSetF, kSetF, putFW, newO, kDIn, dGet, keyOf, sDPut', kDPut, dPut, kGet1, fGet1, kIsD, isD, fPop, kPop, sRaise, mInt, mNil, kFmt, L2.raise, kTup, kLst, kLstM, fRep, kRepD, kSl, fSl, fNoP, fPart, kPart, sSetI, kSetI, lstOf, fComp, sFor, kItems, kRng1_nat, tgN, kClr, fSortIt, kSortIt, calmly, kIsE, sTry, kUn, fYes, kCat, nope, ofS_inj, ofS_beq, L2.ne_int, L2.eq_int, List.lookup_cons, List.lookup_nil]
theorem mk_board (n : Int) : kMake c.Board 2 (g_Board_init c) [.o 0] [mapO c n, .dk []] = some (.ok (.o 2), [mapO c n, .dk [], boardO c, .dk []]) := by
  simp [g_Board_init, S_Board_init, runB, startW, sSeq, kSeq, sSet, sExpr, sRet, sRetN, sIf, sNil, fVar, fC, f1, f2, fB, kB, fA, fCons, fNil, kLen, seqOf, bnd, L2.ret, kI, kIc, kIx, kFin, fAnd, fOr, fNot, fAndV, fOrV, fChain, kIsN, kNotN, isNon_non, isNon_int, isNon_bl, isNon_tup, isNon_lst, isNon_o, kNotV, kIsi, kdOf, Kd.isi, fTru, kTru, truOf, kFld, insOf, fMeth, kIns, kN, chk, kMake, sSetF, kSetF, putFW, newO, kDIn, dGet, keyOf, sDPut', kDPut, dPut, kGet1, fGet1, kIsD, isD, fPop, kPop, sRaise, mInt, mNil, kFmt, L2.raise, kTup, kLst, kLstM, fRep, kRepD, kSl, fSl, fNoP, fPart, kPart, sSetI, kSetI, lstOf, fComp, sFor, kItems, kRng1_nat, tgN, kClr, fSortIt, kSortIt, calmly, kIsE, sTry, kUn, fYes, kCat, nope, ofS_inj, ofS_beq, L2.ne_int, L2.eq_int, List.lookup_cons, List.lookup_nil]
theorem rep_flat (n : Nat) : (List.replicate n [Wv.non]).flatten = (List.replicate n (none : Option Int)).map sideW := by
  rw [List.map_replicate]
  induction n with
  | zero => rfl
  | succ n ih => rw [List.replicate_succ, List.flatten_cons, ih]; rfl
theorem chk_ok {b : Bool} {om : List Ob} (h : b = true) : chk b om = some (.ok (), om) := by subst h; rfl
theorem mk_sides {n : Nat} (hn : n ≤ 60) (sl : Sl) (om : List Ob) (h : sl[1]? = some (some (.int n))) : fRep kLstM (fCons (fC .non) fNil) (fVar 1) sl om = some (.ok (.o om.length), om ++ [.lst ((List.replicate n (none : Option Int)).map sideW)]) := by
  have hl := lim_eq
  have e : kRepD [Wv.non] (.int n) om = some (.ok ((List.replicate n (none : Option Int)).map sideW), om) := by
    have hd : decide (-(2 ^ 63) ≤ (n : Int) ∧ (n : Int) < 2 ^ 63 ∧ [Wv.non].length * (n : Int).toNat ≤ lim) = true := by
      rw [decide_eq_true_iff]
      exact ⟨by omega, by omega, by show 1 * (n : Int).toNat ≤ lim; omega⟩
    unfold kRepD
    dsimp only
    rw [bnd_ok (chk_ok hd), Int.toNat_natCast, rep_flat]
    rfl
  unfold fRep
  rw [bnd_ok (fCons_ok fC_ok fNil_ok), bnd_ok (chk_ok (decide_eq_true (show [Wv.non].length ≤ lim by show 1 ≤ lim; omega))), bnd_ok (fVar_ok h), bnd_ok e]
  have : ((List.replicate n (none : Option Int)).map sideW).length ≤ lim := by rw [List.length_map, List.length_replicate]; omega
  unfold kLstM
  rw [if_pos this]
  rfl
theorem UR_nil (n : Nat) : UR [] (List.replicate n none) := by
  refine ⟨by simp, fun k s => ?_⟩
  simp [List.getElem?_replicate]
noncomputable def lawS (c : CA) : FS := (sSeq (sSet 2 (fA (kMake c.Map 2 (g_Map_init c)) (fCons (fVar 1) fNil)))
    (sSeq (sSet 3 (fA (kMake c.Board 2 (g_Board_init c)) (fCons (fVar 2) fNil)))
    (sSeq (sSet 4 (fRep kLstM (fCons (fC .non) fNil) (fVar 1)))
    (sSeq (sFor (fun sl => bnd ((fSl (fVar 0) fNoP (fPart (fC (.int 30)))) sl) kItems) (tgN 5) (B1_law c))
    (sSeq (sExpr (f1 kClr (fMeth c.Board "roll" 1 (g_Board_rollM c) (fVar 3) fNil)))
    (sRet (fAndV (f2 kEq (f1 (kFld c.Map "size") (f1 (kFld c.Board "chart") (fVar 3))) (fVar 1)) (fA (kN 2 (g__law_roll c)) (fCons (fMeth c.Board "roll" 1 (g_Board_roll c) (fVar 3) fNil) (fCons (fVar 4) fNil))))))))))
theorem law_end (u : UR us f) (hn : (f.length : Int) = n) (hl : f.length < 64) (s x5 x6 x7 x8 : Option Wv) : ∃ j', (sSeq (sExpr (f1 kClr (fMeth c.Board "roll" 1 (g_Board_rollM c) (fVar 3) fNil)))
    (sRet (fAndV (f2 kEq (f1 (kFld c.Map "size") (f1 (kFld c.Board "chart") (fVar 3))) (fVar 1)) (fA (kN 2 (g__law_roll c)) (fCons (fMeth c.Board "roll" 1 (g_Board_roll c) (fVar 3) fNil) (fCons (fVar 4) fNil)))))) (lawsl n s x5 x6 x7 x8) (stO c n us f j) = some (.ok (.rt (.bl true), lawsl n s x5 x6 x7 x8), stO c n us f j') := by
  have m1 : fMeth c.Board "roll" 1 (g_Board_rollM c) (fVar 3) fNil (lawsl n s x5 x6 x7 x8) (stO c n us f j) = _ := (fMeth_ok (fVar_ok rfl) rfl (look_board _ (by decide) (by decide)) fNil_ok rfl).trans (rollM_ok c (n := n) (j := j) u hl)
  have m2 : kClr (.o (j.length + 5)) (stO c n us f (j ++ [.lst ((dueL f).map prW)])) = some (.ok .non, stO c n us f (j ++ [.lst []])) := by
    simp [kClr, lstOf]
  refine ⟨j ++ [.lst []], ?_⟩
  refine (sSeq_nx (sExpr_ok ((f1_ok m1).trans m2))).trans ?_
  generalize j ++ [Ob.lst []] = j
  have m3 : fMeth c.Board "roll" 1 (g_Board_roll c) (fVar 3) fNil (lawsl n s x5 x6 x7 x8) (stO c n us f j) = _ := (fMeth_ok (fVar_ok rfl) rfl (look_board _ (by decide) (by decide)) fNil_ok rfl).trans (roll_ok c (n := n) (j := j) u hl)
  have r1 := roll_same c (n := n) (us := us) (j := j) hl
  refine sRet_ok ((fAndV_t (om1 := stO c n us f j) ?_).trans ((fA_ok (k := kN 2 (g__law_roll c)) (fCons_ok m3 (fCons_ok (fVar_ok (i := 4) rfl) fNil_ok))).trans ((kN_ok rfl).trans r1)))
  refine (f2_ok (x := .int n) (y := .int n) (om1 := stO c n us f j) ?_ (fVar_ok rfl)).trans ((eq_int n n _).trans (by simp))
  simp [runB, startW, sSeq, kSeq, sSet, sExpr, sRet, sRetN, sIf, sNil, fVar, fC, f1, f2, fB, kB, fA, fCons, fNil, kLen, seqOf, bnd, L2.ret, kI, kIc, kIx, kFin, fAnd, fOr, fNot, fAndV, fOrV, fChain, kIsN, kNotN, isNon_non, isNon_int, isNon_bl, isNon_tup, isNon_lst, isNon_o, kNotV, kIsi, kdOf, Kd.isi, fTru, kTru, truOf, kFld, insOf, fMeth, kIns, kN, chk, kMake, sSetF, kSetF, putFW, newO, kDIn, dGet, keyOf, sDPut', kDPut, dPut, kGet1, fGet1, kIsD, isD, fPop, kPop, sRaise, mInt, mNil, kFmt, L2.raise, kTup, kLst, kLstM, fRep, kRepD, kSl, fSl, fNoP, fPart, kPart, sSetI, kSetI, lstOf, fComp, sFor, kItems, kRng1_nat, tgN, kClr, fSortIt, kSortIt, calmly, kIsE, sTry, kUn, fYes, kCat, nope, ofS_inj, ofS_beq, L2.ne_int, L2.eq_int, List.lookup_cons, List.lookup_nil]
theorem law_run (hc : CAok c) {n : Nat} (h1 : 1 ≤ n) (h2 : n ≤ 60) (ns : List Int) (x2 x3 x4 x5 x6 x7 x8 : Option Wv) : ∃ sl om, lawS c [some (intsW ns), some (.int n), x2, x3, x4, x5, x6, x7, x8] [] = some (.ok (.rt (.bl true), sl), om) := by
  have e1 := sSet_ok (i := 2) ((fA_ok (sl := [some (intsW ns), some (.int n), x2, x3, x4, x5, x6, x7, x8]) (fCons_ok (fVar_ok (i := 1) rfl) fNil_ok)).trans (mk_map c n))
  have e2 := sSet_ok (i := 3) ((fA_ok (sl := [some (intsW ns), some (.int n), some (.o 0), x3, x4, x5, x6, x7, x8]) (fCons_ok (fVar_ok (i := 2) rfl) fNil_ok)).trans (mk_board c n))
  have e3 := sSet_ok (i := 4) (mk_sides h2 [some (intsW ns), some (.int n), some (.o 0), some (.o 2), x4, x5, x6, x7, x8] [mapO c n, .dk [], boardO c, .dk []] rfl)
  obtain ⟨sl', om', hf, us', f', j', y5, y6, y7, y8, rfl, rfl, u', hf'⟩ := forS_inv (T := tgN 5) (S := B1_law c) (fun sl om => ∃ us f j x5 x6 x7 x8, sl = lawsl n (some (intsW ns)) x5 x6 x7 x8 ∧ om = stO c n us f j ∧ UR us f ∧ f.length = n)
    (l := cutW (ns.map .int) none (some 30)) (sl := lawsl n (some (intsW ns)) x5 x6 x7 x8) (om := stO c n [] (List.replicate n none) [])
    (fun w hw sl om ⟨us, f, j, x5, x6, x7, x8, h1', h2', u, hf⟩ => by
      subst h1' h2'
      obtain ⟨i, rfl⟩ : ∃ i, w = Wv.int i := by
        have := List.mem_of_mem_take hw
        have := List.mem_of_mem_drop this
        obtain ⟨i, _, e⟩ := List.mem_map.mp this
        exact ⟨i, e.symm⟩
      obtain ⟨us', f', j', y6, y7, y8, e, u', hf'⟩ := law_turn c (j := j) hc u (n := n) (by omega) (by omega) (by omega) i (some (intsW ns)) x6 x7 x8
      exact ⟨lawsl n (some (intsW ns)) (some (.int i)) x6 x7 x8, .nx, _, _, rfl, e, .inl rfl, us', f', j', _, _, _, _, rfl, rfl, u', by omega⟩)
    ⟨_, _, _, _, _, _, _, rfl, rfl, UR_nil n, by simp⟩
  have e4 := sFor_nx (sl1 := []) (fi := fun sl => bnd ((fSl (fVar 0) fNoP (fPart (fC (.int 30)))) sl) kItems) (T := tgN 5) (S := B1_law c) (sl := lawsl n (some (intsW ns)) x5 x6 x7 x8) (om := stO c n [] (List.replicate n none) []) (ws := cutW (ns.map .int) none (some 30)) (om1 := stO c n [] (List.replicate n none) []) (by
    generalize stO c n [] (List.replicate n none) [] = st
    simp [runB, startW, sSeq, kSeq, sSet, sExpr, sRet, sRetN, sIf, sNil, fVar, fC, f1, f2, fB, kB, fA, fCons, fNil, kLen, seqOf, bnd, L2.ret, kI, kIc, kIx, kFin, fAnd, fOr, fNot, fAndV, fOrV, fChain, kIsN, kNotN, isNon_non, isNon_int, isNon_bl, isNon_tup, isNon_lst, isNon_o, kNotV, kIsi, kdOf, Kd.isi, fTru, kTru, truOf, kFld, insOf, fMeth, kIns, kN, chk, kMake, sSetF, kSetF, putFW, newO, kDIn, dGet, keyOf, sDPut', kDPut, dPut, kGet1, fGet1, kIsD, isD, fPop, kPop, sRaise, mInt, mNil, kFmt, L2.raise, kTup, kLst, kLstM, fRep, kRepD, kSl, fSl, fNoP, fPart, kPart, sSetI, kSetI, lstOf, fComp, sFor, kItems, kRng1_nat, tgN, kClr, fSortIt, kSortIt, calmly, kIsE, sTry, kUn, fYes, kCat, nope, ofS_inj, ofS_beq, L2.ne_int, L2.eq_int, List.lookup_cons, List.lookup_nil]) hf
  obtain ⟨j2, e5⟩ := law_end c (j := j') u' (n := n) (by omega) (by omega) (some (intsW ns)) y5 y6 y7 y8
  exact ⟨_, _, (sSeq_nx e1).trans ((sSeq_nx e2).trans ((sSeq_nx e3).trans ((sSeq_nx e4).trans e5)))⟩
theorem law_true (hc : CAok c) (ns : List Int) : ∃ om, g_law c [intsW ns] [] = some (.ok (.bl true), om) := by
  have ca := cell_at c ns 0 []
  have eS : S_law c = (sSeq (sSet 1 (f2 kAdd (fC (.int 1)) (f2 kMod (f2 kDiv (fA (kN 2 (g__law_cell_at c)) (fCons (fVar 0) (fCons (fC (.int 0)) fNil))) (fC (.int 2))) (fC (.int 5)))))
    (sSeq (sIf (fB (f2 kEq (f2 kMod (fA (kN 2 (g__law_cell_at c)) (fCons (fVar 0) (fCons (fC (.int 0)) fNil))) (fC (.int 2))) (fC (.int 1)))) (sSet 1 (f2 kAdd (fC (.int 1)) (f2 kMod (f2 kDiv (fA (kN 2 (g__law_cell_at c)) (fCons (fVar 0) (fCons (fC (.int 0)) fNil))) (fC (.int 2))) (fC (.int 60))))) sNil) (lawS c))) := rfl
  have hca : ∀ x1 : Option Wv, fA (kN 2 (g__law_cell_at c)) (fCons (fVar 0) (fCons (fC (.int 0)) fNil)) [some (intsW ns), x1, none, none, none, none, none, none, none] [] = some (.ok (.int (ns.getD 0 0)), []) := fun x1 => (fA_ok (fCons_ok (fVar_ok (i := 0) rfl) (fCons_ok fC_ok fNil_ok))).trans ((kN_ok rfl).trans ca)
  generalize ns.getD 0 0 = w at *
  have b1 : ∀ x1 : Option Wv, ∀ q : Int, 0 < q → q < 1000 → f2 kAdd (fC (.int 1)) (f2 kMod (f2 kDiv (fA (kN 2 (g__law_cell_at c)) (fCons (fVar 0) (fCons (fC (.int 0)) fNil))) (fC (.int 2))) (fC (.int q))) [some (intsW ns), x1, none, none, none, none, none, none, none] [] = some (.ok (.int (1 + (w / 2) % q)), []) := fun x1 q h0 h1 => by
    refine (f2_ok fC_ok (y := .int ((w / 2) % q)) (om2 := []) ((f2_ok (x := .int (w / 2)) (om1 := []) ((f2_ok (hca x1) fC_ok).trans ?_) fC_ok).trans ?_)).trans ?_
    · simp [kIc, L2.ret]
    · simp [kIc, L2.ret, h0]
    · simp [kI, L2.ret]
  have b2 : ∀ x1 : Option Wv, f2 kEq (f2 kMod (fA (kN 2 (g__law_cell_at c)) (fCons (fVar 0) (fCons (fC (.int 0)) fNil))) (fC (.int 2))) (fC (.int 1)) [some (intsW ns), x1, none, none, none, none, none, none, none] [] = some (.ok (.bl (decide (w % 2 = 1))), []) := fun x1 => by
    refine (f2_ok (x := .int (w % 2)) (om1 := []) ((f2_ok (hca x1) fC_ok).trans ?_) fC_ok).trans (eq_int ..)
    simp [kIc, L2.ret]
  have l1 : 0 ≤ (w / 2) % 5 := Int.emod_nonneg _ (by omega)
  have l2 : (w / 2) % 5 < 5 := Int.emod_lt_of_pos _ (by omega)
  have l3 : 0 ≤ (w / 2) % 60 := Int.emod_nonneg _ (by omega)
  have l4 : (w / 2) % 60 < 60 := Int.emod_lt_of_pos _ (by omega)
  have s1 := sSet_ok (i := 1) (b1 none 5 (by omega) (by omega))
  by_cases h : w % 2 = 1
  · have b2 := b2 (some (.int (1 + (w / 2) % 5)))
    rw [decide_eq_true h] at b2
    have b3 := sSet_ok (i := 1) (b1 (some (.int (1 + (w / 2) % 5))) 60 (by omega) (by omega))
    generalize hN : 1 + (w / 2) % 60 = N at *
    obtain ⟨k, rfl⟩ : ∃ k : Nat, N = k := ⟨N.toNat, by omega⟩
    obtain ⟨sl, om, e⟩ := law_run c hc (n := k) (by omega) (by omega) ns none none none none none none none
    refine ⟨om, run_rt (sl1 := sl) ?_⟩
    rw [eS]
    exact (sSeq_nx s1).trans ((sSeq_nx ((sIf_t (fB_ok b2)).trans b3)).trans e)
  · have b2 := b2 (some (.int (1 + (w / 2) % 5)))
    rw [decide_eq_false h] at b2
    generalize hN : 1 + (w / 2) % 5 = N at *
    obtain ⟨k, rfl⟩ : ∃ k : Nat, N = k := ⟨N.toNat, by omega⟩
    obtain ⟨sl, om, e⟩ := law_run c hc (n := k) (by omega) (by omega) ns none none none none none none none
    refine ⟨om, run_rt (sl1 := sl) ?_⟩
    rw [eS]
    exact (sSeq_nx s1).trans ((sSeq_nx (sIf_no (fB_ok b2))).trans e)
end
end MP

set_option maxHeartbeats 4000000
namespace MP
open PySem L2 PyProof.Rows
theorem boot_int : bootBuiltins "int" = some (.type "int") := by decide +kernel
theorem boot_bool : bootBuiltins "bool" = some (.type "bool") := by decide +kernel
theorem boot_list : bootBuiltins "list" = some (.type "list") := by decide +kernel
theorem boot_tuple : bootBuiltins "tuple" = some (.type "tuple") := by decide +kernel
theorem boot_str : bootBuiltins "str" = some (.type "str") := by decide +kernel
theorem boot_dict : bootBuiltins "dict" = some (.type "dict") := by decide +kernel
theorem boot_VE : bootBuiltins "ValueError" = some (.type "ValueError") := by decide +kernel
def top (i : Nat) : Stmt := PySem.Challenge.pw_atonce_k03_units_posted.main.body.getD i (.Pass ⟨0, 0, 0, 0⟩)
abbrev st_Board_init : Stmt := inClass (top 10) 0
theorem sc_Board_init : FnScope ["self", "chart"] ["self", "chart"] (defScope st_Board_init) := ⟨rfl, rfl, rfl, by decide +kernel, rfl, by decide +kernel, by decide +kernel⟩
abbrev st_Map_need_place : Stmt := inClass (top 12) 1
theorem sc_Map_need_place : FnScope ["self", "at"] ["self", "at"] (defScope st_Map_need_place) := ⟨rfl, rfl, rfl, by decide +kernel, rfl, by decide +kernel, by decide +kernel⟩
abbrev st_Board_post : Stmt := inClass (top 10) 1
theorem sc_Board_post : FnScope ["self", "at", "side"] ["self", "at", "side"] (defScope st_Board_post) := ⟨rfl, rfl, rfl, by decide +kernel, rfl, by decide +kernel, by decide +kernel⟩
abbrev st_Board_side_at : Stmt := inClass (top 10) 2
theorem sc_Board_side_at : FnScope ["self", "at"] ["self", "at"] (defScope st_Board_side_at) := ⟨rfl, rfl, rfl, by decide +kernel, rfl, by decide +kernel, by decide +kernel⟩
abbrev st_Board_need_unit : Stmt := inClass (top 10) 3
theorem sc_Board_need_unit : FnScope ["self", "at"] ["self", "at"] (defScope st_Board_need_unit) := ⟨rfl, rfl, rfl, by decide +kernel, rfl, by decide +kernel, by decide +kernel⟩
abbrev st_Board_lift : Stmt := inClass (top 10) 4
theorem sc_Board_lift : FnScope ["self", "at"] ["self", "at"] (defScope st_Board_lift) := ⟨rfl, rfl, rfl, by decide +kernel, rfl, by decide +kernel, by decide +kernel⟩
abbrev st_Board_roll : Stmt := inClass (top 10) 5
theorem sc_Board_roll : FnScope ["self"] ["self"] (defScope st_Board_roll) := ⟨rfl, rfl, rfl, by decide +kernel, rfl, by decide +kernel, by decide +kernel⟩
abbrev st_Map_init : Stmt := inClass (top 12) 0
theorem sc_Map_init : FnScope ["self", "size"] ["self", "size"] (defScope st_Map_init) := ⟨rfl, rfl, rfl, by decide +kernel, rfl, by decide +kernel, by decide +kernel⟩
abbrev st__law_cell_at : Stmt := top 14
theorem sc__law_cell_at : FnScope ["script", "k"] ["script", "k"] (defScope st__law_cell_at) := ⟨rfl, rfl, rfl, by decide +kernel, rfl, by decide +kernel, by decide +kernel⟩
abbrev st__law_whole : Stmt := top 15
theorem sc__law_whole : FnScope ["found"] ["found"] (defScope st__law_whole) := ⟨rfl, rfl, rfl, by decide +kernel, rfl, by decide +kernel, by decide +kernel⟩
abbrev st__law_done : Stmt := top 16
theorem sc__law_done : FnScope ["board", "at", "side", "found", "e"] ["board", "at", "side"] (defScope st__law_done) := ⟨rfl, rfl, rfl, by decide +kernel, rfl, by decide +kernel, by decide +kernel⟩
abbrev st__law_due : Stmt := top 17
theorem sc__law_due : FnScope ["sides", "at", "side"] ["sides", "at", "side"] (defScope st__law_due) := ⟨rfl, rfl, rfl, by decide +kernel, rfl, by decide +kernel, by decide +kernel⟩
abbrev st__law_roll : Stmt := top 18
theorem sc__law_roll : FnScope ["found", "sides", "due", "k"] ["found", "sides"] (defScope st__law_roll) := ⟨rfl, rfl, rfl, by decide +kernel, rfl, by decide +kernel, by decide +kernel⟩
abbrev st_law : Stmt := top 19
theorem sc_law : FnScope ["script", "size", "chart", "board", "sides", "cell", "at", "side", "due"] ["script"] (defScope st_law) := ⟨rfl, rfl, rfl, by decide +kernel, rfl, by decide +kernel, by decide +kernel⟩
structure Ad where
  f_Board_init : Addr
  d_Board_init : FuncData
  f_Map_need_place : Addr
  d_Map_need_place : FuncData
  f_Board_post : Addr
  d_Board_post : FuncData
  f_Board_side_at : Addr
  d_Board_side_at : FuncData
  f_Board_need_unit : Addr
  d_Board_need_unit : FuncData
  f_Board_lift : Addr
  d_Board_lift : FuncData
  f_Board_roll : Addr
  d_Board_roll : FuncData
  f_Map_init : Addr
  d_Map_init : FuncData
  f__law_cell_at : Addr
  d__law_cell_at : FuncData
  f__law_whole : Addr
  d__law_whole : FuncData
  f__law_done : Addr
  d__law_done : FuncData
  f__law_due : Addr
  d__law_due : FuncData
  f__law_roll : Addr
  d__law_roll : FuncData
  f_law : Addr
  d_law : FuncData
structure All (K : PySem.W.Frag) (mg : Str → Option Value) (c : CA) (a : Ad) : Prop where
  cl_Board : Cls K c.Board
  cl_Map : Cls K c.Map
  na_Board_chart : NoAttr K c.Board "chart"
  na_Board_units : NoAttr K c.Board "units"
  na_Map_links : NoAttr K c.Map "links"
  na_Map_size : NoAttr K c.Map "size"
  mk_Board : Mk K c.Board a.f_Board_init
  mk_Map : Mk K c.Map a.f_Map_init
  c_Board : mg "Board" = some (.ref c.Board)
  c_Crowded : mg "Crowded" = some (.ref c.Crowded)
  c_LAST_SIDE : ∃ t, mg "LAST_SIDE" = some (.int 7 t)
  c_Map : mg "Map" = some (.ref c.Map)
  c_NoPlace : mg "NoPlace" = some (.ref c.NoPlace)
  c_NoSide : mg "NoSide" = some (.ref c.NoSide)
  c_NoUnit : mg "NoUnit" = some (.ref c.NoUnit)
  c_OrderError : mg "OrderError" = some (.ref c.OrderError)
  c_OutOfReach : mg "OutOfReach" = some (.ref c.OutOfReach)
  x_Crowded : PySem.W.excIn K c.Crowded [.type "ValueError", .type "Exception", .type "BaseException", .type "object"] "ValueError.__new__" = true
  x_NoPlace : PySem.W.excIn K c.NoPlace [.type "ValueError", .type "Exception", .type "BaseException", .type "object"] "ValueError.__new__" = true
  x_NoSide : PySem.W.excIn K c.NoSide [.type "ValueError", .type "Exception", .type "BaseException", .type "object"] "ValueError.__new__" = true
  x_NoUnit : PySem.W.excIn K c.NoUnit [.type "ValueError", .type "Exception", .type "BaseException", .type "object"] "ValueError.__new__" = true
  z_ValueError : mg "ValueError" = none
  z_bool : mg "bool" = none
  z_int : mg "int" = none
  z_isinstance : mg "isinstance" = none
  z_len : mg "len" = none
  z_list : mg "list" = none
  z_range : mg "range" = none
  z_sorted : mg "sorted" = none
  z_tuple : mg "tuple" = none
  i_bool : KIsi K .bl
  i_int : KIsi K .int
  i_list : KIsi K .lst
  i_tuple : KIsi K .tup
  F_Board_init : Fun K "__init__" "Board.__init__" st_Board_init a.f_Board_init a.d_Board_init
  b_Board_init : Binds K a.d_Board_init ["self", "chart"] []
  F_Map_need_place : Fun K "need_place" "Map.need_place" st_Map_need_place a.f_Map_need_place a.d_Map_need_place
  b_Map_need_place : Binds K a.d_Map_need_place ["self", "at"] []
  m_Map_need_place : Meth K c.Map "need_place" a.f_Map_need_place
  F_Board_post : Fun K "post" "Board.post" st_Board_post a.f_Board_post a.d_Board_post
  b_Board_post : Binds K a.d_Board_post ["self", "at", "side"] []
  m_Board_post : Meth K c.Board "post" a.f_Board_post
  F_Board_side_at : Fun K "side_at" "Board.side_at" st_Board_side_at a.f_Board_side_at a.d_Board_side_at
  b_Board_side_at : Binds K a.d_Board_side_at ["self", "at"] []
  m_Board_side_at : Meth K c.Board "side_at" a.f_Board_side_at
  F_Board_need_unit : Fun K "need_unit" "Board.need_unit" st_Board_need_unit a.f_Board_need_unit a.d_Board_need_unit
  b_Board_need_unit : Binds K a.d_Board_need_unit ["self", "at"] []
  m_Board_need_unit : Meth K c.Board "need_unit" a.f_Board_need_unit
  F_Board_lift : Fun K "lift" "Board.lift" st_Board_lift a.f_Board_lift a.d_Board_lift
  b_Board_lift : Binds K a.d_Board_lift ["self", "at"] []
  m_Board_lift : Meth K c.Board "lift" a.f_Board_lift
  F_Board_roll : Fun K "roll" "Board.roll" st_Board_roll a.f_Board_roll a.d_Board_roll
  b_Board_roll : Binds K a.d_Board_roll ["self"] []
  m_Board_roll : Meth K c.Board "roll" a.f_Board_roll
  F_Map_init : Fun K "__init__" "Map.__init__" st_Map_init a.f_Map_init a.d_Map_init
  b_Map_init : Binds K a.d_Map_init ["self", "size"] []
  F__law_cell_at : Fun K "_law_cell_at" "_law_cell_at" st__law_cell_at a.f__law_cell_at a.d__law_cell_at
  b__law_cell_at : Binds K a.d__law_cell_at ["script", "k"] []
  g__law_cell_at : mg "_law_cell_at" = some (.ref a.f__law_cell_at)
  k__law_cell_at : PySem.W.keepIn K (.ref a.f__law_cell_at) = true
  F__law_whole : Fun K "_law_whole" "_law_whole" st__law_whole a.f__law_whole a.d__law_whole
  b__law_whole : Binds K a.d__law_whole ["found"] []
  g__law_whole : mg "_law_whole" = some (.ref a.f__law_whole)
  k__law_whole : PySem.W.keepIn K (.ref a.f__law_whole) = true
  F__law_done : Fun K "_law_done" "_law_done" st__law_done a.f__law_done a.d__law_done
  b__law_done : Binds K a.d__law_done ["board", "at", "side"] []
  g__law_done : mg "_law_done" = some (.ref a.f__law_done)
  k__law_done : PySem.W.keepIn K (.ref a.f__law_done) = true
  F__law_due : Fun K "_law_due" "_law_due" st__law_due a.f__law_due a.d__law_due
  b__law_due : Binds K a.d__law_due ["sides", "at", "side"] []
  g__law_due : mg "_law_due" = some (.ref a.f__law_due)
  k__law_due : PySem.W.keepIn K (.ref a.f__law_due) = true
  F__law_roll : Fun K "_law_roll" "_law_roll" st__law_roll a.f__law_roll a.d__law_roll
  b__law_roll : Binds K a.d__law_roll ["found", "sides"] []
  g__law_roll : mg "_law_roll" = some (.ref a.f__law_roll)
  k__law_roll : PySem.W.keepIn K (.ref a.f__law_roll) = true
  F_law : Fun K "law" "law" st_law a.f_law a.d_law
  b_law : Binds K a.d_law ["script"] []
  g_law : mg "law" = some (.ref a.f_law)
  k_law : PySem.W.keepIn K (.ref a.f_law) = true
  ek : ExcAll K c.isE c.kit c.Ds
  ct_OrderError : ∀ C, c.caught c.OrderError C = true → PySem.W.exmOne K (.ref C) (.ref c.OrderError) = some true
section
variable {P : Program} {w : World} {K : PySem.W.Frag} {mg : Str → Option Value} {base : Heap} {c : CA} {a : Ad}
theorem ok_Board_init (T : All K mg c a) : FnOk P w K mg base (CXw P w) 1 a.f_Board_init a.d_Board_init ["self", "chart"] (spM 2 (g_Board_init c)) := by
  refine fn_ok T.F_Board_init sc_Board_init fun cdv A outer s H E hr => ?_
  have Sc := sc_Board_init
  exact (qss_cons (qs_fld T.cl_Board T.na_Board_chart (qe_v 1) (qe_v 0))
      (qss_one (qs_fld T.cl_Board T.na_Board_units qe_dnewK (qe_v 0))))
theorem ok_Map_need_place (T : All K mg c a) : FnOk P w K mg base (CXw P w) 1 a.f_Map_need_place a.d_Map_need_place ["self", "at"] (spM 2 (g_Map_need_place c)) := by
  refine fn_ok T.F_Map_need_place sc_Map_need_place fun cdv A outer s H E hr => ?_
  have Sc := sc_Map_need_place
  exact (qss_one (qs_if (PW.pt (qw_or (qt_lt (qe_v 1) qe_int) (qw_or1 (qt_ge (qe_v 1) (qe_fld T.cl_Map T.na_Map_size (qe_v 0)))))) (qss_one (qs_raise PySem.F.excBase_ValueError T.x_NoPlace rfl T.c_NoPlace rfl throwX (qj_int (qe_v 1) (qj_str qj_nil)))) qss_nil))
theorem ok_Board_post (T : All K mg c a) : FnOk P w K mg base (CXw P w) 2 a.f_Board_post a.d_Board_post ["self", "at", "side"] (spM 3 (g_Board_post c)) := by
  have G_Map_need_place := ok_Map_need_place (P := P) (w := w) (base := base) T
  have b_Map_need_place := T.b_Map_need_place
  refine fn_ok T.F_Board_post sc_Board_post fun cdv A outer s H E hr => ?_
  have Sc := sc_Board_post
  exact (qss_cons (qs_expr (qe_meth (qe_fld T.cl_Board T.na_Board_chart (qe_v 0)) T.cl_Map T.m_Map_need_place G_Map_need_place (hr.mono (by decide)) b_Map_need_place passX (qa_cons (qe_v 1) qa_nil)))
      (qss_cons (qs_if (PW.pt (qw_or (qt_lt (qe_v 2) qe_int) (qw_or1 (qt_gt (qe_v 2) (qe_cG rfl T.c_LAST_SIDE))))) (qss_one (qs_raise PySem.F.excBase_ValueError T.x_NoSide rfl T.c_NoSide rfl throwX (qj_int (qe_v 2) (qj_str qj_nil)))) qss_nil)
      (qss_cons (qs_if (qt_din hr.units (qe_v 1) (qe_fld T.cl_Board T.na_Board_units (qe_v 0))) (qss_one (qs_raise PySem.F.excBase_ValueError T.x_Crowded rfl T.c_Crowded rfl throwX (qj_str (qj_int (qe_v 1) qj_nil)))) qss_nil)
      (qss_one (qs_dput hr.units (qe_v 2) (qe_fld T.cl_Board T.na_Board_units (qe_v 0)) (qe_v 1))))))
theorem ok_Board_side_at (T : All K mg c a) : FnOk P w K mg base (CXw P w) 2 a.f_Board_side_at a.d_Board_side_at ["self", "at"] (spM 2 (g_Board_side_at c)) := by
  have G_Map_need_place := ok_Map_need_place (P := P) (w := w) (base := base) T
  have b_Map_need_place := T.b_Map_need_place
  refine fn_ok T.F_Board_side_at sc_Board_side_at fun cdv A outer s H E hr => ?_
  have Sc := sc_Board_side_at
  exact (qss_cons (qs_expr (qe_meth (qe_fld T.cl_Board T.na_Board_chart (qe_v 0)) T.cl_Map T.m_Map_need_place G_Map_need_place (hr.mono (by decide)) b_Map_need_place passX (qa_cons (qe_v 1) qa_nil)))
      (qss_one (qs_ret (qe_get1 hr.units (qe_fld T.cl_Board T.na_Board_units (qe_v 0)) (qe_v 1)))))
theorem ok_Board_need_unit (T : All K mg c a) : FnOk P w K mg base (CXw P w) 3 a.f_Board_need_unit a.d_Board_need_unit ["self", "at"] (spM 2 (g_Board_need_unit c)) := by
  have G_Board_side_at := ok_Board_side_at (P := P) (w := w) (base := base) T
  have b_Board_side_at := T.b_Board_side_at
  refine fn_ok T.F_Board_need_unit sc_Board_need_unit fun cdv A outer s H E hr => ?_
  have Sc := sc_Board_need_unit
  exact (qss_one (qs_if (qt_isN (qe_meth (qe_v 0) T.cl_Board T.m_Board_side_at G_Board_side_at (hr.mono (by decide)) b_Board_side_at passX (qa_cons (qe_v 1) qa_nil))) (qss_one (qs_raise PySem.F.excBase_ValueError T.x_NoUnit rfl T.c_NoUnit rfl throwX (qj_str (qj_int (qe_v 1) qj_nil)))) qss_nil))
theorem ok_Board_lift (T : All K mg c a) : FnOk P w K mg base (CXw P w) 4 a.f_Board_lift a.d_Board_lift ["self", "at"] (spM 2 (g_Board_lift c)) := by
  have G_Board_need_unit := ok_Board_need_unit (P := P) (w := w) (base := base) T
  have b_Board_need_unit := T.b_Board_need_unit
  refine fn_ok T.F_Board_lift sc_Board_lift fun cdv A outer s H E hr => ?_
  have Sc := sc_Board_lift
  exact (qss_cons (qs_expr (qe_meth (qe_v 0) T.cl_Board T.m_Board_need_unit G_Board_need_unit (hr.mono (by decide)) b_Board_need_unit passX (qa_cons (qe_v 1) qa_nil)))
      (qss_one (qs_expr (qe_pop (qe_fld T.cl_Board T.na_Board_units (qe_v 0)) (qe_v 1)))))
theorem ok_Board_roll (T : All K mg c a) : FnOk P w K mg base (CXw P w) 1 a.f_Board_roll a.d_Board_roll ["self"] (spM 1 (g_Board_roll c)) := by
  refine fn_ok T.F_Board_roll sc_Board_roll fun cdv A outer s H E hr => ?_
  have Sc := sc_Board_roll
  exact (qss_one (qs_ret (qe_sortIt layK_lst rfl rfl T.z_sorted (qe_fld T.cl_Board T.na_Board_units (qe_v 0)))))
theorem ok_Board_rollM (T : All K mg c a) : FnOk P w K mg base (CXw P w) 1 a.f_Board_roll a.d_Board_roll ["self"] (spM 1 (g_Board_rollM c)) := by
  refine fn_ok T.F_Board_roll sc_Board_roll fun cdv A outer s H E hr => ?_
  have Sc := sc_Board_roll
  exact (qss_one (qs_ret (qe_sortIt layK_lstM rfl rfl T.z_sorted (qe_fld T.cl_Board T.na_Board_units (qe_v 0)))))
theorem ok_Map_init (T : All K mg c a) : FnOk P w K mg base (CXw P w) 1 a.f_Map_init a.d_Map_init ["self", "size"] (spM 2 (g_Map_init c)) := by
  refine fn_ok T.F_Map_init sc_Map_init fun cdv A outer s H E hr => ?_
  have Sc := sc_Map_init
  exact (qss_cons (qs_fld T.cl_Map T.na_Map_size (qe_v 1) (qe_v 0))
      (qss_one (qs_fld T.cl_Map T.na_Map_links qe_dnewK (qe_v 0))))
theorem ok__law_cell_at (T : All K mg c a) : FnOk P w K mg base (CXw P w) 1 a.f__law_cell_at a.d__law_cell_at ["script", "k"] (spM 2 (g__law_cell_at c)) := by
  refine fn_ok T.F__law_cell_at sc__law_cell_at fun cdv A outer s H E hr => ?_
  have Sc := sc__law_cell_at
  exact (qss_cons (qs_if (qt_lt (qe_v 1) (qe_len rfl T.z_len (qa_cons (qe_v 0) qa_nil))) (qss_one (qs_ret (qe_ix (qe_v 0) (qe_v 1)))) qss_nil)
      (qss_one (qs_ret qe_int)))
theorem ok__law_whole (T : All K mg c a) : FnOk P w K mg base (CXw P w) 1 a.f__law_whole a.d__law_whole ["found"] (spM 1 (g__law_whole c)) := by
  refine fn_ok T.F__law_whole sc__law_whole fun cdv A outer s H E hr => ?_
  have Sc := sc__law_whole
  exact (qss_one (qs_ret (qe_and (qe_isi T.i_int rfl T.z_isinstance (qe_v 0) (pe_bltn (v := .ty "int") rfl T.z_int boot_int rfl)) (qe_one (qe_not (qe_isi T.i_bool rfl T.z_isinstance (qe_v 0) (pe_bltn (v := .ty "bool") rfl T.z_bool boot_bool rfl)))))))
theorem ok__law_done (T : All K mg c a) : FnOk P w K mg base (CXw P w) 5 a.f__law_done a.d__law_done ["board", "at", "side"] (spM 3 (g__law_done c)) := by
  have G_Board_lift := ok_Board_lift (P := P) (w := w) (base := base) T
  have b_Board_lift := T.b_Board_lift
  have G_Board_post := ok_Board_post (P := P) (w := w) (base := base) T
  have b_Board_post := T.b_Board_post
  refine fn_ok T.F__law_done sc__law_done fun cdv A outer s H E hr => ?_
  have Sc := sc__law_done
  exact (qss_cons (qs_set (i := 3) Sc.nd rfl (Or.inl rfl) qe_int)
      (qss_cons (qs_try (i := 4) ⟨rfl, rfl⟩ rfl ⟨rfl, rfl⟩ Sc.nd rfl rfl rfl T.c_OrderError T.ct_OrderError (fun _ xe pins σ hp => (pss_oneAt (qs_ifAt (qt_isN (qe_v 2)) (pss_oneAt (qs_exprAt (qe_methAt (qe_v 0) T.cl_Board T.m_Board_lift G_Board_lift (hr.mono (by decide)) b_Board_lift hp (qa_cons (qe_v 1) qa_nil)))) (pss_oneAt (qs_exprAt (qe_methAt (qe_v 0) T.cl_Board T.m_Board_post G_Board_post (hr.mono (by decide)) b_Board_post hp (qa_cons (qe_v 1) (qa_cons (qe_v 2) qa_nil)))))))) (fun _ => (qss_cons (qs_set (i := 3) Sc.nd rfl (Or.inl rfl) (qe_lst (qa_cons (qe_isiE T.ek rfl T.z_isinstance (qe_v 4) (pe_glob (v := .ref c.NoPlace) rfl T.c_NoPlace rfl) rfl (.head _)) (qa_cons (qe_isiE T.ek rfl T.z_isinstance (qe_v 4) (pe_glob (v := .ref c.NoSide) rfl T.c_NoSide rfl) rfl (.tail _ (.head _))) (qa_cons (qe_isiE T.ek rfl T.z_isinstance (qe_v 4) (pe_glob (v := .ref c.Crowded) rfl T.c_Crowded rfl) rfl (.tail _ (.tail _ (.head _)))) (qa_cons (qe_isiE T.ek rfl T.z_isinstance (qe_v 4) (pe_glob (v := .ref c.NoUnit) rfl T.c_NoUnit rfl) rfl (.tail _ (.tail _ (.tail _ (.head _))))) qa_nil))))))
      (qss_one (qs_set (i := 3) Sc.nd rfl (Or.inl rfl) (qe_cat (qe_v 3) (qe_lst (qa_cons (qe_isiE T.ek rfl T.z_isinstance (qe_v 4) (pe_glob (v := .ref c.OutOfReach) rfl T.c_OutOfReach rfl) rfl (.tail _ (.tail _ (.tail _ (.tail _ (.head _)))))) (qa_cons (qe_isiE T.ek rfl T.z_isinstance (qe_v 4) (pe_bltn (v := .ty "ValueError") rfl T.z_ValueError boot_VE rfl) rfl (.tail _ (.tail _ (.tail _ (.tail _ (.tail _ (.head _))))))) qa_nil)))))))))
      (qss_one (qs_ret (qe_v 3)))))
theorem ok__law_due (T : All K mg c a) : FnOk P w K mg base (CXw P w) 1 a.f__law_due a.d__law_due ["sides", "at", "side"] (spM 3 (g__law_due c)) := by
  refine fn_ok T.F__law_due sc__law_due fun cdv A outer s H E hr => ?_
  have Sc := sc__law_due
  exact (qss_cons (qs_if (qt_not (qt_chain op_le op_lt o2_le o2_lt qe_int (qe_v 1) (qe_len rfl T.z_len (qa_cons (qe_v 0) qa_nil)))) (qss_one (qs_ret (qe_lst (qa_cons qe_bl (qa_cons qe_bl (qa_cons qe_bl (qa_cons qe_bl (qa_cons qe_bl (qa_cons qe_bl qa_nil))))))))) qss_nil)
      (qss_cons (qs_if (PW.pt (qw_and (qt_isN (qe_v 2)) (qw_and1 (qt_isN (qe_ix (qe_v 0) (qe_v 1)))))) (qss_one (qs_ret (qe_lst (qa_cons qe_bl (qa_cons qe_bl (qa_cons qe_bl (qa_cons qe_bl (qa_cons qe_bl (qa_cons qe_bl qa_nil))))))))) qss_nil)
      (qss_cons (qs_if (PW.pt (qw_and (qt_notN (qe_v 2)) (qw_and1 (qt_not (qt_chain op_le op_le o2_le o2_le qe_int (qe_v 2) qe_int))))) (qss_one (qs_ret (qe_lst (qa_cons qe_bl (qa_cons qe_bl (qa_cons qe_bl (qa_cons qe_bl (qa_cons qe_bl (qa_cons qe_bl qa_nil))))))))) qss_nil)
      (qss_cons (qs_if (PW.pt (qw_and (qt_notN (qe_v 2)) (qw_and1 (qt_notN (qe_ix (qe_v 0) (qe_v 1)))))) (qss_one (qs_ret (qe_lst (qa_cons qe_bl (qa_cons qe_bl (qa_cons qe_bl (qa_cons qe_bl (qa_cons qe_bl (qa_cons qe_bl qa_nil))))))))) qss_nil)
      (qss_one (qs_ret qe_int))))))
theorem ok__law_roll (T : All K mg c a) : FnOk P w K mg base (CXw P w) 2 a.f__law_roll a.d__law_roll ["found", "sides"] (spM 2 (g__law_roll c)) := by
  have G__law_whole := ok__law_whole (P := P) (w := w) (base := base) T
  have b__law_whole := T.b__law_whole
  refine fn_ok T.F__law_roll sc__law_roll fun cdv A outer s H E hr => ?_
  have Sc := sc__law_roll
  exact (qss_cons (qs_setComp (j := 2) layK_lst (compOk_of (js := [1]) (cn := ["sides"]) (by with_unfolding_all rfl) (by decide +kernel) rfl (by decide +kernel) rfl (by with_unfolding_all rfl) rfl (by with_unfolding_all rfl) (by decide +kernel)) rfl (qi_range1 rfl T.z_range (qe_len rfl T.z_len (qa_cons (qe_v 1) qa_nil))) (fun _ _ _ _ => (qifs_one (qt_notN (qe_ix (qe_v 1) (qe_v 0))))) (fun _ _ _ _ => (qe_tup (qa_cons (qe_v 0) (qa_cons (qe_ix (qe_v 1) (qe_v 0)) qa_nil)))) Sc.nd rfl (Or.inl rfl) (by with_unfolding_all rfl))
      (qss_cons (qs_if (PW.pt (qw_or (qt_not (qt_tru (qe_isi T.i_list rfl T.z_isinstance (qe_v 0) (pe_bltn (v := .ty "list") rfl T.z_list boot_list rfl)))) (qw_or1 (qt_ne hr.units (qe_len rfl T.z_len (qa_cons (qe_v 0) qa_nil)) (qe_len rfl T.z_len (qa_cons (qe_v 2) qa_nil)))))) (qss_one (qs_ret qe_bl)) qss_nil)
      (qss_cons (qs_for PassesOwn.leaving rfl (qi_range1 rfl T.z_range (qe_len rfl T.z_len (qa_cons (qe_v 2) qa_nil))) (pg_name (i := 3) Sc.nd rfl (Or.inl rfl)) (tgOk_name 3) (qss_cons (qs_if (PW.pt (qw_or (qt_not (qt_tru (qe_isi T.i_tuple rfl T.z_isinstance (qe_ix (qe_v 0) (qe_v 3)) (pe_bltn (v := .ty "tuple") rfl T.z_tuple boot_tuple rfl)))) (qw_or1 (qt_ne hr.units (qe_len rfl T.z_len (qa_cons (qe_ix (qe_v 0) (qe_v 3)) qa_nil)) qe_int)))) (qss_one (qs_ret qe_bl)) qss_nil)
      (qss_one (qs_if (PW.pt (qw_or (qt_not (qt_tru (qe_call G__law_whole (hr.mono (by decide)) rfl T.g__law_whole T.k__law_whole b__law_whole passX (qa_cons (qe_ix (qe_ix (qe_v 0) (qe_v 3)) qe_int) qa_nil)))) (qw_or (qt_not (qt_tru (qe_call G__law_whole (hr.mono (by decide)) rfl T.g__law_whole T.k__law_whole b__law_whole passX (qa_cons (qe_ix (qe_ix (qe_v 0) (qe_v 3)) qe_int) qa_nil)))) (qw_or1 (qt_ne hr.units (qe_ix (qe_v 0) (qe_v 3)) (qe_ix (qe_v 2) (qe_v 3))))))) (qss_one (qs_ret qe_bl)) qss_nil))))
      (qss_one (qs_ret qe_bl)))))
theorem ok_law (T : All K mg c a) : FnOk P w K mg base (CXw P w) 6 a.f_law a.d_law ["script"] (spM 1 (g_law c)) := by
  have G_Board_init := ok_Board_init (P := P) (w := w) (base := base) T
  have b_Board_init := T.b_Board_init
  have G_Board_rollM := ok_Board_rollM (P := P) (w := w) (base := base) T
  have G_Board_roll := ok_Board_roll (P := P) (w := w) (base := base) T
  have b_Board_roll := T.b_Board_roll
  have G_Board_side_at := ok_Board_side_at (P := P) (w := w) (base := base) T
  have b_Board_side_at := T.b_Board_side_at
  have G_Map_init := ok_Map_init (P := P) (w := w) (base := base) T
  have b_Map_init := T.b_Map_init
  have G__law_cell_at := ok__law_cell_at (P := P) (w := w) (base := base) T
  have b__law_cell_at := T.b__law_cell_at
  have G__law_done := ok__law_done (P := P) (w := w) (base := base) T
  have b__law_done := T.b__law_done
  have G__law_due := ok__law_due (P := P) (w := w) (base := base) T
  have b__law_due := T.b__law_due
  have G__law_roll := ok__law_roll (P := P) (w := w) (base := base) T
  have b__law_roll := T.b__law_roll
  refine fn_ok T.F_law sc_law fun cdv A outer s H E hr => ?_
  have Sc := sc_law
  exact (qss_cons (qs_set (i := 1) Sc.nd rfl (Or.inl rfl) (qe_add qe_int (qe_mod (qe_div (qe_call G__law_cell_at (hr.mono (by decide)) rfl T.g__law_cell_at T.k__law_cell_at b__law_cell_at passX (qa_cons (qe_v 0) (qa_cons qe_int qa_nil))) qe_int) qe_int)))
      (qss_cons (qs_if (qt_eq hr.units (qe_mod (qe_call G__law_cell_at (hr.mono (by decide)) rfl T.g__law_cell_at T.k__law_cell_at b__law_cell_at passX (qa_cons (qe_v 0) (qa_cons qe_int qa_nil))) qe_int) qe_int) (qss_one (qs_set (i := 1) Sc.nd rfl (Or.inl rfl) (qe_add qe_int (qe_mod (qe_div (qe_call G__law_cell_at (hr.mono (by decide)) rfl T.g__law_cell_at T.k__law_cell_at b__law_cell_at passX (qa_cons (qe_v 0) (qa_cons qe_int qa_nil))) qe_int) qe_int)))) qss_nil)
      (qss_cons (qs_set (i := 2) Sc.nd rfl (Or.inl rfl) (qe_make T.mk_Map G_Map_init (hr.mono (by decide)) rfl T.c_Map b_Map_init passX (qa_cons (qe_v 1) qa_nil)))
      (qss_cons (qs_set (i := 3) Sc.nd rfl (Or.inl rfl) (qe_make T.mk_Board G_Board_init (hr.mono (by decide)) rfl T.c_Board b_Board_init passX (qa_cons (qe_v 2) qa_nil)))
      (qss_cons (qs_set (i := 4) Sc.nd rfl (Or.inl rfl) (qe_rep layK_lstM (qa_cons qe_non qa_nil) (qe_v 1)))
      (qss_cons (qs_for PassesOwn.leaving rfl (qi_list (qe_slice (qe_v 0) qo_none (qo_some qe_int))) (pg_name (i := 5) Sc.nd rfl (Or.inl rfl)) (tgOk_name 5) (qss_cons (qs_set (i := 6) Sc.nd rfl (Or.inl rfl) (qe_sub (qe_mod (qe_div (qe_v 5) qe_int) (qe_add (qe_v 1) qe_int)) qe_int))
      (qss_cons (qs_set (i := 7) Sc.nd rfl (Or.inl rfl) (qe_sub (qe_mod (qe_div (qe_v 5) qe_int) qe_int) qe_int))
      (qss_cons (qs_if (qt_eq hr.units (qe_mod (qe_v 5) qe_int) qe_int) (qss_one (qs_set (i := 7) Sc.nd rfl (Or.inl rfl) qe_non)) qss_nil)
      (qss_cons (qs_set (i := 8) Sc.nd rfl (Or.inl rfl) (qe_call G__law_due (hr.mono (by decide)) rfl T.g__law_due T.k__law_due b__law_due passX (qa_cons (qe_v 4) (qa_cons (qe_v 6) (qa_cons (qe_v 7) qa_nil)))))
      (qss_cons (qs_if (qt_ne hr.units (qe_call G__law_done (hr.mono (by decide)) rfl T.g__law_done T.k__law_done b__law_done passX (qa_cons (qe_v 3) (qa_cons (qe_v 6) (qa_cons (qe_v 7) qa_nil)))) (qe_v 8)) (qss_one (qs_ret qe_bl)) qss_nil)
      (qss_cons (qs_if (qt_eq hr.units (qe_v 8) qe_int) (qss_one (qs_setI (qe_v 7) (qe_v 4) (qe_v 6) (hg := pg_sub (qe_v 4) (qe_v 6) set_list))) qss_nil)
      (qss_cons (qs_if (qt_not (qt_tru (qe_call G__law_roll (hr.mono (by decide)) rfl T.g__law_roll T.k__law_roll b__law_roll passX (qa_cons (qe_meth0 (qe_v 3) T.cl_Board T.m_Board_roll G_Board_roll (hr.mono (by decide)) b_Board_roll passX) (qa_cons (qe_v 4) qa_nil))))) (qss_one (qs_ret qe_bl)) qss_nil)
      (qss_one (qs_if (PW.pt (qw_and (qt_chain op_le op_lt o2_le o2_lt qe_int (qe_v 6) (qe_v 1)) (qw_and1 (qt_ne hr.units (qe_meth (qe_v 3) T.cl_Board T.m_Board_side_at G_Board_side_at (hr.mono (by decide)) b_Board_side_at passX (qa_cons (qe_v 6) qa_nil)) (qe_ix (qe_v 4) (qe_v 6)))))) (qss_one (qs_ret qe_bl)) qss_nil))))))))))
      (qss_cons (qs_expr (qe_clear (qe_meth0 (qe_v 3) T.cl_Board T.m_Board_roll G_Board_rollM (hr.mono (by decide)) b_Board_roll passX)))
      (qss_one (qs_ret (qe_and (qe_eq hr.units (qe_fld T.cl_Map T.na_Map_size (qe_fld T.cl_Board T.na_Board_chart (qe_v 3))) (qe_v 1)) (qe_one (qe_call G__law_roll (hr.mono (by decide)) rfl T.g__law_roll T.k__law_roll b__law_roll passX (qa_cons (qe_meth0 (qe_v 3) T.cl_Board T.m_Board_roll G_Board_roll (hr.mono (by decide)) b_Board_roll passX) (qa_cons (qe_v 4) qa_nil))))))))))))))
end
end MP

set_option maxHeartbeats 4000000
namespace MP
open PySem L2
theorem isE_all {c : CA} {p : Addr → Prop} (h1 : p c.NoPlace) (h2 : p c.NoSide) (h3 : p c.Crowded) (h4 : p c.NoUnit) (h5 : p c.OutOfReach) (C : Addr) (h : c.isE C = true) : p C := by
  simp only [CA.isE, Bool.or_eq_true, beq_iff_eq] at h
  rcases h with (((h | h) | h) | h) | h <;> subst h <;> assumption
theorem excAll_mk {K : PySem.W.Frag} {c : CA} {l1 l2 l3 l4 l5 : List Bool} (hk : c.kit = fun C D => (PySem.W.kitOne K (.ref C) D).getD false) (hD : c.Ds = [.ref c.NoPlace, .ref c.NoSide, .ref c.Crowded, .ref c.NoUnit, .ref c.OutOfReach, .type "ValueError"])
    (h1 : ExcK K c.NoPlace) (q1 : c.Ds.map (PySem.W.kitOne K (.ref c.NoPlace)) = l1.map some) (h2 : ExcK K c.NoSide) (q2 : c.Ds.map (PySem.W.kitOne K (.ref c.NoSide)) = l2.map some) (h3 : ExcK K c.Crowded) (q3 : c.Ds.map (PySem.W.kitOne K (.ref c.Crowded)) = l3.map some)
    (h4 : ExcK K c.NoUnit) (q4 : c.Ds.map (PySem.W.kitOne K (.ref c.NoUnit)) = l4.map some) (h5 : ExcK K c.OutOfReach) (q5 : c.Ds.map (PySem.W.kitOne K (.ref c.OutOfReach)) = l5.map some) : ExcAll K c.isE c.kit c.Ds :=
  ⟨isE_all h1 h2 h3 h4 h5, fun C D hC hd => by
    rw [hk]
    exact isE_all (p := fun C => PySem.W.kitOne K (.ref C) D = some ((PySem.W.kitOne K (.ref C) D).getD false)) (kit_some q1 hd) (kit_some q2 hd) (kit_some q3 hd) (kit_some q4 hd) (kit_some q5 hd) C hC⟩
theorem all_mk {l : PySem.W.OpenLaw} {w : World} {K : PySem.W.Frag} {h : Heap} {mg : Str → Option Value} {fa y_Map y_Board y_OrderError y_NoPlace y_NoSide y_Crowded y_NoUnit y_OutOfReach f_Board_init f_Map_need_place f_Board_post f_Board_side_at f_Board_need_unit f_Board_lift f_Board_roll f_Map_init f__law_cell_at f__law_whole f__law_done f__law_due f__law_roll f_law : Addr} (X : K.In h) (G : h.Ns mainGlobals mg) (hfa : mg "law" = some (.ref fa))
    {od_Board_init an_Board_init : Option Addr} {sl_Board_init : Array (Option Value)} {oc_Board_init kV_Board_init dc_Board_init pm_Board_init cd_Board_init ct_Board_init : Value}
    {od_Map_need_place an_Map_need_place : Option Addr} {sl_Map_need_place : Array (Option Value)} {oc_Map_need_place kV_Map_need_place dc_Map_need_place pm_Map_need_place cd_Map_need_place ct_Map_need_place : Value}
    {od_Board_post an_Board_post : Option Addr} {sl_Board_post : Array (Option Value)} {oc_Board_post kV_Board_post dc_Board_post pm_Board_post cd_Board_post ct_Board_post : Value}
    {od_Board_side_at an_Board_side_at : Option Addr} {sl_Board_side_at : Array (Option Value)} {oc_Board_side_at kV_Board_side_at dc_Board_side_at pm_Board_side_at cd_Board_side_at ct_Board_side_at : Value}
    {od_Board_need_unit an_Board_need_unit : Option Addr} {sl_Board_need_unit : Array (Option Value)} {oc_Board_need_unit kV_Board_need_unit dc_Board_need_unit pm_Board_need_unit cd_Board_need_unit ct_Board_need_unit : Value}
    {od_Board_lift an_Board_lift : Option Addr} {sl_Board_lift : Array (Option Value)} {oc_Board_lift kV_Board_lift dc_Board_lift pm_Board_lift cd_Board_lift ct_Board_lift : Value}
    {od_Board_roll an_Board_roll : Option Addr} {sl_Board_roll : Array (Option Value)} {oc_Board_roll kV_Board_roll dc_Board_roll pm_Board_roll cd_Board_roll ct_Board_roll : Value}
    {od_Map_init an_Map_init : Option Addr} {sl_Map_init : Array (Option Value)} {oc_Map_init kV_Map_init dc_Map_init pm_Map_init cd_Map_init ct_Map_init : Value}
    {od__law_cell_at an__law_cell_at : Option Addr} {sl__law_cell_at : Array (Option Value)} {oc__law_cell_at kV__law_cell_at dc__law_cell_at pm__law_cell_at cd__law_cell_at ct__law_cell_at : Value}
    {od__law_whole an__law_whole : Option Addr} {sl__law_whole : Array (Option Value)} {oc__law_whole kV__law_whole dc__law_whole pm__law_whole cd__law_whole ct__law_whole : Value}
    {od__law_done an__law_done : Option Addr} {sl__law_done : Array (Option Value)} {oc__law_done kV__law_done dc__law_done pm__law_done cd__law_done ct__law_done : Value}
    {od__law_due an__law_due : Option Addr} {sl__law_due : Array (Option Value)} {oc__law_due kV__law_due dc__law_due pm__law_due cd__law_due ct__law_due : Value}
    {od__law_roll an__law_roll : Option Addr} {sl__law_roll : Array (Option Value)} {oc__law_roll kV__law_roll dc__law_roll pm__law_roll cd__law_roll ct__law_roll : Value}
    {od_law an_law : Option Addr} {sl_law : Array (Option Value)} {oc_law kV_law dc_law pm_law cd_law ct_law : Value}
    {t_LAST_SIDE : Tok}
    (a_Map : PySem.W.nsIn K mainGlobals "Map" = some (some (.ref y_Map)))
    (a_Board : PySem.W.nsIn K mainGlobals "Board" = some (some (.ref y_Board)))
    (a_OrderError : PySem.W.nsIn K mainGlobals "OrderError" = some (some (.ref y_OrderError)))
    (a_NoPlace : PySem.W.nsIn K mainGlobals "NoPlace" = some (some (.ref y_NoPlace)))
    (a_NoSide : PySem.W.nsIn K mainGlobals "NoSide" = some (some (.ref y_NoSide)))
    (a_Crowded : PySem.W.nsIn K mainGlobals "Crowded" = some (some (.ref y_Crowded)))
    (a_NoUnit : PySem.W.nsIn K mainGlobals "NoUnit" = some (some (.ref y_NoUnit)))
    (a_OutOfReach : PySem.W.nsIn K mainGlobals "OutOfReach" = some (some (.ref y_OutOfReach)))
    (a_Board_init : PySem.W.findIn K (.ref y_Board) "__init__" = some (some (.ref f_Board_init)))
    (i_Board_init : PySem.W.isFn K (.ref f_Board_init) = true)
    (l_Board_init : K.lookup f_Board_init = some ⟨oc_Board_init, od_Board_init, .func (PySem.W.fnOf "__init__" "Board.__init__" (defArgs st_Board_init) (defBody st_Board_init) (defScope st_Board_init) .none kV_Board_init dc_Board_init pm_Board_init an_Board_init cd_Board_init ct_Board_init), sl_Board_init⟩)
    (c_Board_init : PySem.W.codeIn K cd_Board_init "Board.__init__" = true)
    (k_Board_init : PySem.W.keepIn K (.ref f_Board_init) = true)
    (a_Map_need_place : PySem.W.findIn K (.ref y_Map) "need_place" = some (some (.ref f_Map_need_place)))
    (i_Map_need_place : PySem.W.isFn K (.ref f_Map_need_place) = true)
    (l_Map_need_place : K.lookup f_Map_need_place = some ⟨oc_Map_need_place, od_Map_need_place, .func (PySem.W.fnOf "need_place" "Map.need_place" (defArgs st_Map_need_place) (defBody st_Map_need_place) (defScope st_Map_need_place) .none kV_Map_need_place dc_Map_need_place pm_Map_need_place an_Map_need_place cd_Map_need_place ct_Map_need_place), sl_Map_need_place⟩)
    (c_Map_need_place : PySem.W.codeIn K cd_Map_need_place "Map.need_place" = true)
    (k_Map_need_place : PySem.W.keepIn K (.ref f_Map_need_place) = true)
    (a_Board_post : PySem.W.findIn K (.ref y_Board) "post" = some (some (.ref f_Board_post)))
    (i_Board_post : PySem.W.isFn K (.ref f_Board_post) = true)
    (l_Board_post : K.lookup f_Board_post = some ⟨oc_Board_post, od_Board_post, .func (PySem.W.fnOf "post" "Board.post" (defArgs st_Board_post) (defBody st_Board_post) (defScope st_Board_post) .none kV_Board_post dc_Board_post pm_Board_post an_Board_post cd_Board_post ct_Board_post), sl_Board_post⟩)
    (c_Board_post : PySem.W.codeIn K cd_Board_post "Board.post" = true)
    (k_Board_post : PySem.W.keepIn K (.ref f_Board_post) = true)
    (a_Board_side_at : PySem.W.findIn K (.ref y_Board) "side_at" = some (some (.ref f_Board_side_at)))
    (i_Board_side_at : PySem.W.isFn K (.ref f_Board_side_at) = true)
    (l_Board_side_at : K.lookup f_Board_side_at = some ⟨oc_Board_side_at, od_Board_side_at, .func (PySem.W.fnOf "side_at" "Board.side_at" (defArgs st_Board_side_at) (defBody st_Board_side_at) (defScope st_Board_side_at) .none kV_Board_side_at dc_Board_side_at pm_Board_side_at an_Board_side_at cd_Board_side_at ct_Board_side_at), sl_Board_side_at⟩)
    (c_Board_side_at : PySem.W.codeIn K cd_Board_side_at "Board.side_at" = true)
    (k_Board_side_at : PySem.W.keepIn K (.ref f_Board_side_at) = true)
    (a_Board_need_unit : PySem.W.findIn K (.ref y_Board) "need_unit" = some (some (.ref f_Board_need_unit)))
    (i_Board_need_unit : PySem.W.isFn K (.ref f_Board_need_unit) = true)
    (l_Board_need_unit : K.lookup f_Board_need_unit = some ⟨oc_Board_need_unit, od_Board_need_unit, .func (PySem.W.fnOf "need_unit" "Board.need_unit" (defArgs st_Board_need_unit) (defBody st_Board_need_unit) (defScope st_Board_need_unit) .none kV_Board_need_unit dc_Board_need_unit pm_Board_need_unit an_Board_need_unit cd_Board_need_unit ct_Board_need_unit), sl_Board_need_unit⟩)
    (c_Board_need_unit : PySem.W.codeIn K cd_Board_need_unit "Board.need_unit" = true)
    (k_Board_need_unit : PySem.W.keepIn K (.ref f_Board_need_unit) = true)
    (a_Board_lift : PySem.W.findIn K (.ref y_Board) "lift" = some (some (.ref f_Board_lift)))
    (i_Board_lift : PySem.W.isFn K (.ref f_Board_lift) = true)
    (l_Board_lift : K.lookup f_Board_lift = some ⟨oc_Board_lift, od_Board_lift, .func (PySem.W.fnOf "lift" "Board.lift" (defArgs st_Board_lift) (defBody st_Board_lift) (defScope st_Board_lift) .none kV_Board_lift dc_Board_lift pm_Board_lift an_Board_lift cd_Board_lift ct_Board_lift), sl_Board_lift⟩)
    (c_Board_lift : PySem.W.codeIn K cd_Board_lift "Board.lift" = true)
    (k_Board_lift : PySem.W.keepIn K (.ref f_Board_lift) = true)
    (a_Board_roll : PySem.W.findIn K (.ref y_Board) "roll" = some (some (.ref f_Board_roll)))
    (i_Board_roll : PySem.W.isFn K (.ref f_Board_roll) = true)
    (l_Board_roll : K.lookup f_Board_roll = some ⟨oc_Board_roll, od_Board_roll, .func (PySem.W.fnOf "roll" "Board.roll" (defArgs st_Board_roll) (defBody st_Board_roll) (defScope st_Board_roll) .none kV_Board_roll dc_Board_roll pm_Board_roll an_Board_roll cd_Board_roll ct_Board_roll), sl_Board_roll⟩)
    (c_Board_roll : PySem.W.codeIn K cd_Board_roll "Board.roll" = true)
    (k_Board_roll : PySem.W.keepIn K (.ref f_Board_roll) = true)
    (a_Map_init : PySem.W.findIn K (.ref y_Map) "__init__" = some (some (.ref f_Map_init)))
    (i_Map_init : PySem.W.isFn K (.ref f_Map_init) = true)
    (l_Map_init : K.lookup f_Map_init = some ⟨oc_Map_init, od_Map_init, .func (PySem.W.fnOf "__init__" "Map.__init__" (defArgs st_Map_init) (defBody st_Map_init) (defScope st_Map_init) .none kV_Map_init dc_Map_init pm_Map_init an_Map_init cd_Map_init ct_Map_init), sl_Map_init⟩)
    (c_Map_init : PySem.W.codeIn K cd_Map_init "Map.__init__" = true)
    (k_Map_init : PySem.W.keepIn K (.ref f_Map_init) = true)
    (a__law_cell_at : PySem.W.nsIn K mainGlobals "_law_cell_at" = some (some (.ref f__law_cell_at)))
    (l__law_cell_at : K.lookup f__law_cell_at = some ⟨oc__law_cell_at, od__law_cell_at, .func (PySem.W.fnOf "_law_cell_at" "_law_cell_at" (defArgs st__law_cell_at) (defBody st__law_cell_at) (defScope st__law_cell_at) .none kV__law_cell_at dc__law_cell_at pm__law_cell_at an__law_cell_at cd__law_cell_at ct__law_cell_at), sl__law_cell_at⟩)
    (c__law_cell_at : PySem.W.codeIn K cd__law_cell_at "_law_cell_at" = true)
    (k__law_cell_at : PySem.W.keepIn K (.ref f__law_cell_at) = true)
    (a__law_whole : PySem.W.nsIn K mainGlobals "_law_whole" = some (some (.ref f__law_whole)))
    (l__law_whole : K.lookup f__law_whole = some ⟨oc__law_whole, od__law_whole, .func (PySem.W.fnOf "_law_whole" "_law_whole" (defArgs st__law_whole) (defBody st__law_whole) (defScope st__law_whole) .none kV__law_whole dc__law_whole pm__law_whole an__law_whole cd__law_whole ct__law_whole), sl__law_whole⟩)
    (c__law_whole : PySem.W.codeIn K cd__law_whole "_law_whole" = true)
    (k__law_whole : PySem.W.keepIn K (.ref f__law_whole) = true)
    (a__law_done : PySem.W.nsIn K mainGlobals "_law_done" = some (some (.ref f__law_done)))
    (l__law_done : K.lookup f__law_done = some ⟨oc__law_done, od__law_done, .func (PySem.W.fnOf "_law_done" "_law_done" (defArgs st__law_done) (defBody st__law_done) (defScope st__law_done) .none kV__law_done dc__law_done pm__law_done an__law_done cd__law_done ct__law_done), sl__law_done⟩)
    (c__law_done : PySem.W.codeIn K cd__law_done "_law_done" = true)
    (k__law_done : PySem.W.keepIn K (.ref f__law_done) = true)
    (a__law_due : PySem.W.nsIn K mainGlobals "_law_due" = some (some (.ref f__law_due)))
    (l__law_due : K.lookup f__law_due = some ⟨oc__law_due, od__law_due, .func (PySem.W.fnOf "_law_due" "_law_due" (defArgs st__law_due) (defBody st__law_due) (defScope st__law_due) .none kV__law_due dc__law_due pm__law_due an__law_due cd__law_due ct__law_due), sl__law_due⟩)
    (c__law_due : PySem.W.codeIn K cd__law_due "_law_due" = true)
    (k__law_due : PySem.W.keepIn K (.ref f__law_due) = true)
    (a__law_roll : PySem.W.nsIn K mainGlobals "_law_roll" = some (some (.ref f__law_roll)))
    (l__law_roll : K.lookup f__law_roll = some ⟨oc__law_roll, od__law_roll, .func (PySem.W.fnOf "_law_roll" "_law_roll" (defArgs st__law_roll) (defBody st__law_roll) (defScope st__law_roll) .none kV__law_roll dc__law_roll pm__law_roll an__law_roll cd__law_roll ct__law_roll), sl__law_roll⟩)
    (c__law_roll : PySem.W.codeIn K cd__law_roll "_law_roll" = true)
    (k__law_roll : PySem.W.keepIn K (.ref f__law_roll) = true)
    (a_law : PySem.W.nsIn K mainGlobals "law" = some (some (.ref f_law)))
    (l_law : K.lookup f_law = some ⟨oc_law, od_law, .func (PySem.W.fnOf "law" "law" (defArgs st_law) (defBody st_law) (defScope st_law) .none kV_law dc_law pm_law an_law cd_law ct_law), sl_law⟩)
    (c_law : PySem.W.codeIn K cd_law "law" = true)
    (k_law : PySem.W.keepIn K (.ref f_law) = true)
    (pg_Board : PySem.W.plainGet K y_Board Str.empty = true)
    (hd_Board : PySem.W.hasDictIn K y_Board = true)
    (po_Board : PySem.W.plainOver K y_Board = true)
    (sa_Board : PySem.W.findIn K (.ref y_Board) "__setattr__" = some (some (.builtin "object.__setattr__")))
    (pg_Map : PySem.W.plainGet K y_Map Str.empty = true)
    (hd_Map : PySem.W.hasDictIn K y_Map = true)
    (po_Map : PySem.W.plainOver K y_Map = true)
    (sa_Map : PySem.W.findIn K (.ref y_Map) "__setattr__" = some (some (.builtin "object.__setattr__")))
    (n_Board_chart : PySem.W.findIn K (.ref y_Board) "chart" = some none)
    (n_Board_units : PySem.W.findIn K (.ref y_Board) "units" = some none)
    (n_Map_links : PySem.W.findIn K (.ref y_Map) "links" = some none)
    (n_Map_size : PySem.W.findIn K (.ref y_Map) "size" = some none)
    (mm_Board : PySem.W.makesIn K y_Board = true)
    (kp_Board : PySem.W.keepIn K (.ref y_Board) = true)
    (mm_Map : PySem.W.makesIn K y_Map = true)
    (kp_Map : PySem.W.keepIn K (.ref y_Map) = true)
    (v_LAST_SIDE : PySem.W.nsIn K mainGlobals "LAST_SIDE" = some (some (.int 7 t_LAST_SIDE)))
    (x_Crowded : PySem.W.excIn K y_Crowded [.type "ValueError", .type "Exception", .type "BaseException", .type "object"] "ValueError.__new__" = true)
    (x_NoPlace : PySem.W.excIn K y_NoPlace [.type "ValueError", .type "Exception", .type "BaseException", .type "object"] "ValueError.__new__" = true)
    (x_NoSide : PySem.W.excIn K y_NoSide [.type "ValueError", .type "Exception", .type "BaseException", .type "object"] "ValueError.__new__" = true)
    (x_NoUnit : PySem.W.excIn K y_NoUnit [.type "ValueError", .type "Exception", .type "BaseException", .type "object"] "ValueError.__new__" = true)
    (z_ValueError : PySem.W.nsIn K mainGlobals "ValueError" = some none)
    (z_bool : PySem.W.nsIn K mainGlobals "bool" = some none)
    (z_int : PySem.W.nsIn K mainGlobals "int" = some none)
    (z_isinstance : PySem.W.nsIn K mainGlobals "isinstance" = some none)
    (z_len : PySem.W.nsIn K mainGlobals "len" = some none)
    (z_list : PySem.W.nsIn K mainGlobals "list" = some none)
    (z_range : PySem.W.nsIn K mainGlobals "range" = some none)
    (z_sorted : PySem.W.nsIn K mainGlobals "sorted" = some none)
    (z_tuple : PySem.W.nsIn K mainGlobals "tuple" = some none)
    (t_bool : sevenT.map (fun s => PySem.W.kitOne K (.type s) (.type "bool")) = [Kd.non, .bl, .int, .str, .lst, .tup, .dct].map fun t => some (Kd.isi t .bl))
    (t_int : sevenT.map (fun s => PySem.W.kitOne K (.type s) (.type "int")) = [Kd.non, .bl, .int, .str, .lst, .tup, .dct].map fun t => some (Kd.isi t .int))
    (t_list : sevenT.map (fun s => PySem.W.kitOne K (.type s) (.type "list")) = [Kd.non, .bl, .int, .str, .lst, .tup, .dct].map fun t => some (Kd.isi t .lst))
    (t_tuple : sevenT.map (fun s => PySem.W.kitOne K (.type s) (.type "tuple")) = [Kd.non, .bl, .int, .str, .lst, .tup, .dct].map fun t => some (Kd.isi t .tup))
    (sp : PySem.W.specialIn K (.builtin "object.__class__") "__get__" = some (some (.builtin "getset_descriptor.__get__")))
    (tk : PySem.W.takesIn K (.builtin "object.__class__") = some true)
    (ga_NoPlace : PySem.W.findIn K (.ref y_NoPlace) "__getattribute__" = some (some (.builtin "BaseException.__getattribute__")))
    (gt_NoPlace : PySem.W.findIn K (.ref y_NoPlace) "__getattr__" = some none)
    (gc_NoPlace : PySem.W.findIn K (.ref y_NoPlace) "__class__" = some (some (.builtin "object.__class__")))
    (ob_NoPlace : PySem.W.mroIn K y_NoPlace (.type "object") = some true)
    (be_NoPlace : PySem.W.mroIn K y_NoPlace (.type "BaseException") = some true)
    (is_NoPlace : (PySem.W.clsIn K y_NoPlace).isSome = true)
    (q_NoPlace : [.ref y_NoPlace, .ref y_NoSide, .ref y_Crowded, .ref y_NoUnit, .ref y_OutOfReach, .type "ValueError"].map (PySem.W.kitOne K (.ref y_NoPlace)) = [true, false, false, false, false, true].map some)
    (e_NoPlace : PySem.W.exmOne K (.ref y_NoPlace) (.ref y_OrderError) = some true)
    (ga_NoSide : PySem.W.findIn K (.ref y_NoSide) "__getattribute__" = some (some (.builtin "BaseException.__getattribute__")))
    (gt_NoSide : PySem.W.findIn K (.ref y_NoSide) "__getattr__" = some none)
    (gc_NoSide : PySem.W.findIn K (.ref y_NoSide) "__class__" = some (some (.builtin "object.__class__")))
    (ob_NoSide : PySem.W.mroIn K y_NoSide (.type "object") = some true)
    (be_NoSide : PySem.W.mroIn K y_NoSide (.type "BaseException") = some true)
    (is_NoSide : (PySem.W.clsIn K y_NoSide).isSome = true)
    (q_NoSide : [.ref y_NoPlace, .ref y_NoSide, .ref y_Crowded, .ref y_NoUnit, .ref y_OutOfReach, .type "ValueError"].map (PySem.W.kitOne K (.ref y_NoSide)) = [false, true, false, false, false, true].map some)
    (e_NoSide : PySem.W.exmOne K (.ref y_NoSide) (.ref y_OrderError) = some true)
    (ga_Crowded : PySem.W.findIn K (.ref y_Crowded) "__getattribute__" = some (some (.builtin "BaseException.__getattribute__")))
    (gt_Crowded : PySem.W.findIn K (.ref y_Crowded) "__getattr__" = some none)
    (gc_Crowded : PySem.W.findIn K (.ref y_Crowded) "__class__" = some (some (.builtin "object.__class__")))
    (ob_Crowded : PySem.W.mroIn K y_Crowded (.type "object") = some true)
    (be_Crowded : PySem.W.mroIn K y_Crowded (.type "BaseException") = some true)
    (is_Crowded : (PySem.W.clsIn K y_Crowded).isSome = true)
    (q_Crowded : [.ref y_NoPlace, .ref y_NoSide, .ref y_Crowded, .ref y_NoUnit, .ref y_OutOfReach, .type "ValueError"].map (PySem.W.kitOne K (.ref y_Crowded)) = [false, false, true, false, false, true].map some)
    (e_Crowded : PySem.W.exmOne K (.ref y_Crowded) (.ref y_OrderError) = some true)
    (ga_NoUnit : PySem.W.findIn K (.ref y_NoUnit) "__getattribute__" = some (some (.builtin "BaseException.__getattribute__")))
    (gt_NoUnit : PySem.W.findIn K (.ref y_NoUnit) "__getattr__" = some none)
    (gc_NoUnit : PySem.W.findIn K (.ref y_NoUnit) "__class__" = some (some (.builtin "object.__class__")))
    (ob_NoUnit : PySem.W.mroIn K y_NoUnit (.type "object") = some true)
    (be_NoUnit : PySem.W.mroIn K y_NoUnit (.type "BaseException") = some true)
    (is_NoUnit : (PySem.W.clsIn K y_NoUnit).isSome = true)
    (q_NoUnit : [.ref y_NoPlace, .ref y_NoSide, .ref y_Crowded, .ref y_NoUnit, .ref y_OutOfReach, .type "ValueError"].map (PySem.W.kitOne K (.ref y_NoUnit)) = [false, false, false, true, false, true].map some)
    (e_NoUnit : PySem.W.exmOne K (.ref y_NoUnit) (.ref y_OrderError) = some true)
    (ga_OutOfReach : PySem.W.findIn K (.ref y_OutOfReach) "__getattribute__" = some (some (.builtin "BaseException.__getattribute__")))
    (gt_OutOfReach : PySem.W.findIn K (.ref y_OutOfReach) "__getattr__" = some none)
    (gc_OutOfReach : PySem.W.findIn K (.ref y_OutOfReach) "__class__" = some (some (.builtin "object.__class__")))
    (ob_OutOfReach : PySem.W.mroIn K y_OutOfReach (.type "object") = some true)
    (be_OutOfReach : PySem.W.mroIn K y_OutOfReach (.type "BaseException") = some true)
    (is_OutOfReach : (PySem.W.clsIn K y_OutOfReach).isSome = true)
    (q_OutOfReach : [.ref y_NoPlace, .ref y_NoSide, .ref y_Crowded, .ref y_NoUnit, .ref y_OutOfReach, .type "ValueError"].map (PySem.W.kitOne K (.ref y_OutOfReach)) = [false, false, false, false, true, true].map some)
    (e_OutOfReach : PySem.W.exmOne K (.ref y_OutOfReach) (.ref y_OrderError) = some true)
    (noL : notL K = true) :
    ∃ fd : FuncData, (∀ (s : Shared) (v : Value), BindsTo s fd ⟨[v], []⟩ [("script", v)]) ∧ ∀ base : Heap, K.In base → base.Ns mainGlobals mg → FnOk l.prog w K mg base (CXw l.prog w) 6 fa fd ["script"] (spLaw K) := by
  have e := hfa.symm.trans (PySem.W.mg_of X G a_law)
  cases e
  have F_Board_init := fun_mk (st := st_Board_init) l_Board_init c_Board_init k_Board_init
  have b_Board_init := F_Board_init.binds (ps := ["self", "chart"]) fun _ _ _ _ _ _ us hl => match us, hl with | [_, _], _ => rfl
  have F_Map_need_place := fun_mk (st := st_Map_need_place) l_Map_need_place c_Map_need_place k_Map_need_place
  have b_Map_need_place := F_Map_need_place.binds (ps := ["self", "at"]) fun _ _ _ _ _ _ us hl => match us, hl with | [_, _], _ => rfl
  have F_Board_post := fun_mk (st := st_Board_post) l_Board_post c_Board_post k_Board_post
  have b_Board_post := F_Board_post.binds (ps := ["self", "at", "side"]) fun _ _ _ _ _ _ us hl => match us, hl with | [_, _, _], _ => rfl
  have F_Board_side_at := fun_mk (st := st_Board_side_at) l_Board_side_at c_Board_side_at k_Board_side_at
  have b_Board_side_at := F_Board_side_at.binds (ps := ["self", "at"]) fun _ _ _ _ _ _ us hl => match us, hl with | [_, _], _ => rfl
  have F_Board_need_unit := fun_mk (st := st_Board_need_unit) l_Board_need_unit c_Board_need_unit k_Board_need_unit
  have b_Board_need_unit := F_Board_need_unit.binds (ps := ["self", "at"]) fun _ _ _ _ _ _ us hl => match us, hl with | [_, _], _ => rfl
  have F_Board_lift := fun_mk (st := st_Board_lift) l_Board_lift c_Board_lift k_Board_lift
  have b_Board_lift := F_Board_lift.binds (ps := ["self", "at"]) fun _ _ _ _ _ _ us hl => match us, hl with | [_, _], _ => rfl
  have F_Board_roll := fun_mk (st := st_Board_roll) l_Board_roll c_Board_roll k_Board_roll
  have b_Board_roll := F_Board_roll.binds (ps := ["self"]) fun _ _ _ _ _ _ us hl => match us, hl with | [_], _ => rfl
  have F_Map_init := fun_mk (st := st_Map_init) l_Map_init c_Map_init k_Map_init
  have b_Map_init := F_Map_init.binds (ps := ["self", "size"]) fun _ _ _ _ _ _ us hl => match us, hl with | [_, _], _ => rfl
  have F__law_cell_at := fun_mk (st := st__law_cell_at) l__law_cell_at c__law_cell_at k__law_cell_at
  have b__law_cell_at := F__law_cell_at.binds (ps := ["script", "k"]) fun _ _ _ _ _ _ us hl => match us, hl with | [_, _], _ => rfl
  have F__law_whole := fun_mk (st := st__law_whole) l__law_whole c__law_whole k__law_whole
  have b__law_whole := F__law_whole.binds (ps := ["found"]) fun _ _ _ _ _ _ us hl => match us, hl with | [_], _ => rfl
  have F__law_done := fun_mk (st := st__law_done) l__law_done c__law_done k__law_done
  have b__law_done := F__law_done.binds (ps := ["board", "at", "side"]) fun _ _ _ _ _ _ us hl => match us, hl with | [_, _, _], _ => rfl
  have F__law_due := fun_mk (st := st__law_due) l__law_due c__law_due k__law_due
  have b__law_due := F__law_due.binds (ps := ["sides", "at", "side"]) fun _ _ _ _ _ _ us hl => match us, hl with | [_, _, _], _ => rfl
  have F__law_roll := fun_mk (st := st__law_roll) l__law_roll c__law_roll k__law_roll
  have b__law_roll := F__law_roll.binds (ps := ["found", "sides"]) fun _ _ _ _ _ _ us hl => match us, hl with | [_, _], _ => rfl
  have F_law := fun_mk (st := st_law) l_law c_law k_law
  have b_law := F_law.binds (ps := ["script"]) fun _ _ _ _ _ _ us hl => match us, hl with | [_], _ => rfl
  have T : All K mg ⟨y_Map, y_Board, y_Map, y_Map, y_OrderError, y_NoPlace, y_NoSide, y_Crowded, y_NoUnit, y_OutOfReach, fun C D => (PySem.W.kitOne K (.ref C) D).getD false, fun O C => decide (PySem.W.exmOne K (.ref C) (.ref O) = some true)⟩ ⟨f_Board_init, _, f_Map_need_place, _, f_Board_post, _, f_Board_side_at, _, f_Board_need_unit, _, f_Board_lift, _, f_Board_roll, _, f_Map_init, _, f__law_cell_at, _, f__law_whole, _, f__law_done, _, f__law_due, _, f__law_roll, _, fa, _⟩ := ⟨⟨pg_Board, hd_Board, po_Board, sa_Board⟩,
    ⟨pg_Map, hd_Map, po_Map, sa_Map⟩,
    n_Board_chart,
    n_Board_units,
    n_Map_links,
    n_Map_size,
    ⟨mm_Board, a_Board_init, i_Board_init, kp_Board⟩,
    ⟨mm_Map, a_Map_init, i_Map_init, kp_Map⟩,
    PySem.W.mg_of X G a_Board,
    PySem.W.mg_of X G a_Crowded,
    ⟨_, PySem.W.mg_of X G v_LAST_SIDE⟩,
    PySem.W.mg_of X G a_Map,
    PySem.W.mg_of X G a_NoPlace,
    PySem.W.mg_of X G a_NoSide,
    PySem.W.mg_of X G a_NoUnit,
    PySem.W.mg_of X G a_OrderError,
    PySem.W.mg_of X G a_OutOfReach,
    x_Crowded,
    x_NoPlace,
    x_NoSide,
    x_NoUnit,
    PySem.W.mg_none_of X G z_ValueError,
    PySem.W.mg_none_of X G z_bool,
    PySem.W.mg_none_of X G z_int,
    PySem.W.mg_none_of X G z_isinstance,
    PySem.W.mg_none_of X G z_len,
    PySem.W.mg_none_of X G z_list,
    PySem.W.mg_none_of X G z_range,
    PySem.W.mg_none_of X G z_sorted,
    PySem.W.mg_none_of X G z_tuple,
    KIsi.of t_bool,
    KIsi.of t_int,
    KIsi.of t_list,
    KIsi.of t_tuple,
    F_Board_init,
    b_Board_init,
    F_Map_need_place,
    b_Map_need_place,
    ⟨a_Map_need_place, i_Map_need_place, k_Map_need_place⟩,
    F_Board_post,
    b_Board_post,
    ⟨a_Board_post, i_Board_post, k_Board_post⟩,
    F_Board_side_at,
    b_Board_side_at,
    ⟨a_Board_side_at, i_Board_side_at, k_Board_side_at⟩,
    F_Board_need_unit,
    b_Board_need_unit,
    ⟨a_Board_need_unit, i_Board_need_unit, k_Board_need_unit⟩,
    F_Board_lift,
    b_Board_lift,
    ⟨a_Board_lift, i_Board_lift, k_Board_lift⟩,
    F_Board_roll,
    b_Board_roll,
    ⟨a_Board_roll, i_Board_roll, k_Board_roll⟩,
    F_Map_init,
    b_Map_init,
    F__law_cell_at,
    b__law_cell_at,
    PySem.W.mg_of X G a__law_cell_at,
    k__law_cell_at,
    F__law_whole,
    b__law_whole,
    PySem.W.mg_of X G a__law_whole,
    k__law_whole,
    F__law_done,
    b__law_done,
    PySem.W.mg_of X G a__law_done,
    k__law_done,
    F__law_due,
    b__law_due,
    PySem.W.mg_of X G a__law_due,
    k__law_due,
    F__law_roll,
    b__law_roll,
    PySem.W.mg_of X G a__law_roll,
    k__law_roll,
    F_law,
    b_law,
    PySem.W.mg_of X G a_law,
    k_law,
    excAll_mk rfl rfl ⟨ga_NoPlace, gt_NoPlace, gc_NoPlace, ob_NoPlace, be_NoPlace, sp, tk, is_NoPlace⟩ q_NoPlace ⟨ga_NoSide, gt_NoSide, gc_NoSide, ob_NoSide, be_NoSide, sp, tk, is_NoSide⟩ q_NoSide ⟨ga_Crowded, gt_Crowded, gc_Crowded, ob_Crowded, be_Crowded, sp, tk, is_Crowded⟩ q_Crowded ⟨ga_NoUnit, gt_NoUnit, gc_NoUnit, ob_NoUnit, be_NoUnit, sp, tk, is_NoUnit⟩ q_NoUnit ⟨ga_OutOfReach, gt_OutOfReach, gc_OutOfReach, ob_OutOfReach, be_OutOfReach, sp, tk, is_OutOfReach⟩ q_OutOfReach,
    fun C h => of_decide_eq_true h⟩
  have A : CAok ⟨y_Map, y_Board, y_Map, y_Map, y_OrderError, y_NoPlace, y_NoSide, y_Crowded, y_NoUnit, y_OutOfReach, fun C D => (PySem.W.kitOne K (.ref C) D).getD false, fun O C => decide (PySem.W.exmOne K (.ref C) (.ref O) = some true)⟩ := ⟨kit_map q_NoPlace, kit_map q_NoSide, kit_map q_Crowded, kit_map q_NoUnit, ⟨decide_eq_true e_NoPlace, decide_eq_true e_NoSide, decide_eq_true e_Crowded, decide_eq_true e_NoUnit⟩⟩
  refine ⟨_, ?_, fun base _ _ => law_fin noL (ok_law T) (law_true _ A)⟩
  exact fun s v => .of_eq rfl
theorem walk {l : PySem.W.OpenLaw} {q : Program} {loose : List Str} {XP : (Str → Option Value) → Heap → Prop} {YP : World → Heap → Prop} {d : DefRec} {K : Params → PySem.W.Frag} (hn : l.most = some 63) (hdf : d.params.defaults = [])
    (hY : ∀ (w : World) (h : Heap), YP w h → (K w.params).In h)
    (F : ∀ (w : World) (mg : Str → Option Value) (fa : Addr) (h : Heap), (K w.params).In h → h.Ns mainGlobals mg → mg d.name = some (.ref fa) →
      ∃ fd : FuncData, (∀ (s : Shared) (u : Value), BindsTo s fd ⟨[u], []⟩ [("script", u)]) ∧ ∀ base : Heap, (K w.params).In base → base.Ns mainGlobals mg → FnOk l.prog w (K w.params) mg base (CXw l.prog w) 6 fa fd ["script"] (spLaw (K w.params))) :
    PySem.W.WalkO q loose XP YP l.row.toRowW d [] (fun f vs => PySem.call f vs) :=
  L2.walk_of (n := 63) (k := 6) (x := "script") (CX := fun w => CXw l.prog w) (sp := fun w => spLaw (K w.params)) hn (by decide) hdf ⟨rfl, by decide, by decide⟩ hY F (fun _ _ a ns hl _ hS => ⟨a, ns, rfl, hS, hl, fun _ => rfl⟩) fun _ _ _ _ _ ⟨_, _, _, _, _, z⟩ => z
end MP
open PySem PySem.W PyProof.Rows
set_option maxRecDepth 100000 in
set_option maxHeartbeats 0 in
theorem PySem.Challenge.cw_atonce_k03_units_posted_holds : PySem.Challenge.rw_atonce_k03_units_posted.Holds := by
  w_on; o_law; k_head; (case hw => w_witness2)
  k_fill
  refine MP.walk (l := PySem.Challenge.rw_atonce_k03_units_posted) rfl rfl (fun w h Y => PySem.W.kIn_of Y) ?F
  case F =>
    intro w mg fa h KX G hmg
    refine' MP.all_mk KX G hmg ?a_Map ?a_Board ?a_OrderError ?a_NoPlace ?a_NoSide ?a_Crowded ?a_NoUnit ?a_OutOfReach ?a_Board_init ?i_Board_init ?l_Board_init ?c_Board_init ?k_Board_init ?a_Map_need_place ?i_Map_need_place ?l_Map_need_place ?c_Map_need_place ?k_Map_need_place ?a_Board_post ?i_Board_post ?l_Board_post ?c_Board_post ?k_Board_post ?a_Board_side_at ?i_Board_side_at ?l_Board_side_at ?c_Board_side_at ?k_Board_side_at ?a_Board_need_unit ?i_Board_need_unit ?l_Board_need_unit ?c_Board_need_unit ?k_Board_need_unit ?a_Board_lift ?i_Board_lift ?l_Board_lift ?c_Board_lift ?k_Board_lift ?a_Board_roll ?i_Board_roll ?l_Board_roll ?c_Board_roll ?k_Board_roll ?a_Map_init ?i_Map_init ?l_Map_init ?c_Map_init ?k_Map_init ?a__law_cell_at ?l__law_cell_at ?c__law_cell_at ?k__law_cell_at ?a__law_whole ?l__law_whole ?c__law_whole ?k__law_whole ?a__law_done ?l__law_done ?c__law_done ?k__law_done ?a__law_due ?l__law_due ?c__law_due ?k__law_due ?a__law_roll ?l__law_roll ?c__law_roll ?k__law_roll ?a_law ?l_law ?c_law ?k_law ?pg_Board ?hd_Board ?po_Board ?sa_Board ?pg_Map ?hd_Map ?po_Map ?sa_Map ?n_Board_chart ?n_Board_units ?n_Map_links ?n_Map_size ?mm_Board ?kp_Board ?mm_Map ?kp_Map ?v_LAST_SIDE ?x_Crowded ?x_NoPlace ?x_NoSide ?x_NoUnit ?z_ValueError ?z_bool ?z_int ?z_isinstance ?z_len ?z_list ?z_range ?z_sorted ?z_tuple ?t_bool ?t_int ?t_list ?t_tuple ?sp ?tk ?ga_NoPlace ?gt_NoPlace ?gc_NoPlace ?ob_NoPlace ?be_NoPlace ?is_NoPlace ?q_NoPlace ?e_NoPlace ?ga_NoSide ?gt_NoSide ?gc_NoSide ?ob_NoSide ?be_NoSide ?is_NoSide ?q_NoSide ?e_NoSide ?ga_Crowded ?gt_Crowded ?gc_Crowded ?ob_Crowded ?be_Crowded ?is_Crowded ?q_Crowded ?e_Crowded ?ga_NoUnit ?gt_NoUnit ?gc_NoUnit ?ob_NoUnit ?be_NoUnit ?is_NoUnit ?q_NoUnit ?e_NoUnit ?ga_OutOfReach ?gt_OutOfReach ?gc_OutOfReach ?ob_OutOfReach ?be_OutOfReach ?is_OutOfReach ?q_OutOfReach ?e_OutOfReach ?noL
    (case a_Map => k_is); (case a_Board => k_is); (case a_OrderError => k_is); (case a_NoPlace => k_is); (case a_NoSide => k_is); (case a_Crowded => k_is)
    (case a_NoUnit => k_is); (case a_OutOfReach => k_is); (case a_Board_init => k_is); (case i_Board_init => k_is); (case l_Board_init => k_is); (case c_Board_init => k_is)
    (case k_Board_init => k_is); (case a_Map_need_place => k_is); (case i_Map_need_place => k_is); (case l_Map_need_place => k_is); (case c_Map_need_place => k_is); (case k_Map_need_place => k_is)
    (case a_Board_post => k_is); (case i_Board_post => k_is); (case l_Board_post => k_is); (case c_Board_post => k_is); (case k_Board_post => k_is); (case a_Board_side_at => k_is)
    (case i_Board_side_at => k_is); (case l_Board_side_at => k_is); (case c_Board_side_at => k_is); (case k_Board_side_at => k_is); (case a_Board_need_unit => k_is); (case i_Board_need_unit => k_is)
    (case l_Board_need_unit => k_is); (case c_Board_need_unit => k_is); (case k_Board_need_unit => k_is); (case a_Board_lift => k_is); (case i_Board_lift => k_is); (case l_Board_lift => k_is)
    (case c_Board_lift => k_is); (case k_Board_lift => k_is); (case a_Board_roll => k_is); (case i_Board_roll => k_is); (case l_Board_roll => k_is); (case c_Board_roll => k_is)
    (case k_Board_roll => k_is); (case a_Map_init => k_is); (case i_Map_init => k_is); (case l_Map_init => k_is); (case c_Map_init => k_is); (case k_Map_init => k_is)
    (case a__law_cell_at => k_is); (case l__law_cell_at => k_is); (case c__law_cell_at => k_is); (case k__law_cell_at => k_is); (case a__law_whole => k_is); (case l__law_whole => k_is)
    (case c__law_whole => k_is); (case k__law_whole => k_is); (case a__law_done => k_is); (case l__law_done => k_is); (case c__law_done => k_is); (case k__law_done => k_is)
    (case a__law_due => k_is); (case l__law_due => k_is); (case c__law_due => k_is); (case k__law_due => k_is); (case a__law_roll => k_is); (case l__law_roll => k_is)
    (case c__law_roll => k_is); (case k__law_roll => k_is); (case a_law => k_is); (case l_law => k_is); (case c_law => k_is); (case k_law => k_is)
    (case pg_Board => k_is); (case hd_Board => k_is); (case po_Board => k_is); (case sa_Board => k_is); (case pg_Map => k_is); (case hd_Map => k_is)
    (case po_Map => k_is); (case sa_Map => k_is); (case n_Board_chart => k_is); (case n_Board_units => k_is); (case n_Map_links => k_is); (case n_Map_size => k_is)
    (case mm_Board => k_is); (case kp_Board => k_is); (case mm_Map => k_is); (case kp_Map => k_is); (case v_LAST_SIDE => k_is); (case x_Crowded => kernel_rfl)
    (case x_NoPlace => kernel_rfl); (case x_NoSide => kernel_rfl); (case x_NoUnit => kernel_rfl); (case z_ValueError => k_is); (case z_bool => k_is); (case z_int => k_is)
    (case z_isinstance => k_is); (case z_len => k_is); (case z_list => k_is); (case z_range => k_is); (case z_sorted => k_is); (case z_tuple => k_is)
    (case t_bool => kernel_rfl); (case t_int => kernel_rfl); (case t_list => kernel_rfl); (case t_tuple => kernel_rfl); (case sp => k_is); (case tk => k_is)
    (case ga_NoPlace => k_is); (case gt_NoPlace => k_is); (case gc_NoPlace => k_is); (case ob_NoPlace => k_is); (case be_NoPlace => k_is); (case is_NoPlace => kernel_rfl)
    (case q_NoPlace => kernel_rfl); (case e_NoPlace => kernel_rfl); (case ga_NoSide => k_is); (case gt_NoSide => k_is); (case gc_NoSide => k_is); (case ob_NoSide => k_is)
    (case be_NoSide => k_is); (case is_NoSide => kernel_rfl); (case q_NoSide => kernel_rfl); (case e_NoSide => kernel_rfl); (case ga_Crowded => k_is); (case gt_Crowded => k_is)
    (case gc_Crowded => k_is); (case ob_Crowded => k_is); (case be_Crowded => k_is); (case is_Crowded => kernel_rfl); (case q_Crowded => kernel_rfl); (case e_Crowded => kernel_rfl)
    (case ga_NoUnit => k_is); (case gt_NoUnit => k_is); (case gc_NoUnit => k_is); (case ob_NoUnit => k_is); (case be_NoUnit => k_is); (case is_NoUnit => kernel_rfl)
    (case q_NoUnit => kernel_rfl); (case e_NoUnit => kernel_rfl); (case ga_OutOfReach => k_is); (case gt_OutOfReach => k_is); (case gc_OutOfReach => k_is); (case ob_OutOfReach => k_is)
    (case be_OutOfReach => k_is); (case is_OutOfReach => kernel_rfl); (case q_OutOfReach => kernel_rfl); (case e_OutOfReach => kernel_rfl); (case noL => kernel_rfl)

