import PyProof.Rows.All
import Wide.All
import OpenK.AllK
import Wide.FinOn
import Lean
import PyProof.EqAt
import PyProof.EqKinds
import PyProof.TupleCall
import PySem.Challenge.RW_elderline_k03_whole_row_or_ring
set_option Elab.async false
set_option linter.all false
set_option maxRecDepth 100000
/-! THE HAND LAYER, for ints, bools, texts, own classes, LISTS and tuples (index, slices, in, append, pop ..), calls, loops. Paste it whole ahead of your own text; what your proof does not reach may be deleted. -/
namespace L2
open PySem PySem.Spec PyProof.Rows

/-- a key: an int or a str -/
abbrev Key := Sum Int Str
def keyIs : Key → Value → Bool
  | .inl k, v => Value.isInt k v
  | .inr x, v => Value.isStrOf x v
def keyH (w : World) : Key → Int
  | .inl k => hashInt k
  | .inr x => hashStr w x
theorem keyIs_shape : ∀ {k : Key} {v : Value}, keyIs k v = true → (∃ i t, k = Sum.inl i ∧ v = Value.int i t) ∨ (∃ x t, k = Sum.inr x ∧ v = Value.str x t)
  | .inl i, v, h => by
    obtain ⟨t, e⟩ := Value.isInt_shape (k := i) (v := v) h
    exact .inl ⟨i, t, rfl, e⟩
  | .inr x, v, h => by
    obtain ⟨t, e⟩ := Value.isStrOf_shape (x := x) (v := v) h
    exact .inr ⟨x, t, rfl, e⟩
theorem keyIs_int (i : Int) (t : Tok) : keyIs (.inl i) (.int i t) = true := by simp [keyIs, Value.isInt]
theorem keyIs_str (x : Str) (t : Tok) : keyIs (.inr x) (.str x t) = true := by simp [keyIs, Value.isStrOf]
theorem key_ll (a b : Int) : decide ((Sum.inl a : Key) = Sum.inl b) = (a == b) := by
  by_cases e : a = b
  · subst e; simp
  · have h : ¬ (Sum.inl a : Key) = Sum.inl b := fun q => e (Sum.inl.inj q)
    rw [decide_eq_false h]
    exact (beq_eq_false_iff_ne.mpr e).symm
theorem key_rr (a b : Str) : decide ((Sum.inr a : Key) = Sum.inr b) = decide (a = b) := by
  by_cases e : a = b
  · subst e; simp
  · have h : ¬ (Sum.inr a : Key) = Sum.inr b := fun q => e (Sum.inr.inj q)
    rw [decide_eq_false h, decide_eq_false e]
theorem key_lr (a : Int) (b : Str) : decide ((Sum.inl a : Key) = Sum.inr b) = false := decide_eq_false (fun q => nomatch q)
theorem key_rl (a : Str) (b : Int) : decide ((Sum.inr a : Key) = Sum.inl b) = false := decide_eq_false (fun q => nomatch q)

def mixKind (prog : Program) (w : World) : PySem.KeyKind prog w Key where
  is := keyIs
  hash := keyH w
  inj := fun v a b ha hb => by
    rcases keyIs_shape ha with ⟨i, t, rfl, rfl⟩ | ⟨x, t, rfl, rfl⟩
    · rcases keyIs_shape hb with ⟨j, u, rfl, e⟩ | ⟨y, u, rfl, e⟩
      · injection e with e1 _; rw [e1]
      · exact nomatch e
    · rcases keyIs_shape hb with ⟨j, u, rfl, e⟩ | ⟨y, u, rfl, e⟩
      · exact nomatch e
      · injection e with e1 _; rw [e1]
  byValue := fun k v h => by
    rcases keyIs_shape h with ⟨i, t, rfl, rfl⟩ | ⟨x, t, rfl, rfl⟩ <;> rfl
  pyHash := fun hv h => by
    rcases keyIs_shape hv with ⟨i, t, rfl, rfl⟩ | ⟨x, t, rfl, rfl⟩
    · exact wpAny_pyHash_int h
    · exact wpAny_pyHash_str h
  eqBool := fun hu hv h => by
    rcases keyIs_shape hu with ⟨i, t, rfl, rfl⟩ | ⟨x, t, rfl, rfl⟩
    · rcases keyIs_shape hv with ⟨j, u, rfl, rfl⟩ | ⟨y, u, rfl, rfl⟩
      · rw [key_ll] at h; exact wpAny_eqBool_int h
      · rw [key_lr] at h; exact SeqAt.EqAt.int_str i t y u _ _ _ _ h
    · rcases keyIs_shape hv with ⟨j, u, rfl, rfl⟩ | ⟨y, u, rfl, rfl⟩
      · rw [key_rl] at h; exact SeqAt.EqAt.str_int x t j u _ _ _ _ h
      · rw [key_rr] at h; exact wpAny_eqBool_str h
  «strs» := fun k x t v h => by
    rcases keyIs_shape h with ⟨i, u, rfl, e⟩ | ⟨y, u, rfl, e⟩
    · exact nomatch e
    · injection e with e1 _
      subst e1
      cases v <;> rfl

theorem mixKind_is (prog : Program) (w : World) (k : Key) (v : Value) : (mixKind prog w).is k v = keyIs k v := rfl
theorem mixKind_int (prog : Program) (w : World) (i : Int) (t : Tok) : (mixKind prog w).is (.inl i) (.int i t) = true := keyIs_int i t
theorem mixKind_str (prog : Program) (w : World) (x : Str) (t : Tok) : (mixKind prog w).is (.inr x) (.str x t) = true := keyIs_str x t
end L2

namespace L2
open PySem PySem.Spec PyProof.Rows

/-- a value, without the heap -/
inductive V where
  | non | bl (b : Bool) | int (i : Int) | str (x : Str) | byt (b : Array UInt8) | flt (b : UInt64) | ref (a : Addr) | ty (n : String)
  deriving DecidableEq

def RelV : V → Value → Prop
  | .non, u => u = Value.none
  | .bl b, u => u = Value.bool b
  | .int i, u => ∃ t, u = Value.int i t
  | .str x, u => ∃ t, u = Value.str x t
  | .byt b, u => ∃ t, u = Value.bytes b t
  | .flt b, u => ∃ t, u = Value.float b t
  | .ref a, u => u = Value.ref a
  | .ty n, u => u = Value.type n

abbrev Vals : List V → List Value → Prop := Paired RelV
theorem Vals.length {xs : List V} {us : List Value} (r : Vals xs us) : xs.length = us.length := Paired.length r
theorem Vals.get : ∀ {xs : List V} {us : List Value} {i : Nat} {x : V}, Vals xs us → xs[i]? = some x → ∃ u, us[i]? = some u ∧ RelV x u
  | _, _, _, _, .nil, e => by simp at e
  | _, _, 0, _, .cons r _, e => by simp at e; subst e; exact ⟨_, rfl, r⟩
  | _, _, i + 1, x, .cons _ t, e => by
    obtain ⟨u, h1, h2⟩ := Vals.get (i := i) (x := x) t (by simpa using e)
    exact ⟨u, by simpa using h1, h2⟩
theorem Vals.set {x : V} {u : Value} (r : RelV x u) : ∀ {xs : List V} {us : List Value} (i : Nat), Vals xs us → Vals (xs.set i x) (us.set i u)
  | _, _, _, .nil => .nil
  | _, _, 0, .cons _ t => .cons r t
  | _, _, i + 1, .cons q t => .cons q (Vals.set r i t)
theorem Vals.append : ∀ {xs ys : List V} {us ws : List Value}, Vals xs us → Vals ys ws → Vals (xs ++ ys) (us ++ ws)
  | _, _, _, _, .nil, s => s
  | _, _, _, _, .cons r t, s => .cons r (Vals.append t s)
theorem Vals.take : ∀ {xs : List V} {us : List Value} (n : Nat), Vals xs us → Vals (xs.take n) (us.take n)
  | _, _, 0, _ => .nil
  | _, _, _ + 1, .nil => .nil
  | _, _, n + 1, .cons r t => .cons r (Vals.take n t)
theorem Vals.drop : ∀ {xs : List V} {us : List Value} (n : Nat), Vals xs us → Vals (xs.drop n) (us.drop n)
  | _, _, 0, r => r
  | _, _, _ + 1, .nil => .nil
  | _, _, n + 1, .cons _ t => Vals.drop n t
theorem Vals.none_of : ∀ {xs : List V} {us : List Value} {i : Nat}, Vals xs us → xs[i]? = none → us[i]? = none := fun {xs us i} r e => by
  have h1 := r.length
  have h2 : xs.length ≤ i := List.getElem?_eq_none_iff.mp e
  exact List.getElem?_eq_none_iff.mpr (by omega)

def RelO : Option V → Option Value → Prop
  | some v, some u => RelV v u
  | none, none => True
  | _, _ => False
def KV {κ : Type} : List (κ × V) → List (κ × Value) → Prop := Paired fun (p : κ × V) (q : κ × Value) => p.1 = q.1 ∧ RelV p.2 q.2

/-- a key of a dict (00_mix): an int or a text -/
def kV : Key → V
  | .inl i => .int i
  | .inr x => .str x

/-- what stands at a tracked address -/
inductive HO where
  /-- a list -/
  | lst (xs : List V)
  /-- a tuple (never changes) -/
  | tup (xs : List V)
  /-- a dict whose keys are ints and texts; one whose keys are tuples of ints and texts (the empty one is both) -/
  | dK (kvs : List (Key × V)) | dT (kvs : List (List Key × V))
  /-- a set of ints: its members, its size -/
  | set (S : Int → Bool) (n : Nat)
  /-- an instance of the class at C, its dict at dx, its attributes -/
  | ins (C dx : Addr) (fs : List (Str × V))
  /-- the dict of the instance at x -/
  | own (x : Addr)
  /-- the dict of an exception -/
  | xd (fs : List (Str × V))
  /-- a bound method, f of x -/
  | met (f x : Addr)
  /-- a range object lo, lo + 1, .. below hi -/
  | rng (lo hi : Int)
  /-- a thing that is known to the object (the script; a dict while a loop walks it): read, never written while it is so -/
  | frz (o : Obj) (u : HO)
  /-- a code object's table -/
  | tbl (ps : Array Value)
  /-- any other thing, by what is true of its one object (a def of one's own: SetO a S n := HO.ext fun h => ..) -/
  | ext (φ : Heap → Prop)

abbrev Hp := Addr → Option HO
def upd (H : Hp) (a : Addr) (o : HO) : Hp := fun b => if b = a then some o else H b
theorem upd_same {H : Hp} {a : Addr} {o : HO} : upd H a o a = some o := by unfold upd; rw [if_pos rfl]
theorem upd_ne {H : Hp} {a b : Addr} {o : HO} (h : b ≠ a) : upd H a o b = H b := by unfold upd; rw [if_neg h]
theorem upd_upd {H : Hp} {a : Addr} {o u : HO} : upd (upd H a o) a u = upd H a u := by
  funext b; unfold upd; split <;> rfl
/-- two objects of different content stand apart -/
theorem ne_of {H : Hp} {a b : Addr} {o u : HO} (h : H a = some o) (h' : H b = some u) (d : o ≠ u) : a ≠ b := by
  intro e; subst e; rw [h] at h'; exact d (Option.some.inj h')
theorem ne_of_none {H : Hp} {a b : Addr} {o : HO} (h : H a = some o) (h' : H b = none) : a ≠ b := by
  intro e; subst e; rw [h] at h'; cases h'

section
variable (P : Program) (w : World)
def ObjOk (H : Hp) (h : Heap) (a : Addr) : HO → Prop
  | .lst xs => xs.length ≤ sizeLine ∧ ∃ (its : List Value) (n : Nat), Vals xs its ∧ h.get? a = some { cls := .type "list", data := .seq its.toArray n }
  | .tup xs => xs.length ≤ sizeLine ∧ ∃ its : List Value, Vals xs its ∧ IsTup h a its.toArray
  | .dK kvs => kvs.length ≤ sizeLine ∧ (a == sysModules) = false ∧ ∃ vs, KV kvs vs ∧ h.DictOf (mixKind P w) a vs
  | .dT kvs => kvs.length ≤ sizeLine ∧ (a == sysModules) = false ∧ ∃ xs : List (List Key × Addr × Value),
      Paired (fun (p : List Key × V) (q : List Key × Addr × Value) => p.1 = q.1 ∧ H q.2.1 = some (.tup (p.1.map kV)) ∧ RelV p.2 q.2.2) kvs xs ∧
      ∃ o es ep, h.get? a = some o ∧ o.ExactDict ∧ o.data = .dict es ep ∧ es.toList = xs.map (entryOfKey (tupleKind (mixKind P w))) ∧ (xs.map (·.1)).Nodup
  | .set S n => h.SetOf (intKind P w) a S n
  | .ins C dx fs => H dx = some (.own a) ∧ fs.length ≤ 1000 ∧ dx ≠ a ∧ h.get? a = some (PySem.W.instObj C dx) ∧
      ∃ mA, h.Ns1 dx mA ∧ (∀ f, RelO (fs.lookup f) (mA f)) ∧ PySem.Within mA (fs.map (·.1))
  | .own _ => ∃ o, h.get? a = some o
  | .xd fs => ∃ mA, h.Ns1 a mA ∧ ∀ f, RelO (fs.lookup f) (mA f)
  | .rng lo hi => ∃ t u v, h.get? a = some { cls := .type "range", data := .fields #[.int lo t, .int hi u, .int 1 v] }
  | .frz o u => h.get? a = some o ∧ ObjOk H h a u
  | .tbl ps => h.get? a = some { cls := .none, data := .fields ps }
  | .met f x => h.get? a = some (PySem.W.methodObj (.ref f) (.ref x))
  | .ext φ => φ h ∧ (∃ o, h.get? a = some o) ∧ ∀ h1 h2 : Heap, φ h1 → (∀ o, h1.get? a = some o → h2.get? a = some o) → φ h2
/-- the abstract heap is held -/
def HOk (H : Hp) (h : Heap) : Prop := ∀ a o, H a = some o → ObjOk P w H h a o
end

section
variable {P : Program} {w : World} {H H' : Hp} {h h' : Heap} {a : Addr} {o : HO}
theorem ObjOk.lt (x : ObjOk P w H h a o) : a < h.objs.size := by
  cases o with
  | lst xs => obtain ⟨_, _, _, _, e⟩ := x; exact Heap.lt_size e
  | tup xs => obtain ⟨_, _, _, p⟩ := x; exact p.lt
  | dK kvs => obtain ⟨_, _, _, _, o, _, _, e, _⟩ := x; exact Heap.lt_size e
  | dT kvs => obtain ⟨_, _, _, _, o, _, _, e, _⟩ := x; exact Heap.lt_size e
  | set S n => obtain ⟨o, _, _, _, e, _⟩ := x; exact Heap.lt_size e
  | ins C dx fs => obtain ⟨_, _, _, e, _⟩ := x; exact Heap.lt_size e
  | own y => obtain ⟨_, e⟩ := x; exact Heap.lt_size e
  | xd fs => obtain ⟨_, ⟨_, _, _, e, _⟩, _⟩ := x; exact Heap.lt_size e
  | rng lo hi => obtain ⟨_, _, _, e⟩ := x; exact Heap.lt_size e
  | frz ob u => obtain ⟨e, _⟩ := x; exact Heap.lt_size e
  | tbl ps => exact Heap.lt_size (show h.get? a = some _ from x)
  | met f y => exact Heap.lt_size (show h.get? a = some _ from x)
  | ext φ => obtain ⟨_, ⟨_, e⟩, _⟩ := x; exact Heap.lt_size e
theorem Paired.mapP {α β : Type} {F G : α → β → Prop} : ∀ {l₁ : List α} {l₂ : List β}, Paired F l₁ l₂ → (∀ a b, F a b → G a b) → Paired G l₁ l₂
  | _, _, .nil, _ => .nil
  | _, _, .cons r t, f => .cons (f _ _ r) (Paired.mapP t f)
theorem Paired.imp' {α β : Type} {F G : α → β → Prop} (f : ∀ a b, F a b → G a b) {l₁ : List α} {l₂ : List β} (r : Paired F l₁ l₂) : Paired G l₁ l₂ := Paired.mapP r f
/-- what an object's description leans on: its own object, its own dict, the tuples -/
theorem ObjOk.stay (x : ObjOk P w H h a o) (k : ∀ b u, (b = a ∨ H b = some (.own a)) → h.get? b = some u → h'.get? b = some u)
    (ho : ∀ b, H b = some (.own a) → H' b = some (.own a)) (ht : ∀ b xs, H b = some (.tup xs) → H' b = some (.tup xs)) : ObjOk P w H' h' a o := by
  induction o with
  | lst xs => obtain ⟨z, its, n, r, e⟩ := x; exact ⟨z, its, n, r, k _ _ (.inl rfl) e⟩
  | tup xs => obtain ⟨z, its, r, ob, e, c⟩ := x; exact ⟨z, its, r, ob, k _ _ (.inl rfl) e, c⟩
  | dK kvs => obtain ⟨z, y, vs, r, ob, es, ep, e, c⟩ := x; exact ⟨z, y, vs, r, ob, es, ep, k _ _ (.inl rfl) e, c⟩
  | dT kvs =>
    obtain ⟨z, y, xs, r, ob, es, ep, e, c⟩ := x
    exact ⟨z, y, xs, Paired.mapP r fun p q z => ⟨z.1, ht _ _ z.2.1, z.2.2⟩, ob, es, ep, k _ _ (.inl rfl) e, c⟩
  | set S n => obtain ⟨ob, es, ep, t, e, c⟩ := x; exact ⟨ob, es, ep, t, k _ _ (.inl rfl) e, c⟩
  | ins C dx fs =>
    obtain ⟨d, z, ne, e, mA, ⟨od, es, ep, e2, c⟩, r⟩ := x
    exact ⟨ho _ d, z, ne, k _ _ (.inl rfl) e, mA, ⟨od, es, ep, k _ _ (.inr d) e2, c⟩, r⟩
  | own y => obtain ⟨ob, e⟩ := x; exact ⟨ob, k _ _ (.inl rfl) e⟩
  | xd fs => obtain ⟨mA, ⟨od, es, ep, e, c⟩, r⟩ := x; exact ⟨mA, ⟨od, es, ep, k _ _ (.inl rfl) e, c⟩, r⟩
  | rng lo hi => obtain ⟨t, u, v, e⟩ := x; exact ⟨t, u, v, k _ _ (.inl rfl) e⟩
  | frz ob u ih => obtain ⟨e, q⟩ := x; exact ⟨k _ _ (.inl rfl) e, ih q⟩
  | tbl ps =>
    have e : h.get? a = some { cls := .none, data := .fields ps } := x
    show h'.get? a = some { cls := .none, data := .fields ps }
    exact k a _ (.inl rfl) e
  | met f y =>
    have e : h.get? a = some (PySem.W.methodObj (.ref f) (.ref y)) := x
    show h'.get? a = some (PySem.W.methodObj (.ref f) (.ref y))
    exact k a _ (.inl rfl) e
  | ext φ => obtain ⟨p, ⟨o, e⟩, st⟩ := x; exact ⟨st _ _ p fun o q => k _ _ (.inl rfl) q, ⟨o, k _ _ (.inl rfl) e⟩, st⟩
theorem HOk.lt (x : HOk P w H h) (e : H a = some o) : a < h.objs.size := (x a o e).lt
theorem HOk.fresh (x : HOk P w H h) (e : h.objs.size ≤ a) : H a = none := by
  cases q : H a with
  | none => rfl
  | some u => exact absurd (Nat.lt_of_lt_of_le (x.lt q) e) (Nat.lt_irrefl _)
/-- every object of the heap is kept -/
theorem HOk.kept (x : HOk P w H h) (k : ∀ b u, h.get? b = some u → h'.get? b = some u) : HOk P w H h' := fun a o e =>
  (x a o e).stay (fun b u _ q => k b u q) (fun _ q => q) fun _ _ q => q
/-- a new object is laid and tracked -/
theorem HOk.laid (x : HOk P w H h) (k : ∀ b u, h.get? b = some u → h'.get? b = some u) (hp : h.objs.size ≤ a) (new : ObjOk P w (upd H a o) h' a o) : HOk P w (upd H a o) h' := fun b u e => by
  have hn := x.fresh hp
  by_cases hb : b = a
  · subst hb; rw [upd_same] at e; cases e; exact new
  · rw [upd_ne hb] at e
    exact (x b u e).stay (fun c v _ q => k c v q) (fun c q => by rw [upd_ne (ne_of_none q hn)]; exact q) fun c xs q => by rw [upd_ne (ne_of_none q hn)]; exact q
end

/-- what may be read as u: it is u, or a known u -/
def Rd (H : Hp) (a : Addr) (u : HO) : Prop := H a = some u ∨ ∃ o, H a = some (.frz o u)
theorem Rd.of {H : Hp} {a : Addr} {u : HO} (h : H a = some u) : Rd H a u := .inl h
theorem Rd.ok {P : Program} {w : World} {H : Hp} {h : Heap} {a : Addr} {u : HO} (r : Rd H a u) (x : HOk P w H h) : ObjOk P w H h a u := by
  rcases r with r | ⟨o, r⟩
  · exact x a u r
  · obtain ⟨_, q⟩ := x a _ r
    exact q
/-- what may be written -/
def Mut : Option HO → Prop
  | some (.lst _) => True
  | some (.dK _) => True
  | some (.dT _) => True
  | some (.set _ _) => True
  | some (.ins _ _ _) => True
  | some (.ext _) => True
  | _ => False
section
variable {P : Program} {w : World} {H : Hp} {h h' : Heap} {x e : Addr} {o' : HO}
/-- the object at e is changed: x itself, or the dict of the instance x -/
theorem HOk.write (ok : HOk P w H h) (mu : Mut (H x)) (he : e = x ∨ H e = some (.own x)) (k : ∀ b u, b ≠ e → h.get? b = some u → h'.get? b = some u) (heo : ∃ u, h'.get? e = some u)
    (new : ObjOk P w (upd H x o') h' x o') : HOk P w (upd H x o') h' := fun b u q => by
  have nown : ∀ c y, H c = some (.own y) → c ≠ x := fun c y r z => by subst z; rw [r] at mu; exact mu
  have ntup : ∀ c xs, H c = some (.tup xs) → c ≠ x := fun c xs r z => by subst z; rw [r] at mu; exact mu
  by_cases hb : b = x
  · subst hb; rw [upd_same] at q; cases q; exact new
  · rw [upd_ne hb] at q
    by_cases hbe : b = e
    · have q' : H b = some (.own x) := by
        rcases he with z | z
        · exact absurd (hbe.trans z) hb
        · rw [hbe]; exact z
      rw [q] at q'; cases q'
      obtain ⟨v, hv⟩ := heo
      exact ⟨v, by rw [hbe]; exact hv⟩
    · refine (ok b u q).stay (fun c v hc r => k c v ?_ r) (fun c r => by rw [upd_ne (nown c b r)]; exact r) fun c xs r => by rw [upd_ne (ntup c xs r)]; exact r
      rcases hc with rfl | hc
      · exact hbe
      · rintro rfl
        rcases he with z | z
        · exact nown c b hc z
        · rw [hc] at z; cases z; exact hb rfl
end

/-! ### kept unless tracked; of the frames at fs (the callers') the slots may change (an exception that passes writes there); of the records at ex (iterators) nothing is said -/
structure Un (fs ex : List Addr) (H H' : Hp) (h h' : Heap) : Prop where
  keep : ∀ b o, h.get? b = some o → H b = none → b ∉ fs → b ∉ ex → h'.get? b = some o
  slot : ∀ b o, h.get? b = some o → H b = none → b ∈ fs → b ∉ ex → ∃ sl, h'.get? b = some { o with slots := sl }
  free : ∀ b o, h.get? b = some o → H b = none → b ∉ ex → H' b = none
  there : ∀ b o, h.get? b = some o → b ∉ ex → ∃ o', h'.get? b = some o'
  tups : ∀ b xs, H b = some (.tup xs) → H' b = some (.tup xs)
  frzs : ∀ b o u, H b = some (.frz o u) → H' b = some (.frz o u)
  tbls : ∀ b ps, H b = some (.tbl ps) → ∃ more, H' b = some (.tbl (ps ++ more))
section
variable {fs fs' ex ex' : List Addr} {H H1 H2 : Hp} {h h1 h2 h' : Heap} {a x e : Addr} {o : HO}
theorem Un.any (u : Un fs ex H H1 h h1) {b : Addr} {ob : Obj} (q : h.get? b = some ob) (n : H b = none) (hx : b ∉ ex) : ∃ sl, h1.get? b = some { ob with slots := sl } := by
  by_cases hb : b ∈ fs
  · exact u.slot b ob q n hb hx
  · exact ⟨ob.slots, u.keep b ob q n hb hx⟩
theorem Un.trans (a : Un fs ex H H1 h h1) (b : Un fs ex H1 H2 h1 h2) : Un fs ex H H2 h h2 where
  keep := fun c ob q n hc hx => b.keep c ob (a.keep c ob q n hc hx) (a.free c ob q n hx) hc hx
  slot := fun c ob q n hc hx => by
    obtain ⟨sl, e1⟩ := a.slot c ob q n hc hx
    obtain ⟨sl', e2⟩ := b.slot c _ e1 (a.free c ob q n hx) hc hx
    exact ⟨sl', e2⟩
  free := fun c ob q n hx => by
    obtain ⟨o', e1⟩ := a.there c ob q hx
    exact b.free c o' e1 (a.free c ob q n hx) hx
  there := fun c ob q hx => by
    obtain ⟨o', e1⟩ := a.there c ob q hx
    exact b.there c o' e1 hx
  tups := fun c xs q => b.tups c xs (a.tups c xs q)
  frzs := fun c ob xs q => b.frzs c ob xs (a.frzs c ob xs q)
  tbls := fun c ps q => by
    obtain ⟨m1, e1⟩ := a.tbls c ps q
    obtain ⟨m2, e2⟩ := b.tbls c _ e1
    exact ⟨m1 ++ m2, by rw [e2, Array.append_assoc]⟩
theorem Un.kept (k : ∀ b u, h.get? b = some u → h'.get? b = some u) : Un fs ex H H h h' :=
  ⟨fun b ob q _ _ _ => k b ob q, fun b ob q _ _ _ => ⟨ob.slots, k b ob q⟩, fun _ _ _ n _ => n, fun b ob q _ => ⟨ob, k b ob q⟩, fun _ _ q => q, fun _ _ _ q => q, fun _ ps q => ⟨#[], by rw [q]; simp⟩⟩
theorem Un.refl : Un fs ex H H h h := Un.kept fun _ _ q => q
theorem Un.laid (k : ∀ b u, h.get? b = some u → h'.get? b = some u) (hp : h.objs.size ≤ a) (hn : H a = none) : Un fs ex H (upd H a o) h h' where
  keep := fun b u q _ _ _ => k b u q
  slot := fun b u q _ _ _ => ⟨u.slots, k b u q⟩
  free := fun b u q n _ => by rw [upd_ne (Nat.ne_of_lt (Nat.lt_of_lt_of_le (Heap.lt_size q) hp))]; exact n
  there := fun b u q _ => ⟨u, k b u q⟩
  tups := fun b xs q => by rw [upd_ne (ne_of_none q hn)]; exact q
  frzs := fun b u xs q => by rw [upd_ne (ne_of_none q hn)]; exact q
  tbls := fun b ps q => ⟨#[], by rw [upd_ne (ne_of_none q hn), q]; simp⟩
theorem Un.write (mu : Mut (H x)) (he : e = x ∨ H e = some (.own x)) (k : ∀ b u, b ≠ e → h.get? b = some u → h'.get? b = some u) (heo : ∃ u, h'.get? e = some u) : Un fs ex H (upd H x o) h h' := by
  have hx : ∀ b, H b = none → b ≠ x := fun b n z => by subst z; rw [n] at mu; exact mu
  have hb : ∀ b, H b = none → b ≠ e := fun b n z => by
    subst z
    rcases he with r | r
    · exact hx b n r
    · rw [n] at r; cases r
  have hm : ∀ b u, H b = some u → ¬ Mut (some u) → b ≠ x := fun b u q nm z => by subst z; rw [q] at mu; exact nm mu
  refine ⟨fun b u q n _ _ => k b u (hb b n) q, fun b u q n _ _ => ⟨u.slots, k b u (hb b n) q⟩, fun b u q n _ => by rw [upd_ne (hx b n)]; exact n, fun b u q _ => ?_,
    fun b xs q => by rw [upd_ne (hm b _ q fun z => z)]; exact q, fun b u xs q => by rw [upd_ne (hm b _ q fun z => z)]; exact q, fun b ps q => ⟨#[], by rw [upd_ne (hm b _ q fun z => z), q]; simp⟩⟩
  by_cases hbe : b = e
  · subst hbe; exact heo
  · exact ⟨u, k b u hbe q⟩
theorem Un.mono (u : Un fs ex H H1 h h1) (hs : ∀ b ∈ fs, b ∈ fs') (hx : ∀ b ∈ ex, b ∈ ex') : Un fs' ex' H H1 h h1 :=
  ⟨fun b ob q n hb he => u.keep b ob q n (fun z => hb (hs b z)) fun z => he (hx b z), fun _ _ q n _ he => u.any q n fun z => he (hx _ z), fun b ob q n he => u.free b ob q n fun z => he (hx b z), fun b ob q he => u.there b ob q fun z => he (hx b z), u.tups, u.frzs, u.tbls⟩
end

/-! ### the heap without what is tracked -/
def trk (h : Heap) (H : Hp) : List Addr := (List.range h.objs.size).filter fun a => (H a).isSome
def hidT (h : Heap) (H : Hp) : Heap := PySem.W.hideAll h (trk h H)
theorem hidT_size (h : Heap) (H : Hp) : (hidT h H).objs.size = h.objs.size := PySem.W.hideAll_size _ _
theorem hidT_get {h : Heap} {H : Hp} {b : Addr} {o : Obj} (e : h.get? b = some o) (n : H b = none) : (hidT h H).get? b = some o :=
  PySem.W.hideAll_get _ e fun hm => by
    have q : (H b).isSome = true := (List.mem_filter.mp hm).2
    rw [n] at q; simp at q
theorem of_hidT {h : Heap} {H : Hp} {b : Addr} {o : Obj} (e : (hidT h H).get? b = some o) : h.get? b = some o ∧ H b = none := by
  have e' : h.get? b = some o := PySem.W.of_hideAll (trk h H) e
  refine ⟨e', ?_⟩
  cases q : H b with
  | none => rfl
  | some x =>
    have hm : b ∈ trk h H := List.mem_filter.mpr ⟨List.mem_range.mpr (Heap.lt_size e'), by simp [q]⟩
    have z : (hidT h H).get? b = none := PySem.W.hideAll_none (trk h H) hm
    rw [z] at e; cases e

/-! ### OpenK's ledger, filled with every new object but one -/
def allNews (g h : Heap) (L : Addr) : List (Addr × Obj) := (List.range h.objs.size).filterMap fun a => if a = L ∨ (g.get? a).isSome = true then none else (h.get? a).map fun o => (a, o)
theorem mem_allNews {g h : Heap} {L a : Addr} {o : Obj} (h1 : a ≠ L) (h2 : g.get? a = none) (h3 : h.get? a = some o) : (a, o) ∈ allNews g h L :=
  List.mem_filterMap.mpr ⟨a, List.mem_range.mpr (Heap.lt_size h3), by simp [h1, h2, h3]⟩
theorem of_mem_allNews {g h : Heap} {L : Addr} {p : Addr × Obj} (hp : p ∈ allNews g h L) : p.1 ≠ L ∧ g.get? p.1 = none ∧ h.get? p.1 = some p.2 := by
  obtain ⟨b, _, e⟩ := List.mem_filterMap.mp hp
  split at e
  · cases e
  · rename_i hn
    cases q : h.get? b with
    | none => rw [q] at e; simp at e
    | some u =>
      rw [q] at e
      simp only [Option.map_some, Option.some.injEq] at e
      subst e
      refine ⟨fun z => hn (.inl z), ?_, q⟩
      show g.get? b = none
      cases r : g.get? b with
      | none => rfl
      | some v => exact (hn (.inr (by simp [r]))).elim
def rest (g h : Heap) (L d : Addr) : List (Addr × Obj) := (allNews g h L).filter fun p => decide (p.1 ≠ d)
theorem rest_ne {g h : Heap} {L d : Addr} : ∀ p ∈ rest g h L d, p.1 ≠ d := fun p hp => of_decide_eq_true (List.mem_filter.mp hp).2
theorem mem_rest {g h : Heap} {L d a : Addr} {o : Obj} (h1 : a ≠ L) (h2 : g.get? a = none) (h3 : h.get? a = some o) (h4 : a ≠ d) : (a, o) ∈ rest g h L d :=
  List.mem_filter.mpr ⟨mem_allNews h1 h2 h3, decide_eq_true h4⟩
theorem news_all {g h : Heap} {L : Addr} : News g L h (allNews g h L) := fun p hp => let ⟨a, b, c⟩ := of_mem_allNews hp; ⟨c, a, b⟩
theorem news_at {g h : Heap} {L d : Addr} {o : Obj} (h1 : d ≠ L) (h2 : g.get? d = none) (h3 : h.get? d = some o) : News g L h ((d, o) :: rest g h L d) := fun p hp => by
  rcases List.mem_cons.mp hp with rfl | hp
  · exact ⟨h3, h1, h2⟩
  · exact news_all p (List.mem_filter.mp hp).1
/-- behind a rule that changed d alone: all else but the frame is kept -/
theorem kept_of_news {g h h' : Heap} {L d : Addr} {m : Str → Option Value} (k : ∀ b o, g.get? b = some o → h.get? b = some o) (F : Fr g L h' m) (N : News g L h' (rest g h L d)) :
    ∀ b o, b ≠ L → b ≠ d → h.get? b = some o → h'.get? b = some o := fun b o h1 h2 e => by
  cases q : g.get? b with
  | some u =>
    have := k b u q
    rw [e] at this; cases this
    exact F.keep b _ q
  | none => exact (N (b, o) (mem_rest h1 q e h2)).1
end L2

namespace L2
open PySem PySem.Spec PyProof.Rows

/-- the module's facts, over the base: the heap at the law's entry without what is tracked there -/
structure Mod (K : PySem.W.Frag) (mg : Str → Option Value) (base : Heap) : Prop where
  kin : K.In base
  glob : base.Ns mainGlobals mg
  blt : ∃ mb, base.Ns builtinsNs mb ∧ ∀ x : Str, x ≠ "__name__" → mb x = bootBuiltins x
  nolimit : base.NoLimit

/-- the context: a def's body (or a comprehension's block) running. base: fixed through the whole law; s₀, H₀: the entry; outer: the frames whose slots others may change (a def's callers); stack: all frames that run;
   ex: iterators that were made ahead of the entry and are walked here (a comprehension's); fn: the names whose cells were made at the entry (a def: all; a comprehension's block: its own); calm: not within an except suite; pn: pins that every state bears; xe: what is wanted of an exception that leaves the code -/
structure Cx where
  prog : Program
  w : World
  K : PySem.W.Frag
  mg : Str → Option Value
  base : Heap
  A : Around
  N : List Str
  s₀ : Shared
  H₀ : Hp
  env : Env
  outer : List Env
  stack : List Env
  ex : List Addr
  fn : Str → Bool
  calm : Bool
  pn : List (Addr × Obj)
  xe : Value → Shared → Prop
/-- the callers' frames -/
def frs (l : List Env) : List Addr := l.filterMap (·.frame)
abbrev Cx.fs (X : Cx) : List Addr := frs X.outer

def Vis (sc : Scope) (x : Str) : Prop := sc.names.lookup x = some .local ∨ sc.names.lookup x = some .cell ∨ sc.names.lookup x = some .free
def Loc (sc : Scope) (x : Str) : Prop := sc.names.lookup x = some .local ∨ sc.names.lookup x = some .cell
def Look (env : Env) (h : Heap) (m : Str → Option Value) (x : Str) (u : Value) : Prop :=
  (env.kindOf x = some .local ∧ m x = some u) ∨ ((env.kindOf x = some .cell ∨ env.kindOf x = some .free) ∧ ∃ c, env.cells.lookup x = some c ∧ h.IsCell c (some u))

structure Cx.Ok (X : Cx) : Prop where
  mod : Mod X.K X.mg X.base
  kind : X.env.scope.kind = .function
  glob : X.env.globals = mainGlobals
  blt : X.env.builtins = builtinsNs
  above : X.s₀.heap.objs.size ≤ X.env.locals
  inj : ∀ x y c, X.env.cells.lookup x = some c → X.env.cells.lookup y = some c → x = y
  has : ∀ x, (X.env.kindOf x = some .cell ∨ X.env.kindOf x = some .free) → ∃ c, X.env.cells.lookup x = some c
  cab : ∀ x c, X.fn x = true → X.env.cells.lookup x = some c → X.s₀.heap.objs.size ≤ c
  hd : X.calm = true → X.A.handled = none
  frames : X.A.frames = some X.stack
  stk : X.stack = X.outer ∨ (X.stack = X.env :: X.outer ∧ X.env.frame = some X.env.locals)
  exf : ∀ b ∈ X.ex, b ≠ X.env.locals ∧ ∀ x c, X.env.cells.lookup x = some c → c ≠ b
  bs : ∀ b o, X.base.get? b = some o → X.s₀.heap.get? b = some o ∧ X.H₀ b = none
  bsz : X.base.objs.size ≤ X.s₀.heap.objs.size
  noex : ∀ b o, X.base.get? b = some o → b ∉ X.ex
  exfs : ∀ b ∈ X.ex, b ∉ X.fs
  funs : X.s₀.heap.FunFrames X.base X.outer
  frf : ∀ b ∈ X.fs, X.H₀ b = none

structure Inv (X : Cx) (pins : List (Addr × Obj)) (σ : List (Option V)) (H : Hp) (s : Shared) : Prop where
  ok : X.Ok
  os : s.os = X.s₀.os
  bare : AllBare s.gens
  base : Un X.fs X.ex X.H₀ H X.s₀.heap s.heap
  loc : ∃ m, s.heap.Ns X.env.locals m ∧ ∀ (i : Nat) (x : Str) (v : V), X.N[i]? = some x → σ[i]? = some (some v) → Vis X.env.scope x → ∃ u, RelV v u ∧ Look X.env s.heap m x u
  cell : ∀ x c, X.env.cells.lookup x = some c → ∃ v, s.heap.IsCell c v
  free : H X.env.locals = none
  freeC : ∀ x c, X.env.cells.lookup x = some c → H c = none
  pin : ∀ p ∈ X.pn ++ pins, s.heap.get? p.1 = some p.2 ∧ H p.1 = none ∧ p.1 ≠ X.env.locals ∧ p.1 ∉ X.fs ∧ ∀ v, p.2.data ≠ .cell v
  hok : HOk X.prog X.w H s.heap
  len : σ.length = X.N.length

section
variable {X : Cx} {pins : List (Addr × Obj)} {σ : List (Option V)} {H H' : Hp} {s : Shared} {h' : Heap}

theorem Cx.Ok.nofr (ok : X.Ok) {b : Addr} {o : Obj} (e : X.base.get? b = some o) : b ∉ X.fs := fun hb => by
  have := (ok.funs.mem hb).1
  rw [e] at this; cases this
theorem Inv.bs (I : Inv X pins σ H s) : ∀ b o, X.base.get? b = some o → s.heap.get? b = some o ∧ H b = none := fun b o e =>
  ⟨I.base.keep b o (I.ok.bs b o e).1 (I.ok.bs b o e).2 (I.ok.nofr e) (I.ok.noex b o e), I.base.free b o (I.ok.bs b o e).1 (I.ok.bs b o e).2 (I.ok.noex b o e)⟩
theorem Inv.bk (I : Inv X pins σ H s) : ∀ b o, X.base.get? b = some o → s.heap.get? b = some o := fun b o e => (I.bs b o e).1
theorem Inv.mod (I : Inv X pins σ H s) : Mod X.K X.mg X.base := I.ok.mod
theorem Inv.kIn (I : Inv X pins σ H s) : X.K.In s.heap := I.ok.mod.kin.keeps I.bk
theorem Inv.nolimit (I : Inv X pins σ H s) : s.heap.NoLimit := I.ok.mod.nolimit.keeps I.bk
/-- the frame over the base: for OpenK's rules (K.In X.base is I.mod.kin) -/
theorem Inv.fr (I : Inv X pins σ H s) : ∃ m, Fr X.base X.env.locals s.heap m :=
  let ⟨m, hn, _⟩ := I.loc
  ⟨m, hn, I.bk, Nat.le_trans I.ok.bsz I.ok.above⟩
theorem Inv.lt (I : Inv X pins σ H s) : X.env.locals < s.heap.objs.size := let ⟨_, hn, _⟩ := I.loc; hn.lt
theorem Inv.sz (I : Inv X pins σ H s) : X.s₀.heap.objs.size ≤ s.heap.objs.size := Nat.le_trans I.ok.above (Nat.le_of_lt I.lt)
theorem Inv.nofs (I : Inv X pins σ H s) {a : Addr} (h : s.heap.objs.size ≤ a) : a ∉ X.fs := fun hb => by
  obtain ⟨_, o, ho, _⟩ := I.ok.funs.mem hb
  exact absurd (Nat.lt_of_lt_of_le (Heap.lt_size ho) (Nat.le_trans I.sz h)) (Nat.lt_irrefl _)
theorem Inv.cne (I : Inv X pins σ H s) : ∀ x c, X.env.cells.lookup x = some c → c ≠ X.env.locals := fun x c e z => by
  obtain ⟨v, o, ho, hd⟩ := I.cell x c e
  obtain ⟨m, ⟨o', es, ep, ho', hd', _⟩, _⟩ := I.loc
  rw [z, ho'] at ho; cases ho; rw [hd'] at hd; cases hd
theorem Inv.funs (I : Inv X pins σ H s) : s.heap.FunFrames X.base X.outer := by
  have all : ∀ (l : List Env), (∀ b ∈ frs l, b ∈ X.fs) → X.s₀.heap.FunFrames X.base l → s.heap.FunFrames X.base l := by
    intro l
    induction l with
    | nil => intro _ _; trivial
    | cons env r ih =>
      intro hs hl
      obtain ⟨hk, ⟨L, o, hf, hn, ho, hd⟩, hr⟩ := hl
      have hL : L ∈ X.fs := hs L (by unfold frs; rw [List.filterMap_cons, hf]; exact List.mem_cons_self)
      obtain ⟨sl, e⟩ := I.base.slot L o ho (I.ok.frf L hL) hL fun z => I.ok.exfs L z hL
      exact ⟨hk, ⟨L, _, hf, hn, e, hd⟩, ih (fun b hb => hs b (by unfold frs; rw [List.filterMap_cons, hf]; exact List.mem_cons_of_mem _ hb)) hr⟩
  exact all X.outer (fun _ hb => hb) I.ok.funs

/-- the frames that run, for a call -/
theorem Inv.stack (I : Inv X pins σ H s) : s.heap.FunFrames X.base X.stack := by
  rcases I.ok.stk with e | ⟨e, hf⟩
  · rw [e]; exact I.funs
  · rw [e]
    obtain ⟨m, hn, _⟩ := I.loc
    refine .cons (by rw [I.ok.kind]; decide) hf hn ?_ I.funs
    exact Heap.get?_none_of_le (Nat.le_trans I.ok.bsz I.ok.above)
theorem Inv.stkSub (I : Inv X pins σ H s) : ∀ b ∈ frs X.stack, b ∈ X.env.locals :: X.fs := fun b hb => by
  rcases I.ok.stk with e | ⟨e, hf⟩
  · rw [e] at hb; exact List.mem_cons_of_mem _ hb
  · rw [e] at hb
    unfold frs at hb
    rw [List.filterMap_cons, hf] at hb
    exact hb
theorem Inv.stkFree (I : Inv X pins σ H s) : ∀ b ∈ frs X.stack, H b = none := fun b hb => by
  rcases List.mem_cons.mp (I.stkSub b hb) with e | hb
  · rw [e]; exact I.free
  · obtain ⟨_, o, ho, _⟩ := I.ok.funs.mem hb
    exact I.base.free b o ho (I.ok.frf b hb) fun z => I.ok.exfs b z hb

/-- THE STEP: the untracked objects but the frame and the records at ch are kept (the callers' frames up to slots), the frame's map is kept, the new abstract heap is held -/
theorem Inv.step {g' : Array GenState} {t' : Nat} {d' : Drawn} {ch : List Addr} (I : Inv X pins σ H s)
    (hch : ∀ b ∈ ch, (b ∈ X.ex ∨ X.s₀.heap.objs.size ≤ b) ∧ b ≠ X.env.locals ∧ (∀ x c, X.env.cells.lookup x = some c → c ≠ b) ∧ ∀ p ∈ X.pn ++ pins, p.1 ≠ b)
    (keep : ∀ b o, b ≠ X.env.locals → b ∉ X.fs → b ∉ ch → s.heap.get? b = some o → H b = none → h'.get? b = some o)
    (slot : ∀ b o, b ≠ X.env.locals → b ∈ X.fs → b ∉ ch → s.heap.get? b = some o → H b = none → ∃ sl, h'.get? b = some { o with slots := sl }) (free : ∀ b o, b ∉ ch → s.heap.get? b = some o → H b = none → H' b = none)
    (there : ∀ b o, b ∉ ch → s.heap.get? b = some o → ∃ o', h'.get? b = some o')
    (tups : ∀ b xs, H b = some (.tup xs) → H' b = some (.tup xs)) (frzs : ∀ b o u, H b = some (.frz o u) → H' b = some (.frz o u)) (tbls : ∀ b ps, H b = some (.tbl ps) → ∃ more, H' b = some (.tbl (ps ++ more)))
    (ns : ∀ m, s.heap.Ns X.env.locals m → h'.Ns X.env.locals m) (hok : HOk X.prog X.w H' h') (hg : AllBare g') :
    Inv X pins σ H' { s with heap := h', gens := g', drawn := d', toks := t' } := by
  have neL : ∀ b o, X.s₀.heap.get? b = some o → b ≠ X.env.locals := fun b o e => Nat.ne_of_lt (Nat.lt_of_lt_of_le (Heap.lt_size e) I.ok.above)
  have neC : ∀ b o, X.s₀.heap.get? b = some o → b ∉ X.ex → b ∉ ch := fun b o e hx hb => by
    rcases (hch b hb).1 with z | z
    · exact hx z
    · exact absurd (Nat.lt_of_lt_of_le (Heap.lt_size e) z) (Nat.lt_irrefl _)
  have cellK : ∀ x c, X.env.cells.lookup x = some c → ∀ v, s.heap.IsCell c v → h'.IsCell c v := fun x c e v ⟨o, ho, hd⟩ => by
    have nch : c ∉ ch := fun z => (hch c z).2.2.1 x c e rfl
    by_cases hc : c ∈ X.fs
    · obtain ⟨sl, q⟩ := slot c o (I.cne x c e) hc nch ho (I.freeC x c e)
      exact ⟨_, q, hd⟩
    · exact ⟨o, keep c o (I.cne x c e) hc nch ho (I.freeC x c e), hd⟩
  refine ⟨I.ok, I.os, hg, ⟨fun b o e n hb hx => ?_, fun b o e n hb hx => ?_, fun b o e n hx => ?_, fun b o e hx => ?_, fun b xs e => tups b xs (I.base.tups b xs e), fun b o xs e => frzs b o xs (I.base.frzs b o xs e), fun b ps e => ?_⟩, ?_, fun x c e => ?_, ?_, fun x c e => ?_, fun p hp => ?_, hok, I.len⟩
  · exact keep b o (neL b o e) hb (neC b o e hx) (I.base.keep b o e n hb hx) (I.base.free b o e n hx)
  · obtain ⟨sl, e1⟩ := I.base.slot b o e n hb hx
    obtain ⟨sl', e2⟩ := slot b _ (neL b o e) hb (neC b o e hx) e1 (I.base.free b o e n hx)
    exact ⟨sl', e2⟩
  · obtain ⟨o', e1⟩ := I.base.there b o e hx
    exact free b o' (neC b o e hx) e1 (I.base.free b o e n hx)
  · obtain ⟨o', e1⟩ := I.base.there b o e hx
    exact there b o' (neC b o e hx) e1
  · obtain ⟨m1, e1⟩ := I.base.tbls b ps e
    obtain ⟨m2, e2⟩ := tbls b _ e1
    exact ⟨m1 ++ m2, by rw [e2, Array.append_assoc]⟩
  · obtain ⟨m, hn, hl⟩ := I.loc
    refine ⟨m, ns m hn, fun i x v e1 e2 e3 => ?_⟩
    obtain ⟨u, r, l⟩ := hl i x v e1 e2 e3
    refine ⟨u, r, ?_⟩
    rcases l with l | ⟨k, c, e, z⟩
    · exact .inl l
    · exact .inr ⟨k, c, e, cellK x c e _ z⟩
  · obtain ⟨v, z⟩ := I.cell x c e
    exact ⟨v, cellK x c e v z⟩
  · obtain ⟨m, ⟨o, _, _, ho, _⟩, _⟩ := I.loc
    exact free _ o (fun z => (hch _ z).2.1 rfl) ho I.free
  · obtain ⟨v, o, ho, hd⟩ := I.cell x c e
    exact free c o (fun z => (hch c z).2.2.1 x c e rfl) ho (I.freeC x c e)
  · obtain ⟨e, n, ne, nf, d⟩ := I.pin p hp
    have nch : p.1 ∉ ch := fun z => (hch p.1 z).2.2.2 p hp rfl
    exact ⟨keep p.1 p.2 ne nf nch e n, free p.1 p.2 nch e n, ne, nf, d⟩
/-- .. where the frame's own object is kept too -/
theorem Inv.un {t' : Nat} (I : Inv X pins σ H s) (u : Un X.fs [] H H' s.heap h') (hok : HOk X.prog X.w H' h') : Inv X pins σ H' { s with heap := h', toks := t' } := by
  obtain ⟨m, ⟨o, es, ep, ho, r⟩, _⟩ := id I.loc
  obtain ⟨sl, hL⟩ := u.any ho I.free (by simp)
  exact I.step (g' := s.gens) (d' := s.drawn) (ch := []) (fun _ z => nomatch z) (fun b o _ hb _ e n => u.keep b o e n hb (by simp)) (fun b o _ hb _ e n => u.slot b o e n hb (by simp)) (fun b o _ e n => u.free b o e n (by simp)) (fun b o _ e => u.there b o e (by simp)) u.tups u.frzs u.tbls (fun m' hm => by
    obtain ⟨o', es', ep', ho', r'⟩ := hm
    rw [ho] at ho'; cases ho'
    exact ⟨_, es', ep', hL, r'⟩) hok I.bare
/-- behind a call (or a comprehension's block): the slots of this frame may have changed too, the records at ch may have turned -/
theorem Inv.call {g' : Array GenState} {t' : Nat} {d' : Drawn} {ch : List Addr} (I : Inv X pins σ H s) (u : Un (frs X.stack) ch H H' s.heap h') (hok : HOk X.prog X.w H' h') (hg : AllBare g')
    (hch : ∀ b ∈ ch, (b ∈ X.ex ∨ X.s₀.heap.objs.size ≤ b) ∧ b ≠ X.env.locals ∧ (∀ x c, X.env.cells.lookup x = some c → c ≠ b) ∧ ∀ p ∈ X.pn ++ pins, p.1 ≠ b) :
    Inv X pins σ H' { s with heap := h', gens := g', drawn := d', toks := t' } := by
  obtain ⟨m, ⟨o, es, ep, ho, r⟩, _⟩ := id I.loc
  obtain ⟨sl, hL⟩ := u.any ho I.free fun z => (hch _ z).2.1 rfl
  exact I.step (ch := ch) hch (fun b o hL hb hc e n => u.keep b o e n (fun z => (List.mem_cons.mp (I.stkSub b z)).elim hL hb) hc) (fun b o _ _ hc e n => u.any e n hc) (fun b o hc e n => u.free b o e n hc) (fun b o hc e => u.there b o e hc) u.tups u.frzs u.tbls (fun m' hm => by
    obtain ⟨o', es', ep', ho', r'⟩ := hm
    rw [ho] at ho'; cases ho'
    exact ⟨_, es', ep', hL, r'⟩) hok hg
/-- an untracked record of ours (an iterator) has turned -/
theorem Inv.turned {t' : Nat} {it : Addr} (I : Inv X pins σ H s) (k : ∀ b o, b ≠ it → s.heap.get? b = some o → h'.get? b = some o) (hn : H it = none) (hL : it ≠ X.env.locals)
    (h1 : it ∈ X.ex ∨ X.s₀.heap.objs.size ≤ it) (h2 : ∀ x c, X.env.cells.lookup x = some c → c ≠ it) (h3 : ∀ p ∈ X.pn ++ pins, p.1 ≠ it) : Inv X pins σ H { s with heap := h', toks := t' } := by
  have nit : ∀ b u, H b = some u → b ≠ it := fun b u e z => by rw [z, hn] at e; cases e
  refine I.step (g' := s.gens) (d' := s.drawn) (ch := [it]) (fun b hb => ?_) (fun b o _ _ hc e _ => k b o (fun z => hc (by simp [z])) e) (fun b o _ _ hc e _ => ⟨o.slots, k b o (fun z => hc (by simp [z])) e⟩) (fun _ _ _ _ n => n)
    (fun b o hc e => ⟨o, k b o (fun z => hc (by simp [z])) e⟩) (fun _ _ e => e) (fun _ _ _ e => e) (fun b ps e => ⟨#[], by rw [e]; simp⟩) (fun m hm => ?_) (fun b u e => ?_) I.bare
  · have e : b = it := by simpa using hb
    subst e
    exact ⟨h1, hL, h2, h3⟩
  · obtain ⟨o, es, ep, ho, r⟩ := hm
    exact ⟨o, es, ep, k _ o (Ne.symm hL) ho, r⟩
  · refine (I.hok b u e).stay (fun c v hc q => k c v ?_ q) (fun _ q => q) fun _ _ q => q
    rcases hc with z | z
    · rw [z]; exact nit b u e
    · exact nit c _ z
theorem Inv.tok (I : Inv X pins σ H s) (t : Nat) : Inv X pins σ H { s with toks := t } := I.un (h' := s.heap) (t' := t) Un.refl I.hok
/-- all objects kept -/
theorem Inv.kept {t' : Nat} (I : Inv X pins σ H s) (k : ∀ b u, s.heap.get? b = some u → h'.get? b = some u) : Inv X pins σ H { s with heap := h', toks := t' } := I.un (Un.kept k) (I.hok.kept k)
/-- a new object laid and tracked -/
theorem Inv.laid {a : Addr} {o : HO} {t' : Nat} (I : Inv X pins σ H s) (k : ∀ b u, s.heap.get? b = some u → h'.get? b = some u) (hp : s.heap.objs.size ≤ a) (new : ObjOk X.prog X.w (upd H a o) h' a o) :
    Inv X pins σ (upd H a o) { s with heap := h', toks := t' } := I.un (Un.laid k hp (I.hok.fresh hp)) (I.hok.laid k hp new)
/-- an object written -/
theorem Inv.write {x e : Addr} {o : HO} {t' : Nat} (I : Inv X pins σ H s) (mu : Mut (H x)) (he : e = x ∨ H e = some (.own x)) (k : ∀ b u, b ≠ e → s.heap.get? b = some u → h'.get? b = some u) (heo : ∃ u, h'.get? e = some u)
    (new : ObjOk X.prog X.w (upd H x o) h' x o) : Inv X pins σ (upd H x o) { s with heap := h', toks := t' } := I.un (Un.write mu he k heo) (I.hok.write mu he k heo new)
/-- forgetting slots, pins -/
theorem Inv.weak {σ' : List (Option V)} (I : Inv X pins σ H s) (hl : σ'.length = σ.length) (w : ∀ (i : Nat) v, σ'[i]? = some (some v) → σ[i]? = some (some v)) : Inv X pins σ' H s :=
  ⟨I.ok, I.os, I.bare, I.base, let ⟨m, hn, hl'⟩ := I.loc; ⟨m, hn, fun i x v e1 e2 e3 => hl' i x v e1 (w i v e2) e3⟩, I.cell, I.free, I.freeC, I.pin, I.hok, hl.trans I.len⟩
theorem Inv.pins_of {pins' : List (Addr × Obj)} (I : Inv X pins σ H s) (h : ∀ p ∈ pins', s.heap.get? p.1 = some p.2 ∧ H p.1 = none ∧ p.1 ≠ X.env.locals ∧ p.1 ∉ X.fs ∧ ∀ v, p.2.data ≠ .cell v) : Inv X pins' σ H s :=
  ⟨I.ok, I.os, I.bare, I.base, I.loc, I.cell, I.free, I.freeC, fun p hp => (List.mem_append.mp hp).elim (fun z => I.pin p (List.mem_append_left _ z)) (h p), I.hok, I.len⟩

theorem nodup_ix {N : List Str} (hN : N.Nodup) {i j : Nat} {x : Str} (a : N[i]? = some x) (b : N[j]? = some x) : i = j := by
  obtain ⟨h1, e1⟩ := List.getElem?_eq_some_iff.mp a
  obtain ⟨h2, e2⟩ := List.getElem?_eq_some_iff.mp b
  exact (List.getElem_inj hN).mp (e1.trans e2.symm)

/-- a name is stored; what changed -/
theorem store_ok2 {M : Model} {A : Around} {E : Value → Shared → Prop} {i : Nat} {x : Str} {v : V} {u : Value} {Q : Unit → Shared → Prop} (I : Inv X pins σ H s) (hN : X.N.Nodup) (hi : X.N[i]? = some x) (hx : Loc X.env.scope x) (r : RelV v u)
    (h : ∀ s', Inv X pins (σ.set i (some v)) H s' → (∃ a, Heap.SameBut a s.heap s'.heap ∧ (a = X.env.locals ∨ X.env.cells.lookup x = some a)) → Q () s') (hf : X.fn x = true ∨ X.env.scope.names.lookup x = some .local := by first | exact .inl rfl | exact .inr rfl | assumption) : wpAny M A (storeName X.env x u) Q E s := by
  obtain ⟨m, hn, hl⟩ := id I.loc
  have hcls : (X.env.scope.kind == .class || (X.env.scope.kind == .module && X.env.locals != X.env.globals)) = false := by rw [I.ok.kind]; rfl
  have hiσ : i < σ.length := by rw [I.len]; exact (List.getElem?_eq_some_iff.mp hi).1
  have cne := I.cne
  have tracked : ∀ {a : Addr} {h' : Heap}, (∃ o, s.heap.get? a = some o ∧ H a = none) → Heap.SameBut a s.heap h' → HOk X.prog X.w H h' := fun {a h'} ha hs b ob e => by
    obtain ⟨_, _, hfree⟩ := ha
    refine (I.hok b ob e).stay (fun c w' hc q => (hs.2 c ?_).trans q) (fun _ q => q) fun _ _ q => q
    rintro rfl
    rcases hc with rfl | hc
    · rw [hfree] at e; cases e
    · rw [hfree] at hc; cases hc
  rcases hx with hk | hk
  · refine wpAny_storeName_local hk hn (fun h' hn' hs => ?_) hcls
    obtain ⟨oL, _, _, hoL, _⟩ := id hn
    refine h _ ⟨I.ok, I.os, I.bare, ⟨fun b o e n hb hx => ?_, fun b o e n hb hx => ?_, I.base.free, fun b o e hx => ?_, I.base.tups, I.base.frzs, I.base.tbls⟩, ⟨_, hn', fun j y v' e1 e2 e3 => ?_⟩, fun y c e => ?_, I.free, I.freeC, fun p hp => ?_, tracked ⟨oL, hoL, I.free⟩ hs, by simpa using I.len⟩ ⟨_, hs, .inl rfl⟩
    · exact (hs.2 b (Nat.ne_of_lt (Nat.lt_of_lt_of_le (Heap.lt_size e) I.ok.above))).trans (I.base.keep b o e n hb hx)
    · obtain ⟨sl, e1⟩ := I.base.slot b o e n hb hx
      exact ⟨sl, (hs.2 b (Nat.ne_of_lt (Nat.lt_of_lt_of_le (Heap.lt_size e) I.ok.above))).trans e1⟩
    · obtain ⟨o', e1⟩ := I.base.there b o e hx
      exact ⟨o', (hs.2 b (Nat.ne_of_lt (Nat.lt_of_lt_of_le (Heap.lt_size e) I.ok.above))).trans e1⟩
    · by_cases hj : j = i
      · subst hj
        rw [hi] at e1; cases e1
        rw [List.getElem?_set_self hiσ] at e2
        cases e2
        exact ⟨u, r, .inl ⟨hk, by simp⟩⟩
      · rw [List.getElem?_set_ne (Ne.symm hj)] at e2
        obtain ⟨u', r', q⟩ := hl j y v' e1 e2 e3
        refine ⟨u', r', ?_⟩
        rcases q with ⟨k, e⟩ | ⟨k, c, e, z⟩
        · refine .inl ⟨k, ?_⟩
          have : y ≠ x := fun e => hj (nodup_ix hN e1 (e ▸ hi))
          simp [this, e]
        · exact .inr ⟨k, c, e, z.sameBut hs (cne y c e)⟩
    · obtain ⟨w', z⟩ := I.cell y c e
      exact ⟨w', z.sameBut hs (cne y c e)⟩
    · obtain ⟨e, n, ne, nf, d⟩ := I.pin p hp
      exact ⟨(hs.2 p.1 ne).trans e, n, ne, nf, d⟩
  · have hfn : X.fn x = true := by
      rcases hf with z | z
      · exact z
      · rw [z] at hk; cases hk
    obtain ⟨c, hc⟩ := I.ok.has x (.inl hk)
    obtain ⟨w', z⟩ := I.cell x c hc
    refine wpAny_storeName_cell I.ok.kind hk hc z (fun h' hc' hs => ?_)
    obtain ⟨oc, hoc, hocd⟩ := id z
    refine h { s with heap := h' } ⟨I.ok, I.os, I.bare, ⟨fun b o e n hb hx => ?_, fun b o e n hb hx => ?_, I.base.free, fun b o e hx => ?_, I.base.tups, I.base.frzs, I.base.tbls⟩, ⟨m, hn.sameBut hs (Ne.symm (cne x c hc)), fun j y v' e1 e2 e3 => ?_⟩, fun y c' e => ?_, I.free, I.freeC, fun p hp => ?_, tracked ⟨oc, hoc, I.freeC x c hc⟩ hs, by simpa using I.len⟩ ⟨c, hs, .inr hc⟩
    · exact (hs.2 b (Nat.ne_of_lt (Nat.lt_of_lt_of_le (Heap.lt_size e) (I.ok.cab x c hfn hc)))).trans (I.base.keep b o e n hb hx)
    · obtain ⟨sl, e1⟩ := I.base.slot b o e n hb hx
      exact ⟨sl, (hs.2 b (Nat.ne_of_lt (Nat.lt_of_lt_of_le (Heap.lt_size e) (I.ok.cab x c hfn hc)))).trans e1⟩
    · obtain ⟨o', e1⟩ := I.base.there b o e hx
      exact ⟨o', (hs.2 b (Nat.ne_of_lt (Nat.lt_of_lt_of_le (Heap.lt_size e) (I.ok.cab x c hfn hc)))).trans e1⟩
    · by_cases hj : j = i
      · subst hj
        rw [hi] at e1; cases e1
        rw [List.getElem?_set_self hiσ] at e2
        cases e2
        exact ⟨u, r, .inr ⟨.inl hk, c, hc, hc'⟩⟩
      · rw [List.getElem?_set_ne (Ne.symm hj)] at e2
        obtain ⟨u', r', q⟩ := hl j y v' e1 e2 e3
        refine ⟨u', r', ?_⟩
        rcases q with q | ⟨k, c', e, z'⟩
        · exact .inl q
        · refine .inr ⟨k, c', e, z'.sameBut hs ?_⟩
          rintro rfl
          exact hj (nodup_ix hN e1 (I.ok.inj _ _ _ e hc ▸ hi))
    · by_cases hcc : c' = c
      · subst hcc; exact ⟨_, hc'⟩
      · obtain ⟨w2, z2⟩ := I.cell y c' e
        exact ⟨w2, z2.sameBut hs hcc⟩
    · obtain ⟨e, n, ne, nf, d⟩ := I.pin p hp
      refine ⟨(hs.2 p.1 ?_).trans e, n, ne, nf, d⟩
      intro q
      rw [q, hoc] at e
      have q' : oc = p.2 := Option.some.inj e
      exact d w' (by rw [← q']; exact hocd)
theorem store_ok {M : Model} {A : Around} {E : Value → Shared → Prop} {i : Nat} {x : Str} {v : V} {u : Value} {Q : Unit → Shared → Prop} (I : Inv X pins σ H s) (hN : X.N.Nodup) (hi : X.N[i]? = some x) (hx : Loc X.env.scope x) (r : RelV v u)
    (h : ∀ s', Inv X pins (σ.set i (some v)) H s' → Q () s') (hf : X.fn x = true ∨ X.env.scope.names.lookup x = some .local := by first | exact .inl rfl | exact .inr rfl | assumption) : wpAny M A (storeName X.env x u) Q E s :=
  store_ok2 I hN hi hx r (fun s' I' _ => h s' I') hf
/-- behind a call or a block, the state as it is -/
theorem Inv.call' {s' : Shared} {ch : List Addr} (I : Inv X pins σ H s) (ho : s'.os = s.os) (u : Un (frs X.stack) ch H H' s.heap s'.heap) (hok : HOk X.prog X.w H' s'.heap) (hg : AllBare s'.gens)
    (hch : ∀ b ∈ ch, (b ∈ X.ex ∨ X.s₀.heap.objs.size ≤ b) ∧ b ≠ X.env.locals ∧ (∀ x c, X.env.cells.lookup x = some c → c ≠ b) ∧ ∀ p ∈ X.pn ++ pins, p.1 ≠ b) : Inv X pins σ H' s' := by
  obtain ⟨h', g', d', t', o'⟩ := s'
  have e : o' = s.os := ho
  subst e
  exact I.call (g' := g') (t' := t') (d' := d') u hok hg hch
end

/-! ### the judgements -/
/-- an exception: its class, its own dict's address (where it has one), the abstract heap behind it -/
abbrev XK := Value → Option Addr → Hp → Prop
abbrev St := List (Option V)
abbrev VK := V → Hp → Prop
/-- an expression's reading; a test's; an argument list's -/
abbrev TE := St → Hp → VK → Prop
abbrev TT := St → Hp → (Bool → Hp → Prop) → Prop
abbrev TA := St → Hp → (List V → Hp → Prop) → Prop
/-- what is wanted behind a statement -/
structure Ends where
  nx : St → Hp → Prop
  rt : VK
  bk : St → Hp → Prop := fun _ _ => False
  ct : St → Hp → Prop := fun _ _ => False
abbrev TS := Ends → St → Hp → Prop

def EP (X : Cx) (pins : List (Addr × Obj)) (σ : St) (Q : VK) (u : Value) (s' : Shared) : Prop := ∃ v H', Inv X pins σ H' s' ∧ RelV v u ∧ Q v H'
def TP (X : Cx) (pins : List (Addr × Obj)) (σ : St) (Q : Bool → Hp → Prop) (b : Bool) (s' : Shared) : Prop := ∃ H', Inv X pins σ H' s' ∧ Q b H'
def AP (X : Cx) (pins : List (Addr × Obj)) (σ : St) (Q : List V → Hp → Prop) (us : List Value) (s' : Shared) : Prop := ∃ vs H', Inv X pins σ H' s' ∧ Vals vs us ∧ Q vs H'
def SP (X : Cx) (pins : List (Addr × Obj)) (D : Ends) (f : Flow) (s' : Shared) : Prop :=
  match f with
  | .next => ∃ σ' H', Inv X pins σ' H' s' ∧ D.nx σ' H'
  | .brk => ∃ σ' H', Inv X pins σ' H' s' ∧ D.bk σ' H'
  | .cont => ∃ σ' H', Inv X pins σ' H' s' ∧ D.ct σ' H'
  | .ret u => ∃ v σ' H', Inv X pins σ' H' s' ∧ RelV v u ∧ D.rt v H'

def PE (X : Cx) (e : Expr) (t : TE) : Prop :=
  ∀ (pins : List (Addr × Obj)) (s : Shared) (σ : St) (H : Hp) (Q : VK), Inv X pins σ H s → t σ H Q → wpAny (model X.prog X.w) X.A (eval e X.env) (EP X pins σ Q) X.xe s
def PT (X : Cx) (e : Expr) (t : TT) : Prop :=
  ∀ (pins : List (Addr × Obj)) (s : Shared) (σ : St) (H : Hp) (Q : Bool → Hp → Prop), Inv X pins σ H s → t σ H Q → wpAny (model X.prog X.w) X.A (isTrue e X.env (eval e X.env)) (TP X pins σ Q) X.xe s
/-- a test whatever its 'whole' is (and, or) -/
def PW (X : Cx) (e : Expr) (t : TT) : Prop :=
  ∀ (whole : Sem Value) (pins : List (Addr × Obj)) (s : Shared) (σ : St) (H : Hp) (Q : Bool → Hp → Prop), Inv X pins σ H s → t σ H Q → wpAny (model X.prog X.w) X.A (isTrue e X.env whole) (TP X pins σ Q) X.xe s
theorem PW.pt {X : Cx} {e : Expr} {t : TT} (h : PW X e t) : PT X e t := h _
/-- an argument list (no star), from the left -/
def PA (X : Cx) (es : List Expr) (t : TA) : Prop :=
  ∀ (pos : Pos) (pins : List (Addr × Obj)) (s : Shared) (σ : St) (H : Hp) (Q : List V → Hp → Prop), Inv X pins σ H s → t σ H Q → wpAny (model X.prog X.w) X.A (spliced (backTo pos (starEach es X.env))) (AP X pins σ Q) X.xe s
def PS (X : Cx) (st : Stmt) (t : TS) : Prop :=
  ∀ (pins : List (Addr × Obj)) (s : Shared) (σ : St) (H : Hp) (D : Ends), Inv X pins σ H s → t D σ H → wpAny (model X.prog X.w) X.A (exec st X.env) (SP X pins D) X.xe s
def PSs (X : Cx) (st : List Stmt) (t : TS) : Prop :=
  ∀ (pins : List (Addr × Obj)) (s : Shared) (σ : St) (H : Hp) (D : Ends), Inv X pins σ H s → t D σ H → wpAny (model X.prog X.w) X.A (execs st X.env) (SP X pins D) X.xe s
/-- weaken the end -/
theorem thn {α : Type} {t : Sem α} {Q Q' : α → Shared → Prop} {M : Model} {A : Around} {E : Value → Shared → Prop} {s : Shared} (h : wpAny M A t Q E s) (hQ : ∀ a s, Q a s → Q' a s) : wpAny M A t Q' E s := wpAny_mono h hQ fun _ _ x => x
end L2

namespace L2
open PySem PySem.Spec PyProof.Rows
section
variable {X : Cx}

/-- two expressions in a row -/
theorem bin {a b : Expr} {ta tb : TE} (ha : PE X a ta) (hb : PE X b tb) {pins : List (Addr × Obj)} {s : Shared} {σ : St} {H : Hp} {R : V → V → Hp → Prop} (I : Inv X pins σ H s) (h : ta σ H fun x H1 => tb σ H1 fun y H2 => R x y H2)
    {α : Type} {Q : α → Shared → Prop} {f : Value → Value → Sem α}
    (hf : ∀ v u s2 x y H2, Inv X pins σ H2 s2 → RelV x v → RelV y u → R x y H2 → wpAny (model X.prog X.w) X.A (f v u) Q X.xe s2) :
    wpAny (model X.prog X.w) X.A (eval a X.env) (fun v s₁ => wpAny (model X.prog X.w) X.A (eval b X.env) (fun u s₂ => wpAny (model X.prog X.w) X.A (f v u) Q X.xe s₂) X.xe s₁) X.xe s := by
  refine thn (ha pins s σ H _ I h) fun v s1 ⟨x, H1, I1, r1, q1⟩ => ?_
  refine thn (hb pins s1 σ H1 _ I1 q1) fun u s2 ⟨y, H2, I2, r2, q2⟩ => ?_
  exact hf v u s2 x y H2 I2 r1 r2 q2

/-! ### names and constants -/
def tVar (i : Nat) : TE := fun σ H Q => ∃ v, σ[i]? = some (some v) ∧ Q v H
def tC (v : V) : TE := fun _ H Q => Q v H
theorem pe_var {i : Nat} {x : Str} {pos : Pos} (hN : X.N[i]? = some x) (hv : Vis X.env.scope x) (hd : (x == ("__debug__" : Str)) = false := by decide) (hcd : (x == ("__classdict__" : Str)) = false := by decide) : PE X (.Name x pos) (tVar i) := by
  intro pins s σ H Q I h
  obtain ⟨v, e, h⟩ := h
  obtain ⟨m, hn, hl⟩ := I.loc
  obtain ⟨u, r, l⟩ := hl i x v hN e hv
  have fin : EP X pins σ Q u s := ⟨v, H, I, r, h⟩
  rcases l with ⟨hk, hm⟩ | ⟨hk, c, hc, hcell⟩
  · exact wpAny_Name (wpAny_loadName_local I.ok.kind hk hn hm fin) hd
  · rcases hk with hk | hk
    · exact wpAny_Name (wpAny_loadName_cell I.ok.kind hk hc hcell fin) hd
    · exact wpAny_Name (wpAny_loadName_free I.ok.kind hk hc hcell fin hcd) hd
theorem pe_int {i j pos} : PE X (.Constant (.int i) j pos) (tC (.int i)) := fun _ _ _ H _ I h => wpAny_Constant_int ⟨.int i, H, I.tok _, ⟨_, rfl⟩, h⟩
theorem pe_bl {b j pos} : PE X (.Constant (.bool b) j pos) (tC (.bl b)) := fun _ _ _ H _ I h => Constant_bool ⟨.bl b, H, I, rfl, h⟩
theorem pe_non {j pos} : PE X (.Constant .none j pos) (tC .non) := fun _ _ _ H _ I h => Constant_none ⟨.non, H, I, rfl, h⟩
theorem pe_str {x j pos} : PE X (.Constant (.str x) j pos) (tC (.str x)) := fun _ _ _ H _ I h => Calls.Constant_str ⟨.str x, H, I.tok _, ⟨_, rfl⟩, h⟩

/-- a global name of the def -/
def Gl (X : Cx) (x : Str) : Prop := X.env.kindOf x = some .globalImplicit
theorem ld_glob {E : Value → Shared → Prop} {pins : List (Addr × Obj)} {s : Shared} {σ : St} {H : Hp} {x : Str} {u : Value} {pos : Pos} {Q : Value → Shared → Prop} (I : Inv X pins σ H s) (hg : Gl X x) (hm : X.mg x = some u) (h : Q u s)
    (hd : (x == ("__debug__" : Str)) = false := by decide) : wpAny (model X.prog X.w) X.A (eval (.Name x pos) X.env) Q E s :=
  Calls.Name_function_global I.ok.kind hg (Calls.loadGlobal_global (by rw [I.ok.glob]; exact I.mod.glob.keeps I.bk) hm h) hd
theorem ld_blt {E : Value → Shared → Prop} {pins : List (Addr × Obj)} {s : Shared} {σ : St} {H : Hp} {x : Str} {u : Value} {pos : Pos} {Q : Value → Shared → Prop} (I : Inv X pins σ H s) (hg : Gl X x) (hm : X.mg x = none) (hv : bootBuiltins x = some u) (h : Q u s)
    (hn : x ≠ "__name__" := by decide) (hd : (x == ("__debug__" : Str)) = false := by decide) : wpAny (model X.prog X.w) X.A (eval (.Name x pos) X.env) Q E s := by
  obtain ⟨mb, h1, h2⟩ := I.mod.blt
  exact Calls.Name_function_global I.ok.kind hg (Calls.loadGlobal_builtin (by rw [I.ok.glob]; exact I.mod.glob.keeps I.bk) hm (by rw [I.ok.blt]; exact h1.keeps I.bk) ((h2 x hn).trans hv) h) hd
/-- a module's constant, a class, a function, as a value -/
theorem pe_glob {x : Str} {v : V} {u : Value} {pos : Pos} (hg : Gl X x) (hm : X.mg x = some u) (r : RelV v u) (hd : (x == ("__debug__" : Str)) = false := by decide) : PE X (.Name x pos) (tC v) :=
  fun _ _ _ H _ I h => ld_glob I hg hm ⟨v, H, I, r, h⟩ hd
theorem pe_bltn {x : Str} {v : V} {u : Value} {pos : Pos} (hg : Gl X x) (hm : X.mg x = none) (hv : bootBuiltins x = some u) (r : RelV v u) (hn : x ≠ "__name__" := by decide) (hd : (x == ("__debug__" : Str)) = false := by decide) : PE X (.Name x pos) (tC v) :=
  fun _ _ _ H _ I h => ld_blt I hg hm hv ⟨v, H, I, r, h⟩ hn hd

/-! ### arithmetic -/
/-- two ints -/
def t2I (ta tb : TE) (k : Int → Int → Hp → Prop) : St → Hp → Prop := fun σ H => ta σ H fun x H1 => tb σ H1 fun y H2 => ∃ i j, x = .int i ∧ y = .int j ∧ k i j H2
def tAdd (ta tb : TE) : TE := fun σ H Q => t2I ta tb (fun i j H2 => Q (.int (i + j)) H2) σ H
def tSub (ta tb : TE) : TE := fun σ H Q => t2I ta tb (fun i j H2 => Q (.int (i - j)) H2) σ H
/-- the left factor below 2^64 -/
def tMul (ta tb : TE) : TE := fun σ H Q => t2I ta tb (fun i j H2 => (-(2 ^ 64) < i ∧ i < 2 ^ 64) ∧ Q (.int (i * j)) H2) σ H
variable {a b : Expr} {ta tb : TE} {pos : Pos}
theorem pe_add (ha : PE X a ta) (hb : PE X b tb) : PE X (.BinOp a .Add b pos) (tAdd ta tb) := by
  intro pins s σ H Q I h
  refine wpAny_BinOp (bin ha hb I h fun v u s2 x y H2 I2 rx ry q => ?_)
  obtain ⟨i, j, rfl, rfl, q⟩ := q
  obtain ⟨t, rfl⟩ := rx
  obtain ⟨t', rfl⟩ := ry
  exact add_int ⟨.int _, H2, I2.tok _, ⟨_, rfl⟩, q⟩
theorem pe_sub (ha : PE X a ta) (hb : PE X b tb) : PE X (.BinOp a .Sub b pos) (tSub ta tb) := by
  intro pins s σ H Q I h
  refine wpAny_BinOp (bin ha hb I h fun v u s2 x y H2 I2 rx ry q => ?_)
  obtain ⟨i, j, rfl, rfl, q⟩ := q
  obtain ⟨t, rfl⟩ := rx
  obtain ⟨t', rfl⟩ := ry
  exact sub_int ⟨.int _, H2, I2.tok _, ⟨_, rfl⟩, q⟩
theorem pe_mul (ha : PE X a ta) (hb : PE X b tb) : PE X (.BinOp a .Mult b pos) (tMul ta tb) := by
  intro pins s σ H Q I h
  refine wpAny_BinOp (bin ha hb I h fun v u s2 x y H2 I2 rx ry q => ?_)
  obtain ⟨i, j, rfl, rfl, ⟨q1, q2⟩, q⟩ := q
  obtain ⟨t, rfl⟩ := rx
  obtain ⟨t', rfl⟩ := ry
  exact mul_int ⟨.int _, H2, I2.tok _, ⟨_, rfl⟩, q⟩ (.of_left (intBits_le_64 q1 q2))

/-! ### comparisons -/
def PC (X : Cx) (op : CmpOp) (a b : Expr) (t : TE) : Prop :=
  ∀ (pins : List (Addr × Obj)) (s : Shared) (σ : St) (H : Hp) (Q : VK), Inv X pins σ H s → t σ H Q →
    wpAny (model X.prog X.w) X.A (eval a X.env) (fun v s₁ => wpAny (model X.prog X.w) X.A (eval b X.env) (fun u s₂ => wpAny (model X.prog X.w) X.A (compareOp op v u) (EP X pins σ Q) X.xe s₂) X.xe s₁) X.xe s
theorem nobehind (b : Expr) {op : CmpOp} (h : op ≠ .In) (h2 : op ≠ .NotIn) : behindInMarks op b = false := by
  have e1 : (op == CmpOp.In) = false := by cases op <;> first | rfl | exact absurd rfl h
  have e2 : (op == CmpOp.NotIn) = false := by cases op <;> first | rfl | exact absurd rfl h2
  cases b <;> simp [behindInMarks, e1, e2]
def tCmp (p : Int → Int → Bool) (ta tb : TE) : TE := fun σ H Q => t2I ta tb (fun i j H2 => Q (.bl (p i j)) H2) σ H
abbrev tLt : TE → TE → TE := tCmp fun i j => decide (i < j)
abbrev tLe : TE → TE → TE := tCmp fun i j => decide (i ≤ j)
abbrev tGt : TE → TE → TE := tCmp fun i j => decide (j < i)
abbrev tGe : TE → TE → TE := tCmp fun i j => decide (j ≤ i)
abbrev tEqI : TE → TE → TE := tCmp fun i j => decide (i = j)
abbrev tNeI : TE → TE → TE := tCmp fun i j => !decide (i = j)
/-- a comparison of two ints, by its rule -/
theorem pc_int {op : CmpOp} {p : Int → Int → Bool} (ha : PE X a ta) (hb : PE X b tb)
    (rule : ∀ (i j : Int) (t u : Tok) (Q : Value → Shared → Prop) (s : Shared), Q (.bool (p i j)) s → wpAny (model X.prog X.w) X.A (compareOp op (.int i t) (.int j u)) Q X.xe s) : PC X op a b (tCmp p ta tb) := by
  intro pins s σ H Q I h
  refine bin ha hb I h fun v u s2 x y H2 I2 rx ry q => ?_
  obtain ⟨i, j, rfl, rfl, q⟩ := q
  obtain ⟨t, rfl⟩ := rx
  obtain ⟨t', rfl⟩ := ry
  exact rule i j t t' _ s2 ⟨.bl _, H2, I2, rfl, q⟩
theorem pc_lt (ha : PE X a ta) (hb : PE X b tb) : PC X .Lt a b (tLt ta tb) := pc_int ha hb fun _ _ _ _ _ _ h => lt_int h
theorem pc_le (ha : PE X a ta) (hb : PE X b tb) : PC X .LtE a b (tLe ta tb) := pc_int ha hb fun _ _ _ _ _ _ h => le_int h
theorem pc_gt (ha : PE X a ta) (hb : PE X b tb) : PC X .Gt a b (tGt ta tb) := pc_int ha hb fun _ _ _ _ _ _ h => gt_int h
theorem pc_ge (ha : PE X a ta) (hb : PE X b tb) : PC X .GtE a b (tGe ta tb) := pc_int ha hb fun _ _ _ _ _ _ h => ge_int h
theorem pc_eqI (ha : PE X a ta) (hb : PE X b tb) : PC X .Eq a b (tEqI ta tb) := pc_int ha hb fun _ _ _ _ _ _ h => eq_int (by rw [Bool.beq_eq_decide_eq]; exact h)
theorem pc_neI (ha : PE X a ta) (hb : PE X b tb) : PC X .NotEq a b (tNeI ta tb) := pc_int ha hb fun _ _ _ _ _ _ h => ne_int (by rw [bne, Bool.beq_eq_decide_eq]; exact h)
/-- is None -/
def tIsN (ta : TE) : TE := fun σ H Q => ta σ H fun x H1 => Q (.bl (decide (x = .non))) H1
def tNotN (ta : TE) : TE := fun σ H Q => ta σ H fun x H1 => Q (.bl (!decide (x = .non))) H1
theorem RelV.none_iff {x : V} {v : Value} (r : RelV x v) : (v == Value.none) = decide (x = .non) := by
  cases x with
  | non => cases r; rfl
  | bl _ => cases r; rfl
  | int _ => obtain ⟨t, rfl⟩ := r; rfl
  | str _ => obtain ⟨t, rfl⟩ := r; rfl
  | byt _ => obtain ⟨t, rfl⟩ := r; rfl
  | flt _ => obtain ⟨t, rfl⟩ := r; rfl
  | ref _ => cases r; rfl
  | ty _ => cases r; rfl
theorem pc_isN {j pos'} (ha : PE X a ta) : PC X .Is a (.Constant .none j pos') (tIsN ta) := by
  intro pins s σ H Q I h
  refine thn (ha pins s σ H _ I h) fun v s1 ⟨x, H1, I1, r1, q1⟩ => ?_
  exact Constant_none (is_none_gen ⟨.bl _, H1, I1, by rw [r1.none_iff]; rfl, q1⟩)
theorem pc_notN {j pos'} (ha : PE X a ta) : PC X .IsNot a (.Constant .none j pos') (tNotN ta) := by
  intro pins s σ H Q I h
  refine thn (ha pins s σ H _ I h) fun v s1 ⟨x, H1, I1, r1, q1⟩ => ?_
  exact Constant_none (isnot_none_gen ⟨.bl _, H1, I1, by rw [r1.none_iff]; rfl, q1⟩)
/-- a comparison as a value, as a test -/
def tB (t : TE) : TT := fun σ H Q => t σ H fun x H1 => ∃ c, x = .bl c ∧ Q c H1
theorem pe_cmp {op : CmpOp} {t : TE} (h : PC X op a b t) (h1 : behindInMarks op b = false := by first | exact nobehind _ (by decide) (by decide) | rfl) : PE X (.Compare a [op] [b] pos) t := fun pins s σ H Q I hw => wpAny_Compare1 (h pins s σ H Q I hw) h1
theorem pt_cmp {op : CmpOp} {t : TE} (h : PC X op a b t) (h1 : behindInMarks op b = false := by first | exact nobehind _ (by decide) (by decide) | rfl) : PT X (.Compare a [op] [b] pos) (tB t) := by
  intro pins s σ H Q I hw
  refine wpAny_isTrue_Compare1 (thn (h pins s σ H _ I hw) fun v s1 h1 => thn h1 fun u s2 h2 => thn h2 fun c s3 ⟨x, H1, I1, r1, q1⟩ => ?_) h1
  obtain ⟨d, rfl, q⟩ := q1
  cases r1
  exact wpAny_truthy_bool ⟨H1, I1, q⟩
/-- an expression whose value is a bool, as a test -/
theorem pt_val {e : Expr} {t : TE} (h : PE X e t) (he : ∀ whole, isTrue e X.env whole = (do let v ← whole; standAt e.pos; holding [v] (truthy v)) := by intro _; rfl) : PT X e (tB t) := by
  intro pins s σ H Q I hw
  refine isTrue_plain (thn (h pins s σ H _ I hw) fun v s1 ⟨x, H1, I1, r1, q1⟩ => ?_) (he _)
  obtain ⟨d, rfl, q⟩ := q1
  cases r1
  exact wpAny_truthy_bool ⟨H1, I1, q⟩

/-! ### and, or, not -/
variable {tA tB' : TT} {rest : List Expr}
def tAnd (t u : TT) : TT := fun σ H Q => t σ H fun c H1 => if c = true then u σ H1 Q else Q false H1
def tOr (t u : TT) : TT := fun σ H Q => t σ H fun c H1 => if c = true then Q true H1 else u σ H1 Q
def tNot (t : TT) : TT := fun σ H Q => t σ H fun c H1 => Q (!c) H1
theorem pw_and1 (ha : PT X a tA) : PW X (.BoolOp .And [a] pos) tA := by
  intro wh pins s σ H Q I h
  refine isTrue_and (thn (ha pins s σ H Q I h) fun c s1 e => ?_)
  cases c with
  | true => exact isTrue_and_nil e
  | false => exact e
theorem pw_or1 (ha : PT X a tA) : PW X (.BoolOp .Or [a] pos) tA := by
  intro wh pins s σ H Q I h
  refine isTrue_or (thn (ha pins s σ H Q I h) fun c s1 e => ?_)
  cases c with
  | false => exact isTrue_or_nil e
  | true => exact e
theorem pw_and (ha : PT X a tA) (hb : PW X (.BoolOp .And (b :: rest) pos) tB') : PW X (.BoolOp .And (a :: b :: rest) pos) (tAnd tA tB') := by
  intro wh pins s σ H Q I h
  refine isTrue_and (thn (ha pins s σ H _ I h) fun c s1 ⟨H1, I1, q1⟩ => ?_)
  cases c with
  | true => exact hb wh pins s1 σ H1 Q I1 q1
  | false => exact ⟨H1, I1, q1⟩
theorem pw_or (ha : PT X a tA) (hb : PW X (.BoolOp .Or (b :: rest) pos) tB') : PW X (.BoolOp .Or (a :: b :: rest) pos) (tOr tA tB') := by
  intro wh pins s σ H Q I h
  refine isTrue_or (thn (ha pins s σ H _ I h) fun c s1 ⟨H1, I1, q1⟩ => ?_)
  cases c with
  | true => exact ⟨H1, I1, q1⟩
  | false => exact hb wh pins s1 σ H1 Q I1 q1
theorem pt_not (ha : PT X a tA) : PT X (.UnaryOp .Not a pos) (tNot tA) := by
  intro pins s σ H Q I h
  exact isTrue_not (ha pins s σ H (fun c H1 => Q (!c) H1) I h)
/-- .. as values (bools) -/
def tAndV (ta tb : TE) : TE := fun σ H Q => ta σ H fun x H1 => ∃ c, x = .bl c ∧ if c = true then tb σ H1 Q else Q (.bl false) H1
def tOrV (ta tb : TE) : TE := fun σ H Q => ta σ H fun x H1 => ∃ c, x = .bl c ∧ if c = true then Q (.bl true) H1 else tb σ H1 Q
def tNotV (ta : TE) : TE := fun σ H Q => ta σ H fun x H1 => ∃ c, x = .bl c ∧ Q (.bl (!c)) H1
theorem pe_one {op} {t : TE} (h : PE X a t) : PE X (.BoolOp op [a] pos) t := fun pins s σ H Q I hw => BoolOp_one (h pins s σ H Q I hw)
theorem pe_and (ha : PE X a ta) (hb : PE X (.BoolOp .And (b :: rest) pos) tb) : PE X (.BoolOp .And (a :: b :: rest) pos) (tAndV ta tb) := by
  intro pins s σ H Q I h
  refine BoolOp_and (thn (ha pins s σ H _ I h) fun v s1 ⟨x, H1, I1, r1, q1⟩ => ?_)
  obtain ⟨c, rfl, q1⟩ := q1
  cases r1
  refine wpAny_truthy_bool ?_
  cases c with
  | true => exact hb pins s1 σ H1 Q I1 q1
  | false => exact ⟨.bl false, H1, I1, rfl, q1⟩
theorem pe_or (ha : PE X a ta) (hb : PE X (.BoolOp .Or (b :: rest) pos) tb) : PE X (.BoolOp .Or (a :: b :: rest) pos) (tOrV ta tb) := by
  intro pins s σ H Q I h
  refine BoolOp_or (thn (ha pins s σ H _ I h) fun v s1 ⟨x, H1, I1, r1, q1⟩ => ?_)
  obtain ⟨c, rfl, q1⟩ := q1
  cases r1
  refine wpAny_truthy_bool ?_
  cases c with
  | false => exact hb pins s1 σ H1 Q I1 q1
  | true => exact ⟨.bl true, H1, I1, rfl, q1⟩
theorem pe_not (ha : PE X a ta) : PE X (.UnaryOp .Not a pos) (tNotV ta) := by
  intro pins s σ H Q I h
  refine UnaryOp_ (thn (ha pins s σ H _ I h) fun v s1 ⟨x, H1, I1, r1, q1⟩ => ?_)
  obtain ⟨c, rfl, q1⟩ := q1
  cases r1
  exact not_of (wpAny_truthy_bool ⟨.bl (!c), H1, I1, rfl, q1⟩)
/-- a if t else b -/
def tIf (t : TT) (ta tb : TE) : TE := fun σ H Q => t σ H fun c H1 => if c = true then ta σ H1 Q else tb σ H1 Q
theorem pe_ifExp {c : Expr} (hc : PT X c tA) (ha : PE X a ta) (hb : PE X b tb) : PE X (.IfExp c a b pos) (tIf tA ta tb) := by
  intro pins s σ H Q I h
  refine wpAny_IfExp (thn (hc pins s σ H _ I h) fun d s1 ⟨H1, I1, q1⟩ => ?_)
  cases d with
  | true => exact ha pins s1 σ H1 Q I1 q1
  | false => exact hb pins s1 σ H1 Q I1 q1
end
end L2

namespace L2
open PySem PySem.Spec PyProof.Rows

/-! ### a list, a tuple that is read: tracked, frozen, or an object of the module -/
def SqL (K : PySem.W.Frag) (H : Hp) (a : Addr) (xs : List V) : Prop :=
  Rd H a (.lst xs) ∨
    ∃ (o : Obj) (its : Array Value) (n : Nat), K.lookup a = some o ∧ o.cls = .type "list" ∧ o.dict = none ∧ o.data = .seq its n ∧ its.size ≤ sizeLine ∧ Vals xs its.toList
def SqT (K : PySem.W.Frag) (H : Hp) (a : Addr) (xs : List V) : Prop :=
  Rd H a (.tup xs) ∨
    ∃ (o : Obj) (its : Array Value) (n : Nat), K.lookup a = some o ∧ o.cls = .type "tuple" ∧ o.data = .seq its n ∧ its.size ≤ sizeLine ∧ Vals xs its.toList
def absV : Value → Option V
  | .none => some .non
  | .bool b => some (.bl b)
  | .int i _ => some (.int i)
  | .str x _ => some (.str x)
  | .bytes b _ => some (.byt b)
  | .float b _ => some (.flt b)
  | .ref a => some (.ref a)
  | .type n => some (.ty n)
  | _ => none
theorem RelV.abs {x : V} {u : Value} (r : RelV x u) : absV u = some x := by
  cases x with
  | non => cases r; rfl
  | bl _ => cases r; rfl
  | int _ => obtain ⟨t, rfl⟩ := r; rfl
  | str _ => obtain ⟨t, rfl⟩ := r; rfl
  | byt _ => obtain ⟨t, rfl⟩ := r; rfl
  | flt _ => obtain ⟨t, rfl⟩ := r; rfl
  | ref _ => cases r; rfl
  | ty _ => cases r; rfl
theorem RelV.inj {x y : V} {u : Value} (r : RelV x u) (q : RelV y u) : x = y := Option.some.inj (r.abs.symm.trans q.abs)
theorem Vals.inj : ∀ {xs ys : List V} {us : List Value}, Vals xs us → Vals ys us → xs = ys
  | _, _, _, .nil, .nil => rfl
  | _, _, _, .cons r t, .cons r' t' => by rw [r.inj r', Vals.inj t t']
section
variable {X : Cx} {pins : List (Addr × Obj)} {σ : St} {H : Hp} {s : Shared} {a : Addr} {xs ys : List V}
theorem SqL.of {K : PySem.W.Frag} (h : H a = some (.lst xs)) : SqL K H a xs := .inl (.inl h)
theorem SqT.of {K : PySem.W.Frag} (h : H a = some (.tup xs)) : SqT K H a xs := .inl (.inl h)
theorem Inv.list (I : Inv X pins σ H s) (h : SqL X.K H a xs) : ∃ its : List Value, Vals xs its ∧ PlainL s.heap a its.toArray ∧ xs.length ≤ sizeLine := by
  rcases h with h | ⟨o, its, n, hk, hc, hd, hs, hz, r⟩
  · obtain ⟨z, its, n, r, e⟩ := h.ok I.hok
    exact ⟨its, r, ⟨_, n, e, rfl, rfl, rfl⟩, z⟩
  · refine ⟨its.toList, r, ⟨o, n, I.kIn a o hk, hc, hd, by simpa using hs⟩, ?_⟩
    have e := r.length
    simp only [Array.length_toList] at e
    omega
theorem Inv.tuple (I : Inv X pins σ H s) (h : SqT X.K H a xs) : ∃ its : List Value, Vals xs its ∧ IsTup s.heap a its.toArray ∧ xs.length ≤ sizeLine := by
  rcases h with h | ⟨o, its, n, hk, hc, hs, hz, r⟩
  · obtain ⟨z, its, r, p⟩ := h.ok I.hok
    exact ⟨its, r, p, z⟩
  · refine ⟨its.toList, r, ⟨o, I.kIn a o hk, hc, n, by simpa using hs⟩, ?_⟩
    have e := r.length
    simp only [Array.length_toList] at e
    omega
theorem Inv.list_inj (I : Inv X pins σ H s) (h : SqL X.K H a xs) (h' : SqL X.K H a ys) : xs = ys := by
  obtain ⟨its, r, ⟨o, n, e, _, _, d⟩, _⟩ := I.list h
  obtain ⟨its', r', ⟨o', n', e', _, _, d'⟩, _⟩ := I.list h'
  rw [e] at e'; cases e'
  rw [d] at d'
  injection d' with d1 _
  have : its = its' := by simpa using congrArg Array.toList d1
  subst this
  exact r.inj r'
theorem Inv.tuple_inj (I : Inv X pins σ H s) (h : SqT X.K H a xs) (h' : SqT X.K H a ys) : xs = ys := by
  obtain ⟨its, r, ⟨o, e, _, n, d⟩, _⟩ := I.tuple h
  obtain ⟨its', r', ⟨o', e', _, n', d'⟩, _⟩ := I.tuple h'
  rw [e] at e'; cases e'
  rw [d] at d'
  injection d' with d1 _
  have : its = its' := by simpa using congrArg Array.toList d1
  subst this
  exact r.inj r'
end

/-! ### another wish about exceptions -/
abbrev Cx.wish (X : Cx) (E : Value → Shared → Prop) : Cx := { X with xe := E }
/-- no exception leaves -/
abbrev Cx.nox (X : Cx) : Cx := X.wish fun _ _ => False
theorem Cx.Ok.wish {X : Cx} (ok : X.Ok) (E : Value → Shared → Prop) : (X.wish E).Ok :=
  ⟨ok.mod, ok.kind, ok.glob, ok.blt, ok.above, ok.inj, ok.has, ok.cab, ok.hd, ok.frames, ok.stk, ok.exf, ok.bs, ok.bsz, ok.noex, ok.exfs, ok.funs, ok.frf⟩
theorem Cx.Ok.unwish {X : Cx} {E : Value → Shared → Prop} (ok : (X.wish E).Ok) : X.Ok :=
  ⟨ok.mod, ok.kind, ok.glob, ok.blt, ok.above, ok.inj, ok.has, ok.cab, ok.hd, ok.frames, ok.stk, ok.exf, ok.bs, ok.bsz, ok.noex, ok.exfs, ok.funs, ok.frf⟩
section
variable {X : Cx} {pins : List (Addr × Obj)} {σ : St} {H : Hp} {s : Shared} {E : Value → Shared → Prop}
theorem Inv.wish (I : Inv X pins σ H s) (E : Value → Shared → Prop) : Inv (X.wish E) pins σ H s := ⟨I.ok.wish E, I.os, I.bare, I.base, I.loc, I.cell, I.free, I.freeC, I.pin, I.hok, I.len⟩
theorem Inv.unwish (I : Inv (X.wish E) pins σ H s) : Inv X pins σ H s := ⟨I.ok.unwish, I.os, I.bare, I.base, I.loc, I.cell, I.free, I.freeC, I.pin, I.hok, I.len⟩
theorem SP.unwish {D : Ends} {f : Flow} {s' : Shared} (h : SP (X.wish E) pins D f s') : SP X pins D f s' := by
  cases f with
  | next => obtain ⟨σ', H', I, q⟩ := h; exact ⟨σ', H', I.unwish, q⟩
  | brk => obtain ⟨σ', H', I, q⟩ := h; exact ⟨σ', H', I.unwish, q⟩
  | cont => obtain ⟨σ', H', I, q⟩ := h; exact ⟨σ', H', I.unwish, q⟩
  | ret u => obtain ⟨v, σ', H', I, r, q⟩ := h; exact ⟨v, σ', H', I.unwish, r, q⟩
theorem PE.nox {e : Expr} {t : TE} (h : PE X.nox e t) : PE X e t := fun pins s σ H Q I hw =>
  wpAny_mono (h pins s σ H Q (I.wish _) hw) (fun _ _ ⟨v, H', I', r, q⟩ => ⟨v, H', I'.unwish, r, q⟩) fun _ _ z => False.elim z
theorem PT.nox {e : Expr} {t : TT} (h : PT X.nox e t) : PT X e t := fun pins s σ H Q I hw =>
  wpAny_mono (h pins s σ H Q (I.wish _) hw) (fun _ _ ⟨H', I', q⟩ => ⟨H', I'.unwish, q⟩) fun _ _ z => False.elim z
theorem PSs.nox {st : List Stmt} {t : TS} (h : PSs X.nox st t) : PSs X st t := fun pins s σ H D I hw =>
  wpAny_mono (h pins s σ H D (I.wish _) hw) (fun _ _ q => q.unwish) fun _ _ z => False.elim z
end

/-! ### blocks and small statements -/
section
variable {X : Cx} {st : Stmt} {rest : List Stmt} {t u : TS} {e : Expr} {te : TE} {pos : Pos}
def tNext : TS := fun D σ H => D.nx σ H
def tSeq (t u : TS) : TS := fun D σ H => t { D with nx := u D } σ H
theorem pss_nil : PSs X [] tNext := fun _ _ σ H _ I h => wpAny_execs_nil ⟨σ, H, I, h⟩
theorem pss_cons (h1 : PS X st t) (h2 : PSs X rest u) : PSs X (st :: rest) (tSeq t u) := by
  intro pins s σ H D I h
  refine wpAny_execs_cons (thn (h1 pins s σ H { D with nx := u D } I h) fun f s1 q => ?_)
  cases f with
  | next =>
    obtain ⟨σ', H', I', q⟩ := q
    exact h2 pins s1 σ' H' D I' q
  | ret v => exact q
  | brk => exact q
  | cont => exact q
theorem pss_one (h1 : PS X st t) : PSs X [st] t := by
  intro pins s σ H D I h
  refine wpAny_execs_cons (thn (h1 pins s σ H D I h) fun f s1 q => ?_)
  cases f with
  | next => exact wpAny_execs_nil q
  | ret v => exact q
  | brk => exact q
  | cont => exact q
def tBreak : TS := fun D σ H => D.bk σ H
def tCont : TS := fun D σ H => D.ct σ H
theorem ps_pass : PS X (.Pass pos) tNext := fun _ _ σ H _ I h => wpAny_Pass ⟨σ, H, I, h⟩
theorem ps_break : PS X (.Break pos) tBreak := fun _ _ σ H _ I h => wpAny_Break ⟨σ, H, I, h⟩
theorem ps_continue : PS X (.Continue pos) tCont := fun _ _ σ H _ I h => wpAny_Continue ⟨σ, H, I, h⟩
/-- in a def's body nothing is shown -/
theorem Inv.quiet {pins : List (Addr × Obj)} {σ : St} {H : Hp} {s : Shared} (I : Inv X pins σ H s) : interactive X.env = false := by simp [interactive, I.ok.kind]
/-- a docstring -/
theorem ps_doc {x j pos pos'} : PS X (.Expr (.Constant (.str x) j pos) pos') tNext := fun _ s σ H _ I h => wpAny_Expr (Calls.Constant_str (show SP X _ _ .next { s with toks := s.toks + 1 } from ⟨σ, H, I.tok _, h⟩)) I.quiet
/-- an expression whose value is dropped -/
def tDrop (te : TE) : TS := fun D σ H => te σ H fun _ H1 => D.nx σ H1
theorem ps_expr (he : PE X e te) (hs : swapsWith e none pos.line X.env = pure false := by rfl) : PS X (.Expr e pos) (tDrop te) := by
  intro pins s σ H D I h
  exact wpAny_Expr_any (thn (he pins s σ H _ I h) fun v s1 ⟨x, H1, I1, r1, q1⟩ => ⟨σ, H1, I1, q1⟩) I.quiet hs
def tRet (te : TE) : TS := fun D σ H => te σ H D.rt
theorem ps_ret (he : PE X e te) : PS X (.Return (some e) pos) (tRet te) := by
  intro pins s σ H D I h
  exact wpAny_Return_some (thn (he pins s σ H _ I h) fun v s1 ⟨x, H1, I1, r1, q1⟩ => ⟨x, σ, H1, I1, r1, q1⟩)
def tRetN : TS := fun D _ H => D.rt .non H
theorem ps_retN : PS X (.Return none pos) tRetN := fun _ _ σ H _ I h => wpAny_Return_none ⟨.non, σ, H, I, rfl, h⟩
def tIfS (c : TT) (t u : TS) : TS := fun D σ H => c σ H fun b H1 => if b = true then t D σ H1 else u D σ H1
theorem ps_if {c : Expr} {a b : List Stmt} {tc : TT} (hc : PT X c tc) (ha : PSs X a t) (hb : PSs X b u) : PS X (.If c a b pos) (tIfS tc t u) := by
  intro pins s σ H D I h
  refine wpAny_If (thn (hc pins s σ H _ I h) fun d s1 ⟨H1, I1, q1⟩ => ?_)
  cases d with
  | true => exact ha pins s1 σ H1 D I1 q1
  | false => exact hb pins s1 σ H1 D I1 q1
/-- code that the proof never comes to -/
def tNever : TS := fun _ _ _ => False
theorem ps_never : PS X st tNever := fun _ _ _ _ _ _ h => h.elim
theorem pss_never {sts : List Stmt} : PSs X sts tNever := fun _ _ _ _ _ _ h => h.elim
end

/-! ### targets -/
abbrev TG := V → St → Hp → (St → Hp → Prop) → Prop
abbrev TGs := List V → St → Hp → (St → Hp → Prop) → Prop
def PG (X : Cx) (target : Expr) (t : TG) : Prop :=
  ∀ (pins : List (Addr × Obj)) (s : Shared) (σ : St) (H : Hp) (v : V) (u : Value) (Q : St → Hp → Prop), Inv X pins σ H s → RelV v u → t v σ H Q →
    wpAny (model X.prog X.w) X.A (assign target X.env u) (fun _ s' => ∃ σ' H', Inv X pins σ' H' s' ∧ Q σ' H') X.xe s
/-- several targets, one after another -/
def PGs (X : Cx) (ts : List Expr) (t : TGs) : Prop :=
  ∀ (pins : List (Addr × Obj)) (s : Shared) (σ : St) (H : Hp) (vs : List V) (us : List Value) (Q : St → Hp → Prop), Inv X pins σ H s → Vals vs us → t vs σ H Q →
    wpAny (model X.prog X.w) X.A (assignInOrder ((assignEach ts X.env).map (·.2)) us) (fun _ s' => ∃ σ' H', Inv X pins σ' H' s' ∧ Q σ' H') X.xe s
/-- o[i] = v, by values -/
abbrev TSet := V → V → V → Hp → (Hp → Prop) → Prop
def PSet (X : Cx) (t : TSet) : Prop :=
  ∀ (pins : List (Addr × Obj)) (s : Shared) (σ : St) (H : Hp) (o i v : V) (ov iv u : Value) (Q : Hp → Prop), Inv X pins σ H s → RelV o ov → RelV i iv → RelV v u → t o i v H Q →
    wpAny (model X.prog X.w) X.A (setItem ov iv u) (fun _ s' => ∃ H', Inv X pins σ H' s' ∧ Q H') X.xe s
/-- a op= b, by values -/
abbrev TIp := V → V → Hp → VK → Prop
def PIp (X : Cx) (op : Operator) (t : TIp) : Prop :=
  ∀ (pins : List (Addr × Obj)) (s : Shared) (σ : St) (H : Hp) (x y : V) (v u : Value) (Q : VK), Inv X pins σ H s → RelV x v → RelV y u → t x y H Q →
    wpAny (model X.prog X.w) X.A (inplaceOp op v u) (EP X pins σ Q) X.xe s
section
variable {X : Cx} {pos : Pos}
def gName (i : Nat) : TG := fun v σ H Q => Q (σ.set i (some v)) H
theorem pg_name {i : Nat} {x : Str} (hN : X.N.Nodup) (hi : X.N[i]? = some x) (hx : Loc X.env.scope x) (hf : X.fn x = true ∨ X.env.scope.names.lookup x = some .local := by first | exact .inl rfl | exact .inr rfl | assumption) : PG X (.Name x pos) (gName i) := by
  intro pins s σ H v u Q I r h
  exact wpAny_assign_Name (store_ok I hN hi hx r (fun s' I' => ⟨_, H, I', h⟩) hf)
def gNil : TGs := fun vs σ H Q => vs = [] ∧ Q σ H
def gCons (t : TG) (u : TGs) : TGs := fun vs σ H Q => ∃ v r, vs = v :: r ∧ t v σ H fun σ' H' => u r σ' H' Q
theorem pgs_nil : PGs X [] gNil := by
  intro pins s σ H vs us Q I r h
  obtain ⟨e, h⟩ := h
  subst e
  cases r
  exact assignInOrder_nil ⟨σ, H, I, h⟩
theorem pgs_cons {e : Expr} {es : List Expr} {t : TG} {u : TGs} (h1 : PG X e t) (h2 : PGs X es u)
    (hs : (assignEach (e :: es) X.env).map (·.2) = assign e X.env :: (assignEach es X.env).map (·.2) := by rfl) : PGs X (e :: es) (gCons t u) := by
  intro pins s σ H vs us Q I r h
  obtain ⟨v, vr, e1, h⟩ := h
  subst e1
  cases r with
  | cons r rr =>
    rw [hs]
    refine assignInOrder_cons (thn (h1 pins s σ H _ _ _ I r h) fun _ s1 ⟨σ1, H1, I1, q1⟩ => ?_)
    exact h2 pins s1 σ1 H1 _ _ Q I1 rr q1
/-- (a, b, ..) = a tuple of that length -/
def gTup (K : PySem.W.Frag) (n : Nat) (t : TGs) : TG := fun v σ H Q => ∃ a xs, v = .ref a ∧ SqT K H a xs ∧ xs.length = n ∧ t xs σ H Q
theorem pg_tup {es : List Expr} {k : Nat} {t : TGs} {n : Nat} (hc : X.calm = true) (h : PGs X es t)
    (hn : (assignEach es X.env).length = n := by rfl) (hst : (assignEach es X.env).findIdx? (·.1) = none := by rfl) : PG X (.Tuple es k pos) (gTup X.K n t) := by
  intro pins s σ H v u Q I r hw
  obtain ⟨a, xs, e1, hq, hl, hw⟩ := hw
  subst e1
  cases r
  obtain ⟨its, rv, ht, hz⟩ := I.tuple hq
  refine assign_Tuple_tuple (I.ok.hd hc) ht (by simp [hn, ← hl, rv.length]) hst fun h' hx => ?_
  have I1 : Inv X pins σ H { s with heap := h' } := I.kept (t' := s.toks) fun b o e => hx b o (Nat.ne_of_lt (Heap.lt_size e)) e
  exact h pins _ σ H xs _ Q I1 (by simpa using rv) hw
/-- o[i] = .. -/
def gSub (to ti : TE) (t : TSet) : TG := fun v σ H Q => to σ H fun o H1 => ti σ H1 fun i H2 => t o i v H2 fun H3 => Q σ H3
theorem pg_sub {o i : Expr} {to ti : TE} {t : TSet} (ho : PE X o to) (hi : PE X i ti) (hs : PSet X t)
    (ha : ∀ v, assign (.Subscript o i pos) X.env v = (do
      let ov ← holding [v] (eval o X.env)
      let iv ← holding [v, ov] (eval i X.env)
      standAt pos
      holding [v, ov, iv] (setItem ov iv v)
      release [v, ov, iv] []) := by intro _; rfl) : PG X (.Subscript o i pos) (gSub to ti t) := by
  intro pins s σ H v u Q I r h
  rw [ha]
  refine wpAny_bind (wpAny_holding (thn (ho pins s σ H _ I h) fun ov s1 ⟨x, H1, I1, r1, q1⟩ => ?_))
  refine wpAny_bind (wpAny_holding (thn (hi pins s1 σ H1 _ I1 q1) fun iv s2 ⟨y, H2, I2, r2, q2⟩ => ?_))
  refine wpAny_bind (wpAny_standAt (wpAny_bind (wpAny_holding (thn (hs pins s2 σ H2 x y v ov iv u _ I2 r1 r2 r q2) fun _ s3 ⟨H3, I3, q3⟩ => ?_))))
  exact wpAny_release ⟨σ, H3, I3, q3⟩
/-- target = value -/
def tAsg (te : TE) (g : TG) : TS := fun D σ H => te σ H fun x H1 => g x σ H1 D.nx
theorem ps_asg {tg e : Expr} {te : TE} {g : TG} (he : PE X e te) (hg : PG X tg g) (hs : swapsWithSole [tg] e pos.line X.env = pure false := by rfl) (hw : swappedStores [tg] e X.env = pure none := by rfl)
    (h1 : (assignEach [tg] X.env).map (·.2) = [assign tg X.env] := by rfl) : PS X (.Assign [tg] e pos) (tAsg te g) := by
  intro pins s σ H D I h
  refine wpAny_Assign_stores (thn (he pins s σ H _ I h) fun v s1 ⟨x, H1, I1, r1, q1⟩ => ?_) hs hw
  rw [h1]
  exact thn (hg pins s1 σ H1 x v _ I1 r1 q1) fun _ s2 q => q
/-- name = value -/
theorem ps_set {i : Nat} {x : Str} {e : Expr} {te : TE} {pos' : Pos} (hN : X.N.Nodup) (hi : X.N[i]? = some x) (hx : Loc X.env.scope x) (he : PE X e te) (hs : swapsWith e (some (.Name x pos')) pos.line X.env = pure false := by rfl) (hf : X.fn x = true ∨ X.env.scope.names.lookup x = some .local := by first | exact .inl rfl | exact .inr rfl | assumption) :
    PS X (.Assign [.Name x pos'] e pos) (tAsg te (gName i)) := by
  intro pins s σ H D I h
  refine wpAny_Assign_Name (thn (he pins s σ H _ I h) fun v s1 ⟨y, H1, I1, r1, q1⟩ => ?_) hs
  exact store_ok I1 hN hi hx r1 (fun s2 I2 => ⟨_, H1, I2, q1⟩) hf
/-- a, b = x, y with plain local names: stored from the right; the pair itself is not tracked (the opening rows as in PyProof/Rows/TupAssign.lean:23) -/
def tPar (i j : Nat) (ta : TA) : TS := fun D σ H => ta σ H fun vs H1 => ∃ v w, vs = [v, w] ∧ D.nx ((σ.set i (some v)).set j (some w)) H1
theorem ps_par {i j : Nat} {x y : Str} {a b : Expr} {ta : TA} {px py pt : Pos} {kt k2 pt2} (hc : X.calm = true) (hN : X.N.Nodup) (hi : X.N[i]? = some x) (hj : X.N[j]? = some y) (hij : i ≠ j)
    (hx : X.env.scope.names.lookup x = some .local) (hy : X.env.scope.names.lookup y = some .local) (ha : PA X [a, b] ta)
    (hw : swappedStores [.Tuple [.Name x px, .Name y py] kt pt] (.Tuple [a, b] k2 pt2) X.env = pure (some [x, y]))
    (hs : swapsWithSole [.Tuple [.Name x px, .Name y py] kt pt] (.Tuple [a, b] k2 pt2) pos.line X.env = pure false := by rfl) :
    PS X (.Assign [.Tuple [.Name x px, .Name y py] kt pt] (.Tuple [a, b] k2 pt2) pos) (tPar i j ta) := by
  intro pins s σ H D I h
  rw [exec_Assign_arm]
  refine wpAny_bind (wpAny_standAt ?_)
  rw [hs]
  refine wpAny_bind (wpAny_pure ?_)
  rw [if_neg (by decide)]
  refine wpAny_bind (Tuple_ (thn (ha _ pins s σ H _ I h) fun us s1 ⟨vs, H1, I1, r1, q1⟩ => ?_))
  obtain ⟨v, w, e1, q1⟩ := q1
  subst e1
  obtain ⟨u1, u2, rfl, rv, rw'⟩ : ∃ u1 u2, us = [u1, u2] ∧ RelV v u1 ∧ RelV w u2 := by
    cases r1 with
    | cons p q =>
      cases q with
      | cons p' q' =>
        cases q'
        exact ⟨_, _, rfl, p, p'⟩
  refine wpAny_newObj_type ?_ (by show 2 ≤ sizeLine; decide)
  have I2 : Inv X pins σ H1 { s1 with heap := s1.heap.push { cls := .type "tuple", data := .seq [u1, u2].toArray } } := I1.kept (t' := s1.toks) fun b o e => Heap.get?_push_of_some _ e
  rw [hw]
  refine wpAny_bind (wpAny_pure ?_)
  show wpAny (model X.prog X.w) X.A (do rule "assign.swapped-stores"; let items ← unpackItems (.ref s1.heap.objs.size) 2 none; assignInOrder [fun v => bindName X.env y v, fun v => bindName X.env x v] items.reverse; pure Flow.next) _ _ _
  refine wpAny_bind (wpAny_rule (wpAny_bind (unpackItems_tuple (items := #[u1, u2]) (I.ok.hd hc) (IsTup.new s1.heap _) fun h' hx' => ?_)))
  have I3 := I2.kept (h' := h') (t' := s1.toks) fun b o e => hx' b o (Nat.ne_of_lt (Heap.lt_size e)) e
  show wpAny _ _ (assignInOrder [fun v => bindName X.env y v, fun v => bindName X.env x v] [u2, u1] >>= fun _ => pure Flow.next) _ _ _
  refine wpAny_bind (assignInOrder_cons (wpAny_bindName (store_ok I3 hN hj (.inl hy) rw' (fun s2 I4 => ?_) (.inr hy))))
  refine assignInOrder_cons (wpAny_bindName (store_ok I4 hN hi (.inl hx) rv (fun s3 I5 => assignInOrder_nil (wpAny_pure ?_)) (.inr hx)))
  rw [List.set_comm _ _ (Ne.symm hij)] at I5
  exact ⟨_, H1, I5, q1⟩
/-- name op= e -/
def tAug (i : Nat) (te : TE) (ti : TIp) : TS := fun D σ H => ∃ x, σ[i]? = some (some x) ∧ te σ H fun y H1 => ti x y H1 fun z H2 => D.nx (σ.set i (some z)) H2
theorem ps_aug {i : Nat} {x : Str} {e : Expr} {te : TE} {op : Operator} {ti : TIp} {pos' : Pos} (hN : X.N.Nodup) (hi : X.N[i]? = some x) (hx : Loc X.env.scope x) (he : PE X e te) (ho : PIp X op ti) (hf : X.fn x = true ∨ X.env.scope.names.lookup x = some .local := by first | exact .inl rfl | exact .inr rfl | assumption) :
    PS X (.AugAssign (.Name x pos') op e pos) (tAug i te ti) := by
  intro pins s σ H D I h
  obtain ⟨v, e1, h⟩ := h
  obtain ⟨m, hn, hl⟩ := I.loc
  have vis : Vis X.env.scope x := by rcases hx with k | k; exact .inl k; exact .inr (.inl k)
  obtain ⟨u, r, l⟩ := hl i x v hi e1 vis
  refine wpAny_AugAssign_Name ?_
  have go : wpAny (model X.prog X.w) X.A (eval e X.env) (fun w s₂ => wpAny (model X.prog X.w) X.A (inplaceOp op u w) (fun r s₃ => wpAny (model X.prog X.w) X.A (storeName X.env x r) (fun _ => SP X pins D .next) X.xe s₃) X.xe s₂) X.xe s := by
    refine thn (he pins s σ H _ I h) fun w s1 ⟨y, H1, I1, r1, q1⟩ => ?_
    refine thn (ho pins s1 σ H1 v y u w _ I1 r r1 q1) fun z s2 ⟨zv, H2, I2, r2, q2⟩ => ?_
    exact store_ok I2 hN hi hx r2 (fun s3 I3 => ⟨_, H2, I3, q2⟩) hf
  rcases l with ⟨hk, hm⟩ | ⟨hk, c, hc, hcell⟩
  · exact wpAny_loadName_local I.ok.kind hk hn hm go
  · rcases hk with hk | hk
    · exact wpAny_loadName_cell I.ok.kind hk hc hcell go
    · rcases hx with k | k
      · have : X.env.scope.names.lookup x = some .free := hk
        rw [k] at this; cases this
      · have : X.env.scope.names.lookup x = some .free := hk
        rw [k] at this; cases this
/-- o[i] op= e -/
def tAugS (to ti te : TE) (tget : V → V → Hp → VK → Prop) (tip : TIp) (tset : TSet) : TS := fun D σ H => to σ H fun o H1 => ti σ H1 fun i H2 => tget o i H2 fun x H3 => te σ H3 fun y H4 => tip x y H4 fun z H5 => tset o i z H5 fun H6 => D.nx σ H6
/-- o[i], by values -/
def PGet (X : Cx) (t : V → V → Hp → VK → Prop) : Prop :=
  ∀ (pins : List (Addr × Obj)) (s : Shared) (σ : St) (H : Hp) (o i : V) (ov iv : Value) (Q : VK), Inv X pins σ H s → RelV o ov → RelV i iv → t o i H Q →
    wpAny (model X.prog X.w) X.A (getItem ov iv) (EP X pins σ Q) X.xe s
theorem ps_augS {o i e : Expr} {to ti te : TE} {tget : V → V → Hp → VK → Prop} {tip : TIp} {tset : TSet} {op : Operator} {tpos : Pos} (ho : PE X o to) (hi : PE X i ti) (hg : PGet X tget) (he : PE X e te) (hp : PIp X op tip) (hs : PSet X tset)
    (ha : ∀ ov iv new, augStore i ov iv new = (do holding [new, ov, iv] (setItem ov iv new); release [new, ov, iv] []; pure .next) := by intros; rfl) : PS X (.AugAssign (.Subscript o i tpos) op e pos) (tAugS to ti te tget tip tset) := by
  intro pins s σ H D I h
  refine wpAny_AugAssign_SubscriptAny (thn (ho pins s σ H _ I h) fun ov s1 ⟨x1, H1, I1, r1, q1⟩ => ?_) ha
  refine thn (hi pins s1 σ H1 _ I1 q1) fun iv s2 ⟨x2, H2, I2, r2, q2⟩ => ?_
  refine thn (hg pins s2 σ H2 x1 x2 ov iv _ I2 r1 r2 q2) fun old s3 ⟨x3, H3, I3, r3, q3⟩ => ?_
  refine thn (he pins s3 σ H3 _ I3 q3) fun v s4 ⟨x4, H4, I4, r4, q4⟩ => ?_
  refine thn (hp pins s4 σ H4 x3 x4 old v _ I4 r3 r4 q4) fun new s5 ⟨x5, H5, I5, r5, q5⟩ => ?_
  exact thn (hs pins s5 σ H5 x1 x2 x5 ov iv new _ I5 r1 r2 r5 q5) fun _ s6 ⟨H6, I6, q6⟩ => ⟨σ, H6, I6, q6⟩
/-- ints -/
def ipI (f : Int → Int → Int) : TIp := fun x y H Q => ∃ i j, x = .int i ∧ y = .int j ∧ Q (.int (f i j)) H
theorem ip_add : PIp X .Add (ipI fun i j => i + j) := by
  intro pins s σ H x y v u Q I r1 r2 h
  obtain ⟨i, j, e1, e2, q⟩ := h
  subst e1; subst e2
  obtain ⟨t, rfl⟩ := r1
  obtain ⟨t', rfl⟩ := r2
  exact iadd_int ⟨.int _, H, I.tok _, ⟨_, rfl⟩, q⟩
theorem ip_sub : PIp X .Sub (ipI fun i j => i - j) := by
  intro pins s σ H x y v u Q I r1 r2 h
  obtain ⟨i, j, e1, e2, q⟩ := h
  subst e1; subst e2
  obtain ⟨t, rfl⟩ := r1
  obtain ⟨t', rfl⟩ := r2
  exact isub_int ⟨.int _, H, I.tok _, ⟨_, rfl⟩, q⟩
end

/-! ### while -/
section
variable {X : Cx} {pos : Pos}
/-- the invariant W with its measure -/
def tWhile (c : TT) (tb : TS) : TS := fun D σ H => ∃ W : Nat → St → Hp → Prop, (∃ m, W m σ H) ∧ ∀ m σ H, W m σ H →
  c σ H fun b H1 => if b = true then ∃ N : St → Hp → Prop, (∀ σ' H', N σ' H' → ∃ m', m' < m ∧ W m' σ' H') ∧ tb { D with nx := N, ct := N, bk := D.nx } σ H1 else D.nx σ H1
theorem ps_while {c : Expr} {body : List Stmt} {tc : TT} {tb : TS} (hp : PassesOwn (model X.prog X.w) X.A X.env X.xe) (hc : PT X c tc) (hb : PSs X body tb) : PS X (.While c body [] pos) (tWhile tc tb) := by
  intro pins s σ H D I h
  obtain ⟨W, ⟨m0, w0⟩, turn⟩ := h
  refine wpAny_While (codeAny_whileLoop (fun n s' => ∃ σ' H', Inv X pins σ' H' s' ∧ W n σ' H') ?_ m0 ⟨σ, H, I, w0⟩)
  rintro n s1 ⟨σ1, H1, I1, w1⟩
  refine wpAny_passesOwn hp (thn (hc pins s1 σ1 H1 _ I1 (turn n σ1 H1 w1)) fun b s2 ⟨H2, I2, q2⟩ => ?_)
  cases b with
  | true =>
    obtain ⟨N, hN, q2⟩ := q2
    rw [if_pos rfl]
    refine wpAny_passesOwn hp (thn (hb pins s2 σ1 H2 _ I2 q2) fun f s3 q3 => ?_)
    cases f with
    | next =>
      obtain ⟨σ3, H3, I3, n3⟩ := q3
      obtain ⟨m', hm, w3⟩ := hN σ3 H3 n3
      exact ⟨m', hm, σ3, H3, I3, w3⟩
    | cont =>
      obtain ⟨σ3, H3, I3, n3⟩ := q3
      obtain ⟨m', hm, w3⟩ := hN σ3 H3 n3
      exact ⟨m', hm, σ3, H3, I3, w3⟩
    | brk => exact q3
    | ret v => exact q3
  | false =>
    rw [if_neg Bool.false_ne_true]
    exact wpAny_execs_nil ⟨σ1, H2, I2, q2⟩
end

/-! ### what a loop or a comprehension walks -/
/-- at turn i: it yields x (the heap may grow), or it stops -/
structure It where
  go : Nat → Hp → Prop
  yld : Nat → Hp → V → Hp → Prop
  stop : Nat → Hp → Prop
/-- the iterator's own objects may turn: they are not the frame's, not pinned, younger than the entry (or a comprehension's own) -/
def FpOk (X : Cx) (pins : List (Addr × Obj)) (H : Hp) (b : Addr) : Prop :=
  H b = none ∧ b ≠ X.env.locals ∧ b ∉ X.fs ∧ (b ∈ X.ex ∨ X.s₀.heap.objs.size ≤ b) ∧ (∀ x c, X.env.cells.lookup x = some c → c ≠ b) ∧ ∀ p ∈ X.pn ++ pins, p.1 ≠ b
theorem Inv.fpOk {X : Cx} {pins : List (Addr × Obj)} {σ : St} {H H' : Hp} {s : Shared} {b : Addr} (I : Inv X pins σ H s) (hb : s.heap.objs.size ≤ b) (hn : H' b = none) : FpOk X pins H' b := by
  refine ⟨hn, Nat.ne_of_gt (Nat.lt_of_lt_of_le I.lt hb), I.nofs hb, .inr (Nat.le_trans I.sz hb), fun x c e z => ?_, fun p hp z => ?_⟩
  · obtain ⟨v, q⟩ := I.cell x c e
    exact absurd (Nat.lt_of_lt_of_le q.lt (by rw [z]; exact hb)) (Nat.lt_irrefl _)
  · exact absurd (Nat.lt_of_lt_of_le (Heap.lt_size (I.pin p hp).1) (by rw [z]; exact hb)) (Nat.lt_irrefl _)
structure Turn (P : Program) (w : World) (K : PySem.W.Frag) (tg : Expr) (J : It) (fp : List Addr) (it : Addr) (tn : Nat → Heap → Prop) : Prop where
  mem : it ∈ fp
  obj : ∀ i h, tn i h → ∀ b ∈ fp, ∃ o, h.get? b = some o ∧ ∀ v, o.data ≠ .cell v
  keep : ∀ i h h', tn i h → (∀ b ∈ fp, ∀ o, h.get? b = some o → h'.get? b = some o) → tn i h'
  item : ∀ (X : Cx), X.prog = P → X.w = w → X.K = K → X.calm = true → ∀ (i : Nat) (pins : List (Addr × Obj)) (s : Shared) (σ : St) (H : Hp) (E : Value → Shared → Prop), Inv X pins σ H s → (∀ b ∈ fp, FpOk X pins H b) → tn i s.heap → J.go i H →
    wpAny (model P w) X.A (pyNext (.ref it)) (fun r s1 => ∃ u, r = some u ∧
      wpAny (model P w) X.A (letOwnedTupleGo tg (.ref it) u) (fun _ s2 => ∃ x H', Inv X pins σ H' s2 ∧ RelV x u ∧ J.yld i H x H' ∧ tn (i + 1) s2.heap ∧ ∀ b ∈ fp, H' b = none) E s1) E s
  done : ∀ (X : Cx), X.prog = P → X.w = w → X.K = K → X.calm = true → ∀ (i : Nat) (pins : List (Addr × Obj)) (s : Shared) (σ : St) (H : Hp) (E : Value → Shared → Prop), Inv X pins σ H s → (∀ b ∈ fp, FpOk X pins H b) → tn i s.heap → J.stop i H →
    wpAny (model P w) X.A (pyNext (.ref it)) (fun r s1 => r = none ∧ Inv X pins σ H s1) E s
  self : ∀ (A : Around) (i : Nat) (s : Shared) (Q : Value → Shared → Prop) (E : Value → Shared → Prop), tn i s.heap → Q (.ref it) s → wpAny (model P w) A (pyIter (.ref it)) Q E s
abbrev TI := St → Hp → (It → Hp → Prop) → Prop
/-- an iterator has come -/
def PIE (X : Cx) (pins : List (Addr × Obj)) (σ : St) (tg : Expr) (R : It → Hp → Prop) (itv : Value) (s2 : Shared) : Prop :=
  ∃ (it : Addr) (fp : List Addr) (tn : Nat → Heap → Prop) (J : It) (H' : Hp), itv = .ref it ∧ Inv X pins σ H' s2 ∧ Turn X.prog X.w X.K tg J fp it tn ∧ tn 0 s2.heap ∧ (∀ b ∈ fp, FpOk X pins H' b) ∧ R J H'
def PI (X : Cx) (tg iter : Expr) (wi : TI) : Prop :=
  ∀ (pins : List (Addr × Obj)) (s : Shared) (σ : St) (H : Hp) (R : It → Hp → Prop), Inv X pins σ H s → wi σ H R →
    wpAny (model X.prog X.w) X.A (eval iter X.env) (fun v s1 => wpAny (model X.prog X.w) X.A (pyIter v) (PIE X pins σ tg R) X.xe s1) X.xe s

/-- the step ahead of the store is nothing for an iterator that keeps no tuple -/
theorem go_of {M : Model} {A : Around} {E : Value → Shared → Prop} {s : Shared} {tg : Expr} {it : Addr} {u : Value} {o : Obj} {n : String} {vs : Array Value} {Q : Unit → Shared → Prop} (ho : s.heap.get? it = some o) (hc : o.cls = .type n) (hd : o.data = .fields vs)
    (hn : ["enumerate", "zip", "dict_itemiterator", "dict_reverseitemiterator", "odict_iterator", "itertools.zip_longest", "itertools.pairwise"].contains n = false) (hQ : Q () s) : wpAny M A (letOwnedTupleGo tg (.ref it) u) Q E s := by
  unfold letOwnedTupleGo
  cases tg <;> first
    | exact wpAny_pure hQ
    | (cases u <;> first
        | exact wpAny_pure hQ
        | (refine wpAny_bind (wpAny_load ho ?_)
           rw [hc, hd]
           show wpAny M A (if (["enumerate", "zip", "dict_itemiterator", "dict_reverseitemiterator", "odict_iterator", "itertools.zip_longest", "itertools.pairwise"].contains n && vs[0]? == some (rawInt _)) = true then _ else _) Q E s
           rw [if_neg (by intro h; rw [hn, Bool.false_and] at h; cases h)]
           exact wpAny_pure hQ))

/-- the list at a, as it stands at each turn (a loop may append to it) -/
def Itl (K : PySem.W.Frag) (a : Addr) : It :=
  ⟨fun i H => ∃ xs x, SqL K H a xs ∧ xs[i]? = some x, fun i H x H' => H' = H ∧ ∀ xs, SqL K H a xs → xs[i]? = some x, fun i H => ∃ xs, SqL K H a xs ∧ xs.length ≤ i⟩
def Itt (K : PySem.W.Frag) (a : Addr) : It :=
  ⟨fun i H => ∃ xs x, SqT K H a xs ∧ xs[i]? = some x, fun i H x H' => H' = H ∧ ∀ xs, SqT K H a xs → xs[i]? = some x, fun i H => ∃ xs, SqT K H a xs ∧ xs.length ≤ i⟩
/-- lo, lo + 1, .. (n of them) -/
def Itr (lo : Int) (n : Nat) : It := ⟨fun i _ => i < n, fun i H x H' => H' = H ∧ x = .int (lo + i), fun i _ => n ≤ i⟩
theorem turn_list {P : Program} {w : World} {K : PySem.W.Frag} {tg : Expr} (a it : Addr) : Turn P w K tg (Itl K a) [it] it (fun i h => h.IsListIter it a i) where
  mem := by simp
  obj := fun i h st b hb => by
    have e : b = it := by simpa using hb
    subst e
    obtain ⟨o, e, c, d⟩ := st
    exact ⟨o, e, fun v z => by rw [d] at z; cases z⟩
  keep := fun i h h' st k => st.at fun o e => k it (by simp) o e
  item := by
    intro X hP hw hK hc i pins s σ H E I hf st hg
    subst hP hw hK
    obtain ⟨xs, x, hq, hx⟩ := hg
    obtain ⟨its, rv, p, hz⟩ := I.list hq
    obtain ⟨u, hu, ru⟩ := rv.get hx
    obtain ⟨f0, f1, f2, f3, f4, f5⟩ := hf it (by simp)
    refine wpAny_pyNext_list_item st p.isList (x := u) (by simpa using hu) fun h' st' sb => ?_
    have I1 : Inv X pins σ H { s with heap := h' } := I.turned (t' := s.toks) (fun b o hb e => (sb.2 b hb).trans e) f0 f1 f3 f4 f5
    obtain ⟨o, e, c, d⟩ := id st'
    exact ⟨u, rfl, go_of (s := { s with heap := h' }) e c d (by decide) ⟨x, H, I1, ru, ⟨rfl, fun ys hy => by rw [I.list_inj hy hq]; exact hx⟩, st', fun b hb => (hf b hb).1⟩⟩
  done := by
    intro X hP hw hK hc i pins s σ H E I hf st hg
    subst hP hw hK
    obtain ⟨xs, hq, hx⟩ := hg
    obtain ⟨its, rv, p, hz⟩ := I.list hq
    obtain ⟨f0, f1, f2, f3, f4, f5⟩ := hf it (by simp)
    have hl := rv.length
    exact wpAny_pyNext_list_end (I.ok.hd hc) st p.isList (by simp; omega) fun h' eb => ⟨rfl, I.turned (t' := s.toks) (fun b o hb e => eb b o hb e) f0 f1 f3 f4 f5⟩
  self := fun _ _ _ _ _ st h => wpAny_pyIter_listiter st h
theorem turn_tuple {P : Program} {w : World} {K : PySem.W.Frag} {tg : Expr} (a it : Addr) : Turn P w K tg (Itt K a) [it] it (fun i h => h.IsTupleIter it a i) where
  mem := by simp
  obj := fun i h st b hb => by
    have e : b = it := by simpa using hb
    subst e
    obtain ⟨o, e, c, d⟩ := st
    exact ⟨o, e, fun v z => by rw [d] at z; cases z⟩
  keep := fun i h h' st k => st.at fun o e => k it (by simp) o e
  item := by
    intro X hP hw hK hc i pins s σ H E I hf st hg
    subst hP hw hK
    obtain ⟨xs, x, hq, hx⟩ := hg
    obtain ⟨its, rv, p, hz⟩ := I.tuple hq
    obtain ⟨u, hu, ru⟩ := rv.get hx
    obtain ⟨f0, f1, f2, f3, f4, f5⟩ := hf it (by simp)
    refine wpAny_pyNext_tuple_item st (show s.heap.IsTuple a its.toArray from p) (x := u) (by simpa using hu) fun h' st' sb => ?_
    have I1 : Inv X pins σ H { s with heap := h' } := I.turned (t' := s.toks) (fun b o hb e => (sb.2 b hb).trans e) f0 f1 f3 f4 f5
    obtain ⟨o, e, c, d⟩ := id st'
    exact ⟨u, rfl, go_of (s := { s with heap := h' }) e c d (by decide) ⟨x, H, I1, ru, ⟨rfl, fun ys hy => by rw [I.tuple_inj hy hq]; exact hx⟩, st', fun b hb => (hf b hb).1⟩⟩
  done := by
    intro X hP hw hK hc i pins s σ H E I hf st hg
    subst hP hw hK
    obtain ⟨xs, hq, hx⟩ := hg
    obtain ⟨its, rv, p, hz⟩ := I.tuple hq
    obtain ⟨f0, f1, f2, f3, f4, f5⟩ := hf it (by simp)
    have hl := rv.length
    exact wpAny_pyNext_tuple_end (I.ok.hd hc) st (show s.heap.IsTuple a its.toArray from p) (by simp; omega) fun h' eb => ⟨rfl, I.turned (t' := s.toks) (fun b o hb e => eb b o hb e) f0 f1 f3 f4 f5⟩
  self := fun _ _ _ _ _ st h => wpAny_pyIter_tupleiter st h
theorem turn_range {P : Program} {w : World} {K : PySem.W.Frag} {tg : Expr} (it : Addr) (lo : Int) (n : Nat) : Turn P w K tg (Itr lo n) [it] it (fun i h => IsRangeIter h it (lo + (i : Nat) * 1) ((n : Int) - (i : Nat)) 1) where
  mem := by simp
  obj := fun i h st b hb => by
    have e : b = it := by simpa using hb
    subst e
    exact ⟨_, st, fun v z => by
      have z' : Data.fields _ = Data.cell v := z
      cases z'⟩
  keep := fun i h h' st k => k it (by simp) _ st
  item := by
    intro X hP hw hK hc i pins s σ H E I hf st hg
    subst hP hw hK
    obtain ⟨f0, f1, f2, f3, f4, f5⟩ := hf it (by simp)
    have W := Walks.range (prog := X.prog) (w := X.w) (I.ok.hd hc) it lo 1 n
    refine W.item i s _ _ hg st fun v h' tk hv st' kk => ?_
    obtain ⟨t, rfl⟩ := hv
    have I1 : Inv X pins σ H { s with heap := h', toks := tk } := I.turned (fun b o hb e => kk b o (by simpa using hb) e) f0 f1 f3 f4 f5
    refine ⟨_, rfl, go_of (s := { s with heap := h', toks := tk }) (n := "range_iterator") st' rfl rfl (by decide) ⟨.int (lo + i), H, I1, ⟨t, ?_⟩, ⟨rfl, rfl⟩, st', fun b hb => (hf b hb).1⟩⟩
    rw [Int.mul_one]
  done := by
    intro X hP hw hK hc i pins s σ H E I hf st hg
    subst hP hw hK
    obtain ⟨f0, f1, f2, f3, f4, f5⟩ := hf it (by simp)
    exact wpAny_pyNext_range_end (I.ok.hd hc) st (by have : n ≤ i := hg; omega) fun h' eb => ⟨rfl, I.turned (t' := s.toks) (fun b o hb e => eb b o hb e) f0 f1 f3 f4 f5⟩
  self := fun _ _ _ _ _ st h => wpAny_pyIter_rangeiter st h
end L2

namespace L2
open PySem PySem.Spec PyProof.Rows
section
variable {X : Cx} {tg : Expr}
def iList (K : PySem.W.Frag) (tl : TE) : TI := fun σ H R => tl σ H fun x H1 => ∃ a, x = .ref a ∧ (∃ xs, SqL K H1 a xs) ∧ R (Itl K a) H1
def iTup (K : PySem.W.Frag) (tl : TE) : TI := fun σ H R => tl σ H fun x H1 => ∃ a, x = .ref a ∧ (∃ xs, SqT K H1 a xs) ∧ R (Itt K a) H1
theorem pi_list {l : Expr} {tl : TE} (hl : PE X l tl) : PI X tg l (iList X.K tl) := by
  intro pins s σ H R I h
  refine thn (hl pins s σ H _ I h) fun v s1 ⟨x, H1, I1, r1, q1⟩ => ?_
  obtain ⟨a, e, ⟨xs, hq⟩, q⟩ := q1
  subst e
  cases r1
  obtain ⟨its, rv, p, hz⟩ := I1.list hq
  refine wpAny_pyIter_list p.isList ?_
  refine ⟨s1.heap.objs.size, [s1.heap.objs.size], _, _, H1, rfl, I1.kept (t' := s1.toks) fun b o e => Heap.get?_push_of_some _ e, turn_list a _, ⟨_, Heap.get?_push_size _ rfl, rfl, rfl⟩, fun b hb => ?_, q⟩
  have e : b = s1.heap.objs.size := by simpa using hb
  subst e
  exact I1.fpOk (Nat.le_refl _) (I1.hok.fresh (Nat.le_refl _))
theorem pi_tup {l : Expr} {tl : TE} (hl : PE X l tl) : PI X tg l (iTup X.K tl) := by
  intro pins s σ H R I h
  refine thn (hl pins s σ H _ I h) fun v s1 ⟨x, H1, I1, r1, q1⟩ => ?_
  obtain ⟨a, e, ⟨xs, hq⟩, q⟩ := q1
  subst e
  cases r1
  obtain ⟨its, rv, p, hz⟩ := I1.tuple hq
  refine wpAny_pyIter_tuple (show s1.heap.IsTuple a its.toArray from p) ?_
  refine ⟨s1.heap.objs.size, [s1.heap.objs.size], _, _, H1, rfl, I1.kept (t' := s1.toks) fun b o e => Heap.get?_push_of_some _ e, turn_tuple a _, ⟨_, Heap.get?_push_size _ rfl, rfl, rfl⟩, fun b hb => ?_, q⟩
  have e : b = s1.heap.objs.size := by simpa using hb
  subst e
  exact I1.fpOk (Nat.le_refl _) (I1.hok.fresh (Nat.le_refl _))
/-- a range object just made, walked -/
theorem range_it {pins : List (Addr × Obj)} {σ : St} {H : Hp} {s : Shared} {R : It → Hp → Prop} {E : Value → Shared → Prop} {lo hi : Int} {t u v : Tok} {tk : Nat} (I : Inv X pins σ H s) (h1 : -(2 ^ 62) ≤ lo) (h2 : lo < 2 ^ 62) (h3 : -(2 ^ 62) ≤ hi) (h4 : hi < 2 ^ 62)
    (q : R (Itr lo (hi - lo).toNat) H) : wpAny (model X.prog X.w) X.A (pyIter (.ref s.heap.objs.size)) (PIE X pins σ tg R) E { s with heap := s.heap.push { cls := .type "range", data := .fields #[.int lo t, .int hi u, .int 1 v] }, toks := tk } := by
  refine wpAny_pyIter_range (IsRange.new ..) (small_one h1 h2 h3 h4) ?_
  have I1 : Inv X pins σ H { s with heap := s.heap.push { cls := .type "range", data := .fields #[.int lo t, .int hi u, .int 1 v] }, toks := tk } := I.kept fun b o e => Heap.get?_push_of_some _ e
  refine ⟨(s.heap.push { cls := .type "range", data := .fields #[.int lo t, .int hi u, .int 1 v] }).objs.size, [(s.heap.push { cls := .type "range", data := .fields #[.int lo t, .int hi u, .int 1 v] }).objs.size], _, _, H, rfl,
    I1.kept (t' := tk) fun b o e => Heap.get?_push_of_some _ e, turn_range _ lo (hi - lo).toNat, ?_, fun b hb => ?_, q⟩
  · have e1 : lo + ((0 : Nat) : Int) * 1 = lo := by simp
    have e2 : (((hi - lo).toNat : Nat) : Int) - ((0 : Nat) : Int) = Builtin.Range.rangeSize lo hi 1 := by rw [rangeSize_one]; split <;> omega
    show IsRangeIter _ _ (lo + ((0 : Nat) : Int) * 1) ((((hi - lo).toNat : Nat) : Int) - ((0 : Nat) : Int)) 1
    rw [e1, e2]
    exact Heap.get?_push_size _ rfl
  · have e : b = (s.heap.push { cls := .type "range", data := .fields #[.int lo t, .int hi u, .int 1 v] }).objs.size := by simpa using hb
    subst e
    exact I1.fpOk (Nat.le_refl _) (I1.hok.fresh (Nat.le_refl _))
def iRng1 (ta : TA) : TI := fun σ H R => ta σ H fun vs H1 => ∃ j : Int, vs = [.int j] ∧ -(2 ^ 62) ≤ j ∧ j < 2 ^ 62 ∧ R (Itr 0 j.toNat) H1
def iRng2 (ta : TA) : TI := fun σ H R => ta σ H fun vs H1 => ∃ i j : Int, vs = [.int i, .int j] ∧ (-(2 ^ 62) ≤ i ∧ i < 2 ^ 62 ∧ -(2 ^ 62) ≤ j ∧ j < 2 ^ 62) ∧ R (Itr i (j - i).toNat) H1
theorem pi_range1 {a : Expr} {ta : TA} {p pos : Pos} (hg : Gl X "range") (hm : X.mg "range" = none) (ha : PA X [a] ta) (hs : starEach [a] X.env = [(false, eval a X.env)] := by rfl) : PI X tg (.Call (.Name "range" p) [a] [] pos) (iRng1 ta) := by
  intro pins s σ H R I h
  refine Call_ (ld_blt I hg hm boot_range (PyProof.Rows.callWith_type1 (thn (ha pos pins s σ H _ I h) fun us s1 ⟨vs, H1, I1, r1, q1⟩ => ?_) hs rfl))
  obtain ⟨j, e, q1, q2, q⟩ := q1
  subst e
  cases r1 with
  | cons r rr =>
    cases rr
    obtain ⟨t, rfl⟩ := r
    exact call_range_1 (range_it I1 (by omega) (by omega) q1 q2 (by simpa using q))
theorem pi_range2 {a b : Expr} {ta : TA} {p pos : Pos} (hg : Gl X "range") (hm : X.mg "range" = none) (ha : PA X [a, b] ta) (hs : starEach [a, b] X.env = [(false, eval a X.env), (false, eval b X.env)] := by rfl) (hs2 : starEach [b] X.env = [(false, eval b X.env)] := by rfl) :
    PI X tg (.Call (.Name "range" p) [a, b] [] pos) (iRng2 ta) := by
  intro pins s σ H R I h
  refine Call_ (ld_blt I hg hm boot_range (PyProof.Rows.callWith_type1 (thn (ha pos pins s σ H _ I h) fun us s1 ⟨vs, H1, I1, r1, q1⟩ => ?_) (by rw [hs, hs2]) (by rw [hs2]; rfl)))
  obtain ⟨i, j, e, ⟨q1, q2, q3, q4⟩, q⟩ := q1
  subst e
  cases r1 with
  | cons r rr =>
    cases rr with
    | cons r' rr =>
      cases rr
      obtain ⟨t, rfl⟩ := r
      obtain ⟨t', rfl⟩ := r'
      exact call_range_2 (range_it I1 q1 q2 q3 q4 q)

/-! ### for -/
/-- W: the invariant by the turn and a measure; N: what the body is to reach -/
def tFor (wi : TI) (g : TG) (tb : TS) : TS := fun D σ H => wi σ H fun J H1 => ∃ W : Nat → Nat → St → Hp → Prop, (∃ m, W 0 m σ H1) ∧ ∀ i m σ H, W i m σ H →
  (J.stop i H ∧ D.nx σ H) ∨ (J.go i H ∧ ∃ N : St → Hp → Prop, (∀ σ' H', N σ' H' → ∃ m', m' < m ∧ W (i + 1) m' σ' H') ∧ ∀ x H', J.yld i H x H' → g x σ H' fun σ2 H2 => tb { D with nx := N, ct := N, bk := D.nx } σ2 H2)
/-- the records at fp as they stand -/
def pinsAt (fp : List Addr) (h : Heap) : List (Addr × Obj) := fp.filterMap fun b => (h.get? b).map fun o => (b, o)
theorem mem_pinsAt {fp : List Addr} {h : Heap} {b : Addr} {o : Obj} (hb : b ∈ fp) (e : h.get? b = some o) : (b, o) ∈ pinsAt fp h := List.mem_filterMap.mpr ⟨b, hb, by rw [e]; rfl⟩
theorem of_pinsAt {fp : List Addr} {h : Heap} {p : Addr × Obj} (hp : p ∈ pinsAt fp h) : p.1 ∈ fp ∧ h.get? p.1 = some p.2 := by
  obtain ⟨b, hb, e⟩ := List.mem_filterMap.mp hp
  cases q : h.get? b with
  | none => rw [q] at e; cases e
  | some o =>
    rw [q] at e
    have e' : (b, o) = p := Option.some.inj e
    subst e'
    exact ⟨hb, q⟩
theorem Inv.pinned {pins : List (Addr × Obj)} {σ : St} {H : Hp} {s : Shared} {fp : List Addr} (I : Inv X pins σ H s) (hf : ∀ b ∈ fp, FpOk X pins H b) (ho : ∀ b ∈ fp, ∃ o, s.heap.get? b = some o ∧ ∀ v, o.data ≠ .cell v) : Inv X (pins ++ pinsAt fp s.heap) σ H s :=
  I.pins_of fun p hp => (List.mem_append.mp hp).elim (fun z => I.pin p (List.mem_append_right _ z)) fun z => by
    obtain ⟨hb, e⟩ := of_pinsAt z
    obtain ⟨f0, f1, f2, _⟩ := hf p.1 hb
    obtain ⟨o, e', d⟩ := ho p.1 hb
    rw [e] at e'; cases e'
    exact ⟨e, f0, f1, f2, d⟩
theorem Inv.unpinned {pins pl : List (Addr × Obj)} {σ : St} {H : Hp} {s : Shared} (I : Inv X (pins ++ pl) σ H s) : Inv X pins σ H s := I.pins_of fun p hp => I.pin p (List.mem_append_right _ (List.mem_append_left _ hp))
theorem ps_for {iter : Expr} {body : List Stmt} {wi : TI} {g : TG} {tb : TS} {pos : Pos} (hp : PassesOwn (model X.prog X.w) X.A X.env X.xe) (hc : X.calm = true) (hi : PI X tg iter wi) (hg : PG X tg g) (hb : PSs X body tb)
    (hs : ∀ x, foldedSetIterable iter X.env x = pure x := by intro _; rfl) : PS X (.For tg iter body [] pos) (tFor wi g tb) := by
  intro pins s σ H D I h
  refine wpAny_For (thn (hi pins s σ H _ I h) fun v s1 h1 => thn h1 fun itv s2 h2 => ?_) hs
  obtain ⟨it, fp, tn, J, H2, e, I2, T, st2, f2, W, ⟨m0, w0⟩, turn⟩ := h2
  subst e
  -- what stays true of the iterator's objects through the loop
  have stat : ∀ {H' : Hp}, (∀ b ∈ fp, H' b = none) → ∀ b ∈ fp, FpOk X pins H' b := fun hn b hb => ⟨hn b hb, (f2 b hb).2⟩
  refine codeAny_forLoop_any (fun n s' => ∃ i σ' H', Inv X pins σ' H' s' ∧ tn i s'.heap ∧ (∀ b ∈ fp, H' b = none) ∧ W i n σ' H') ?_ m0 ⟨0, σ, H2, I2, st2, fun b hb => (f2 b hb).1, w0⟩
  rintro n s3 ⟨i, σ3, H3, I3, st3, fr3, w3⟩
  rcases turn i n σ3 H3 w3 with ⟨stop, qn⟩ | ⟨go, N, hN, step⟩
  · refine wpAny_passesOwn hp (thn (T.done X rfl rfl rfl hc i pins s3 σ3 H3 X.xe I3 (stat fr3) st3 stop) fun r s4 ⟨hr, I4⟩ => ?_)
    subst hr
    exact wpAny_execs_nil ⟨σ3, H3, I4, qn⟩
  · refine wpAny_passesOwn hp (thn (T.item X rfl rfl rfl hc i pins s3 σ3 H3 X.xe I3 (stat fr3) st3 go) fun r s4 ⟨u, hr, h4⟩ => ?_)
    subst hr
    refine wpAny_passesOwn hp (thn h4 fun _ s5 ⟨x, H5, I5, r5, y5, st5, fr5⟩ => ?_)
    have I5' := I5.pinned (stat fr5) (T.obj _ _ st5)
    refine wpAny_passesOwn hp (thn (hg _ s5 σ3 H5 x u _ I5' r5 (step x H5 y5)) fun _ s6 ⟨σ6, H6, I6, q6⟩ => ?_)
    refine wpAny_passesOwn hp (thn (hb _ s6 σ6 H6 _ I6 q6) fun f s7 q7 => ?_)
    have again : ∀ {σ7 : St} {H7 : Hp}, Inv X (pins ++ pinsAt fp s5.heap) σ7 H7 s7 → N σ7 H7 → ∃ m, m < n ∧ ∃ i σ' H', Inv X pins σ' H' s7 ∧ tn i s7.heap ∧ (∀ b ∈ fp, H' b = none) ∧ W i m σ' H' := fun {σ7 H7} I7 n7 => by
      obtain ⟨m', hm, w7⟩ := hN σ7 H7 n7
      refine ⟨m', hm, i + 1, σ7, H7, I7.unpinned, T.keep _ _ _ st5 fun b hb o e => (I7.pin (b, o) (List.mem_append_right _ (List.mem_append_right _ (mem_pinsAt hb e)))).1, fun b hb => ?_, w7⟩
      obtain ⟨o, e, d⟩ := T.obj _ _ st5 b hb
      exact (I7.pin (b, o) (List.mem_append_right _ (List.mem_append_right _ (mem_pinsAt hb e)))).2.1
    cases f with
    | next => obtain ⟨σ7, H7, I7, n7⟩ := q7; exact again I7 n7
    | cont => obtain ⟨σ7, H7, I7, n7⟩ := q7; exact again I7 n7
    | brk => obtain ⟨σ7, H7, I7, q7⟩ := q7; exact ⟨σ7, H7, I7.unpinned, q7⟩
    | ret v => obtain ⟨x7, σ7, H7, I7, r7, q7⟩ := q7; exact ⟨x7, σ7, H7, I7.unpinned, r7, q7⟩
end

/-! ### the forms one uses -/
/-- over a list that the body leaves as it is -/
theorem for_list {K : PySem.W.Frag} {a : Addr} {xs : List V} {g : TG} {tb : TS} {D : Ends} {σ : St} {H : Hp} (Pv : Nat → St → Hp → Prop) (h0 : Pv 0 σ H) (hl : ∀ i σ H, i ≤ xs.length → Pv i σ H → SqL K H a xs)
    (hs : ∀ i x σ H, xs[i]? = some x → Pv i σ H → g x σ H fun σ2 H2 => tb { D with nx := Pv (i + 1), ct := Pv (i + 1), bk := D.nx } σ2 H2) (hd : ∀ σ H, Pv xs.length σ H → D.nx σ H) :
    ∃ W : Nat → Nat → St → Hp → Prop, (∃ m, W 0 m σ H) ∧ ∀ i m σ H, W i m σ H →
      ((Itl K a).stop i H ∧ D.nx σ H) ∨ ((Itl K a).go i H ∧ ∃ N : St → Hp → Prop, (∀ σ' H', N σ' H' → ∃ m', m' < m ∧ W (i + 1) m' σ' H') ∧ ∀ x H', (Itl K a).yld i H x H' → g x σ H' fun σ2 H2 => tb { D with nx := N, ct := N, bk := D.nx } σ2 H2) := by
  refine ⟨fun i m σ H => m = xs.length - i ∧ i ≤ xs.length ∧ Pv i σ H, ⟨xs.length, by simp, Nat.zero_le _, h0⟩, ?_⟩
  rintro i m σ H ⟨rfl, hi, p⟩
  have q := hl i σ H hi p
  by_cases hlt : i < xs.length
  · refine .inr ⟨⟨xs, xs[i], q, by simp [hlt]⟩, Pv (i + 1), fun σ' H' p' => ⟨xs.length - (i + 1), by omega, rfl, hlt, p'⟩, fun x H' y => ?_⟩
    obtain ⟨e, y⟩ := y
    subst e
    exact hs i x σ _ (y xs q) p
  · have e : i = xs.length := by omega
    subst e
    exact .inl ⟨⟨xs, q, Nat.le_refl _⟩, hd σ H p⟩
theorem for_tup {K : PySem.W.Frag} {a : Addr} {xs : List V} {g : TG} {tb : TS} {D : Ends} {σ : St} {H : Hp} (Pv : Nat → St → Hp → Prop) (h0 : Pv 0 σ H) (hl : ∀ i σ H, i ≤ xs.length → Pv i σ H → SqT K H a xs)
    (hs : ∀ i x σ H, xs[i]? = some x → Pv i σ H → g x σ H fun σ2 H2 => tb { D with nx := Pv (i + 1), ct := Pv (i + 1), bk := D.nx } σ2 H2) (hd : ∀ σ H, Pv xs.length σ H → D.nx σ H) :
    ∃ W : Nat → Nat → St → Hp → Prop, (∃ m, W 0 m σ H) ∧ ∀ i m σ H, W i m σ H →
      ((Itt K a).stop i H ∧ D.nx σ H) ∨ ((Itt K a).go i H ∧ ∃ N : St → Hp → Prop, (∀ σ' H', N σ' H' → ∃ m', m' < m ∧ W (i + 1) m' σ' H') ∧ ∀ x H', (Itt K a).yld i H x H' → g x σ H' fun σ2 H2 => tb { D with nx := N, ct := N, bk := D.nx } σ2 H2) := by
  refine ⟨fun i m σ H => m = xs.length - i ∧ i ≤ xs.length ∧ Pv i σ H, ⟨xs.length, by simp, Nat.zero_le _, h0⟩, ?_⟩
  rintro i m σ H ⟨rfl, hi, p⟩
  have q := hl i σ H hi p
  by_cases hlt : i < xs.length
  · refine .inr ⟨⟨xs, xs[i], q, by simp [hlt]⟩, Pv (i + 1), fun σ' H' p' => ⟨xs.length - (i + 1), by omega, rfl, hlt, p'⟩, fun x H' y => ?_⟩
    obtain ⟨e, y⟩ := y
    subst e
    exact hs i x σ _ (y xs q) p
  · have e : i = xs.length := by omega
    subst e
    exact .inl ⟨⟨xs, q, Nat.le_refl _⟩, hd σ H p⟩
theorem for_range {lo : Int} {n : Nat} {g : TG} {tb : TS} {D : Ends} {σ : St} {H : Hp} (Pv : Nat → St → Hp → Prop) (h0 : Pv 0 σ H)
    (hs : ∀ i σ H, i < n → Pv i σ H → g (.int (lo + i)) σ H fun σ2 H2 => tb { D with nx := Pv (i + 1), ct := Pv (i + 1), bk := D.nx } σ2 H2) (hd : ∀ σ H, Pv n σ H → D.nx σ H) :
    ∃ W : Nat → Nat → St → Hp → Prop, (∃ m, W 0 m σ H) ∧ ∀ i m σ H, W i m σ H →
      ((Itr lo n).stop i H ∧ D.nx σ H) ∨ ((Itr lo n).go i H ∧ ∃ N : St → Hp → Prop, (∀ σ' H', N σ' H' → ∃ m', m' < m ∧ W (i + 1) m' σ' H') ∧ ∀ x H', (Itr lo n).yld i H x H' → g x σ H' fun σ2 H2 => tb { D with nx := N, ct := N, bk := D.nx } σ2 H2) := by
  refine ⟨fun i m σ H => m = n - i ∧ i ≤ n ∧ Pv i σ H, ⟨n, by simp, Nat.zero_le _, h0⟩, ?_⟩
  rintro i m σ H ⟨rfl, hi, p⟩
  by_cases hlt : i < n
  · refine .inr ⟨hlt, Pv (i + 1), fun σ' H' p' => ⟨n - (i + 1), by omega, rfl, hlt, p'⟩, fun x H' y => ?_⟩
    obtain ⟨e, y⟩ := y
    subst e y
    exact hs i σ _ hlt p
  · have e : i = n := by omega
    subst e
    exact .inl ⟨Nat.le_refl _, hd σ H p⟩
/-- while, by a word and a measure of the state -/
theorem while_by {c : TT} {tb : TS} {D : Ends} {σ : St} {H : Hp} (Pv : St → Hp → Prop) (μ : St → Hp → Nat) (h0 : Pv σ H)
    (hs : ∀ σ H, Pv σ H → c σ H fun b H1 => if b = true then tb { D with nx := fun σ' H' => Pv σ' H' ∧ μ σ' H' < μ σ H, ct := fun σ' H' => Pv σ' H' ∧ μ σ' H' < μ σ H, bk := D.nx } σ H1 else D.nx σ H1)
    (mono : ∀ σ H Q Q', (∀ b H1, Q b H1 → Q' b H1) → c σ H Q → c σ H Q') : tWhile c tb D σ H := by
  refine ⟨fun m σ H => m = μ σ H ∧ Pv σ H, ⟨_, rfl, h0⟩, ?_⟩
  rintro m σ H ⟨rfl, p⟩
  refine mono σ H _ _ (fun b H1 q => ?_) (hs σ H p)
  cases b with
  | true => exact ⟨_, fun σ' H' ⟨p', l⟩ => ⟨_, l, rfl, p'⟩, q⟩
  | false => exact q
end L2

namespace L2
open PySem PySem.Spec PyProof.Rows

abbrev R2 := V → V → Hp → VK → Prop
/-- a two-place operation on values: f is binaryOp op, inplaceOp op or compareOp op -/
def OpR (X : Cx) (f : Value → Value → Sem Value) (r : R2) : Prop :=
  ∀ (pins : List (Addr × Obj)) (s : Shared) (σ : St) (H : Hp) (x y : V) (v u : Value) (Q : VK), Inv X pins σ H s → RelV x v → RelV y u → r x y H Q →
    wpAny (model X.prog X.w) X.A (f v u) (EP X pins σ Q) X.xe s
/-- a one-place operation -/
def UnR (X : Cx) (f : Value → Sem Value) (r : V → Hp → VK → Prop) : Prop :=
  ∀ (pins : List (Addr × Obj)) (s : Shared) (σ : St) (H : Hp) (x : V) (v : Value) (Q : VK), Inv X pins σ H s → RelV x v → r x H Q →
    wpAny (model X.prog X.w) X.A (f v) (EP X pins σ Q) X.xe s
/-- a call of a value that is known (a builtin, a type) with values -/
def CallR (X : Cx) (f : Value) (r : List V → Hp → VK → Prop) : Prop :=
  ∀ (pins : List (Addr × Obj)) (s : Shared) (σ : St) (H : Hp) (xs : List V) (us : List Value) (Q : VK), Inv X pins σ H s → Vals xs us → r xs H Q →
    wpAny (model X.prog X.w) X.A (call f us) (EP X pins σ Q) X.xe s
/-- a value's truth -/
def TruR (X : Cx) (r : V → Hp → (Bool → Hp → Prop) → Prop) : Prop :=
  ∀ (pins : List (Addr × Obj)) (s : Shared) (σ : St) (H : Hp) (x : V) (v : Value) (Q : Bool → Hp → Prop), Inv X pins σ H s → RelV x v → r x H Q →
    wpAny (model X.prog X.w) X.A (truthy v) (TP X pins σ Q) X.xe s

def tOp (r : R2) (ta tb : TE) : TE := fun σ H Q => ta σ H fun x H1 => tb σ H1 fun y H2 => r x y H2 Q
def tUn (r : V → Hp → VK → Prop) (ta : TE) : TE := fun σ H Q => ta σ H fun x H1 => r x H1 Q
/-- ints in, under C, and a value out -/
def rI (C : Int → Int → Prop) (g : Int → Int → V) : R2 := fun x y H Q => ∃ i j, x = .int i ∧ y = .int j ∧ C i j ∧ Q (g i j) H
def rI0 (g : Int → Int → V) : R2 := fun x y H Q => ∃ i j, x = .int i ∧ y = .int j ∧ Q (g i j) H
def rU (g : Int → V) : V → Hp → VK → Prop := fun x H Q => ∃ i, x = .int i ∧ Q (g i) H

section
variable {X : Cx} {a b c : Expr} {ta tb tc : TE} {pos : Pos}

theorem binT (ha : PE X a ta) (hb : PE X b tb) {pins : List (Addr × Obj)} {s : Shared} {σ : St} {H : Hp} {R : V → V → Hp → Prop} (I : Inv X pins σ H s)
    (h : ta σ H fun x H1 => tb σ H1 fun y H2 => R x y H2) {Q : Value → Shared → Prop} {f : Value → Value → Sem Value}
    (hf : ∀ v u s2 x y H2, Inv X pins σ H2 s2 → RelV x v → RelV y u → R x y H2 → wpAny (model X.prog X.w) X.A (f v u) Q X.xe s2) :
    wpAny (model X.prog X.w) X.A (eval a X.env) (fun v s₁ => wpAny (model X.prog X.w) X.A (eval b X.env) (fun u s₂ => wpAny (model X.prog X.w) X.A (f v u) Q X.xe s₂) X.xe s₁) X.xe s := by
  refine thn (ha pins s σ H _ I h) fun v s1 ⟨x, H1, I1, r1, q1⟩ => ?_
  refine thn (hb pins s1 σ H1 _ I1 q1) fun u s2 ⟨y, H2, I2, r2, q2⟩ => ?_
  exact hf v u s2 x y H2 I2 r1 r2 q2

theorem pe_op {op : Operator} {r : R2} (ho : OpR X (binaryOp op) r) (ha : PE X a ta) (hb : PE X b tb) : PE X (.BinOp a op b pos) (tOp r ta tb) := by
  intro pins s σ H Q I h
  exact wpAny_BinOp (binT ha hb I h fun v u s2 x y H2 I2 rx ry q => ho pins s2 σ H2 x y v u Q I2 rx ry q)
theorem pe_un {op : UnaryOp} {r : V → Hp → VK → Prop} (ho : UnR X (unaryOp op) r) (ha : PE X a ta) : PE X (.UnaryOp op a pos) (tUn r ta) := by
  intro pins s σ H Q I h
  exact UnaryOp_ (thn (ha pins s σ H _ I h) fun v s1 ⟨x, H1, I1, r1, q1⟩ => ho pins s1 σ H1 x v Q I1 r1 q1)
/-- a op= e at a name: the name's slot i -/
theorem augR {op : Operator} {r : R2} (ho : OpR X (inplaceOp op) r) {pins : List (Addr × Obj)} {s : Shared} {σ : St} {H : Hp} {x y : V} {v u : Value} {Q : VK} (I : Inv X pins σ H s)
    (rx : RelV x v) (ry : RelV y u) (q : r x y H Q) : wpAny (model X.prog X.w) X.A (inplaceOp op v u) (EP X pins σ Q) X.xe s := ho pins s σ H x y v u Q I rx ry q

/-! ### ints -/
theorem opI {f : Value → Value → Sem Value} {C : Int → Int → Prop} {g : Int → Int → Int}
    (rule : ∀ (i j : Int) (t u : Tok) (s : Shared) (Q : Value → Shared → Prop) (E : Value → Shared → Prop), C i j → Q (.int (g i j) s.toks) { s with toks := s.toks + 1 } → wpAny (model X.prog X.w) X.A (f (.int i t) (.int j u)) Q E s) :
    OpR X f (rI C fun i j => .int (g i j)) := by
  intro pins s σ H x y v u Q I rx ry h
  obtain ⟨i, j, rfl, rfl, hc, q⟩ := h
  obtain ⟨t, rfl⟩ := rx
  obtain ⟨t', rfl⟩ := ry
  exact rule i j t t' s _ _ hc ⟨.int (g i j), H, I.tok _, ⟨_, rfl⟩, q⟩
theorem opI0 {f : Value → Value → Sem Value} {g : Int → Int → Int}
    (rule : ∀ (i j : Int) (t u : Tok) (s : Shared) (Q : Value → Shared → Prop) (E : Value → Shared → Prop), Q (.int (g i j) s.toks) { s with toks := s.toks + 1 } → wpAny (model X.prog X.w) X.A (f (.int i t) (.int j u)) Q E s) :
    OpR X f (rI0 fun i j => .int (g i j)) := by
  intro pins s σ H x y v u Q I rx ry h
  obtain ⟨i, j, rfl, rfl, q⟩ := h
  obtain ⟨t, rfl⟩ := rx
  obtain ⟨t', rfl⟩ := ry
  exact rule i j t t' s _ _ ⟨.int (g i j), H, I.tok _, ⟨_, rfl⟩, q⟩
theorem opB0 {f : Value → Value → Sem Value} {g : Int → Int → Bool}
    (rule : ∀ (i j : Int) (t u : Tok) (s : Shared) (Q : Value → Shared → Prop) (E : Value → Shared → Prop), Q (.bool (g i j)) s → wpAny (model X.prog X.w) X.A (f (.int i t) (.int j u)) Q E s) :
    OpR X f (rI0 fun i j => .bl (g i j)) := by
  intro pins s σ H x y v u Q I rx ry h
  obtain ⟨i, j, rfl, rfl, q⟩ := h
  obtain ⟨t, rfl⟩ := rx
  obtain ⟨t', rfl⟩ := ry
  exact rule i j t t' s _ _ ⟨.bl (g i j), H, I, rfl, q⟩

def CDiv (i j : Int) : Prop := 0 < j ∧ j < 1073741824
def CDivN (i j : Int) : Prop := j ≠ 0 ∧ j.natAbs < 1073741824
def CPow (i j : Int) : Prop := 0 ≤ j ∧ j ≤ 1000000 ∧ i.natAbs < 2 ^ 64
def CMul (i j : Int) : Prop := (-(2 ^ 64) < i ∧ i < 2 ^ 64) ∨ (-(2 ^ 64) < j ∧ j < 2 ^ 64)
theorem CMul.ok {i j : Int} (h : CMul i j) : IntMulOk i j := by
  rcases h with ⟨h1, h2⟩ | ⟨h1, h2⟩
  · exact .of_left (intBits_le_64 h1 h2)
  · exact .of_right (intBits_le_64 h1 h2)
theorem two_pow_nn (k : Nat) : (0 : Int) ≤ 2 ^ k := by
  rw [two_pow_cast]
  exact Int.natCast_nonneg _

theorem op_add : OpR X (binaryOp .Add) (rI0 fun i j => .int (i + j)) := opI0 fun _ _ _ _ _ _ _ q => add_int q
theorem op_sub : OpR X (binaryOp .Sub) (rI0 fun i j => .int (i - j)) := opI0 fun _ _ _ _ _ _ _ q => sub_int q
theorem op_mul : OpR X (binaryOp .Mult) (rI CMul fun i j => .int (i * j)) := opI fun _ _ _ _ _ _ _ hc q => mul_int q hc.ok
/-- // by a positive divisor -/
theorem op_fdiv : OpR X (binaryOp .FloorDiv) (rI CDiv fun i j => .int (i / j)) := opI fun i j _ _ _ _ _ hc q => by
  have h1 : (0 : Int) < j := hc.1
  have h2 : j < 1073741824 := hc.2
  exact floordiv_int (by omega) (by rw [Int.fdiv_eq_ediv_of_nonneg i (by omega)]; exact q) (.inl (PyProof.noPylong_small (by omega)))
theorem op_fdivN : OpR X (binaryOp .FloorDiv) (rI CDivN fun i j => .int (i.fdiv j)) := opI fun _ _ _ _ _ _ _ hc q => floordiv_int hc.1 q (.inl (PyProof.noPylong_small hc.2))
/-- % by a positive divisor of any size -/
theorem op_mod : OpR X (binaryOp .Mod) (rI (fun _ j => 0 < j) fun i j => .int (i % j)) := opI fun i j _ _ _ _ _ hc q => by
  have h1 : (0 : Int) < j := hc
  exact mod_int' (by omega) (by rw [Int.fmod_eq_emod_of_nonneg i (by omega)]; exact q)
theorem op_modN : OpR X (binaryOp .Mod) (rI (fun _ j => j ≠ 0) fun i j => .int (i.fmod j)) := opI fun _ _ _ _ _ _ _ hc q => mod_int' hc q
theorem op_pow : OpR X (binaryOp .Pow) (rI CPow fun i j => .int (i ^ j.toNat)) := opI fun _ _ _ _ _ _ _ hc q => pow_int_small hc.1 hc.2.1 hc.2.2 q
theorem op_shl : OpR X (binaryOp .LShift) (rI CPow fun i j => .int (i * 2 ^ j.toNat)) := opI fun _ _ _ _ _ _ _ hc q => lshift_int_small hc.1 hc.2.1 hc.2.2 q
theorem op_shr : OpR X (binaryOp .RShift) (rI (fun _ j => 0 ≤ j) fun i j => .int (i / 2 ^ j.toNat)) := opI fun i j _ _ _ _ _ hc q =>
  rshift_int hc (by rw [Int.fdiv_eq_ediv_of_nonneg i (two_pow_nn _)]; exact q)
theorem op_and : OpR X (binaryOp .BitAnd) (rI0 fun i j => .int (Builtin.bitAnd i j)) := opI0 fun _ _ _ _ _ _ _ q => and_int q
theorem op_or : OpR X (binaryOp .BitOr) (rI0 fun i j => .int (Builtin.bitOr i j)) := opI0 fun _ _ _ _ _ _ _ q => or_int q
theorem op_xor : OpR X (binaryOp .BitXor) (rI0 fun i j => .int (Builtin.bitXor i j)) := opI0 fun _ _ _ _ _ _ _ q => xor_int q

theorem iop_add : OpR X (inplaceOp .Add) (rI0 fun i j => .int (i + j)) := opI0 fun _ _ _ _ _ _ _ q => iadd_int q
theorem iop_sub : OpR X (inplaceOp .Sub) (rI0 fun i j => .int (i - j)) := opI0 fun _ _ _ _ _ _ _ q => isub_int q
theorem iop_mul : OpR X (inplaceOp .Mult) (rI CMul fun i j => .int (i * j)) := opI fun _ _ _ _ _ _ _ hc q => imul_int q hc.ok
theorem iop_fdiv : OpR X (inplaceOp .FloorDiv) (rI CDiv fun i j => .int (i / j)) := opI fun i j _ _ _ _ _ hc q => by
  have h1 : (0 : Int) < j := hc.1
  have h2 : j < 1073741824 := hc.2
  exact ifloordiv_int (by omega) (by rw [Int.fdiv_eq_ediv_of_nonneg i (by omega)]; exact q) (.inl (PyProof.noPylong_small (by omega)))
theorem iop_mod : OpR X (inplaceOp .Mod) (rI (fun _ j => 0 < j) fun i j => .int (i % j)) := opI fun i j _ _ _ _ _ hc q => by
  have h1 : (0 : Int) < j := hc
  exact imod_int (by omega) (by rw [Int.fmod_eq_emod_of_nonneg i (by omega)]; exact q)
theorem iop_shl : OpR X (inplaceOp .LShift) (rI CPow fun i j => .int (i * 2 ^ j.toNat)) := opI fun _ _ _ _ _ _ _ hc q => ilshift_int_small hc.1 hc.2.1 hc.2.2 q
theorem iop_shr : OpR X (inplaceOp .RShift) (rI (fun _ j => 0 ≤ j) fun i j => .int (i / 2 ^ j.toNat)) := opI fun i j _ _ _ _ _ hc q =>
  irshift_int hc (by rw [Int.fdiv_eq_ediv_of_nonneg i (two_pow_nn _)]; exact q)
theorem iop_and : OpR X (inplaceOp .BitAnd) (rI0 fun i j => .int (Builtin.bitAnd i j)) := opI0 fun _ _ _ _ _ _ _ q => iand_int q
theorem iop_or : OpR X (inplaceOp .BitOr) (rI0 fun i j => .int (Builtin.bitOr i j)) := opI0 fun _ _ _ _ _ _ _ q => ior_int q
theorem iop_xor : OpR X (inplaceOp .BitXor) (rI0 fun i j => .int (Builtin.bitXor i j)) := opI0 fun _ _ _ _ _ _ _ q => ixor_int q

theorem unI {f : Value → Sem Value} {g : Int → Int}
    (rule : ∀ (i : Int) (t : Tok) (s : Shared) (Q : Value → Shared → Prop) (E : Value → Shared → Prop), Q (.int (g i) s.toks) { s with toks := s.toks + 1 } → wpAny (model X.prog X.w) X.A (f (.int i t)) Q E s) :
    UnR X f (rU fun i => .int (g i)) := by
  intro pins s σ H x v Q I rx h
  obtain ⟨i, rfl, q⟩ := h
  obtain ⟨t, rfl⟩ := rx
  exact rule i t s _ _ ⟨.int (g i), H, I.tok _, ⟨_, rfl⟩, q⟩
theorem un_neg : UnR X (unaryOp .USub) (rU fun i => .int (-i)) := unI fun _ _ _ _ _ q => neg_int q
theorem un_inv : UnR X (unaryOp .Invert) (rU fun i => .int (Builtin.bitNot i)) := unI fun _ _ _ _ _ q => invert_int q

/-! ### bools among ints: n += (a < b) -/
theorem op_add_ib : OpR X (binaryOp .Add) (fun x y H Q => ∃ i k, x = .int i ∧ y = .bl k ∧ Q (.int (i + b2i k)) H) := by
  intro pins s σ H x y v u Q I rx ry h
  obtain ⟨i, k, rfl, rfl, q⟩ := h
  obtain ⟨t, rfl⟩ := rx
  cases ry
  exact add_int_bool ⟨.int (i + b2i k), H, I.tok _, ⟨_, rfl⟩, q⟩
end

/-! ### comparisons -/
/-- the scalars that == tells apart as data does -/
def scal : V → V → Bool
  | .non, .non => true | .non, .int _ => true | .int _, .non => true | .non, .bl _ => true | .bl _, .non => true | .non, .str _ => true | .str _, .non => true
  | .int _, .int _ => true | .bl _, .bl _ => true | .str _, .str _ => true | .byt _, .byt _ => true
  | .int _, .str _ => true | .str _, .int _ => true | .bl _, .str _ => true | .str _, .bl _ => true
  | _, _ => false
def rEq : R2 := fun x y H Q => scal x y = true ∧ Q (.bl (decide (x = y))) H
def rNe : R2 := fun x y H Q => scal x y = true ∧ Q (.bl (!decide (x = y))) H

theorem dec_int {i j : Int} : decide (V.int i = V.int j) = (i == j) := by
  rw [Bool.eq_iff_iff]
  simp
theorem dec_bl {i j : Bool} : decide (V.bl i = V.bl j) = (i == j) := by
  rw [Bool.eq_iff_iff]
  simp
theorem dec_str {i j : Str} : decide (V.str i = V.str j) = (i == j) := by
  rw [Bool.eq_iff_iff]
  simp
theorem dec_byt {i j : Array UInt8} : decide (V.byt i = V.byt j) = (i.toList == j.toList) := by
  rw [Bool.eq_iff_iff]
  cases i
  cases j
  simp

section
variable {X : Cx} {a b c : Expr} {ta tb tc : TE} {pos : Pos}
theorem fin_bl {pins : List (Addr × Obj)} {σ : St} {H : Hp} {s : Shared} {Q : VK} {k k' : Bool} (I : Inv X pins σ H s) (q : Q (.bl k) H) (e : k = k') : EP X pins σ Q (.bool k') s := by
  subst e
  exact ⟨.bl k, H, I, rfl, q⟩
theorem op_eq : OpR X (compareOp .Eq) rEq := by
  intro pins s σ H x y v u Q I rx ry h
  obtain ⟨hs, q⟩ := h
  cases x with
  | non =>
    cases rx
    cases y with
    | non => cases ry; exact PySem.EqNone.eq_none_none (fin_bl I q (by simp))
    | bl j => cases ry; exact PySem.EqNone.eq_none_bool (fin_bl I q (by simp))
    | int j => obtain ⟨t', rfl⟩ := ry; exact PySem.EqNone.eq_none_int (fin_bl I q (by simp))
    | str j => obtain ⟨t', rfl⟩ := ry; exact PySem.EqNone.eq_none_str (fin_bl I q (by simp))
    | _ => exact absurd (show false = true from hs) Bool.false_ne_true
  | bl i =>
    cases rx
    cases y with
    | non => cases ry; exact PySem.EqNone.eq_bool_none (fin_bl I q (by simp))
    | bl j => cases ry; exact eq_bool (fin_bl I q dec_bl)
    | str j => obtain ⟨t', rfl⟩ := ry; exact PySem.EqMixed.eq_bool_str (fin_bl I q (by simp))
    | _ => exact absurd (show false = true from hs) Bool.false_ne_true
  | int i =>
    obtain ⟨t, rfl⟩ := rx
    cases y with
    | non => cases ry; exact PySem.EqNone.eq_int_none (fin_bl I q (by simp))
    | int j => obtain ⟨t', rfl⟩ := ry; exact eq_int (fin_bl I q dec_int)
    | str j => obtain ⟨t', rfl⟩ := ry; exact PySem.EqMixed.eq_int_str (fin_bl I q (by simp))
    | _ => exact absurd (show false = true from hs) Bool.false_ne_true
  | str i =>
    obtain ⟨t, rfl⟩ := rx
    cases y with
    | non => cases ry; exact PySem.EqNone.eq_str_none (fin_bl I q (by simp))
    | bl j => cases ry; exact PySem.EqMixed.eq_str_bool (fin_bl I q (by simp))
    | int j => obtain ⟨t', rfl⟩ := ry; exact PySem.EqMixed.eq_str_int (fin_bl I q (by simp))
    | str j => obtain ⟨t', rfl⟩ := ry; exact eq_str (fin_bl I q dec_str)
    | _ => exact absurd (show false = true from hs) Bool.false_ne_true
  | byt i =>
    obtain ⟨t, rfl⟩ := rx
    cases y with
    | byt j => obtain ⟨t', rfl⟩ := ry; exact PySem.W.eq_bytes (fin_bl I q dec_byt)
    | _ => exact absurd (show false = true from hs) Bool.false_ne_true
  | _ => cases y <;> exact absurd (show false = true from hs) Bool.false_ne_true
theorem op_ne : OpR X (compareOp .NotEq) rNe := by
  intro pins s σ H x y v u Q I rx ry h
  obtain ⟨hs, q⟩ := h
  cases x with
  | non =>
    cases rx
    cases y with
    | non => cases ry; exact PySem.EqNone.ne_none_none (fin_bl I q (by simp))
    | bl j => cases ry; exact PySem.EqNone.ne_none_bool (fin_bl I q (by simp))
    | int j => obtain ⟨t', rfl⟩ := ry; exact PySem.EqNone.ne_none_int (fin_bl I q (by simp))
    | str j => obtain ⟨t', rfl⟩ := ry; exact PySem.EqNone.ne_none_str (fin_bl I q (by simp))
    | _ => exact absurd (show false = true from hs) Bool.false_ne_true
  | bl i =>
    cases rx
    cases y with
    | non => cases ry; exact PySem.EqNone.ne_bool_none (fin_bl I q (by simp))
    | bl j => cases ry; exact ne_bool (fin_bl I q (congrArg not dec_bl))
    | str j => obtain ⟨t', rfl⟩ := ry; exact PySem.EqMixed.ne_bool_str (fin_bl I q (by simp))
    | _ => exact absurd (show false = true from hs) Bool.false_ne_true
  | int i =>
    obtain ⟨t, rfl⟩ := rx
    cases y with
    | non => cases ry; exact PySem.EqNone.ne_int_none (fin_bl I q (by simp))
    | int j => obtain ⟨t', rfl⟩ := ry; exact ne_int (fin_bl I q (congrArg not dec_int))
    | str j => obtain ⟨t', rfl⟩ := ry; exact PySem.EqMixed.ne_int_str (fin_bl I q (by simp))
    | _ => exact absurd (show false = true from hs) Bool.false_ne_true
  | str i =>
    obtain ⟨t, rfl⟩ := rx
    cases y with
    | non => cases ry; exact PySem.EqNone.ne_str_none (fin_bl I q (by simp))
    | bl j => cases ry; exact PySem.EqMixed.ne_str_bool (fin_bl I q (by simp))
    | int j => obtain ⟨t', rfl⟩ := ry; exact PySem.EqMixed.ne_str_int (fin_bl I q (by simp))
    | str j => obtain ⟨t', rfl⟩ := ry; exact ne_str (fin_bl I q (congrArg not dec_str))
    | _ => exact absurd (show false = true from hs) Bool.false_ne_true
  | byt i =>
    obtain ⟨t, rfl⟩ := rx
    cases y with
    | byt j => obtain ⟨t', rfl⟩ := ry; exact PySem.W.ne_bytes (fin_bl I q (congrArg not dec_byt))
    | _ => exact absurd (show false = true from hs) Bool.false_ne_true
  | _ => cases y <;> exact absurd (show false = true from hs) Bool.false_ne_true

theorem op_lt : OpR X (compareOp .Lt) (rI0 fun i j => .bl (decide (i < j))) := opB0 fun _ _ _ _ _ _ _ q => lt_int q
theorem op_le : OpR X (compareOp .LtE) (rI0 fun i j => .bl (decide (i ≤ j))) := opB0 fun _ _ _ _ _ _ _ q => le_int q
theorem op_gt : OpR X (compareOp .Gt) (rI0 fun i j => .bl (decide (j < i))) := opB0 fun _ _ _ _ _ _ _ q => gt_int q
theorem op_ge : OpR X (compareOp .GtE) (rI0 fun i j => .bl (decide (j ≤ i))) := opB0 fun _ _ _ _ _ _ _ q => ge_int q
theorem op_lt_str : OpR X (compareOp .Lt) (fun x y H Q => ∃ i j, x = .str i ∧ y = .str j ∧ Q (.bl (decide (i.cps.toList < j.cps.toList))) H) := by
  intro pins s σ H x y v u Q I rx ry h
  obtain ⟨i, j, rfl, rfl, q⟩ := h
  obtain ⟨t, rfl⟩ := rx
  obtain ⟨t', rfl⟩ := ry
  exact lt_str (fin_bl I q rfl)
/-- the one string within the other -/
theorem op_in_str : OpR X (compareOp .In) (fun x y H Q => ∃ i j, x = .str i ∧ y = .str j ∧ Q (.bl (!(Builtin.Str.occurrences j i 0 j.length 1).isEmpty)) H) := by
  intro pins s σ H x y v u Q I rx ry h
  obtain ⟨i, j, rfl, rfl, q⟩ := h
  obtain ⟨t, rfl⟩ := rx
  obtain ⟨t', rfl⟩ := ry
  exact in_str (fin_bl I q rfl)

/-- is None, is not None: the right side a value none -/
theorem op_isN : OpR X (compareOp .Is) (fun x y H Q => y = .non ∧ Q (.bl (decide (x = .non))) H) := by
  intro pins s σ H x y v u Q I rx ry h
  obtain ⟨rfl, q⟩ := h
  cases ry
  refine is_none_gen (fin_bl I q ?_)
  cases x <;> first
    | (cases rx; rfl)
    | (obtain ⟨t, rfl⟩ := rx; rfl)
theorem op_notN : OpR X (compareOp .IsNot) (fun x y H Q => y = .non ∧ Q (.bl (!decide (x = .non))) H) := by
  intro pins s σ H x y v u Q I rx ry h
  obtain ⟨rfl, q⟩ := h
  cases ry
  refine isnot_none_gen (fin_bl I q ?_)
  cases x <;> first
    | (cases rx; rfl)
    | (obtain ⟨t, rfl⟩ := rx; rfl)

theorem op_notin_str : OpR X (compareOp .NotIn) (fun x y H Q => ∃ i j, x = .str i ∧ y = .str j ∧ Q (.bl (!(!(Builtin.Str.occurrences j i 0 j.length 1).isEmpty))) H) := by
  intro pins s σ H x y v u Q I rx ry h
  obtain ⟨i, j, rfl, rfl, q⟩ := h
  obtain ⟨t, rfl⟩ := rx
  obtain ⟨t', rfl⟩ := ry
  exact notIn_str (fin_bl I q rfl)
/-- is, is not of two objects that are tracked lists or instances -/
def isObj : HO → Bool
  | .lst _ => true
  | .ins _ _ _ => true
  | _ => false
theorem obj_there {pins : List (Addr × Obj)} {s : Shared} {σ : St} {H : Hp} {a : Addr} {o : HO} (I : Inv X pins σ H s) (h : H a = some o) (p : isObj o = true) : ∃ ob, s.heap.get? a = some ob ∧ ob.cls ≠ .type "tuple" := by
  cases o with
  | lst xs =>
    obtain ⟨_, its, n, _, e⟩ : xs.length ≤ sizeLine ∧ ∃ (its : List Value) (n : Nat), Vals xs its ∧ s.heap.get? a = some { cls := .type "list", data := .seq its.toArray n } := I.hok a _ h
    exact ⟨_, e, (by show Value.type "list" ≠ .type "tuple"; decide +kernel)⟩
  | ins C dx fs =>
    have x := I.hok a _ h
    obtain ⟨_, _, _, e, _⟩ := x
    exact ⟨_, e, (by show Value.ref C ≠ .type "tuple"; exact fun z => by cases z)⟩
  | _ => exact absurd (show false = true from p) Bool.false_ne_true
theorem op_is_ref : OpR X (compareOp .Is) (fun x y H Q => ∃ a b oa ob, x = .ref a ∧ y = .ref b ∧ H a = some oa ∧ isObj oa = true ∧ H b = some ob ∧ isObj ob = true ∧ Q (.bl (decide (a = b))) H) := by
  intro pins s σ H x y v u Q I rx ry h
  obtain ⟨a, b, oa, ob, rfl, rfl, ha, pa, hb, pb, q⟩ := h
  cases rx
  cases ry
  obtain ⟨o1, e1, n1⟩ := obj_there I ha pa
  obtain ⟨o2, e2, _⟩ := obj_there I hb pb
  by_cases z : a = b
  · subst z
    exact wpAny_is_ref_self (fin_bl I q (by simp))
  · exact wpAny_is_ref_other z e1 e2 n1 (fin_bl I q (by simp [z]))
theorem op_isnot_ref : OpR X (compareOp .IsNot) (fun x y H Q => ∃ a b oa ob, x = .ref a ∧ y = .ref b ∧ H a = some oa ∧ isObj oa = true ∧ H b = some ob ∧ isObj ob = true ∧ Q (.bl (!decide (a = b))) H) := by
  intro pins s σ H x y v u Q I rx ry h
  obtain ⟨a, b, oa, ob, rfl, rfl, ha, pa, hb, pb, q⟩ := h
  cases rx
  cases ry
  obtain ⟨o1, e1, n1⟩ := obj_there I ha pa
  obtain ⟨o2, e2, _⟩ := obj_there I hb pb
  by_cases z : a = b
  · subst z
    exact wpAny_isNot_ref_self (fin_bl I q (by simp))
  · exact wpAny_isNot_ref_other z e1 e2 n1 (fin_bl I q (by simp [z]))

/-- two rules for one operation: by cases -/
theorem OpR.or {f : Value → Value → Sem Value} {r r' : R2} (h : OpR X f r) (h' : OpR X f r') : OpR X f (fun x y H Q => r x y H Q ∨ r' x y H Q) := by
  intro pins s σ H x y v u Q I rx ry q
  rcases q with q | q
  · exact h pins s σ H x y v u Q I rx ry q
  · exact h' pins s σ H x y v u Q I rx ry q

theorem nomark (b : Expr) {op : CmpOp} (h : op ≠ .In := by decide) (h2 : op ≠ .NotIn := by decide) : behindInMarks op b = false := by
  have e1 : (op == CmpOp.In) = false := by cases op <;> first | rfl | exact absurd rfl h
  have e2 : (op == CmpOp.NotIn) = false := by cases op <;> first | rfl | exact absurd rfl h2
  cases b <;> simp [behindInMarks, e1, e2]
/-- a comparison as a value; hm: nomark b, or (for in, not in) by with_unfolding_all rfl -/
theorem pe_cmpR {op : CmpOp} {r : R2} (ho : OpR X (compareOp op) r) (ha : PE X a ta) (hb : PE X b tb) (hm : behindInMarks op b = false) : PE X (.Compare a [op] [b] pos) (tOp r ta tb) := by
  intro pins s σ H Q I h
  exact wpAny_Compare1 (binT ha hb I h fun v u s2 x y H2 I2 rx ry q => ho pins s2 σ H2 x y v u Q I2 rx ry q) hm
/-- a reading of a value as a test -/
def tTest (t : TE) : TT := fun σ H Q => t σ H fun x H' => ∃ k, x = .bl k ∧ Q k H'
theorem pt_cmpR {op : CmpOp} {r : R2} (ho : OpR X (compareOp op) r) (ha : PE X a ta) (hb : PE X b tb) (hm : behindInMarks op b = false) : PT X (.Compare a [op] [b] pos) (tTest (tOp r ta tb)) := by
  intro pins s σ H Q I h
  refine wpAny_isTrue_Compare1 (thn (ha pins s σ H _ I h) fun v s1 ⟨x, H1, I1, r1, q1⟩ => thn (hb pins s1 σ H1 _ I1 q1) fun u s2 ⟨y, H2, I2, r2, q2⟩ =>
    thn (ho pins s2 σ H2 x y v u _ I2 r1 r2 q2) fun c s3 ⟨z, H3, I3, r3, k, e, q3⟩ => ?_) hm
  subst e
  cases r3
  exact wpAny_truthy_bool ⟨H3, I3, q3⟩
/-- a op1 b op2 c -/
def tChain (r r' : R2) (ta tb tc : TE) : TE := fun σ H Q => ta σ H fun x H1 => tb σ H1 fun y H2 => r x y H2 fun z H3 => ∃ k, z = .bl k ∧
  (if k = true then tc σ H3 fun w' H4 => r' y w' H4 Q else Q (.bl false) H3)
theorem pe_chain {op op' : CmpOp} {r r' : R2} (ho : OpR X (compareOp op) r) (ho' : OpR X (compareOp op') r') (ha : PE X a ta) (hb : PE X b tb) (hc : PE X c tc)
    (hm : lastMarks [op, op'] [b, c] = false := by with_unfolding_all rfl) : PE X (.Compare a [op, op'] [b, c] pos) (tChain r r' ta tb tc) := by
  intro pins s σ H Q I h
  refine Compare_chain (thn (ha pins s σ H _ I h) fun v s1 ⟨x, H1, I1, r1, q1⟩ => chain_link (thn (hb pins s1 σ H1 _ I1 q1) fun u s2 ⟨y, H2, I2, r2, q2⟩ =>
    thn (ho pins s2 σ H2 x y v u _ I2 r1 r2 q2) fun d s3 ⟨z, H3, I3, r3, k, e, q3⟩ => ?_)) hm
  subst e
  cases r3
  refine wpAny_truthy_bool ?_
  cases k with
  | false => exact ite_ff ⟨.bl false, H3, I3, rfl, q3⟩
  | true => exact ite_tt (chain_last (thn (hc pins s3 σ H3 _ I3 q3) fun w' s4 ⟨z', H4, I4, r4, q4⟩ => ho' pins s4 σ H4 y z' u w' Q I4 r2 r4 q4))
theorem pt_chain {op op' : CmpOp} {r r' : R2} (ho : OpR X (compareOp op) r) (ho' : OpR X (compareOp op') r') (ha : PE X a ta) (hb : PE X b tb) (hc : PE X c tc)
    (hm : lastMarks [op, op'] [b, c] = false := by with_unfolding_all rfl) : PT X (.Compare a [op, op'] [b, c] pos) (tTest (tChain r r' ta tb tc)) := by
  intro pins s σ H Q I h
  refine isTrue_chain (thn (ha pins s σ H _ I h) fun v s1 ⟨x, H1, I1, r1, q1⟩ => test_link (thn (hb pins s1 σ H1 _ I1 q1) fun u s2 ⟨y, H2, I2, r2, q2⟩ =>
    thn (ho pins s2 σ H2 x y v u _ I2 r1 r2 q2) fun d s3 ⟨z, H3, I3, r3, k, e, q3⟩ => ?_)) hm
  subst e
  cases r3
  refine wpAny_truthy_bool ?_
  cases k with
  | false =>
    obtain ⟨k', e', q'⟩ := q3
    cases e'
    exact ite_ff ⟨H3, I3, q'⟩
  | true =>
    refine ite_tt (test_last (thn (hc pins s3 σ H3 _ I3 q3) fun w' s4 ⟨z', H4, I4, r4, q4⟩ => thn (ho' pins s4 σ H4 y z' u w' _ I4 r2 r4 q4) fun d' s5 ⟨z2, H5, I5, r5, k2, e2, q5⟩ => ?_))
    subst e2
    cases r5
    exact wpAny_truthy_bool ⟨H5, I5, q5⟩

/-! ### truth -/
/-- a value's truth by the abstract heap -/
def TruV (K : PySem.W.Frag) (x : V) (H : Hp) (k : Bool) : Prop :=
  match x with
  | .non => k = false
  | .bl b => k = b
  | .int i => k = (i != 0)
  | .str y => y.length ≤ sizeLine ∧ k = ((y.length : Int) != 0)
  | .byt y => y.size ≤ sizeLine ∧ k = ((y.size : Int) != 0)
  | .ref p => (∃ xs, SqL K H p xs ∧ k = !xs.isEmpty) ∨ (∃ xs, SqT K H p xs ∧ k = !xs.isEmpty) ∨ ∃ kvs, H p = some (.dK kvs) ∧ k = !kvs.isEmpty
  | _ => False
theorem isEmpty_kv {κ : Type} {kvs : List (κ × V)} {vs : List (κ × Value)} (r : KV kvs vs) : (!vs.isEmpty) = !kvs.isEmpty := by
  cases r <;> rfl
theorem isEmpty_of {xs : List V} {its : List Value} (r : Vals xs its) : (!its.toArray.isEmpty) = !xs.isEmpty := by
  cases r <;> simp
theorem line63 : (sizeLine : Nat) < 2 ^ 63 := by rw [sizeLine_eq]; decide
theorem tru_ok : TruR X (fun x H Q => ∃ k, TruV X.K x H k ∧ Q k H) := by
  intro pins s σ H x v Q I rx h
  obtain ⟨k, e, q⟩ := h
  have hl := line63
  have hs : sizeLine = 16777216 := sizeLine_eq
  cases x with
  | non =>
    cases rx
    have e' : k = false := e
    subst e'
    exact truthy_none ⟨H, I, q⟩
  | bl b =>
    cases rx
    have e' : k = b := e
    subst e'
    exact wpAny_truthy_bool ⟨H, I, q⟩
  | int i =>
    obtain ⟨t, rfl⟩ := rx
    have e' : k = (i != 0) := e
    subst e'
    exact PySem.P.truthy_int ⟨H, I, q⟩
  | str y =>
    obtain ⟨t, rfl⟩ := rx
    obtain ⟨hy, e'⟩ : y.length ≤ sizeLine ∧ k = ((y.length : Int) != 0) := e
    subst e'
    exact PySem.P.truthy_str (by omega) ⟨H, I.tok _, q⟩
  | byt y =>
    obtain ⟨t, rfl⟩ := rx
    obtain ⟨hy, e'⟩ : y.size ≤ sizeLine ∧ k = ((y.size : Int) != 0) := e
    subst e'
    exact PySem.W.truthy_bytes (by omega) ⟨H, I.tok _, q⟩
  | ref p =>
    cases rx
    have e' : (∃ xs, SqL X.K H p xs ∧ k = !xs.isEmpty) ∨ (∃ xs, SqT X.K H p xs ∧ k = !xs.isEmpty) ∨ ∃ kvs, H p = some (.dK kvs) ∧ k = !kvs.isEmpty := e
    rcases e' with ⟨xs, hx, e'⟩ | ⟨xs, hx, e'⟩ | ⟨kvs, hx, e'⟩
    · subst e'
      obtain ⟨its, r, pl, hz⟩ := I.list hx
      have hlen := r.length
      exact wpAny_truthy_list pl.isList (by simp only [List.size_toArray]; omega) ⟨H, I.tok _, by rw [isEmpty_of r]; exact q⟩
    · subst e'
      obtain ⟨its, r, pl, hz⟩ := I.tuple hx
      have hlen := r.length
      exact truthy_tuple pl (by simp only [List.size_toArray]; omega) ⟨H, I.tok _, by rw [isEmpty_of r]; exact q⟩
    · subst e'
      obtain ⟨hz, hS, vs, r, m⟩ : kvs.length ≤ sizeLine ∧ (p == sysModules) = false ∧ ∃ vs, KV kvs vs ∧ s.heap.DictOf (mixKind X.prog X.w) p vs := I.hok p _ hx
      have hlen : kvs.length = vs.length := Paired.length r
      exact wpAny_truthy_dict hS m (by omega) ⟨H, I.tok _, by rw [isEmpty_kv r]; exact q⟩
  | _ => exact (show False from e).elim
/-- any expression whose test is its value's truth (a name, a call, a subscript, a field ..: he by fun _ => rfl) -/
theorem pt_truth (ha : PE X a ta) (he : ∀ whole, isTrue a X.env whole = (do let v ← whole; standAt a.pos; holding [v] (truthy v))) :
    PT X a (fun σ H Q => ta σ H fun x H' => ∃ k, TruV X.K x H' k ∧ Q k H') := by
  intro pins s σ H Q I h
  exact isTrue_plain (thn (ha pins s σ H _ I h) fun v s1 ⟨x, H1, I1, r1, q1⟩ => tru_ok pins s1 σ H1 x v Q I1 r1 q1) (he _)

/-! ### strs and bytes -/
theorem pe_byt {x : List UInt8} {k : Nat} : PE X (.Constant (.bytes x) k pos) (fun _ H Q => Q (.byt x.toArray) H) := fun _ _ _ H _ I h => PySem.W.Constant_bytes ⟨.byt x.toArray, H, I.tok _, ⟨_, rfl⟩, h⟩
theorem op_add_str : OpR X (binaryOp .Add) (fun x y H Q => ∃ i j, x = .str i ∧ y = .str j ∧ i.length + j.length ≤ sizeLine ∧ Q (.str (i ++ j)) H) := by
  intro pins s σ H x y v u Q I rx ry h
  obtain ⟨i, j, rfl, rfl, hz, q⟩ := h
  obtain ⟨t, rfl⟩ := rx
  obtain ⟨t', rfl⟩ := ry
  exact add_str (fun t' tk => ⟨.str (i ++ j), H, I.tok _, ⟨_, rfl⟩, q⟩) hz
theorem iop_add_str : OpR X (inplaceOp .Add) (fun x y H Q => ∃ i j, x = .str i ∧ y = .str j ∧ i.length + j.length ≤ sizeLine ∧ Q (.str (i ++ j)) H) := by
  intro pins s σ H x y v u Q I rx ry h
  obtain ⟨i, j, rfl, rfl, hz, q⟩ := h
  obtain ⟨t, rfl⟩ := rx
  obtain ⟨t', rfl⟩ := ry
  exact iadd_str (fun t' tk => ⟨.str (i ++ j), H, I.tok _, ⟨_, rfl⟩, q⟩) hz
theorem op_add_byt : OpR X (binaryOp .Add) (fun x y H Q => ∃ i j, x = .byt i ∧ y = .byt j ∧ i.size + j.size ≤ 16777216 ∧ Q (.byt (i ++ j)) H) := by
  intro pins s σ H x y v u Q I rx ry h
  obtain ⟨i, j, rfl, rfl, hz, q⟩ := h
  obtain ⟨t, rfl⟩ := rx
  obtain ⟨t', rfl⟩ := ry
  exact PySem.W.KBy.add_bytes hz (fun t' tk => ⟨.byt (i ++ j), H, I.tok _, ⟨_, rfl⟩, q⟩)

def PlainIxT (b : Expr) : Prop := ∀ o i, subscripted b false o i = operate [o, i] (getItem o i)
/-- s[i], 0 ≤ i < len -/
theorem pe_item_str (ha : PE X a ta) (hb : PE X b tb) (hs : PlainIxT b) :
    PE X (.Subscript a b pos) (tOp (fun x y H Q => ∃ z i c, x = .str z ∧ y = .int i ∧ 0 ≤ i ∧ i < 2 ^ 63 ∧ i < z.length ∧ z.cps[i.toNat]? = some c ∧ Q (.str ⟨#[c]⟩) H) ta tb) := by
  intro pins s σ H Q I h
  refine Subscript_ (binT ha hb I h fun v u s2 x y H2 I2 rx ry q => ?_)
  obtain ⟨z, i, c, rfl, rfl, h0, h63, h1, hc, q⟩ := q
  obtain ⟨t, rfl⟩ := rx
  obtain ⟨t', rfl⟩ := ry
  have e : seqIndex? i z.length = some i.toNat := PySem.StrLaws.seqIndex_nonneg h0 h1
  exact tail_any (typeIs_str s2 z t) slot_str_getitem.lookup (getItem_str (c := c) (by
    have e1 : decide (i < -(2 ^ 63 : Int)) = false := decide_eq_false (by omega)
    have e2 : decide (i ≥ 2 ^ 63) = false := decide_eq_false (by omega)
    rw [e1, e2] <;> rfl) (by rw [e]; exact hc) ⟨.str ⟨#[c]⟩, H2, I2.tok _, ⟨_, rfl⟩, q⟩) (hs _ _)
/-- b[i], 0 ≤ i < len -/
theorem pe_item_byt (ha : PE X a ta) (hb : PE X b tb) (hs : PlainIxT b) :
    PE X (.Subscript a b pos) (tOp (fun x y H Q => ∃ (z : List UInt8) (i : Int), x = .byt z.toArray ∧ y = .int i ∧ z.length ≤ sizeLine ∧ 0 ≤ i ∧ i < z.length ∧ Q (.int ((z.getD i.toNat 0).toNat : Nat)) H) ta tb) := by
  intro pins s σ H Q I h
  refine Subscript_ (binT ha hb I h fun v u s2 x y H2 I2 rx ry q => ?_)
  obtain ⟨z, i, rfl, rfl, hz, h0, h1, q⟩ := q
  obtain ⟨t, rfl⟩ := rx
  obtain ⟨t', rfl⟩ := ry
  have hl : sizeLine = 16777216 := sizeLine_eq
  exact tail_any (PySem.W.typeIs_bytes s2 z.toArray t) PySem.W.FB.slot_bytes_getitem.lookup (PySem.W.getItem_bytes (by omega) h0 h1 ⟨.int ((z.getD i.toNat 0).toNat : Nat), H2, I2.tok _, ⟨_, rfl⟩, q⟩) (hs _ _)

/-! ### scalar builtins, by CallR -/
theorem vals1 {x : V} {us : List Value} (r : Vals [x] us) : ∃ u, us = [u] ∧ RelV x u := by
  cases r with
  | cons r1 r2 => cases r2; exact ⟨_, rfl, r1⟩
theorem vals2 {x y : V} {us : List Value} (r : Vals [x, y] us) : ∃ u w', us = [u, w'] ∧ RelV x u ∧ RelV y w' := by
  cases r with
  | cons r1 r2 =>
    cases r2 with
    | cons r3 r4 => cases r4; exact ⟨_, _, rfl, r1, r3⟩
theorem call_abs : CallR X (.builtin "abs") (fun xs H Q => ∃ i, xs = [.int i] ∧ Q (.int (if i < 0 then -i else i)) H) := by
  intro pins s σ H xs us Q I r h
  obtain ⟨i, rfl, q⟩ := h
  obtain ⟨u, rfl, t, rfl⟩ := vals1 r
  exact call_abs_int fun u tk => ⟨.int (if i < 0 then -i else i), H, I.tok _, ⟨_, rfl⟩, q⟩
theorem call_max2 (hc : X.calm = true) : CallR X (.builtin "max") (fun xs H Q => ∃ i j, xs = [.int i, .int j] ∧ Q (.int (if j > i then j else i)) H) := by
  intro pins s σ H xs us Q I r h
  obtain ⟨i, j, rfl, q⟩ := h
  obtain ⟨u, w', rfl, ⟨t, rfl⟩, ⟨t', rfl⟩⟩ := vals2 r
  refine max_two_ints (I.ok.hd hc) fun h' tk k => ⟨_, H, I.kept k, ?_, q⟩
  by_cases hj : j > i
  · rw [if_pos hj, if_pos hj]; exact ⟨_, rfl⟩
  · rw [if_neg hj, if_neg hj]; exact ⟨_, rfl⟩
theorem call_min2 (hc : X.calm = true) : CallR X (.builtin "min") (fun xs H Q => ∃ i j, xs = [.int i, .int j] ∧ Q (.int (if j < i then j else i)) H) := by
  intro pins s σ H xs us Q I r h
  obtain ⟨i, j, rfl, q⟩ := h
  obtain ⟨u, w', rfl, ⟨t, rfl⟩, ⟨t', rfl⟩⟩ := vals2 r
  refine min_two_ints (I.ok.hd hc) fun h' tk k => ⟨_, H, I.kept k, ?_, q⟩
  by_cases hj : j < i
  · rw [if_pos hj, if_pos hj]; exact ⟨_, rfl⟩
  · rw [if_neg hj, if_neg hj]; exact ⟨_, rfl⟩
theorem call_int1 : CallR X (.type "int") (fun xs H Q => (∃ i, xs = [.int i] ∧ Q (.int i) H) ∨ ∃ k, xs = [.bl k] ∧ Q (.int (if k then 1 else 0)) H) := by
  intro pins s σ H xs us Q I r h
  rcases h with ⟨i, rfl, q⟩ | ⟨k, rfl, q⟩
  · obtain ⟨u, rfl, t, rfl⟩ := vals1 r
    exact call_int_int ⟨.int i, H, I, ⟨_, rfl⟩, q⟩
  · obtain ⟨u, rfl, r1⟩ := vals1 r
    cases r1
    exact call_int_bool ⟨.int (if k then 1 else 0), H, I.tok _, ⟨_, rfl⟩, q⟩
theorem call_bool1 : CallR X (.type "bool") (fun xs H Q => (∃ i, xs = [.int i] ∧ Q (.bl (i != 0)) H) ∨ ∃ k, xs = [.bl k] ∧ Q (.bl k) H) := by
  intro pins s σ H xs us Q I r h
  rcases h with ⟨i, rfl, q⟩ | ⟨k, rfl, q⟩
  · obtain ⟨u, rfl, t, rfl⟩ := vals1 r
    exact call_bool_int ⟨.bl (i != 0), H, I, rfl, q⟩
  · obtain ⟨u, rfl, r1⟩ := vals1 r
    cases r1
    exact call_bool_bool ⟨.bl k, H, I, rfl, q⟩
theorem call_str_int : CallR X (.type "str") (fun xs H Q => ∃ i, xs = [.int i] ∧ i.natAbs.log2 < 1920 ∧ Q (.str (toString i)) H) := by
  intro pins s σ H xs us Q I r h
  obtain ⟨i, rfl, hz, q⟩ := h
  obtain ⟨u, rfl, t, rfl⟩ := vals1 r
  exact PySem.P.str_of_int hz ⟨.str _, H, I.tok _, ⟨_, rfl⟩, q⟩
theorem call_ord : CallR X (.builtin "ord") (fun xs H Q => ∃ x, xs = [.str x] ∧ x.length = 1 ∧ Q (.int (x.cps.getD 0 0 : Nat)) H) := by
  intro pins s σ H xs us Q I r h
  obtain ⟨x, rfl, hz, q⟩ := h
  obtain ⟨u, rfl, t, rfl⟩ := vals1 r
  exact ord_of_one hz ⟨.int _, H, I.tok _, ⟨_, rfl⟩, q⟩
theorem call_chr : CallR X (.builtin "chr") (fun xs H Q => ∃ i, xs = [.int i] ∧ 0 ≤ i ∧ i ≤ 1114111 ∧ Q (.str ⟨#[i.toNat]⟩) H) := by
  intro pins s σ H xs us Q I r h
  obtain ⟨i, rfl, h0, h1, q⟩ := h
  obtain ⟨u, rfl, t, rfl⟩ := vals1 r
  exact chr_of_range h0 h1 ⟨.str _, H, I.tok _, ⟨_, rfl⟩, q⟩
/-- len of a str, a bytes, a list, a tuple -/
def LenV (K : PySem.W.Frag) (x : V) (H : Hp) (n : Nat) : Prop :=
  match x with
  | .str y => y.length ≤ sizeLine ∧ n = y.length
  | .byt y => y.size ≤ sizeLine ∧ n = y.size
  | .ref p => (∃ xs, SqL K H p xs ∧ n = xs.length) ∨ ∃ xs, SqT K H p xs ∧ n = xs.length
  | _ => False
theorem call_len : CallR X (.builtin "len") (fun xs H Q => ∃ x n, xs = [x] ∧ LenV X.K x H n ∧ Q (.int n) H) := by
  intro pins s σ H xs us Q I r h
  obtain ⟨x, n, rfl, e, q⟩ := h
  obtain ⟨u, rfl, rx⟩ := vals1 r
  have hl := line63
  have hs : sizeLine = 16777216 := sizeLine_eq
  cases x with
  | str y =>
    obtain ⟨t, rfl⟩ := rx
    obtain ⟨hy, e'⟩ : y.length ≤ sizeLine ∧ n = y.length := e
    subst e'
    exact len_str (by omega) ⟨.int _, H, I.tok _, ⟨_, rfl⟩, q⟩
  | byt y =>
    obtain ⟨t, rfl⟩ := rx
    obtain ⟨hy, e'⟩ : y.size ≤ sizeLine ∧ n = y.size := e
    subst e'
    exact PySem.W.len_bytes (by omega) ⟨.int _, H, I.tok _, ⟨_, rfl⟩, q⟩
  | ref p =>
    cases rx
    have e' : (∃ xs, SqL X.K H p xs ∧ n = xs.length) ∨ ∃ xs, SqT X.K H p xs ∧ n = xs.length := e
    rcases e' with ⟨xs, hx, e'⟩ | ⟨xs, hx, e'⟩
    · subst e'
      obtain ⟨its, r', pl, hz⟩ := I.list hx
      have hlen := r'.length
      exact Calls.call_len_list pl.isList (by simp only [List.size_toArray]; omega) ⟨.int xs.length, H, I.tok _, ⟨_, by simp only [List.size_toArray]; rw [hlen]⟩, q⟩
    · subst e'
      obtain ⟨its, r', pl, hz⟩ := I.tuple hx
      have hlen := r'.length
      exact len_tuple pl (by simp only [List.size_toArray]; omega) ⟨.int xs.length, H, I.tok _, ⟨_, by simp only [List.size_toArray]; rw [hlen]⟩, q⟩
  | _ => exact (show False from e).elim
/-- divmod: a new tuple -/
theorem call_divmod : CallR X (.builtin "divmod") (fun xs H Q => ∃ i j, xs = [.int i, .int j] ∧ CDiv i j ∧ ∀ p, H p = none → Q (.ref p) (upd H p (.tup [.int (i / j), .int (i % j)]))) := by
  intro pins s σ H xs us Q I r h
  obtain ⟨i, j, rfl, ⟨h1, h2⟩, q⟩ := h
  obtain ⟨u, w', rfl, ⟨t, rfl⟩, ⟨t', rfl⟩⟩ := vals2 r
  refine divmod_int (by omega) ?_ (.inl (PyProof.noPylong_small (by omega)))
  rw [Int.fdiv_eq_ediv_of_nonneg i (by omega), Int.fmod_eq_emod_of_nonneg i (by omega)]
  have hn : H s.heap.objs.size = none := I.hok.fresh (Nat.le_refl _)
  refine ⟨.ref s.heap.objs.size, _, ?_, rfl, q _ hn⟩
  refine I.laid (fun b o e => Heap.get?_push_of_some _ e) (Nat.le_refl _) ⟨by simp only [List.length_cons, List.length_nil]; rw [sizeLine_eq]; decide, [.int (i / j) s.toks, .int (i % j) (s.toks + 1)], .cons ⟨_, rfl⟩ (.cons ⟨_, rfl⟩ .nil), ?_⟩
  exact ⟨_, Heap.get?_push_size s.heap rfl, rfl, 0, rfl⟩
end
end L2

namespace L2
open PySem PySem.Spec PyProof.Rows

/-! ### an instance, its attributes a map -/
structure ObjM (h : Heap) (x dx C : Addr) (mA : Str → Option Value) : Prop where
  obj : h.get? x = some (PySem.W.instObj C dx)
  ns : h.Ns1 dx mA
  ne : dx ≠ x

theorem lookIn_ns {h : Heap} {dx : Addr} {mA : Str → Option Value} (n : h.Ns1 dx mA) : ∃ od, h.get? dx = some od ∧ ∀ name, PySem.W.lookIn name od = some (mA name) := by
  obtain ⟨o, es, ep, ho, hd, hk, _, hm⟩ := n
  refine ⟨o, ho, fun name => ?_⟩
  have e := hm name
  unfold nsFind findBy at e
  rw [← Array.find?_toList] at e
  unfold PySem.W.lookIn
  rw [hd]
  dsimp only
  split
  · rename_i y q
    rw [q] at e
    exact congrArg some e
  · rename_i q
    rw [q] at e
    have a : es.toList.any (·.refKey) = false := by
      rw [List.any_eq_false]
      intro y hy
      obtain ⟨z, t, hkey⟩ := hk y (Array.mem_toList_iff.mp hy)
      simp [DictEntry.refKey, hkey]
    have a' : ¬ es.toList.any (·.refKey) = true := by rw [a]; exact Bool.false_ne_true
    rw [if_neg a']
    exact congrArg some e

theorem ObjM.look {h : Heap} {x dx C : Addr} {mA : Str → Option Value} (I : ObjM h x dx C mA) : ∃ od, PySem.W.InstAt h x (PySem.W.instObj C dx) C (some od) ∧ ∀ name, PySem.W.lookIn name od = some (mA name) :=
  let ⟨od, ho, hl⟩ := lookIn_ns I.ns
  ⟨od, ⟨I.obj, rfl, rfl, ho⟩, hl⟩

section
variable {prog : Program} {w : World} {A : Around} {E : Value → Shared → Prop} {s : Shared} {K : PySem.W.Frag} {x dx C f : Addr} {mA : Str → Option Value} {name : Str} {v : Value}

theorem get_map {expr : Bool} {Q : Value → Shared → Prop} (X : K.In s.heap) (I : ObjM s.heap x dx C mA) (hg : PySem.W.plainGet K C name = true) (hh : PySem.W.hasDictIn K C = true)
    (ha : PySem.W.findIn K (.ref C) name = some none) (hv : mA name = some v) (hv' : PySem.W.handedIn v = true) (h : Q v { s with toks := s.toks + 1 }) :
    wpAny (model prog w) A (getAttr (.ref x) name expr) Q E s := by
  obtain ⟨od, J, hl⟩ := I.look
  exact PySem.W.get_value X J (PySem.W.plainGet_of hg).1 (PySem.W.findObj_own hh ha rfl (by rw [hl, hv])) hv' h

theorem get_const {expr : Bool} {a : Value} {Q : Value → Shared → Prop} (X : K.In s.heap) (I : ObjM s.heap x dx C mA) (hg : PySem.W.plainGet K C name = true) (hh : PySem.W.hasDictIn K C = true)
    (ha : PySem.W.findIn K (.ref C) name = some (some a)) (hn : PySem.W.specialIn K a "__get__" = some none) (hc : PySem.W.copiedNames.contains name = false) (hv : mA name = none) (hv' : PySem.W.handedIn a = true)
    (h : Q a { s with toks := s.toks + 1 }) : wpAny (model prog w) A (getAttr (.ref x) name expr) Q E s := by
  obtain ⟨od, J, hl⟩ := I.look
  exact PySem.W.get_value X J (PySem.W.plainGet_of hg).1 (PySem.W.findObj_cls hh ha hn hv' hc (by rw [hl, hv])) hv' h

theorem get_meth {pl : Sem Bool} {Q : Value × List Value → Shared → Prop} (X : K.In s.heap) (I : ObjM s.heap x dx C mA) (hg : PySem.W.plainGet K C name = true)
    (hf : PySem.W.findIn K (.ref C) name = some (some (.ref f))) (ht : PySem.W.isFn K (.ref f) = true) (hv : mA name = none) (h : Q (.ref f, [.ref x]) s) :
    wpAny (model prog w) A (getMethod (.ref x) name pl) Q E s := by
  obtain ⟨od, J, hl⟩ := I.look
  exact PySem.W.method_fn X J (PySem.W.plainGet_of hg).1 (PySem.W.plainGet_of hg).2 hf (beq_iff_eq.mp ht) (by show (PySem.W.lookIn name od).map (·.isSome) = some false; rw [hl, hv]; rfl) h

theorem set_map {ns : List Str} {Q : Unit → Shared → Prop} (X : K.In s.heap) (I : ObjM s.heap x dx C mA)
    (hs : PySem.W.findIn K (.ref C) "__setattr__" = some (some (.builtin "object.__setattr__"))) (hp : PySem.W.plainOver K C = true) (ht : PySem.W.takerIn K C name = some none) (hh : PySem.W.hasDictIn K C = true)
    (hw : PySem.Within mA ns) (hsz : ns.length ≤ sizeLine)
    (h : ∀ h', ObjM h' x dx C (fun y => if y = name then some v else mA y) → Heap.SameBut dx s.heap h' → Q () { s with heap := h', toks := s.toks + 2 }) :
    wpAny (model prog w) A (setAttr (.ref x) name v) Q E s := by
  obtain ⟨od, J, hl⟩ := I.look
  refine PySem.W.set_plain X J hs (PySem.W.osa_open (s := { s with toks := s.toks + 1 }) (r := none) X J hp ht fun b => ?_)
  obtain ⟨cd, hc, hd'⟩ := PySem.W.any_some hh
  have hx : s.heap.get? x = some ⟨.ref C, some dx, .plain, #[]⟩ := I.obj
  refine wpAny_bind (wpAny_pure (wpAny_bind (wpAny_bind (wpAny_loadPart hx (wpAny_bind (PySem.W.Looks.here (s := { s with toks := s.toks + 1 }) (PySem.W.looks_clsIn X hc) ?_))))))
  rw [hd']
  refine wpAny_pure (a := some dx) (wpAny_bind (wpAny_pure (wpAny_bind ?_)))
  refine wpAny_nsSet1 (s := { s with toks := s.toks + 1 }) I.ns fun h' hn2 hs2 => ?_
  obtain ⟨oD, esD, epD, hoD, hdD, hcD⟩ := hn2.count (PySem.Within.cons name v hw)
  refine wpAny_bind (wpAny_lookBehind hoD (by rw [hdD]; exact pastItsLine_dict (Nat.le_trans hcD (by rw [List.length_cons]; omega))) ?_)
  exact wpAny_pure (h _ ⟨(hs2.2 _ (Ne.symm I.ne)).trans I.obj, hn2, I.ne⟩ hs2)

/-- C(..): the dict at the heap's end, the instance behind it; then its __init__ -/
theorem make_map {R : Result → Shared → Prop} {vs : List Value} {kw : List (Str × Value)} (X : K.In s.heap) (hm : PySem.W.makesIn K C = true)
    (hi : PySem.W.findIn K (.ref C) "__init__" = some (some (.ref f))) (hf : PySem.W.typeIn K (.ref f) = some (.type "function"))
    (h : codeAny (model prog w) (A.under (.builtin "type.__call__" ⟨.ref C :: vs, kw⟩)) (.call (.ref f) ⟨.ref (s.heap.objs.size + 1) :: vs, kw⟩) (PySem.W.InitBack (s.heap.objs.size + 1) R)
      { s with heap := (s.heap.push PySem.W.emptyDict).push (PySem.W.instObj C s.heap.objs.size) }) :
    codeAny (model prog w) A (.call (.ref C) ⟨vs, kw⟩) R s := by
  obtain ⟨hh, g, d, t, os⟩ := s
  exact PySem.W.make_core (PySem.W.makes_of X hm) (PySem.W.looks_findIn X hi) (fun self => PySem.W.bind_fn X self hf) (.inl rfl) h
/-- C() where there is no __init__ but object's -/
theorem make_map0 {R : Result → Shared → Prop} (X : K.In s.heap) (hm : PySem.W.makesIn K C = true)
    (hi : PySem.W.findIn K (.ref C) "__init__" = some (some (.builtin "object.__init__")))
    (hb : ∀ self, PySem.W.Looks (model prog w) s.heap (bindSpecial (.builtin "object.__init__") self) (.builtin "object.__init__", [self]))
    (h : codeAny (model prog w) (A.under (.builtin "type.__call__" ⟨[.ref C], []⟩)) (.call (.builtin "object.__init__") ⟨[.ref (s.heap.objs.size + 1)], []⟩) (PySem.W.InitBack (s.heap.objs.size + 1) R)
      { s with heap := (s.heap.push PySem.W.emptyDict).push (PySem.W.instObj C s.heap.objs.size) }) :
    codeAny (model prog w) A (.call (.ref C) ⟨[], []⟩) R s := by
  obtain ⟨hh, g, d, t, os⟩ := s
  exact PySem.W.make_core (PySem.W.makes_of X hm) (PySem.W.looks_findIn X hi) hb (.inr ⟨rfl, rfl⟩) h
end

/-! ### the attributes as a list of pairs -/
def putF (f : Str) (v : V) : List (Str × V) → List (Str × V)
  | [] => [(f, v)]
  | (g, x) :: r => if g = f then (g, v) :: r else (g, x) :: putF f v r
theorem lookup_putF (f g : Str) (v : V) : ∀ fs : List (Str × V), (putF f v fs).lookup g = if g = f then some v else fs.lookup g
  | [] => by
    show List.lookup g [(f, v)] = _
    by_cases h : g = f
    · have hb : (g == f) = true := beq_iff_eq.mpr h
      simp only [List.lookup, hb, if_pos h]
    · have hb : (g == f) = false := beq_eq_false_iff_ne.mpr h
      simp only [List.lookup, hb, if_neg h]
  | (k, x) :: r => by
    have ih := lookup_putF f g v r
    rw [show putF f v ((k, x) :: r) = (if k = f then (k, v) :: r else (k, x) :: putF f v r) from rfl]
    by_cases hk : k = f
    · rw [if_pos hk]
      by_cases h : g = k
      · have hb : (g == k) = true := beq_iff_eq.mpr h
        simp only [List.lookup, hb, if_pos (h.trans hk)]
      · have hb : (g == k) = false := beq_eq_false_iff_ne.mpr h
        simp only [List.lookup, hb, if_neg (fun e : g = f => h (e.trans hk.symm))]
    · rw [if_neg hk]
      by_cases h : g = k
      · have hb : (g == k) = true := beq_iff_eq.mpr h
        simp only [List.lookup, hb, if_neg (fun e : g = f => hk (h.symm.trans e))]
      · have hb : (g == k) = false := beq_eq_false_iff_ne.mpr h
        simp only [List.lookup, hb]
        exact ih
theorem keys_putF (f : Str) (v : V) : ∀ fs : List (Str × V), f ∈ (putF f v fs).map (·.1) ∧ ∀ g, g ∈ fs.map (·.1) → g ∈ (putF f v fs).map (·.1)
  | [] => ⟨by simp [putF], fun g h => by simp at h⟩
  | (k, x) :: r => by
    obtain ⟨i1, i2⟩ := keys_putF f v r
    rw [show putF f v ((k, x) :: r) = (if k = f then (k, v) :: r else (k, x) :: putF f v r) from rfl]
    by_cases hk : k = f
    · rw [if_pos hk]
      subst hk
      exact ⟨by simp, fun g h => by simpa using h⟩
    · rw [if_neg hk]
      refine ⟨?_, fun g h => ?_⟩
      · rw [List.map_cons]
        exact List.mem_cons_of_mem _ i1
      · rw [List.map_cons] at h ⊢
        rcases List.mem_cons.mp h with e | e
        · exact List.mem_cons.mpr (.inl e)
        · exact List.mem_cons_of_mem _ (i2 g e)
theorem length_putF (f : Str) (v : V) : ∀ fs : List (Str × V), (putF f v fs).length ≤ fs.length + 1
  | [] => by simp [putF]
  | (k, x) :: r => by
    have ih := length_putF f v r
    rw [show putF f v ((k, x) :: r) = (if k = f then (k, v) :: r else (k, x) :: putF f v r) from rfl]
    by_cases hk : k = f
    · rw [if_pos hk, List.length_cons, List.length_cons]; omega
    · rw [if_neg hk, List.length_cons, List.length_cons]; omega

theorem RelO.some_of {v : V} {o : Option Value} (r : RelO (some v) o) : ∃ u, o = some u ∧ RelV v u := by
  cases o with
  | none => exact (show False from r).elim
  | some u => exact ⟨u, rfl, r⟩
theorem RelO.none_of {o : Option Value} (r : RelO none o) : o = none := by
  cases o with
  | none => rfl
  | some u => exact (show False from r).elim
theorem handed_of {v : V} {u : Value} (r : RelV v u) : PySem.W.handedIn u = true := by
  cases v with
  | non => cases (show u = Value.none from r); rfl
  | bl b => cases (show u = Value.bool b from r); rfl
  | int i => obtain ⟨t, e⟩ := (show ∃ t, u = Value.int i t from r); cases e; rfl
  | str x => obtain ⟨t, e⟩ := (show ∃ t, u = Value.str x t from r); cases e; rfl
  | byt b => obtain ⟨t, e⟩ := (show ∃ t, u = Value.bytes b t from r); cases e; rfl
  | flt b => obtain ⟨t, e⟩ := (show ∃ t, u = Value.float b t from r); cases e; rfl
  | ref a => cases (show u = Value.ref a from r); rfl
  | ty n => cases (show u = Value.type n from r); rfl

section
variable {P : Program} {w : World} {H H' : Hp} {h h' : Heap} {a C dx : Addr} {fs fs' : List (Str × V)}
theorem ins_get (hok : HOk P w H h) (e : H a = some (.ins C dx fs)) : ∃ mA, ObjM h a dx C mA ∧ (∀ f, RelO (fs.lookup f) (mA f)) ∧ PySem.Within mA (fs.map (·.1)) ∧ fs.length ≤ 1000 ∧ H dx = some (.own a) := by
  obtain ⟨d, z, ne, ob, mA, n, r, q⟩ := (show ObjOk P w H h a (.ins C dx fs) from hok a _ e)
  exact ⟨mA, ⟨ob, n, ne⟩, r, q, z, d⟩
end

/-! ### what of the text a class must have -/
structure Cls (K : PySem.W.Frag) (C : Addr) : Prop where
  pg : PySem.W.plainGet K C Str.empty = true
  hd : PySem.W.hasDictIn K C = true
  po : PySem.W.plainOver K C = true
  sa : PySem.W.findIn K (.ref C) "__setattr__" = some (some (.builtin "object.__setattr__"))
theorem Cls.get {K : PySem.W.Frag} {C : Addr} (c : Cls K C) (f : Str) : PySem.W.plainGet K C f = true := c.pg
/-- no class of it has the name -/
def NoAttr (K : PySem.W.Frag) (C : Addr) (f : Str) : Prop := PySem.W.findIn K (.ref C) f = some none
theorem NoAttr.taker {K : PySem.W.Frag} {C : Addr} {f : Str} (n : NoAttr K C f) : PySem.W.takerIn K C f = some none := by
  unfold PySem.W.takerIn
  rw [show PySem.W.findIn K (.ref C) f = some none from n]
  rfl
/-- a constant of the class -/
structure Con (K : PySem.W.Frag) (C : Addr) (f : Str) (v : V) (u : Value) : Prop where
  at_ : PySem.W.findIn K (.ref C) f = some (some u)
  rel : RelV v u
  get : PySem.W.specialIn K u "__get__" = some none
  cp : PySem.W.copiedNames.contains f = false
/-- a method: a plain def of the class or of one above it -/
structure Meth (K : PySem.W.Frag) (C : Addr) (m : Str) (f : Addr) : Prop where
  at_ : PySem.W.findIn K (.ref C) m = some (some (.ref f))
  fn : PySem.W.isFn K (.ref f) = true
  kp : PySem.W.keepIn K (.ref f) = true

section
variable {X : Cx} {pins : List (Addr × Obj)} {σ : St} {H : Hp} {s : Shared} {a C dx : Addr} {fs : List (Str × V)} {f : Str} {v : V} {A : Around} {E : Value → Shared → Prop}

theorem getattr_ok {b : Bool} {Q : Value → Shared → Prop} (I : Inv X pins σ H s) (e : H a = some (.ins C dx fs)) (c : Cls X.K C) (n : NoAttr X.K C f) (l : fs.lookup f = some v)
    (h : ∀ u s', Inv X pins σ H s' → RelV v u → Q u s') : wpAny (model X.prog X.w) A (getAttr (.ref a) f b) Q E s := by
  obtain ⟨mA, O, r, _, _, _⟩ := ins_get I.hok e
  obtain ⟨u, hu, ru⟩ := RelO.some_of (v := v) (o := mA f) (by rw [← l]; exact r f)
  exact get_map I.kIn O (c.get f) c.hd n hu (handed_of ru) (h u _ (I.tok _) ru)

theorem getcon_ok {b : Bool} {u : Value} {Q : Value → Shared → Prop} (I : Inv X pins σ H s) (e : H a = some (.ins C dx fs)) (c : Cls X.K C) (k : Con X.K C f v u) (l : fs.lookup f = none)
    (h : ∀ s', Inv X pins σ H s' → Q u s') : wpAny (model X.prog X.w) A (getAttr (.ref a) f b) Q E s := by
  obtain ⟨mA, O, r, _, _, _⟩ := ins_get I.hok e
  have hn : mA f = none := RelO.none_of (by rw [← l]; exact r f)
  exact get_const I.kIn O (c.get f) c.hd k.at_ k.get k.cp hn (handed_of k.rel) (h _ (I.tok _))

theorem getmeth_ok {m : Str} {g : Addr} {pl : Sem Bool} {Q : Value × List Value → Shared → Prop} (I : Inv X pins σ H s) (e : H a = some (.ins C dx fs)) (c : Cls X.K C) (k : Meth X.K C m g) (l : fs.lookup m = none)
    (h : Q (.ref g, [.ref a]) s) : wpAny (model X.prog X.w) A (getMethod (.ref a) m pl) Q E s := by
  obtain ⟨mA, O, r, _, _, _⟩ := ins_get I.hok e
  have hn : mA m = none := RelO.none_of (by rw [← l]; exact r m)
  exact get_meth I.kIn O (c.get m) k.at_ k.fn hn h

theorem setattr_ok {y : V} {u : Value} {Q : Unit → Shared → Prop} (I : Inv X pins σ H s) (e : H a = some (.ins C dx fs)) (c : Cls X.K C) (n : NoAttr X.K C f) (hl : fs.length < 1000) (ry : RelV y u)
    (h : ∀ s', Inv X pins σ (upd H a (.ins C dx (putF f y fs))) s' → Q () s') : wpAny (model X.prog X.w) A (setAttr (.ref a) f u) Q E s := by
  obtain ⟨mA, O, r, wi, _, ho⟩ := ins_get I.hok e
  have hz : (fs.map (·.1)).length ≤ sizeLine := by rw [List.length_map, sizeLine_eq]; omega
  refine set_map I.kIn O c.sa c.po n.taker c.hd wi hz fun h' O' sb => h _ ?_
  have hd : ∃ o, h'.get? dx = some o := let ⟨o, _, _, e', _⟩ := O'.ns; ⟨o, e'⟩
  refine I.write (x := a) (e := dx) (by rw [e]; exact True.intro) (.inr ho) (fun b q hb z => (sb.2 b hb).trans z) hd ?_
  refine ⟨by rw [upd_ne O.ne]; exact ho, ?_, O.ne, O'.obj, _, O'.ns, fun g => ?_, fun g hg => ?_⟩
  · have := length_putF f y fs; omega
  · show RelO ((putF f y fs).lookup g) (if g = f then some u else mA g)
    rw [lookup_putF]
    by_cases q : g = f
    · rw [if_pos q, if_pos q]; exact ry
    · rw [if_neg q, if_neg q]; exact r g
  · by_cases q : g = f
    · rw [q]; exact (keys_putF f y fs).1
    · refine (keys_putF f y fs).2 g (wi g fun z => hg ?_)
      show (if g = f then some u else mA g) = none
      rw [if_neg q]; exact z

/-- a new instance, tracked, without attributes -/
theorem Inv.made (I : Inv X pins σ H s) : Inv X pins σ (upd (upd H s.heap.objs.size (.own (s.heap.objs.size + 1))) (s.heap.objs.size + 1) (.ins C s.heap.objs.size []))
    { s with heap := (s.heap.push PySem.W.emptyDict).push (PySem.W.instObj C s.heap.objs.size) } := by
  have e1 : (s.heap.push PySem.W.emptyDict).get? s.heap.objs.size = some PySem.W.emptyDict := Heap.get?_push_size s.heap rfl
  have e2 : ((s.heap.push PySem.W.emptyDict).push (PySem.W.instObj C s.heap.objs.size)).get? (s.heap.objs.size + 1) = some (PySem.W.instObj C s.heap.objs.size) := by
    have := Heap.get?_push_size (s.heap.push PySem.W.emptyDict) (o := PySem.W.instObj C s.heap.objs.size) rfl
    rwa [Heap.size_push] at this
  have e3 : (s.heap.push PySem.W.emptyDict).Ns s.heap.objs.size (fun _ => none) := ⟨PySem.W.emptyDict, #[], _, e1, rfl, (fun e he => absurd he (by simp)), fun _ => rfl⟩
  have I1 := I.laid (a := s.heap.objs.size) (o := .own (s.heap.objs.size + 1)) (h' := s.heap.push PySem.W.emptyDict) (t' := s.toks) (fun b u q => Heap.get?_push_of_some _ q) (Nat.le_refl _) ⟨_, e1⟩
  refine I1.laid (a := s.heap.objs.size + 1) (o := .ins C s.heap.objs.size []) (t' := s.toks) (fun b u q => Heap.get?_push_of_some _ q) (Nat.le_of_eq (Heap.size_push _ _)) ?_
  have ne : s.heap.objs.size ≠ s.heap.objs.size + 1 := Nat.ne_of_lt (Nat.lt_succ_self _)
  refine ⟨by rw [upd_ne ne, upd_same], Nat.zero_le _, ne, e2, fun _ => none, (Heap.Ns1.of_empty e3).at fun o q => Heap.get?_push_of_some _ q, fun _ => True.intro, fun y hy => absurd rfl hy⟩

/-- e.f where nothing but the object is asked: through attributeBase (super) and the last hold -/
theorem attr_of {prog : Program} {w : World} {env : Env} {e : Expr} {f : Str} {pos : Pos} {s : Shared} {Q : Value → Shared → Prop} (hb : attributeBase e f env (eval e env) = eval e env)
    (h : wpAny (model prog w) A (eval e env) (fun o s₁ => wpAny (model prog w) A (getAttr o f true) Q E s₁) E s) : wpAny (model prog w) A (eval (.Attribute e f pos) env) Q E s :=
  Attribute_any_ h (by rw [arm_eval_Attribute, hb])
end

/-! ### readings and rules -/
/-- e.f, an attribute of the instance -/
def tFld (K : PySem.W.Frag) (ta : TE) (f : Str) : TE := fun σ H Q => ta σ H fun x H1 => ∃ a C dx fs v, x = .ref a ∧ H1 a = some (.ins C dx fs) ∧ Cls K C ∧ NoAttr K C f ∧ fs.lookup f = some v ∧ Q v H1
/-- e.f, a constant of the class -/
def tCon (K : PySem.W.Frag) (ta : TE) (f : Str) : TE := fun σ H Q => ta σ H fun x H1 => ∃ a C dx fs v u, x = .ref a ∧ H1 a = some (.ins C dx fs) ∧ Cls K C ∧ Con K C f v u ∧ fs.lookup f = none ∧ Q v H1
/-- e.f = value -/
def sFld (K : PySem.W.Frag) (ta tv : TE) (f : Str) : TS := fun D σ H => tv σ H fun y H1 => ta σ H1 fun x H2 => ∃ a C dx fs, x = .ref a ∧ H2 a = some (.ins C dx fs) ∧ Cls K C ∧ NoAttr K C f ∧ fs.length < 1000 ∧
  D.nx σ (upd H2 a (.ins C dx (putF f y fs)))
/-- an augmented operator on two values -/
def InOp (X : Cx) (op : Operator) (rd : V → V → Hp → VK → Prop) : Prop :=
  ∀ (pins : List (Addr × Obj)) (s : Shared) (σ : St) (H : Hp) (x y : V) (u v : Value) (Q : VK), Inv X pins σ H s → RelV x u → RelV y v → rd x y H Q → wpAny (model X.prog X.w) X.A (inplaceOp op u v) (EP X pins σ Q) X.xe s
/-- e.f op= value -/
def sFldAug (K : PySem.W.Frag) (ta tv : TE) (rd : V → V → Hp → VK → Prop) (f : Str) : TS := fun D σ H => ta σ H fun x H1 => ∃ a C dx fs v, x = .ref a ∧ H1 a = some (.ins C dx fs) ∧ Cls K C ∧ NoAttr K C f ∧ fs.lookup f = some v ∧
  tv σ H1 fun y H2 => rd v y H2 fun z H3 => ∃ dx' fs', H3 a = some (.ins C dx' fs') ∧ fs'.length < 1000 ∧ D.nx σ (upd H3 a (.ins C dx' (putF f z fs')))

section
variable {X : Cx} {o e value : Expr} {f : Str} {pos pos' tpos : Pos} {ta tv : TE}
theorem pe_fld (he : PE X e ta) (hb : attributeBase e f X.env (eval e X.env) = eval e X.env) : PE X (.Attribute e f pos) (tFld X.K ta f) := by
  intro pins s σ H Q I h
  refine attr_of hb (thn (he pins s σ H _ I h) fun u s1 ⟨x, H1, I1, rx, a, C, dx, fs, v, ex, ea, c, n, l, q⟩ => ?_)
  subst ex
  obtain rfl : u = Value.ref a := rx
  exact getattr_ok I1 ea c n l fun u' s2 I2 ru => ⟨v, H1, I2, ru, q⟩
theorem pe_con (he : PE X e ta) (hb : attributeBase e f X.env (eval e X.env) = eval e X.env) : PE X (.Attribute e f pos) (tCon X.K ta f) := by
  intro pins s σ H Q I h
  refine attr_of hb (thn (he pins s σ H _ I h) fun u s1 ⟨x, H1, I1, rx, a, C, dx, fs, v, u0, ex, ea, c, k, l, q⟩ => ?_)
  subst ex
  obtain rfl : u = Value.ref a := rx
  exact getcon_ok I1 ea c k l fun s2 I2 => ⟨v, H1, I2, k.rel, q⟩
theorem ps_fld (ha : PE X o ta) (hv : PE X value tv) (hs : swapsWith value (some (.Attribute o f pos')) pos.line X.env = pure false) : PS X (.Assign [.Attribute o f pos'] value pos) (sFld X.K ta tv f) := by
  intro pins s σ H D I h
  refine plainObj_wpAny_Assign_Attribute (thn (hv pins s σ H _ I h) fun u s1 ⟨y, H1, I1, ry, q⟩ => thn (ha pins s1 σ H1 _ I1 q) fun ov s2 ⟨x, H2, I2, rx, a, C, dx, fs, ex, ea, c, n, l, q2⟩ => ?_) hs
  subst ex
  obtain rfl : ov = Value.ref a := rx
  exact setattr_ok I2 ea c n l ry fun s3 I3 => ⟨σ, _, I3, q2⟩
theorem ps_fldaug {op : Operator} {rd : V → V → Hp → VK → Prop} (ha : PE X o ta) (hv : PE X value tv) (hop : InOp X op rd) : PS X (.AugAssign (.Attribute o f tpos) op value pos) (sFldAug X.K ta tv rd f) := by
  intro pins s σ H D I h
  refine wpAny_AugAssign_AttributeAny (thn (ha pins s σ H _ I h) fun ov s1 ⟨x, H1, I1, rx, a, C, dx, fs, v, ex, ea, c, n, l, q⟩ => ?_)
  subst ex
  obtain rfl : ov = Value.ref a := rx
  refine getattr_ok I1 ea c n l fun u s2 I2 ru => thn (hv pins s2 σ H1 _ I2 q) fun w3 s3 ⟨y, H2, I3, ry, q3⟩ => thn (hop pins s3 σ H2 v y u w3 _ I3 ru ry q3) fun w4 s4 ⟨z, H3, I4, rz, dx', fs', ea', l', q4⟩ => ?_
  exact setattr_ok I4 ea' c n l' rz fun s5 I5 => ⟨σ, _, I5, q4⟩
def rAdd : V → V → Hp → VK → Prop := fun x y H Q => ∃ i j, x = .int i ∧ y = .int j ∧ Q (.int (i + j)) H
def rSub : V → V → Hp → VK → Prop := fun x y H Q => ∃ i j, x = .int i ∧ y = .int j ∧ Q (.int (i - j)) H
theorem in_add : InOp X .Add rAdd := by
  rintro pins s σ H x y u v Q I rx ry ⟨i, j, rfl, rfl, q⟩
  obtain ⟨t, rfl⟩ := (show ∃ t, u = Value.int i t from rx)
  obtain ⟨t', rfl⟩ := (show ∃ t', v = Value.int j t' from ry)
  exact PyProof.Rows.iadd_int ⟨.int (i + j), H, I.tok _, ⟨_, rfl⟩, q⟩
theorem in_sub : InOp X .Sub rSub := by
  rintro pins s σ H x y u v Q I rx ry ⟨i, j, rfl, rfl, q⟩
  obtain ⟨t, rfl⟩ := (show ∃ t, u = Value.int i t from rx)
  obtain ⟨t', rfl⟩ := (show ∃ t', v = Value.int j t' from ry)
  exact PyProof.Rows.isub_int ⟨.int (i - j), H, I.tok _, ⟨_, rfl⟩, q⟩

/-- what is between an instance and its method: the tree of a method call -/
theorem methcall_of {pl : Sem Bool} {m : Str} {apos : Pos} {args : List Expr} {pins : List (Addr × Obj)} {s : Shared} {σ : St} {H : Hp} {Q : Value → Shared → Prop} {te : TE} (he : PE X e te) (I : Inv X pins σ H s)
    (h : te σ H fun x H1 => ∃ a C dx fs g, x = .ref a ∧ H1 a = some (.ins C dx fs) ∧ Cls X.K C ∧ Meth X.K C m g ∧ fs.lookup m = none ∧
      ∀ s1, Inv X pins σ H1 s1 → wpAny (model X.prog X.w) X.A (callWith pos (.ref g) [.ref a] (backTo pos (starEach args X.env)) (backToKw pos (keywordEach [] X.env))) Q X.xe s1)
    (ht : eval (.Call (.Attribute e m apos) args [] pos) X.env = (do
      let ov ← eval e X.env
      standAt apos.atName
      let (f, first) ← holding [ov] (getMethod ov m pl)
      callWith pos f first (backTo pos (starEach args X.env)) (backToKw pos (keywordEach [] X.env)))) :
    wpAny (model X.prog X.w) X.A (eval (.Call (.Attribute e m apos) args [] pos) X.env) Q X.xe s := by
  refine PySem.W.methodCall_KW (pl := pl) (thn (he pins s σ H _ I h) fun u s1 ⟨x, H1, I1, rx, a, C, dx, fs, g, ex, ea, c, k, l, q⟩ => ?_) ht
  subst ex
  obtain rfl : u = Value.ref a := rx
  exact getmeth_ok I1 ea c k l (q s1 I1)
end

/-! ### isinstance -/
section
variable {X : Cx} {pins : List (Addr × Obj)} {σ : St} {H : Hp} {s : Shared} {A : Around} {E : Value → Shared → Prop} {Q : Value → Shared → Prop} {c : Value} {b : Bool}
/-- the type of a value, as the fragment's deciders take it; for an instance its class -/
inductive TyOf (K : PySem.W.Frag) (H : Hp) : V → Value → Prop where
  | non : TyOf K H .non (.type "NoneType")
  | bl (x : Bool) : TyOf K H (.bl x) (.type "bool")
  | int (i : Int) : TyOf K H (.int i) (.type "int")
  | str (x : Str) : TyOf K H (.str x) (.type "str")
  | flt (x : UInt64) : TyOf K H (.flt x) (.type "float")
  | lst {a : Addr} {xs : List V} (e : H a = some (.lst xs)) : TyOf K H (.ref a) (.type "list")
  | frz {a : Addr} {o : Obj} {xs : List V} (e : H a = some (.frz o (.lst xs))) : TyOf K H (.ref a) (.type "list")
  | tup {a : Addr} {xs : List V} (e : H a = some (.tup xs)) : TyOf K H (.ref a) (.type "tuple")
  | dK {a : Addr} {kvs : List (Key × V)} (e : H a = some (.dK kvs)) : TyOf K H (.ref a) (.type "dict")
  | dT {a : Addr} {kvs : List (List Key × V)} (e : H a = some (.dT kvs)) : TyOf K H (.ref a) (.type "dict")
  | ins {a C dx : Addr} {fs : List (Str × V)} (e : H a = some (.ins C dx fs)) (cl : Cls K C) (ha : PySem.W.findIn K (.ref C) "__class__" = some (some (.builtin "object.__class__")))
      (hn : PySem.W.specialIn K (.builtin "object.__class__") "__get__" = some (some (.builtin "getset_descriptor.__get__"))) (htk : PySem.W.takesIn K (.builtin "object.__class__") = some true)
      (hm : PySem.W.mroIn K C (.type "object") = some true) : TyOf K H (.ref a) (.ref C)
/-- isinstance(x, c) for one class c, a built-in or an own one: kitOne's answer -/
theorem isinst_ok {x : V} {u t : Value} (I : Inv X pins σ H s) (rx : RelV x u) (ty : TyOf X.K H x t) (e : PySem.W.kitOne X.K t c = some b) (h : ∀ tk, Q (.bool b) { s with toks := tk }) :
    wpAny (model X.prog X.w) A (call (.builtin "isinstance") [u, c]) Q E s := by
  cases ty with
  | non => cases (show u = Value.none from rx); exact PySem.W.kia_one PySem.W.kitx_none I.kIn True.intro e (fun z => nomatch z) h
  | bl y => cases (show u = Value.bool y from rx); exact PySem.W.kia_one PySem.W.kitx_bool I.kIn True.intro e (fun z => nomatch z) h
  | int i => obtain ⟨t, q⟩ := (show ∃ t, u = Value.int i t from rx); cases q; exact PySem.W.kia_one PySem.W.kitx_int I.kIn True.intro e (fun z => nomatch z) h
  | str y => obtain ⟨t, q⟩ := (show ∃ t, u = Value.str y t from rx); cases q; exact PySem.W.kia_one PySem.W.kitx_str I.kIn True.intro e (fun z => nomatch z) h
  | flt y => obtain ⟨t, q⟩ := (show ∃ t, u = Value.float y t from rx); cases q; exact PySem.W.kia_one PySem.W.kitx_float I.kIn True.intro e (fun z => nomatch z) h
  | @lst a xs ea =>
    cases (show u = Value.ref a from rx)
    obtain ⟨_, _, n, _, h1⟩ := (show ObjOk X.prog X.w H s.heap a (.lst xs) from I.hok a _ ea)
    exact PySem.W.kia_one PySem.W.kitx_list I.kIn ⟨_, h1, rfl⟩ e (fun z => nomatch z) h
  | @frz a ob xs ea =>
    cases (show u = Value.ref a from rx)
    obtain ⟨_, _, _, n, _, h1⟩ := (show ObjOk X.prog X.w H s.heap a (.frz ob (.lst xs)) from I.hok a _ ea)
    exact PySem.W.kia_one PySem.W.kitx_list I.kIn ⟨_, h1, rfl⟩ e (fun z => nomatch z) h
  | @tup a xs ea =>
    cases (show u = Value.ref a from rx)
    obtain ⟨_, _, _, p⟩ := (show ObjOk X.prog X.w H s.heap a (.tup xs) from I.hok a _ ea)
    obtain ⟨o, h1, h2, _⟩ := p
    exact PySem.W.kia_one PySem.W.kitx_tuple I.kIn ⟨o, h1, h2⟩ e (fun z => nomatch z) h
  | @dK a kvs ea =>
    cases (show u = Value.ref a from rx)
    obtain ⟨_, _, vs, _, p⟩ := (show ObjOk X.prog X.w H s.heap a (.dK kvs) from I.hok a _ ea)
    obtain ⟨o, es, ep, h1, h2, _⟩ := p
    exact PySem.W.kia_one PySem.W.kitx_dict I.kIn ⟨o, h1, h2.1⟩ e (fun z => nomatch z) h
  | @dT a kvs ea =>
    cases (show u = Value.ref a from rx)
    obtain ⟨_, _, xs, _, o, es, ep, h1, h2, _⟩ := (show ObjOk X.prog X.w H s.heap a (.dT kvs) from I.hok a _ ea)
    exact PySem.W.kia_one PySem.W.kitx_dict I.kIn ⟨o, h1, h2.1⟩ e (fun z => nomatch z) h
  | @ins a C dx fs ea cl ha hn htk hm =>
    cases (show u = Value.ref a from rx)
    obtain ⟨mA, O, _⟩ := ins_get I.hok ea
    obtain ⟨od, J, _⟩ := O.look
    exact PySem.W.kia_one (PySem.W.kitx_own (cl.get _) cl.hd ha hn htk hm) I.kIn J e (fun z => nomatch z) h
end
end L2

namespace L2
open PySem PySem.Spec PyProof.Rows

/-! ### room -/
structure Room (k : Nat) (A : Around) : Prop where
  hd : A.handled = none
  dp : A.depth + 3 * k + 5 < recursionLimit
  un : A.units + 16 * k + 200 < cLine
theorem Room.mono {j k : Nat} {A : Around} (r : Room k A) (h : j ≤ k) : Room j A := ⟨r.hd, by have := r.dp; omega, by have := r.un; omega⟩
theorem Room.deeper {k : Nat} {A : Around} (r : Room (k + 1) A) (env : Env) : Room k (A.deeper env) :=
  ⟨r.hd, by have := r.dp; show A.depth + 1 + 3 * k + 5 < _; omega, by have := r.un; show A.units + 3 + 16 * k + 200 < _; omega⟩
theorem Room.in1 {k : Nat} {A : Around} (r : Room (k + 1) A) : Room k A.in1 :=
  ⟨r.hd, by have := r.dp; show A.depth + 3 * k + 5 < _; omega, by have := r.un; show A.units + 1 + 16 * k + 200 < _; omega⟩
theorem make_depth {A : Around} {C : Addr} {us : List Value} {kw : List (Str × Value)} : (A.under (.builtin "type.__call__" ⟨.ref C :: us, kw⟩)).depth = A.depth + 1 := by
  first | rfl | simp [Around.under, Code.weight, Code.isCreation, Code.isGuard, Code.isCaller, Code.frames, Code.isFrame, guardIds]
theorem make_units {A : Around} {C : Addr} {us : List Value} {kw : List (Str × Value)} : (A.under (.builtin "type.__call__" ⟨.ref C :: us, kw⟩)).units = A.units + 1 := by
  first | rfl | simp [Around.under, Code.cUnits, Code.frames, Code.isFrame]
theorem Room.make {k : Nat} {A : Around} (r : Room (k + 1) A) (C : Addr) (us : List Value) (kw : List (Str × Value)) : Room k (A.under (.builtin "type.__call__" ⟨.ref C :: us, kw⟩)) :=
  ⟨r.hd, by have := r.dp; rw [make_depth]; omega, by have := r.un; rw [make_units]; omega⟩
theorem Room.depth {k : Nat} {A : Around} (r : Room k A) : A.depth < recursionLimit := by have := r.dp; omega
theorem Room.units {k : Nat} {A : Around} (r : Room k A) : A.units + 64 < cLine := by have := r.un; omega
theorem Room.units0 {k : Nat} {A : Around} (r : Room k A) : A.units < cLine := by have := r.un; omega

/-! ### argument lists and displays -/
def tNil : TA := fun _ H Q => Q [] H
def tCons (ta : TE) (tr : TA) : TA := fun σ H Q => ta σ H fun x H1 => tr σ H1 fun xs H2 => Q (x :: xs) H2
section
variable {X : Cx} {e : Expr} {es : List Expr} {te : TE} {t : TA} {pos : Pos}
theorem pa_nil : PA X [] tNil := fun _ _ _ _ H Q I h => Calls.spliced_nil ⟨[], H, I, .nil, h⟩
theorem pa_cons (ha : PE X e te) (hr : PA X es t) (hs : starEach (e :: es) X.env = (false, eval e X.env) :: starEach es X.env := by rfl) : PA X (e :: es) (tCons te t) := by
  intro pos pins s σ H Q I h
  rw [hs]
  show wpAny _ _ (spliced ((false, eval e X.env) :: backTo pos (starEach es X.env))) _ _ s
  refine Calls.spliced_cons (thn (ha pins s σ H _ I h) fun u s1 ⟨x, H1, I1, r1, q1⟩ => ?_)
  exact thn (hr pos pins s1 σ H1 _ I1 q1) fun us s2 ⟨xs, H2, I2, r2, q2⟩ => ⟨x :: xs, H2, I2, .cons r1 r2, q2⟩

/-- a tuple, a list of written items -/
def tTup (t : TA) : TE := fun σ H Q => t σ H fun xs H1 => xs.length ≤ sizeLine ∧ ∀ p, H1 p = none → Q (.ref p) (upd H1 p (.tup xs))
def tLst (t : TA) : TE := fun σ H Q => t σ H fun xs H1 => xs.length ≤ sizeLine ∧ ∀ p, H1 p = none → Q (.ref p) (upd H1 p (.lst xs))
theorem pe_tup {x1} (h : PA X es t) : PE X (.Tuple es x1 pos) (tTup t) := by
  intro pins s σ H Q I hq
  refine wpAny_Tuple_spliced (thn (h pos pins s σ H _ I hq) fun us s1 ⟨xs, H1, I1, r, z, q⟩ => ⟨by rw [← r.length]; exact z, ?_⟩)
  have hf : H1 s1.heap.objs.size = none := I1.hok.fresh (Nat.le_refl _)
  refine ⟨.ref s1.heap.objs.size, upd H1 s1.heap.objs.size (.tup xs), I1.laid (t' := s1.toks) (fun b u e => Heap.get?_push_of_some _ e) (Nat.le_refl _) ?_, rfl, q _ hf⟩
  exact ⟨z, us, r, ⟨_, Heap.get?_push_size _ rfl, rfl, _, rfl⟩⟩
theorem pe_lst (h : PA X es t) : PE X (.List es pos) (tLst t) := by
  intro pins s σ H Q I hq
  refine wpAny_List_spliced (thn (h pos pins s σ H _ I hq) fun us s1 ⟨xs, H1, I1, r, z, q⟩ => ⟨by rw [← r.length]; exact z, ?_⟩)
  have hf : H1 s1.heap.objs.size = none := I1.hok.fresh (Nat.le_refl _)
  refine ⟨.ref s1.heap.objs.size, upd H1 s1.heap.objs.size (.lst xs), I1.laid (t' := s1.toks) (fun b u e => Heap.get?_push_of_some _ e) (Nat.le_refl _) ?_, rfl, q _ hf⟩
  exact ⟨z, us, 0, r, Heap.get?_push_size _ rfl⟩
end

/-! ### what a def promises -/
/-- a def's promise: the bound arguments in the parameters' order, the heap, the wanted end, the wanted exception -/
abbrev Sp := List V → Hp → VK → XK → Prop
/-- how an exception lies behind a call (file 08 gives it): the callers' frames, abstract heap and state ahead of the call, the wish, the exception, the state -/
abbrev CXT := List Env → Hp → Shared → XK → Value → Shared → Prop

/-- the state at a call -/
structure Env0 (P : Program) (w : World) (K : PySem.W.Frag) (mg : Str → Option Value) (base : Heap) (A : Around) (outer : List Env) (s : Shared) (H : Hp) : Prop where
  frames : A.frames = some outer
  mod : Mod K mg base
  bs : ∀ b o, base.get? b = some o → s.heap.get? b = some o ∧ H b = none
  bsz : base.objs.size ≤ s.heap.objs.size
  funs : s.heap.FunFrames base outer
  frf : ∀ b ∈ frs outer, H b = none
  hok : HOk P w H s.heap
  bare : AllBare s.gens
/-- a call's end -/
def CE (outer : List Env) (P : Program) (w : World) (H : Hp) (s : Shared) (Q : VK) (u : Value) (s' : Shared) : Prop :=
  ∃ v H', s'.os = s.os ∧ AllBare s'.gens ∧ Un (frs outer) [] H H' s.heap s'.heap ∧ HOk P w H' s'.heap ∧ RelV v u ∧ Q v H'
def CR (CX : CXT) (outer : List Env) (P : Program) (w : World) (H : Hp) (s : Shared) (Q : VK) (E : XK) (r : Result) (s' : Shared) : Prop :=
  match r with
  | .ok (.ret u) => CE outer P w H s Q u s'
  | .ok _ => False
  | .error e => CX outer H s E e s'
structure FnOk (P : Program) (w : World) (K : PySem.W.Frag) (mg : Str → Option Value) (base : Heap) (CX : CXT) (k : Nat) (f : Addr) (fd : FuncData) (ps : List Str) (sp : Sp) : Prop where
  len : ∀ vs H Q E, sp vs H Q E → vs.length = ps.length
  run : ∀ (A : Around) (outer : List Env) (s : Shared) (H : Hp) (args : Args) (us : List Value) (vs : List V) (Q : VK) (E : XK), Room k A → Env0 P w K mg base A outer s H → BindsTo s fd args (ps.zip us) → Vals vs us → sp vs H Q E →
    codeAny (model P w) A (.call (.ref f) args) (CR CX outer P w H s Q E) s
theorem FnOk.mono {P : Program} {w : World} {K : PySem.W.Frag} {mg : Str → Option Value} {base : Heap} {CX : CXT} {j k : Nat} {f : Addr} {fd : FuncData} {ps : List Str} {sp : Sp} (F : FnOk P w K mg base CX j f fd ps sp) (h : j ≤ k) :
    FnOk P w K mg base CX k f fd ps sp := ⟨F.len, fun A outer s H args us vs Q E hr => F.run A outer s H args us vs Q E (hr.mono h)⟩
/-- a weaker promise -/
theorem FnOk.imp {P : Program} {w : World} {K : PySem.W.Frag} {mg : Str → Option Value} {base : Heap} {CX : CXT} {k : Nat} {f : Addr} {fd : FuncData} {ps : List Str} {sp sp' : Sp} (F : FnOk P w K mg base CX k f fd ps sp)
    (h : ∀ vs H Q E, sp' vs H Q E → sp vs H Q E) : FnOk P w K mg base CX k f fd ps sp' :=
  ⟨fun vs H Q E q => F.len vs H Q E (h _ _ _ _ q), fun A outer s H args us vs Q E hr he hb hv hs => F.run A outer s H args us vs Q E hr he hb hv (h _ _ _ _ hs)⟩

theorem Env0.make {P : Program} {w : World} {K : PySem.W.Frag} {mg : Str → Option Value} {base : Heap} {A : Around} {outer : List Env} {s : Shared} {H : Hp} (e : Env0 P w K mg base A outer s H) (C : Addr) (us : List Value) (kw : List (Str × Value)) :
    Env0 P w K mg base (A.under (.builtin "type.__call__" ⟨.ref C :: us, kw⟩)) outer s H := ⟨by first | exact e.frames | (simpa [Around.under, Code.envs, Code.isFrame, pushEnvs] using e.frames), e.mod, e.bs, e.bsz, e.funs, e.frf, e.hok, e.bare⟩
theorem Env0.in1 {P : Program} {w : World} {K : PySem.W.Frag} {mg : Str → Option Value} {base : Heap} {A : Around} {outer : List Env} {s : Shared} {H : Hp} (e : Env0 P w K mg base A outer s H) :
    Env0 P w K mg base A.in1 outer s H := ⟨e.frames, e.mod, e.bs, e.bsz, e.funs, e.frf, e.hok, e.bare⟩

section
variable {X : Cx} {pins : List (Addr × Obj)} {σ : St} {H : Hp} {s s' : Shared}
/-- from a body: what a callee wants -/
theorem Inv.env0 (I : Inv X pins σ H s) : Env0 X.prog X.w X.K X.mg X.base X.A X.stack s H :=
  ⟨I.ok.frames, I.ok.mod, I.bs, Nat.le_trans I.ok.bsz I.sz, I.stack, I.stkFree, I.hok, I.bare⟩
/-- behind a call -/
theorem Inv.after {Q : VK} {u : Value} (I : Inv X pins σ H s) (h : CE X.stack X.prog X.w H s Q u s') : EP X pins σ Q u s' := by
  obtain ⟨v, H', os, bare, un, hok, r, q⟩ := h
  obtain ⟨hh, g, d, t, os'⟩ := s'
  obtain rfl : os' = s.os := os
  exact ⟨v, H', I.call (h' := hh) (g' := g) (d' := d) (t' := t) (ch := []) un hok bare (fun b z => absurd z (by simp)), r, q⟩
end

/-! ### calls -/
/-- f(..): the written arguments, then the defaults dvs; E: what is wanted of an exception -/
def tCall (sp : Sp) (dvs : List V) (E : XK) (t : TA) : TE := fun σ H Q => t σ H fun vs H1 => sp (vs ++ dvs) H1 Q E
/-- o.m(..) of an instance of the class at C -/
def tMeth (C : Addr) (m : Str) (sp : Sp) (dvs : List V) (E : XK) (ta : TE) (t : TA) : TE := fun σ H Q => ta σ H fun x H1 => ∃ a dx fs, x = .ref a ∧ H1 a = some (.ins C dx fs) ∧ fs.lookup m = none ∧
  t σ H1 fun vs H2 => sp (x :: (vs ++ dvs)) H2 Q E
/-- C(..): a new instance and its dict, then __init__ -/
def tMake (C : Addr) (sp : Sp) (dvs : List V) (E : XK) (t : TA) : TE := fun σ H Q => t σ H fun vs H1 => ∀ x dx, H1 x = none → H1 dx = none → dx ≠ x →
  sp (.ref x :: (vs ++ dvs)) (upd (upd H1 dx (.own x)) x (.ins C dx [])) (fun v H2 => v = .non ∧ Q (.ref x) H2) E

/-- how the parameters are bound: us the positional arguments, kw the keywords' values by name, ds the defaults that fill up -/
def Binds (K : PySem.W.Frag) (fd : FuncData) (ps : List Str) (ds : List Value) : Prop :=
  ∀ (s : Shared) (us : List Value), K.In s.heap → (us ++ ds).length = ps.length → BindsTo s fd ⟨us, []⟩ (ps.zip (us ++ ds))
/-- every parameter is given -/
theorem Binds.all {K : PySem.W.Frag} {fd : FuncData} {ps : List Str} (h : ∀ us : List Value, us.length = ps.length → bindArgs fd ⟨us, []⟩ = pure (ps.zip us)) : Binds K fd ps [] := fun s us _ hl => by
  rw [List.append_nil] at hl ⊢
  exact .of_eq (h us hl)

/-- an exception of a callee reaches what this body wants of exceptions -/
def Passes (CX : CXT) (X : Cx) (E : XK) : Prop := ∀ (pins : List (Addr × Obj)) (σ : St) (H : Hp) (s : Shared) (e : Value) (s' : Shared), Inv X pins σ H s → CX X.stack H s E e s' → X.xe e s'

section
variable {X : Cx} {CX : CXT} {k : Nat} {f C : Addr} {fd : FuncData} {ps : List Str} {sp : Sp} {dvs : List V} {ds : List Value} {E : XK} {x m : Str} {p pos apos : Pos} {e o : Expr} {es : List Expr} {ta : TE} {t : TA}

/-- the callee runs -/
theorem run_fn {pins : List (Addr × Obj)} {σ : St} {H : Hp} {s : Shared} {Q : VK} {us : List Value} {vs : List V} (F : FnOk X.prog X.w X.K X.mg X.base CX k f fd ps sp) (hr : Room k X.A) (hb : Binds X.K fd ps ds) (hd : Vals dvs ds) (hx : Passes CX X E)
    (I : Inv X pins σ H s) (r : Vals vs us) (h : sp (vs ++ dvs) H Q E) : wpAny (model X.prog X.w) X.A (call (.ref f) us) (EP X pins σ Q) X.xe s := by
  have r2 : Vals (vs ++ dvs) (us ++ ds) := r.append hd
  have hl : (us ++ ds).length = ps.length := by rw [← r2.length]; exact F.len _ _ _ _ h
  refine wpAny_call (codeAny_mono (F.run X.A X.stack s H ⟨us, []⟩ (us ++ ds) (vs ++ dvs) Q E hr I.env0 (hb s us I.kIn hl) r2 h) fun r s' hq => ?_)
  cases r with
  | error e => exact hx pins σ H s e s' I hq
  | ok fl =>
    cases fl with
    | ret u => exact I.after hq
    | next => exact False.elim hq
    | brk => exact False.elim hq
    | cont => exact False.elim hq

theorem pe_call (F : FnOk X.prog X.w X.K X.mg X.base CX k f fd ps sp) (hr : Room k X.A) (hg : Gl X x) (hm : X.mg x = some (.ref f)) (hk : PySem.W.keepIn X.K (.ref f) = true) (hb : Binds X.K fd ps ds) (hd : Vals dvs ds) (hx : Passes CX X E)
    (ha : PA X (e :: es) t) (hdb : (x == ("__debug__" : Str)) = false := by decide) (he : starEach (e :: es) X.env = (false, eval e X.env) :: starEach es X.env := by rfl) (hpl : (backTo pos (starEach es X.env)).any (·.1) = false := by rfl) :
    PE X (.Call (.Name x p) (e :: es) [] pos) (tCall sp dvs E t) := by
  intro pins s σ H Q I h
  refine wpAny_Call_Name_kw (ld_glob I hg hm ?_ hdb)
  refine PySem.W.callWith_K (h₀ := X.base) I.ok.mod.kin hk (thn (ha pos pins s σ H _ I h) fun us s1 ⟨vs, H1, I1, r, q⟩ => ⟨I1.kIn, ?_⟩) he hpl
  exact run_fn F hr hb hd hx I1 r q
theorem pe_call0 (F : FnOk X.prog X.w X.K X.mg X.base CX k f fd ps sp) (hr : Room k X.A) (hg : Gl X x) (hm : X.mg x = some (.ref f)) (hk : PySem.W.keepIn X.K (.ref f) = true) (hb : Binds X.K fd ps ds) (hd : Vals dvs ds) (hx : Passes CX X E)
    (hdb : (x == ("__debug__" : Str)) = false := by decide) : PE X (.Call (.Name x p) [] [] pos) (tCall sp dvs E tNil) := by
  intro pins s σ H Q I h
  refine wpAny_Call_Name_kw (ld_glob I hg hm ?_ hdb)
  exact PySem.W.callWith_K0 I.kIn hk (run_fn (us := []) F hr hb hd hx I .nil h)

/-- o.m(e, ..) -/
theorem pe_meth {pl : Sem Bool} (he : PE X o ta) (c : Cls X.K C) (hm : Meth X.K C m f) (F : FnOk X.prog X.w X.K X.mg X.base CX k f fd ps sp) (hr : Room k X.A) (hb : Binds X.K fd ps ds) (hd : Vals dvs ds) (hx : Passes CX X E) (ha : PA X (e :: es) t)
    (hst : starEach (e :: es) X.env = (false, eval e X.env) :: starEach es X.env := by rfl) (hpl : (backTo pos (starEach es X.env)).any (·.1) = false := by rfl)
    (ht : eval (.Call (.Attribute o m apos) (e :: es) [] pos) X.env = (do
      let ov ← eval o X.env
      standAt apos.atName
      let (f, first) ← holding [ov] (getMethod ov m pl)
      callWith pos f first (backTo pos (starEach (e :: es) X.env)) (backToKw pos (keywordEach [] X.env))) := by rfl) :
    PE X (.Call (.Attribute o m apos) (e :: es) [] pos) (tMeth C m sp dvs E ta t) := by
  intro pins s σ H Q I h
  refine PySem.W.methodCall_KW (pl := pl) (thn (he pins s σ H _ I h) fun u s1 ⟨x, H1, I1, rx, a, dx, fs, ex, ea, l, q⟩ => ?_) ht
  subst ex
  obtain rfl : u = Value.ref a := rx
  refine getmeth_ok I1 ea c hm l ?_
  refine PySem.W.callWith_K (first := [.ref a]) (h₀ := X.base) I.ok.mod.kin hm.kp (thn (ha pos pins s1 σ H1 _ I1 q) fun us s2 ⟨vs, H2, I2, r, q2⟩ => ⟨I2.kIn, ?_⟩) hst hpl
  exact run_fn (us := .ref a :: us) (vs := .ref a :: vs) F hr hb hd hx I2 (.cons rfl r) q2
/-- o.m() -/
theorem pe_meth0 {pl : Sem Bool} (he : PE X o ta) (c : Cls X.K C) (hm : Meth X.K C m f) (F : FnOk X.prog X.w X.K X.mg X.base CX k f fd ps sp) (hr : Room k X.A) (hb : Binds X.K fd ps ds) (hd : Vals dvs ds) (hx : Passes CX X E)
    (ht : eval (.Call (.Attribute o m apos) [] [] pos) X.env = (do
      let ov ← eval o X.env
      standAt apos.atName
      let (f, first) ← holding [ov] (getMethod ov m pl)
      callWith pos f first (backTo pos (starEach [] X.env)) (backToKw pos (keywordEach [] X.env))) := by rfl) :
    PE X (.Call (.Attribute o m apos) [] [] pos) (tMeth C m sp dvs E ta tNil) := by
  intro pins s σ H Q I h
  refine PySem.W.methodCall_KW (pl := pl) (thn (he pins s σ H _ I h) fun u s1 ⟨x, H1, I1, rx, a, dx, fs, ex, ea, l, q⟩ => ?_) ht
  subst ex
  obtain rfl : u = Value.ref a := rx
  refine getmeth_ok I1 ea c hm l ?_
  exact PySem.W.callWith_K0 (first := [.ref a]) I1.kIn hm.kp (run_fn (us := [.ref a]) (vs := [.ref a]) F hr hb hd hx I1 (.cons rfl .nil) q)

/-- what a class must have to be made -/
structure Mk (K : PySem.W.Frag) (C f : Addr) : Prop where
  makes : PySem.W.makesIn K C = true
  init : PySem.W.findIn K (.ref C) "__init__" = some (some (.ref f))
  fn : PySem.W.isFn K (.ref f) = true
  kp : PySem.W.keepIn K (.ref C) = true

theorem run_make {pins : List (Addr × Obj)} {σ : St} {H : Hp} {s : Shared} {Q : VK} {us : List Value} {vs : List V} (M : Mk X.K C f) (F : FnOk X.prog X.w X.K X.mg X.base CX k f fd ps sp) (hr : Room (k + 1) X.A) (hb : Binds X.K fd ps ds) (hd : Vals dvs ds)
    (hx : Passes CX X E) (I : Inv X pins σ H s) (r : Vals vs us)
    (h : ∀ x dx, H x = none → H dx = none → dx ≠ x → sp (.ref x :: (vs ++ dvs)) (upd (upd H dx (.own x)) x (.ins C dx [])) (fun v H2 => v = .non ∧ Q (.ref x) H2) E) :
    wpAny (model X.prog X.w) X.A (call (.ref C) us) (EP X pins σ Q) X.xe s := by
  have hq := h (s.heap.objs.size + 1) s.heap.objs.size (I.hok.fresh (Nat.le_succ _)) (I.hok.fresh (Nat.le_refl _)) (Nat.ne_of_lt (Nat.lt_succ_self _))
  have I2 := Inv.made (C := C) I
  have r2 : Vals (V.ref (s.heap.objs.size + 1) :: (vs ++ dvs)) (Value.ref (s.heap.objs.size + 1) :: (us ++ ds)) := .cons rfl (r.append hd)
  have hl : (Value.ref (s.heap.objs.size + 1) :: us ++ ds).length = ps.length := by
    have e := r2.length
    rw [F.len _ _ _ _ hq] at e
    exact e.symm
  refine wpAny_call (make_map (f := f) I.kIn M.makes M.init (beq_iff_eq.mp M.fn) (codeAny_mono (F.run _ X.stack _ _ ⟨Value.ref (s.heap.objs.size + 1) :: us, []⟩ (Value.ref (s.heap.objs.size + 1) :: (us ++ ds)) _ _ E (hr.make C us [])
    (I2.env0.make C us []) (hb _ (Value.ref (s.heap.objs.size + 1) :: us) I2.kIn hl) r2 hq) fun r s' hq' => ?_))
  cases r with
  | error e => exact hx pins σ _ _ e s' I2 hq'
  | ok fl =>
    cases fl with
    | ret u =>
      obtain ⟨v, H', I3, rv, ev, q3⟩ := I2.after hq'
      subst ev
      exact ⟨rv, ⟨V.ref (s.heap.objs.size + 1), H', I3, rfl, q3⟩⟩
    | next => exact False.elim hq'
    | brk => exact False.elim hq'
    | cont => exact False.elim hq'
theorem pe_make (M : Mk X.K C f) (F : FnOk X.prog X.w X.K X.mg X.base CX k f fd ps sp) (hr : Room (k + 1) X.A) (hg : Gl X x) (hm : X.mg x = some (.ref C)) (hb : Binds X.K fd ps ds) (hd : Vals dvs ds) (hx : Passes CX X E)
    (ha : PA X (e :: es) t) (hdb : (x == ("__debug__" : Str)) = false := by decide) (he : starEach (e :: es) X.env = (false, eval e X.env) :: starEach es X.env := by rfl) (hpl : (backTo pos (starEach es X.env)).any (·.1) = false := by rfl) :
    PE X (.Call (.Name x p) (e :: es) [] pos) (tMake C sp dvs E t) := by
  intro pins s σ H Q I h
  refine wpAny_Call_Name_kw (ld_glob I hg hm ?_ hdb)
  refine PySem.W.callWith_K (h₀ := X.base) I.ok.mod.kin M.kp (thn (ha pos pins s σ H _ I h) fun us s1 ⟨vs, H1, I1, r, q⟩ => ⟨I1.kIn, ?_⟩) he hpl
  exact run_make M F hr hb hd hx I1 r q
theorem pe_make0 (M : Mk X.K C f) (F : FnOk X.prog X.w X.K X.mg X.base CX k f fd ps sp) (hr : Room (k + 1) X.A) (hg : Gl X x) (hm : X.mg x = some (.ref C)) (hb : Binds X.K fd ps ds) (hd : Vals dvs ds) (hx : Passes CX X E)
    (hdb : (x == ("__debug__" : Str)) = false := by decide) : PE X (.Call (.Name x p) [] [] pos) (tMake C sp dvs E tNil) := by
  intro pins s σ H Q I h
  refine wpAny_Call_Name_kw (ld_glob I hg hm ?_ hdb)
  exact PySem.W.callWith_K0 I.kIn M.kp (run_make (us := []) M F hr hb hd hx I .nil h)
end

/-! ### keywords -/
/-- the values of the keywords, from the left -/
def PK (X : Cx) (kws : List Keyword) (t : TA) : Prop :=
  ∀ (pos : Pos) (pins : List (Addr × Obj)) (s : Shared) (σ : St) (H : Hp) (Q : List V → Hp → Prop), Inv X pins σ H s → t σ H Q → wpAny (model X.prog X.w) X.A (evalAll ((backToKw pos (keywordEach kws X.env)).map (·.2))) (AP X pins σ Q) X.xe s
section
variable {X : Cx} {CX : CXT} {k : Nat} {f C : Addr} {fd : FuncData} {ps ks : List Str} {sp : Sp} {E : XK} {x m : Str} {p pos apos kpos : Pos} {e o : Expr} {es : List Expr} {kws : List Keyword} {te ta : TE} {t tk : TA} {nm : Option Str}
theorem pk_nil : PK X [] tNil := fun _ _ _ _ H Q I h => wpAny_evalAll_nil ⟨[], H, I, .nil, h⟩
theorem pk_cons (ha : PE X e te) (hr : PK X kws t) : PK X (⟨nm, e, kpos⟩ :: kws) (tCons te t) := by
  intro pos pins s σ H Q I h
  show wpAny _ _ (evalAll ((do let v ← eval e X.env; standAt pos; pure v) :: (backToKw pos (keywordEach kws X.env)).map (·.2))) _ _ s
  refine wpAny_evalAll_cons (wpAny_bind (thn (ha pins s σ H _ I h) fun u s1 ⟨x, H1, I1, r1, q1⟩ => wpAny_bind (wpAny_standAt (wpAny_pure ?_))))
  exact thn (hr pos pins s1 σ H1 _ I1 q1) fun us s2 ⟨xs, H2, I2, r2, q2⟩ => ⟨x :: xs, H2, I2, .cons r1 r2, q2⟩

/-- how a call with keywords binds: g puts the positional values us and the keywords' values ws (names ks) in the parameters' order, defaults among them -/
structure KBinds (K : PySem.W.Frag) (fd : FuncData) (ps ks : List Str) (g : List Value → List Value → List Value) (gV : List V → List V → List V) : Prop where
  to : ∀ (s : Shared) (us ws : List Value), K.In s.heap → (g us ws).length = ps.length → BindsTo s fd ⟨us, ks.zip ws⟩ (ps.zip (g us ws))
  rel : ∀ {vs : List V} {us : List Value} {zs : List V} {ws : List Value}, Vals vs us → Vals zs ws → Vals (gV vs zs) (g us ws)
def tCallK (sp : Sp) (gV : List V → List V → List V) (E : XK) (t tk : TA) : TE := fun σ H Q => t σ H fun vs H1 => tk σ H1 fun zs H2 => sp (gV vs zs) H2 Q E
variable {g : List Value → List Value → List Value} {gV : List V → List V → List V}
theorem run_fnk {pins : List (Addr × Obj)} {σ : St} {H : Hp} {s : Shared} {Q : VK} {us ws : List Value} {vs zs : List V} (F : FnOk X.prog X.w X.K X.mg X.base CX k f fd ps sp) (hr : Room k X.A) (hb : KBinds X.K fd ps ks g gV) (hx : Passes CX X E)
    (I : Inv X pins σ H s) (r : Vals vs us) (rz : Vals zs ws) (h : sp (gV vs zs) H Q E) : wpAny (model X.prog X.w) X.A (call (.ref f) us (ks.zip ws)) (EP X pins σ Q) X.xe s := by
  have r2 := hb.rel r rz
  have hl : (g us ws).length = ps.length := by rw [← r2.length]; exact F.len _ _ _ _ h
  refine wpAny_call (codeAny_mono (F.run X.A X.stack s H ⟨us, ks.zip ws⟩ (g us ws) (gV vs zs) Q E hr I.env0 (hb.to s us ws I.kIn hl) r2 h) fun r s' hq => ?_)
  cases r with
  | error e => exact hx pins σ H s e s' I hq
  | ok fl =>
    cases fl with
    | ret u => exact I.after hq
    | next => exact False.elim hq
    | brk => exact False.elim hq
    | cont => exact False.elim hq
/-- f(e, .., k = v, ..) -/
theorem pe_callK (F : FnOk X.prog X.w X.K X.mg X.base CX k f fd ps sp) (hr : Room k X.A) (hg : Gl X x) (hm : X.mg x = some (.ref f)) (hk : PySem.W.keepIn X.K (.ref f) = true) (hb : KBinds X.K fd ps ks g gV) (hx : Passes CX X E)
    (ha : PA X (e :: es) t) (hkw : PK X kws tk) (hall : (backToKw pos (keywordEach kws X.env)).all (·.1.isSome) = true := by rfl) (hks : (backToKw pos (keywordEach kws X.env)).filterMap (·.1) = ks := by rfl)
    (hdb : (x == ("__debug__" : Str)) = false := by decide) (he : starEach (e :: es) X.env = (false, eval e X.env) :: starEach es X.env := by rfl)
    (hpl : ((backTo pos (starEach (e :: es) X.env)).any (·.1) || (backToKw pos (keywordEach kws X.env)).any (·.1.isNone)) = false := by rfl) :
    PE X (.Call (.Name x p) (e :: es) kws pos) (tCallK sp gV E t tk) := by
  intro pins s σ H Q I h
  refine wpAny_Call_Name_kw (ld_glob I hg hm ?_ hdb)
  refine PySem.W.callWith_KW (h₀ := X.base) I.ok.mod.kin hk hall (thn (ha pos pins s σ H _ I h) fun us s1 ⟨vs, H1, I1, r, q⟩ => ?_) hpl he
  refine thn (hkw pos pins s1 σ H1 _ I1 q) fun ws s2 ⟨zs, H2, I2, rz, q2⟩ => ⟨I2.kIn, ?_⟩
  rw [hks]
  exact run_fnk F hr hb hx I2 r rz q2
end

/-! ### a def's body keeps its promise -/
/-- names: the parameters first -/
structure FnScope (N P : List Str) (sc : Scope) : Prop where
  kind : sc.kind = .function
  co : sc.isCoroutine = false
  gen : sc.isGenerator = false
  nd : N.Nodup
  pre : N.take P.length = P
  par : ∀ x ∈ P, sc.names.lookup x = some .local ∨ sc.names.lookup x = some .cell
  nofree : ∀ y ∈ sc.names, y.2 ≠ .free

theorem bindL_out {kindOf : Str → Option NameKind} {x : Str} : ∀ {binds : List (Str × Value)} {m : Str → Option Value}, (∀ v, (x, v) ∉ binds) → bindL kindOf binds m x = m x
  | [], _, _ => rfl
  | (n, v) :: r, m, h => by
    unfold bindL
    rw [bindL_out fun w hw => h w (List.mem_cons_of_mem _ hw)]
    split
    · have : x ≠ n := by rintro rfl; exact h v List.mem_cons_self
      simp [this]
    · rfl
theorem bindC_out {kindOf : Str → Option NameKind} {x : Str} : ∀ {binds : List (Str × Value)} {m : Str → Option Value}, (∀ v, (x, v) ∉ binds) → bindC kindOf binds m x = m x
  | [], _, _ => rfl
  | (n, v) :: r, m, h => by
    unfold bindC
    rw [bindC_out fun w hw => h w (List.mem_cons_of_mem _ hw)]
    split
    · rfl
    · have : x ≠ n := by rintro rfl; exact h v List.mem_cons_self
      simp [this]
theorem bindL_get {kindOf : Str → Option NameKind} {x : Str} {v : Value} : ∀ {P : List Str} {vs : List Value} {i : Nat} {m : Str → Option Value}, P.Nodup → P[i]? = some x → vs[i]? = some v → kindOf x = some .local →
    bindL kindOf (P.zip vs) m x = some v
  | [], _, _, _, _, h, _, _ => by simp at h
  | _ :: _, [], _, _, _, _, h, _ => by simp at h
  | p :: P, w :: vs, 0, m, nd, h1, h2, hk => by
    simp at h1 h2; subst h1; subst h2
    show bindL kindOf ((p, w) :: P.zip vs) m p = _
    unfold bindL
    rw [bindL_out fun v hv => (List.nodup_cons.mp nd).1 (List.of_mem_zip hv).1, if_pos hk]
    simp
  | p :: P, w :: vs, i + 1, m, nd, h1, h2, hk => by
    show bindL kindOf ((p, w) :: P.zip vs) m x = _
    unfold bindL
    exact bindL_get (i := i) (List.nodup_cons.mp nd).2 (by simpa using h1) (by simpa using h2) hk
theorem bindC_get {kindOf : Str → Option NameKind} {x : Str} {v : Value} : ∀ {P : List Str} {vs : List Value} {i : Nat} {m : Str → Option Value}, P.Nodup → P[i]? = some x → vs[i]? = some v → kindOf x ≠ some .local →
    bindC kindOf (P.zip vs) m x = some v
  | [], _, _, _, _, h, _, _ => by simp at h
  | _ :: _, [], _, _, _, _, h, _ => by simp at h
  | p :: P, w :: vs, 0, m, nd, h1, h2, hk => by
    simp at h1 h2; subst h1; subst h2
    show bindC kindOf ((p, w) :: P.zip vs) m p = _
    unfold bindC
    rw [bindC_out fun v hv => (List.nodup_cons.mp nd).1 (List.of_mem_zip hv).1, if_neg hk]
    simp
  | p :: P, w :: vs, i + 1, m, nd, h1, h2, hk => by
    show bindC kindOf ((p, w) :: P.zip vs) m x = _
    unfold bindC
    exact bindC_get (i := i) (List.nodup_cons.mp nd).2 (by simpa using h1) (by simpa using h2) hk

/-- the names' values at the entry -/
def start (N : List Str) (vs : List V) : St := vs.map some ++ List.replicate (N.length - vs.length) none

/-- the context of a def's body, at its entry; an exception leaves the frame, then lies as CX says -/
def cxOf (CX : CXT) (P : Program) (w : World) (K : PySem.W.Frag) (mg : Str → Option Value) (base : Heap) (N : List Str) (qual : Str) (scope : Scope) (f : Addr) (cd : Value) (A : Around) (outer : List Env) (s : Shared) (H : Hp) (E : XK) : Cx where
  prog := P
  w := w
  K := K
  mg := mg
  base := base
  A := A.deeper (envOfC qual scope s.heap.objs.size f cd)
  N := N
  s₀ := s
  H₀ := H
  env := envOfC qual scope s.heap.objs.size f cd
  outer := outer
  stack := envOfC qual scope s.heap.objs.size f cd :: outer
  ex := []
  calm := true
  fn := fun _ => true
  pn := []
  xe := fun e s' => wpAny (model P w) (A.deeper (envOfC qual scope s.heap.objs.size f cd)) (leaving (envOfC qual scope s.heap.objs.size f cd) e) (fun _ s'' => CX outer H s E e s'') (fun e' s'' => CX outer H s E e' s'') s'

theorem cell_has {sc : Scope} {n : Nat} {x : Str} (h : sc.names.lookup x = some .cell) : ∃ c, (cellsFrom n sc.names []).lookup x = some c := by
  have q := PySem.W.cellsFrom_some sc.names n [] (.inl h)
  exact Option.isSome_iff_exists.mp q

theorem inv_start {CX : CXT} {P : Program} {w : World} {K : PySem.W.Frag} {mg : Str → Option Value} {base : Heap} {N ps : List Str} {qual : Str} {scope : Scope} {f : Addr} {cd : Value} {A : Around} {outer : List Env} {s s1 : Shared} {H : Hp} {E : XK} {us : List Value} {vs : List V}
    (S : FnScope N ps scope) (hd : A.handled = none) (e0 : Env0 P w K mg base A outer s H) (hl : vs.length = ps.length) (r : Vals vs us)
    (x : InCallC s s.heap.objs.size (bindL (envOfC qual scope s.heap.objs.size f cd).kindOf (ps.zip us) fun _ => none) (cellsFrom (s.heap.objs.size + 1) scope.names []) (bindC (envOfC qual scope s.heap.objs.size f cd).kindOf (ps.zip us) fun _ => none) s1) :
    Inv (cxOf CX P w K mg base N qual scope f cd A outer s H E) [] (start N vs) H s1 := by
  have hpl : ps.length ≤ N.length := by have := congrArg List.length S.pre; rw [List.length_take] at this; omega
  obtain ⟨h1, tk, rfl, hk⟩ := x.done
  have noA : ∀ b : Addr, b ∉ (cxOf CX P w K mg base N qual scope f cd A outer s H E).ex := fun b z => absurd (show b ∈ ([] : List Addr) from z) (by simp)
  refine ⟨⟨e0.mod, S.kind, rfl, rfl, Nat.le_refl _, fun y z c h1 h2 => ?_, fun y hy => ?_, fun y c _ h => ?_, fun _ => hd, Around.frames_deeper e0.frames, .inr ⟨rfl, rfl⟩, fun b z => absurd z (noA b), e0.bs, e0.bsz, fun b _ _ => noA b, fun b z => absurd z (noA b), e0.funs, e0.frf⟩,
    rfl, e0.bare, Un.kept hk, ⟨_, x.toInCall.ns, fun i y v h1 h2 h3 => ?_⟩, fun y c h => ⟨_, x.cell y c h⟩, e0.hok.fresh (Nat.le_refl _), fun y c h => ?_, fun p hp => absurd (show p ∈ ([] : List (Addr × Obj)) from hp) (by simp), e0.hok.kept hk, ?_⟩
  · exact name_of_addr x.apart (PySem.mem_of_lookup h1) (PySem.mem_of_lookup h2)
  · have hy : scope.names.lookup y = some .cell ∨ scope.names.lookup y = some .free := hy
    rcases hy with hy | hy
    · exact cell_has hy
    · exact absurd rfl (S.nofree _ (PySem.mem_of_lookup hy))
  · exact Nat.le_of_lt (x.above y c (PySem.mem_of_lookup h))
  · have hi : i < vs.length := by
      unfold start at h2
      by_cases hi : i < vs.length
      · exact hi
      · rw [List.getElem?_append_right (by simpa using hi)] at h2
        rw [List.getElem?_replicate] at h2
        split at h2 <;> cases h2
    have ha : vs[i]? = some v := by
      unfold start at h2
      rw [List.getElem?_append_left (by simpa using hi), List.getElem?_map] at h2
      cases e : vs[i]? with
      | none => rw [e] at h2; cases h2
      | some a => rw [e] at h2; cases h2; rfl
    obtain ⟨u, hu, rv⟩ := r.get ha
    have hp : ps[i]? = some y := by
      rw [← S.pre, List.getElem?_take_of_lt (by omega)]; exact h1
    have ndP : ps.Nodup := by rw [← S.pre]; exact S.nd.sublist (List.take_sublist _ _)
    refine ⟨u, rv, ?_⟩
    rcases S.par y (List.mem_of_getElem? hp) with k | k
    · exact .inl ⟨k, bindL_get ndP hp hu k⟩
    · obtain ⟨c, e⟩ := cell_has (n := s.heap.objs.size + 1) k
      refine .inr ⟨.inl k, c, e, ?_⟩
      have q := x.cell y c e
      rw [bindC_get ndP hp hu (by show scope.names.lookup y ≠ _; rw [k]; decide)] at q
      exact q
  · exact e0.hok.fresh (Nat.le_of_lt (x.above y c (PySem.mem_of_lookup h)))
  · unfold start
    show _ = N.length
    rw [List.length_append, List.length_map, List.length_replicate]
    omega

/-- THE RULE: a def (or a method) of the text, by its body. The body's reading t is chosen for each entry; it is run at the parameters' values -/
theorem fn_of {CX : CXT} {P : Program} {w : World} {K : PySem.W.Frag} {mg : Str → Option Value} {base : Heap} {k : Nat} {f : Addr} {name qual : Str} {params : Arguments} {body : List Stmt} {scope : Scope} {dV kV doc pm cdv ct oc : Value} {an od : Option Addr}
    {osl : Array (Option Value)} {N ps : List Str} {sp : Sp} (lk : K.lookup f = some ⟨oc, od, .func (PySem.W.fnOf name qual params body scope dV kV doc pm an cdv ct), osl⟩) (hcd : PySem.W.codeIn K cdv qual = true) (S : FnScope N ps scope)
    (len : ∀ vs H Q E, sp vs H Q E → vs.length = ps.length)
    (hbody : ∀ (A : Around) (outer : List Env) (s : Shared) (H : Hp) (vs : List V) (Q : VK) (E : XK), Room k (A.deeper (envOfC qual scope s.heap.objs.size f cdv)) → sp vs H Q E →
      ∃ t, PSs (cxOf CX P w K mg base N qual scope f cdv A outer s H E) body t ∧ t { nx := fun _ H' => Q .non H', rt := Q } (start N vs) H) :
    FnOk P w K mg base CX (k + 1) f (PySem.W.fnOf name qual params body scope dV kV doc pm an cdv ct) ps sp := by
  refine ⟨len, fun A outer s H args us vs Q E hr e0 hb r hsp => ?_⟩
  have hl := len _ _ _ _ hsp
  have KX : K.In s.heap := e0.mod.kin.keeps fun b o e => (e0.bs b o e).1
  have lim : s.heap.NoLimit := e0.mod.nolimit.keeps fun b o e => (e0.bs b o e).1
  have hkind : ∀ y ∈ ps.zip us, scope.names.lookup y.1 = some .local ∨ (scope.names.lookup y.1 = some .cell ∧ ((cellsFrom (s.heap.objs.size + 1) scope.names []).lookup y.1).isSome = true) := fun ⟨n, v⟩ hy => by
    rcases S.par n (List.of_mem_zip hy).1 with q | q
    · exact .inl q
    · exact .inr ⟨q, PySem.W.cellsFrom_some _ _ _ (.inl q)⟩
  refine codeAny_call_function hr.depth (KX _ _ lk) rfl S.co S.gen rfl (PySem.W.codeRec_of KX hcd) (hb _ _ _ _ ?_)
  refine wpAny_newFunctionEnv_cells S.kind hkind fun env he s1 x => ?_
  subst he
  refine ⟨lim.keeps x.toInCall.keep, codeAny_func ?_⟩
  obtain ⟨t, ht, hq⟩ := hbody A outer s H vs Q E (hr.deeper _) hsp
  have I : Inv (cxOf CX P w K mg base N qual scope f cdv A outer s H E) [] (start N vs) H s1 := inv_start S hr.hd e0 hl r x
  refine wpAny_mono (ht [] s1 (start N vs) H _ I hq) (fun fl s' hs => ?_) fun e s' hs => hs
  have fin : ∀ {σ' : St} {H' : Hp} {v : V} {u : Value}, Inv (cxOf CX P w K mg base N qual scope f cdv A outer s H E) [] σ' H' s' → RelV v u → Q v H' → CE outer P w H s Q u s' :=
    fun {σ' H' v u} J rv q => ⟨v, H', J.os, J.bare, J.base, J.hok, rv, q⟩
  cases fl with
  | ret u =>
    obtain ⟨v, σ', H', J, rv, q⟩ := hs
    exact fin J rv q
  | next =>
    obtain ⟨σ', H', J, q⟩ := hs
    exact fin (v := V.non) (u := Value.none) J rfl q
  | brk =>
    obtain ⟨_, _, _, q⟩ := hs
    exact False.elim q
  | cont =>
    obtain ⟨_, _, _, q⟩ := hs
    exact False.elim q
end L2

namespace L2
open PySem PySem.Spec PyProof.Rows
section
variable {X : Cx} {x : Str} {p pos : Pos} {e : Expr} {es : List Expr} {t : TA} {id T : String} {r : List V → Hp → VK → Prop}

def tCB (r : List V → Hp → VK → Prop) (t : TA) : TE := fun σ H Q => t σ H fun vs H1 => r vs H1 Q
/-- f(e, ..), f a built-in function -/
theorem pe_callB (hc : CallR X (.builtin id) r) (hg : Gl X x) (hm : X.mg x = none) (hv : bootBuiltins x = some (.builtin id)) (ha : PA X (e :: es) t) (hn : x ≠ "__name__" := by decide) (hdb : (x == ("__debug__" : Str)) = false := by decide)
    (he : starEach (e :: es) X.env = (false, eval e X.env) :: starEach es X.env := by rfl) (hpl : (backTo pos (starEach es X.env)).any (·.1) = false := by rfl) : PE X (.Call (.Name x p) (e :: es) [] pos) (tCB r t) := by
  intro pins s σ H Q I h
  refine wpAny_Call_Name_kw (ld_blt I hg hm hv ?_ hn hdb)
  exact PyProof.Rows.callWith_builtin1 (thn (ha pos pins s σ H _ I h) fun us s1 ⟨vs, H1, I1, r1, q1⟩ => hc pins s1 σ H1 vs us Q I1 r1 q1) he hpl
/-- T(e, ..), T a built-in type -/
theorem pe_callTy (hc : CallR X (.type T) r) (hg : Gl X x) (hm : X.mg x = none) (hv : bootBuiltins x = some (.type T)) (ha : PA X (e :: es) t) (hn : x ≠ "__name__" := by decide) (hdb : (x == ("__debug__" : Str)) = false := by decide)
    (he : starEach (e :: es) X.env = (false, eval e X.env) :: starEach es X.env := by rfl) (hpl : (backTo pos (starEach es X.env)).any (·.1) = false := by rfl) : PE X (.Call (.Name x p) (e :: es) [] pos) (tCB r t) := by
  intro pins s σ H Q I h
  refine wpAny_Call_Name_kw (ld_blt I hg hm hv ?_ hn hdb)
  exact PyProof.Rows.callWith_type1 (thn (ha pos pins s σ H _ I h) fun us s1 ⟨vs, H1, I1, r1, q1⟩ => hc pins s1 σ H1 vs us Q I1 r1 q1) he hpl
/-- T() -/
theorem pe_callTy0 (hc : CallR X (.type T) r) (hg : Gl X x) (hm : X.mg x = none) (hv : bootBuiltins x = some (.type T)) (hn : x ≠ "__name__" := by decide) (hdb : (x == ("__debug__" : Str)) = false := by decide) :
    PE X (.Call (.Name x p) [] [] pos) (tCB r tNil) := by
  intro pins s σ H Q I h
  refine wpAny_Call_Name_kw (ld_blt I hg hm hv ?_ hn hdb)
  exact PyProof.Rows.callWith_type0 (hc pins s σ H [] [] Q I .nil h)
end
end L2

namespace HT
open PySem PyProof.Rows

/-- t < u of tuples of ints -/
def lexLt : List Int → List Int → Bool
  | [], [] => false
  | [], _ :: _ => true
  | _ :: _, [] => false
  | x :: xs, y :: ys => if x = y then lexLt xs ys else decide (x < y)
theorem lexLt_cons (x y : Int) (xs ys : List Int) : lexLt (x :: xs) (y :: ys) = if x = y then lexLt xs ys else decide (x < y) := rfl
theorem lexLt_nil_nil : lexLt [] [] = false := rfl
theorem lexLt_nil_cons (y : Int) (ys : List Int) : lexLt [] (y :: ys) = true := rfl
theorem lexLt_cons_nil (x : Int) (xs : List Int) : lexLt (x :: xs) [] = false := rfl

theorem eqAt_int (A : Around) (s : Shared) (a : Int) (t : Tok) (c : Int) (u : Tok) : ∃ e, SeqAt.EqAt A s (.int a t) (.int c u) e ∧ (e = true ↔ a = c) :=
  ⟨(a == c), SeqAt.EqAt.int_int a t c u, by simp⟩
theorem rcLt_int (A : Around) (s : Shared) (a : Int) (t : Tok) (c : Int) (u : Tok) (prog : Program) (w : World) (E : Value → Shared → Prop) (Q : Value → Shared → Prop) (h : Q (.bool (decide (a < c))) s) :
    wpAny (model prog w) A (richCompare .Lt (.int a t) (.int c u)) Q E s :=
  (PyProof.Rows.lt_int h : wpAny (model prog w) A (compareOp .Lt (.int a t) (.int c u)) Q E s)

section
open PySem.SeqAt
open PySem.AutoSeq1 (wpAny_loadPart')
open PySem.MeetsSeq PySem.MeetsSeq2 PySem.MeetsSeq3

theorem tuple_lt_ints (l b : Addr) (items items2 : Array Value) (n n2 : Nat) (dd dd2 : Option Addr) (sl sl2 : Array (Option Value)) (ns ms : List Int) (hi : IntsAre items.toList ns) (hj : IntsAre items2.toList ms) :
    Meets (Builtin.«tuple.__lt__» ⟨[.ref l, .ref b], []⟩)
      (fun _ R s => s.heap.get? l = some { cls := .type "tuple", dict := dd, data := .seq items n, slots := sl } ∧ s.heap.get? b = some { cls := .type "tuple", dict := dd2, data := .seq items2 n2, slots := sl2 } ∧
        R (.ok (.ret (.bool (lexLt ns ms)))) s) :=
  .of_wp fun prog w A R s h => by
    obtain ⟨hp, g, d, tk, os⟩ := s; obtain ⟨hl, hb, h⟩ := h
    have f2 := AutoSeq1.sub_tuple_tuple
    have z1 : items.size = ns.length := by rw [← hi.length]; simp
    have z2 : items2.size = ms.length := by rw [← hj.length]; simp
    wp_walk using wpAny_loadPart' hl, wpAny_loadPart' hb, wpAny_forIn_list _ (fun rest b s' => b.1 = none ∧ s' = ⟨hp, g, d, tk, os⟩ ∧ ∃ (vs ws : List Value) (ns' ms' : List Int), rest = vs.zip ws ∧
      IntsAre vs ns' ∧ IntsAre ws ms' ∧ ns'.length + items2.size = ms'.length + items.size ∧ R (.ok (.ret (.bool (lexLt ns' ms')))) ⟨hp, g, d, tk, os⟩) _
    case turn =>
      rintro ⟨y, x⟩ rest b s' ⟨hb', rfl, vs, ws, ns', ms', hz, hvi, hwi, hlen, hR⟩
      cases hvi with
      | nil => rw [List.zip_nil_left] at hz; cases hz
      | cons a t hvi' =>
        cases hwi with
        | nil => rw [List.zip_nil_right] at hz; cases hz
        | cons c u hwi' =>
          rw [List.zip_cons_cons] at hz
          injection hz with hyx hrest
          injection hyx with hy hx
          subst hy hx
          rw [lexLt_cons] at hR
          simp only [List.length_cons] at hlen
          obtain ⟨e, he, hiff⟩ := eqAt_int A.in1 ⟨hp, g, d, tk, os⟩ a t c u
          refine wpAny_bind (he prog w _ _ ?_)
          cases e with
          | true =>
            rw [if_pos (hiff.mp rfl)] at hR
            wp_walk
            exact ⟨rfl, rfl, _, _, _, _, hrest, hvi', hwi', by omega, hR⟩
          | false =>
            rw [if_neg (fun q => absurd (hiff.mpr q) Bool.false_ne_true)] at hR
            have hri := rcLt_int A.in1 ⟨hp, g, d, tk, os⟩ a t c u prog w
            wp_walk using hri
            exact ⟨_, rfl, by simpa using hR⟩
    case fin =>
      rintro ⟨b1, b2⟩ s' ⟨hb', rfl, vs, ws, ns', ms', hz, hvi, hwi, hlen, hR⟩
      simp only at hb'
      subst hb'
      have hv : lexLt ns' ms' = decide (items.size < items2.size) := by
        cases hvi with
        | nil =>
          cases hwi with
          | nil =>
            simp only [List.length_nil] at hlen
            rw [lexLt_nil_nil]
            exact (decide_eq_false (by omega)).symm
          | cons c u hw =>
            simp only [List.length_nil, List.length_cons] at hlen
            rw [lexLt_nil_cons]
            exact (decide_eq_true (by omega)).symm
        | cons a t hv =>
          cases hwi with
          | nil =>
            simp only [List.length_nil, List.length_cons] at hlen
            rw [lexLt_cons_nil]
            exact (decide_eq_false (by omega)).symm
          | cons c u hw =>
            rw [List.zip_cons_cons] at hz
            cases hz
      rw [hv] at hR
      wp_walk
      exact ⟨_, rfl, by simpa [Builtin.Tuple.tupleCompareSizes] using hR⟩
    case h =>
      exact ⟨rfl, rfl, items.toList, items2.toList, ns, ms, rfl, hi, hj, by omega, h⟩
end

section
variable {prog : Program} {w : World} {A : Around} {E : Value → Shared → Prop} {s : Shared}

theorem lt_tupInts {l b : Addr} {items items2 : Array Value} {ns ms : List Int} {Q : Value → Shared → Prop} (hl : IsTup s.heap l items) (hb : IsTup s.heap b items2) (hi : IntsAre items.toList ns) (hj : IntsAre items2.toList ms)
    (hu : A.units < cLine) (h : Q (.bool (lexLt ns ms)) s) : wpAny (model prog w) A (compareOp .Lt (.ref l) (.ref b)) Q E s := by
  obtain ⟨⟨cls, dd, data, sl⟩, ho, hc, n, hd⟩ := id hl
  obtain ⟨⟨cls2, dd2, data2, sl2⟩, ho2, hc2, n2, hd2⟩ := id hb
  simp only at hc hd hc2 hd2
  subst hc hd hc2 hd2
  exact richCompare_meets_room (op := .Lt) ⟨_, ho, rfl⟩ ⟨_, ho2, rfl⟩ PySem.F.slot_tuple_lt PySem.F.entry_tuple_lt (PySem.F.args_tuple_lt_2 _ _) (tuple_lt_ints l b items items2 n n2 dd dd2 sl sl2 ns ms hi hj)
    ⟨ho, ho2, show Value.bool (lexLt ns ms) ≠ Value.notImplemented ∧ Q (.bool (lexLt ns ms)) s from ⟨(fun x => nomatch x), h⟩⟩ hu

/-- t + u, t not empty -/
theorem cat_tup {t b : Addr} {vs ws : List Value} {Q : Value → Shared → Prop} (ht : IsTup s.heap t vs.toArray) (hb : IsTup s.heap b ws.toArray) (hv : vs ≠ [])
    (h1 : ws = [] → Q (.ref t) s) (h2 : ws ≠ [] → Q (.ref s.heap.objs.size) { s with heap := s.heap.push { cls := .type "tuple", data := .seq (vs ++ ws).toArray } })
    (hsz : vs.length + ws.length ≤ sizeLine) : wpAny (model prog w) A (binaryOp .Add (.ref t) (.ref b)) Q E s := by
  obtain ⟨⟨cls, dd, data, sl⟩, ho, hc, n, hd⟩ := id ht
  obtain ⟨⟨cls2, dd2, data2, sl2⟩, ho2, hc2, n2, hd2⟩ := id hb
  simp only at hc hd hc2 hd2
  subst hc hd hc2 hd2
  have e : vs.toArray ++ ws.toArray = (vs ++ ws).toArray := by simp
  by_cases hw : ws = []
  · exact concat_meets ⟨_, ho, rfl⟩ ⟨_, ho2, rfl⟩ noFill_tuple_add seq_tuple_add PySem.F.slot_tuple_add PySem.F.entry_tuple_add (PySem.F.args_tuple_add_2 _ _)
      (tuple_addW1 t b vs.toArray ws.toArray n n2 dd dd2 sl sl2 (by simpa using hv) (by simp [hw])) ⟨ho, ho2, h1 hw⟩
  · refine concat_meets ⟨_, ho, rfl⟩ ⟨_, ho2, rfl⟩ noFill_tuple_add seq_tuple_add PySem.F.slot_tuple_add PySem.F.entry_tuple_add (PySem.F.args_tuple_add_2 _ _)
      (tuple_addW2 t b vs.toArray ws.toArray n n2 dd dd2 sl sl2 (by simpa using hv) (by simpa using hw) (by rw [List.size_toArray, List.size_toArray]; exact hsz)) ⟨ho, ho2, ?_⟩
    rw [e]
    exact h2 hw

/-! ### t[a:b], not the whole -/
/-- a slice's bound as a place among n (d where it is left out) -/
def sIx (n d : Nat) : Option Int → Nat
  | none => d
  | some v => if v < 0 then (v + (n : Int)).toNat else min v.toNat n
theorem sIx_none (n d : Nat) : sIx n d none = d := rfl
theorem sIx_nat (n d k : Nat) : sIx n d (some (k : Int)) = min k n := by
  show (if (k : Int) < 0 then ((k : Int) + (n : Int)).toNat else min (k : Int).toNat n) = min k n
  rw [if_neg (by omega), Int.toNat_natCast]
theorem sIx_le (n d : Nat) (hd : d ≤ n) (o : Option Int) : sIx n d o ≤ n := by
  cases o with
  | none => exact hd
  | some v =>
    show (if v < 0 then (v + (n : Int)).toNat else min v.toNat n) ≤ n
    by_cases hv : v < 0
    · rw [if_pos hv]; omega
    · rw [if_neg hv]; exact Nat.min_le_right _ _
theorem clip_eq (v : Int) (n d : Nat) : (if v < 0 then max (v + (n : Int)) 0 else min v (n : Int)) = ((sIx n d (some v) : Nat) : Int) := by
  show (if v < 0 then max (v + (n : Int)) 0 else min v (n : Int)) = (((if v < 0 then (v + (n : Int)).toNat else min v.toNat n) : Nat) : Int)
  by_cases hv : v < 0
  · simp only [if_pos hv]; omega
  · simp only [if_neg hv]; omega
theorem adjust_gen (lo hi : Option Int) (n : Nat) : Builtin.Slice.sliceAdjust lo hi 1 (n : Int) = (((sIx n 0 lo : Nat) : Int), ((sIx n n hi : Nat) : Int)) := by
  have h1 : ¬ ((1 : Int) < 0) := by omega
  unfold Builtin.Slice.sliceAdjust
  simp only [h1, if_false]
  refine Prod.ext ?_ ?_
  · cases lo with
    | none => rfl
    | some v => exact clip_eq v n 0
  · cases hi with
    | none => rfl
    | some v => exact clip_eq v n n
theorem places_gen (i j : Nat) : Builtin.Slice.slicePlaces (i : Int) (j : Int) 1 = j - i := by
  unfold Builtin.Slice.slicePlaces
  have h1 : (1 : Int) > 0 := by omega
  simp only [h1, if_true, Int.ediv_one]
  split <;> omega
theorem slicePart_ {v : Value} {o : Option Int} {Q : Option Int → Shared → Prop} (p : IsPart v o) (h : Q o s) : wpAny (model prog w) A (Builtin.Slice.slicePartIndex v) Q E s := by
  cases p with
  | none => exact slicePart_none h
  | int i t => exact slicePart_int h
theorem sliceApplied_gen {sl : Addr} {vl vu : Value} {lo hi : Option Int} {n : Nat} {Q : Int × Int × Nat → Shared → Prop} (hs : s.heap.IsSliceOf sl vl vu .none) (pl : IsPart vl lo) (pu : IsPart vu hi)
    (h : Q (((sIx n 0 lo : Nat) : Int), 1, sIx n n hi - sIx n 0 lo) s) : wpAny (model prog w) A (Builtin.Slice.sliceApplied (.ref sl) (pure (n : Int))) Q E s := by
  obtain ⟨os, hos, hcs, hds⟩ := id hs
  unfold Builtin.Slice.sliceApplied Builtin.Slice.sliceFields
  refine wpAny_bind (wpAny_bind (wpAny_field hos hds (x := vl) rfl (wpAny_bind (wpAny_field hos hds (x := vu) rfl (wpAny_bind (wpAny_field hos hds (x := .none) rfl (wpAny_pure ?_)))))))
  refine wpAny_bind (slicePart_none ?_)
  show wpAny _ _ (if ((1 : Int) == 0) = true then _ else _) _ _ s
  rw [if_neg (by decide)]
  refine wpAny_bind (slicePart_ pl (wpAny_bind (slicePart_ pu (wpAny_bind (wpAny_pure ?_)))))
  show wpAny _ _ (match Builtin.Slice.sliceAdjust lo hi 1 (n : Int) with | (lo, hi) => pure (lo, (1 : Int), Builtin.Slice.slicePlaces lo hi 1)) _ _ s
  rw [adjust_gen lo hi n]
  show wpAny _ _ (pure (((sIx n 0 lo : Nat) : Int), (1 : Int), Builtin.Slice.slicePlaces ((sIx n 0 lo : Nat) : Int) ((sIx n n hi : Nat) : Int) 1)) _ _ s
  rw [places_gen]
  exact wpAny_pure h
theorem pick_gen (xs : Array Value) (i k : Nat) : ((List.range k).filterMap fun (m : Nat) => xs[((i : Int) + (m : Int) * 1).toNat]?).toArray = ((xs.toList.drop i).take k).toArray := by
  have e : (fun (m : Nat) => xs[((i : Int) + (m : Int) * 1).toNat]?) = fun m => xs[i + m]? := by
    funext m
    have : ((i : Int) + (m : Int) * 1).toNat = i + m := by omega
    rw [this]
  rw [e]
  have := pick_run xs i k
  rw [List.filterMap_map] at this
  have e2 : ((fun x => xs[x]?) ∘ fun x => i + x) = fun m => xs[i + m]? := rfl
  rw [e2] at this
  rw [this]

theorem getItem_tuple_cut {t sl : Addr} {items : Array Value} {vl vu : Value} {lo hi : Option Int} {Q : Value → Shared → Prop} (ht : IsTup s.heap t items) (hs : s.heap.IsSliceOf sl vl vu .none) (pl : IsPart vl lo) (pu : IsPart vu hi)
    (hw : ¬ (sIx items.size 0 lo = 0 ∧ sIx items.size items.size hi = items.size))
    (h : Q (.ref s.heap.objs.size) { s with heap := s.heap.push { cls := .type "tuple", data := .seq ((items.toList.drop (sIx items.size 0 lo)).take (sIx items.size items.size hi - sIx items.size 0 lo)).toArray } })
    (hsz : items.size ≤ sizeLine) : wpAny (model prog w) A (getItem (.ref t) (.ref sl)) Q E s := by
  have htake : sizeOk (.seq ((items.toList.drop (sIx items.size 0 lo)).take (sIx items.size items.size hi - sIx items.size 0 lo)).toArray) := by
    show ((items.toList.drop (sIx items.size 0 lo)).take (sIx items.size items.size hi - sIx items.size 0 lo)).toArray.size ≤ sizeLine
    rw [List.size_toArray, List.length_take, List.length_drop, Array.length_toList]
    omega
  have hj : sIx items.size items.size hi ≤ items.size := sIx_le _ _ (Nat.le_refl _) hi
  obtain ⟨os, hos, hcs, hds⟩ := id hs
  have hTs : s.TypeIs (.ref sl) "slice" := ⟨os, hos, hcs⟩
  unfold getItem
  try with_reducible refine wpAny_holding ?_
  first | refine wpAny_bind (wpAny_pure ?_) | skip
  refine wpAny_bind (wpAny_sequenceKey ht.typeIs (by decide) ?_)
  refine wpAny_bind (wpAny_callSpecial?_slot (name := Str.ofString "__getitem__") ht.typeIs PyProof.Rows.slot_tuple_getitem
    (wpAny_call_entry PyProof.Rows.slot_tuple_getitem ht.typeIs entry_tuple_getitem ?_ (args_tuple_getitem _ _)))
  show wpAny _ _ (Builtin.Tuple.tupleItemsOf (.ref t) >>= _) _ _ s
  refine wpAny_bind (tupleItemsOf_ ht ?_)
  refine wpAny_bind (wpAny_typeOf hTs ?_)
  rw [if_pos (by decide)]
  refine wpAny_bind (sliceApplied_gen hs pl pu ?_)
  have hno : ¬ ((((sIx items.size 0 lo : Nat) : Int) == 0 && (1 : Int) == 1 && (sIx items.size items.size hi - sIx items.size 0 lo) == items.size) = true) := by
    intro q
    rw [Bool.and_eq_true, Bool.and_eq_true] at q
    have q1 : ((sIx items.size 0 lo : Nat) : Int) = 0 := eq_of_beq q.1.1
    have q2 : sIx items.size items.size hi - sIx items.size 0 lo = items.size := eq_of_beq q.2
    exact hw ⟨by omega, by omega⟩
  show wpAny _ _ (if (((sIx items.size 0 lo : Nat) : Int) == 0 && (1 : Int) == 1 && (sIx items.size items.size hi - sIx items.size 0 lo) == items.size) = true then _ else _) _ _ s
  rw [if_neg hno, pick_gen]
  first
    | exact wpAny_bind (m := Builtin.Tuple.tupleExact _) (wpAny_newObj_type (wpAny_pure ⟨_, rfl, wpAny_pure h⟩) htake)
    | exact wpAny_bind (m := Builtin.Tuple.tupleExact _) (wpAny_newObj_type (wpAny_bind (wpAny_pure (wpAny_pure ⟨_, rfl, wpAny_pure h⟩))) htake)
    | exact wpAny_bind (wpAny_bind (m := Builtin.Tuple.tupleExact _) (wpAny_newObj_type (wpAny_pure (wpAny_pure ⟨_, rfl, wpAny_pure h⟩)) htake))
    | exact wpAny_bind (wpAny_bind (m := Builtin.Tuple.tupleExact _) (wpAny_newObj_type (wpAny_pure ⟨_, rfl, wpAny_pure h⟩) htake))
end
end HT

namespace L2
open PySem PySem.Spec PyProof.Rows

/-! ### the parts of a slice -/
abbrev TO := St → Hp → (Option Int → Hp → Prop) → Prop
/-- a slice's part (left out, or an int) -/
def PO (X : Cx) (e : Option Expr) (t : TO) : Prop :=
  ∀ (pins : List (Addr × Obj)) (s : Shared) (σ : St) (H : Hp) (Q : Option Int → Hp → Prop), Inv X pins σ H s → t σ H Q →
    wpAny (model X.prog X.w) X.A (evalPart e X.env) (fun u s' => ∃ o H', Inv X pins σ H' s' ∧ IsPart u o ∧ Q o H') X.xe s
def tNoPart : TO := fun _ H Q => Q none H
def tPart (t : TE) : TO := fun σ H Q => t σ H fun x H1 => ∃ i, x = .int i ∧ Q (some i) H1

theorem intsAre_of {ns : List Int} : ∀ {us : List Value}, Vals (ns.map V.int) us → IntsAre us ns := by
  induction ns with
  | nil => intro us r; rw [List.map_nil] at r; cases r; exact .nil
  | cons n ns ih =>
    intro us r
    rw [List.map_cons] at r
    cases r with
    | cons r1 r2 =>
      obtain ⟨t, e⟩ := r1
      subst e
      exact .cons n t (ih r2)

section
variable {X : Cx} {e : Expr} {te : TE} {lo hi : Option Expr} {tl th : TO} {pos p2 : Pos}

theorem po_none : PO X none tNoPart := by
  intro pins s σ H Q I h
  rw [evalPart_none]
  exact wpAny_pure ⟨none, H, I, .none, h⟩
theorem po_some (h : PE X e te) : PO X (some e) (tPart te) := by
  intro pins s σ H Q I hw
  rw [evalPart_some]
  refine thn (h pins s σ H _ I hw) fun u s1 ⟨x, H1, I1, r1, q1⟩ => ?_
  obtain ⟨i, rfl, q⟩ := q1
  obtain ⟨t, rfl⟩ := r1
  exact ⟨some i, H1, I1, .int i t, q⟩

/-- what a slice of a value is, by values: the slice object stands at sl -/
def SlR (X : Cx) (r : V → Option Int → Option Int → Hp → VK → Prop) : Prop :=
  ∀ (pins : List (Addr × Obj)) (s : Shared) (σ : St) (H : Hp) (x : V) (v vl vu : Value) (lo hi : Option Int) (sl : Addr) (Q : VK), Inv X pins σ H s → RelV x v → s.heap.IsSliceOf sl vl vu .none → IsPart vl lo → IsPart vu hi → r x lo hi H Q →
    ∃ T id, typeLookup (.type T) "__getitem__" = pure (some (.builtin id)) ∧ s.TypeIs v T ∧ wpAny (model X.prog X.w) X.A (getItem v (.ref sl)) (EP X pins σ Q) X.xe s
theorem SlR.or {r r' : V → Option Int → Option Int → Hp → VK → Prop} (h : SlR X r) (h' : SlR X r') : SlR X (fun x lo hi H Q => r x lo hi H Q ∨ r' x lo hi H Q) := by
  intro pins s σ H x v vl vu lo hi sl Q I rx hs pl pu q
  rcases q with q | q
  · exact h pins s σ H x v vl vu lo hi sl Q I rx hs pl pu q
  · exact h' pins s σ H x v vl vu lo hi sl Q I rx hs pl pu q
def tSl (r : V → Option Int → Option Int → Hp → VK → Prop) (te : TE) (tl th : TO) : TE := fun σ H Q => te σ H fun x H1 => tl σ H1 fun l H2 => th σ H2 fun u H3 => r x l u H3 Q
/-- a[lo:hi], any a -/
theorem pe_slice {r : V → Option Int → Option Int → Hp → VK → Prop} (hr : SlR X r) (he : PE X e te) (hl : PO X lo tl) (hu : PO X hi th) : PE X (.Subscript e (.Slice lo hi none p2) pos) (tSl r te tl th) := by
  intro pins s σ H Q I h
  refine Subscript_ (thn (he pins s σ H _ I h) fun v s1 ⟨x, H1, I1, r1, q1⟩ => ?_)
  refine wpAny_Slice (thn (hl pins s1 σ H1 _ I1 q1) fun vl s2 ⟨l, H2, I2, pl, q2⟩ => thn (hu pins s2 σ H2 _ I2 q2) fun vu s3 ⟨u, H3, I3, pu, q3⟩ => ?_)
  rw [evalPart_none]
  refine wpAny_pure ?_
  have I4 : Inv X pins σ H3 { s3 with heap := s3.heap.push { cls := .type "slice", data := .fields #[vl, vu, .none] } } := I3.kept (t' := s3.toks) fun b ob q => Heap.get?_push_of_some _ q
  obtain ⟨T, id, hT, ht, hg⟩ := hr pins { s3 with heap := s3.heap.push { cls := .type "slice", data := .fields #[vl, vu, .none] } } σ H3 x v vl vu l u s3.heap.objs.size Q I4 r1 (Heap.IsSliceOf.new ..) pl pu q3
  show wpAny (model X.prog X.w) X.A (subscriptTail e (.Slice lo hi none p2) v (.ref s3.heap.objs.size)) (EP X pins σ Q) X.xe { s3 with heap := s3.heap.push { cls := .type "slice", data := .fields #[vl, vu, .none] } }
  exact tail_any (ops := [.ref s3.heap.objs.size, v]) ht hT hg (by with_unfolding_all rfl)

/-- the items of xs[lo:hi] -/
def cutV (xs : List V) (lo hi : Option Int) : List V := (xs.drop (HT.sIx xs.length 0 lo)).take (HT.sIx xs.length xs.length hi - HT.sIx xs.length 0 lo)
theorem cutV_length (xs : List V) (lo hi : Option Int) : (cutV xs lo hi).length ≤ xs.length := by
  unfold cutV
  rw [List.length_take, List.length_drop]
  omega
/-- t[lo:hi], not the whole of it (the whole would be t itself) -/
def rSlT (K : PySem.W.Frag) : V → Option Int → Option Int → Hp → VK → Prop := fun x lo hi H Q => ∃ a xs, x = .ref a ∧ SqT K H a xs ∧
  ¬ (HT.sIx xs.length 0 lo = 0 ∧ HT.sIx xs.length xs.length hi = xs.length) ∧ ∀ p, H p = none → Q (.ref p) (upd H p (.tup (cutV xs lo hi)))
theorem sl_tup : SlR X (rSlT X.K) := by
  intro pins s σ H x v vl vu lo hi sl Q I rx hs pl pu h
  obtain ⟨a, xs, rfl, hx, hw, q⟩ := h
  cases rx
  obtain ⟨its, r, ht, hz⟩ := I.tuple hx
  have hlen : its.toArray.size = xs.length := by rw [List.size_toArray]; exact r.length.symm
  refine ⟨"tuple", _, PyProof.Rows.slot_tuple_getitem.lookup, ht.typeIs, ?_⟩
  refine HT.getItem_tuple_cut ht hs pl pu (by rw [hlen]; exact hw) ?_ (by rw [hlen]; exact hz)
  rw [hlen]
  refine ⟨.ref s.heap.objs.size, _, I.laid (t' := s.toks) (o := .tup (cutV xs lo hi)) (fun b ob q => Heap.get?_push_of_some _ q) (Nat.le_refl _) ?_, rfl, q _ (I.hok.fresh (Nat.le_refl _))⟩
  exact ⟨Nat.le_trans (cutV_length xs lo hi) hz, _, (r.drop (HT.sIx xs.length 0 lo)).take (HT.sIx xs.length xs.length hi - HT.sIx xs.length 0 lo), IsTup.new _ _⟩

/-! ### t < u, t + u -/
def rLtT (K : PySem.W.Frag) : R2 := fun x y H Q => ∃ a b ns ms, x = .ref a ∧ y = .ref b ∧ SqT K H a (ns.map V.int) ∧ SqT K H b (ms.map V.int) ∧ Q (.bl (HT.lexLt ns ms)) H
theorem op_ltT (hu : X.A.units < cLine) : OpR X (compareOp .Lt) (rLtT X.K) := by
  intro pins s σ H x y v u Q I rx ry h
  obtain ⟨a, b, ns, ms, rfl, rfl, ha, hb, q⟩ := h
  cases rx
  cases ry
  obtain ⟨its, r1, p1, _⟩ := I.tuple ha
  obtain ⟨its2, r2, p2, _⟩ := I.tuple hb
  have i1 : IntsAre its.toArray.toList ns := intsAre_of r1
  have i2 : IntsAre its2.toArray.toList ms := intsAre_of r2
  exact HT.lt_tupInts p1 p2 i1 i2 hu ⟨.bl (HT.lexLt ns ms), H, I, rfl, q⟩
/-- t + u, t not empty: u empty gives t itself -/
def rCatT (K : PySem.W.Frag) : R2 := fun x y H Q => ∃ a b xs ys, x = .ref a ∧ y = .ref b ∧ SqT K H a xs ∧ SqT K H b ys ∧ xs ≠ [] ∧ xs.length + ys.length ≤ sizeLine ∧
  (ys = [] → Q (.ref a) H) ∧ (ys ≠ [] → ∀ p, H p = none → Q (.ref p) (upd H p (.tup (xs ++ ys))))
theorem Vals.nil_iff {xs : List V} {us : List Value} (r : Vals xs us) : us = [] ↔ xs = [] := by
  cases r with
  | nil => simp
  | cons _ _ => simp
theorem op_catT : OpR X (binaryOp .Add) (rCatT X.K) := by
  intro pins s σ H x y v u Q I rx ry h
  obtain ⟨a, b, xs, ys, rfl, rfl, ha, hb, hx, hz, q1, q2⟩ := h
  cases rx
  cases ry
  obtain ⟨its, r1, p1, _⟩ := I.tuple ha
  obtain ⟨its2, r2, p2, _⟩ := I.tuple hb
  refine HT.cat_tup p1 p2 (fun z => hx (r1.nil_iff.mp z)) (fun z => ⟨.ref a, H, I, rfl, q1 (r2.nil_iff.mp z)⟩) (fun z => ?_) (by rw [← r1.length, ← r2.length]; exact hz)
  refine ⟨.ref s.heap.objs.size, _, I.laid (t' := s.toks) (o := .tup (xs ++ ys)) (fun b ob q => Heap.get?_push_of_some _ q) (Nat.le_refl _) ?_, rfl, q2 (fun w => z (r2.nil_iff.mpr w)) _ (I.hok.fresh (Nat.le_refl _))⟩
  exact ⟨by rw [List.length_append]; exact hz, _, r1.append r2, IsTup.new _ _⟩
/-- tuple(t) -/
theorem call_tupleT : CallR X (.type "tuple") (fun xs H Q => ∃ a ys, xs = [.ref a] ∧ SqT X.K H a ys ∧ Q (.ref a) H) := by
  intro pins s σ H xs us Q I r h
  obtain ⟨a, ys, rfl, ha, q⟩ := h
  obtain ⟨u, rfl, ru⟩ := vals1 r
  cases ru
  obtain ⟨its, _, p1, _⟩ := I.tuple ha
  exact call_tuple_same (items := its.toArray) p1 ⟨.ref a, H, I, rfl, q⟩
end
end L2

namespace L2
open PySem PySem.Spec PyProof.Rows

/-! ### places -/
/-- the place that an index of any sign means -/
def ixN (n : Nat) (i : Int) : Option Nat := if 0 ≤ i then (if i < n then some i.toNat else none) else if -(n : Int) ≤ i then some (i + n).toNat else none
def atI {α : Type} (xs : List α) (i : Int) : Option α := (ixN xs.length i).bind fun j => xs[j]?
theorem ixN_seq {n : Nat} {i : Int} {j : Nat} (h : ixN n i = some j) : seqIndex? i n = some j ∧ j < n ∧ -(n : Int) ≤ i ∧ i < n := by
  unfold ixN at h
  by_cases h0 : 0 ≤ i
  · rw [if_pos h0] at h
    by_cases h1 : i < n
    · rw [if_pos h1] at h
      have e : i.toNat = j := Option.some.inj h
      exact ⟨by rw [seqIndex_of h0 h1, e], by omega, by omega, h1⟩
    · rw [if_neg h1] at h; cases h
  · rw [if_neg h0] at h
    by_cases h1 : -(n : Int) ≤ i
    · rw [if_pos h1] at h
      have e : (i + n).toNat = j := Option.some.inj h
      exact ⟨by rw [seqIndex_neg (by omega) h1, e], by omega, h1, by omega⟩
    · rw [if_neg h1] at h; cases h
theorem atI_get {α : Type} {xs : List α} {i : Int} {v : α} (h : atI xs i = some v) : ∃ j, seqIndex? i xs.length = some j ∧ xs[j]? = some v ∧ j < xs.length ∧ -(xs.length : Int) ≤ i ∧ i < xs.length := by
  unfold atI at h
  cases e : ixN xs.length i with
  | none => rw [e] at h; cases h
  | some j =>
    rw [e] at h
    obtain ⟨h1, h2, h3, h4⟩ := ixN_seq e
    exact ⟨j, h1, h, h2, h3, h4⟩
theorem atI_nat {α : Type} {xs : List α} {j : Nat} {v : α} (h : xs[j]? = some v) : atI xs (j : Int) = some v := by
  have hj : j < xs.length := (List.getElem?_eq_some_iff.mp h).1
  have e : ixN xs.length (j : Int) = some j := by
    unfold ixN
    rw [if_pos (by omega), if_pos (by omega)]; simp
  unfold atI; rw [e]; exact h
theorem atI_last {α : Type} (xs : List α) (v : α) : atI (xs ++ [v]) (-1) = some v := by
  have hl : (xs ++ [v]).length = xs.length + 1 := by simp
  have e : ixN (xs ++ [v]).length (-1) = some xs.length := by
    unfold ixN
    rw [hl, if_neg (by decide), if_pos (by omega)]
    congr 1
    omega
  unfold atI
  rw [e]
  show (xs ++ [v])[xs.length]? = some v
  simp

/-! ### what may be subscripted -/
/-- what stands as an index of a plain subscript -/
def PlainIx (b : Expr) : Prop := ∀ o i, subscripted b false o i = operate [o, i] (getItem o i)
/-- a subscript by values -/
def IxR (X : Cx) (r : R2) : Prop :=
  ∀ (value slice : Expr) (pins : List (Addr × Obj)) (s : Shared) (σ : St) (H : Hp) (x y : V) (v u : Value) (Q : VK), Inv X pins σ H s → RelV x v → RelV y u → r x y H Q →
    subscripted slice false v u = operate [v, u] (getItem v u) → wpAny (model X.prog X.w) X.A (subscriptTail value slice v u) (EP X pins σ Q) X.xe s
/-- a call of a builtin's method by values: the receiver, the arguments -/
def MtR (X : Cx) (id : String) (r : V → List V → Hp → VK → Prop) : Prop :=
  ∀ (pins : List (Addr × Obj)) (s : Shared) (σ : St) (H : Hp) (x : V) (xs : List V) (v : Value) (us : List Value) (Q : VK), Inv X pins σ H s → RelV x v → Vals xs us → r x xs H Q →
    wpAny (model X.prog X.w) X.A (call (.builtin id) (v :: us)) (EP X pins σ Q) X.xe s
section
variable {X : Cx} {a b : Expr} {ta tb : TE} {pos : Pos}
theorem IxR.or {r r' : R2} (h : IxR X r) (h' : IxR X r') : IxR X (fun x y H Q => r x y H Q ∨ r' x y H Q) := by
  intro value slice pins s σ H x y v u Q I rx ry q hs
  rcases q with q | q
  · exact h value slice pins s σ H x y v u Q I rx ry q hs
  · exact h' value slice pins s σ H x y v u Q I rx ry q hs
theorem MtR.or {id : String} {r r' : V → List V → Hp → VK → Prop} (h : MtR X id r) (h' : MtR X id r') : MtR X id (fun x xs H Q => r x xs H Q ∨ r' x xs H Q) := by
  intro pins s σ H x xs v us Q I rx rs q
  rcases q with q | q
  · exact h pins s σ H x xs v us Q I rx rs q
  · exact h' pins s σ H x xs v us Q I rx rs q
/-- a[b] -/
theorem pe_ix {r : R2} (hr : IxR X r) (ha : PE X a ta) (hb : PE X b tb) (hs : PlainIx b) : PE X (.Subscript a b pos) (tOp r ta tb) := by
  intro pins s σ H Q I h
  exact Subscript_ (binT ha hb I h fun v u s2 x y H2 I2 rx ry q => hr a b pins s2 σ H2 x y v u Q I2 rx ry q (hs _ _))

def rIxL (K : PySem.W.Frag) : R2 := fun x y H Q => ∃ p xs i v, x = .ref p ∧ y = .int i ∧ SqL K H p xs ∧ atI xs i = some v ∧ Q v H
def rIxT (K : PySem.W.Frag) : R2 := fun x y H Q => ∃ p xs i v, x = .ref p ∧ y = .int i ∧ SqT K H p xs ∧ atI xs i = some v ∧ Q v H
def rIxS : R2 := fun x y H Q => ∃ z i c, x = .str z ∧ y = .int i ∧ z.length ≤ sizeLine ∧ atI z.cps.toList i = some c ∧ Q (.str ⟨#[c]⟩) H
theorem ix_list : IxR X (rIxL X.K) := by
  intro value slice pins s σ H x y v u Q I rx ry h hs
  obtain ⟨p, xs, i, z, rfl, rfl, hq, he, q⟩ := h
  cases rx
  obtain ⟨t, rfl⟩ := ry
  obtain ⟨its, r, pl, hz⟩ := I.list hq
  obtain ⟨j, h1, h2, h3, h4, h5⟩ := atI_get he
  obtain ⟨w, ew, rw'⟩ := r.get h2
  have hl := r.length
  have hn := line63
  have fin : EP X pins σ Q w s := ⟨z, H, I, rw', q⟩
  by_cases h0 : 0 ≤ i
  · have hj : i.toNat = j := by
      rw [seqIndex_of h0 h5] at h1
      exact Option.some.inj h1
    exact item_listR pl.isList h0 (by omega) (by rw [hj]; simpa using ew) fin hs
  · have hj : (i + (its.toArray.size : Int)).toNat = j := by
      rw [seqIndex_neg (by omega) h4] at h1
      rw [List.size_toArray, ← hl]
      exact Option.some.inj h1
    exact subscriptTail_builtinR (x := w) pl.isList.typeIs slot_list_getitem.lookup
      (wpAny_getItem_list_neg (Q := fun r s' => r = w ∧ EP X pins σ Q r s') pl.isList (by omega) (by rw [List.size_toArray] <;> omega) (by omega) (by rw [hj]; simpa using ew) ⟨rfl, fin⟩) hs
theorem ix_tup : IxR X (rIxT X.K) := by
  intro value slice pins s σ H x y v u Q I rx ry h hs
  obtain ⟨p, xs, i, z, rfl, rfl, hq, he, q⟩ := h
  cases rx
  obtain ⟨t, rfl⟩ := ry
  obtain ⟨its, r, pl, hz⟩ := I.tuple hq
  obtain ⟨j, h1, h2, h3, h4, h5⟩ := atI_get he
  obtain ⟨w, ew, rw'⟩ := r.get h2
  have hl := r.length
  have hn := line63
  have fin : EP X pins σ Q w s := ⟨z, H, I, rw', q⟩
  exact subscriptTail_builtinR (x := w) pl.typeIs slot_tuple_getitem.lookup
    (getItem_tuple (j := j) (Q := fun r s' => r = w ∧ EP X pins σ Q r s') pl (by omega) (by omega) (by rw [List.size_toArray, ← hl]; exact h1) (by simpa using ew) ⟨rfl, fin⟩) hs
theorem ix_str : IxR X rIxS := by
  intro value slice pins s σ H x y v u Q I rx ry h hs
  obtain ⟨z, i, c, rfl, rfl, hz, he, q⟩ := h
  obtain ⟨t, rfl⟩ := rx
  obtain ⟨t', rfl⟩ := ry
  obtain ⟨j, h1, h2, h3, h4, h5⟩ := atI_get he
  have hl : z.cps.toList.length = z.length := by simp [Str.length]
  rw [hl] at h1 h4 h5
  have hn := line63
  exact tail_any (typeIs_str s z t) slot_str_getitem.lookup (getItem_str (c := c) (by
    have e1 : decide (i < -(2 ^ 63 : Int)) = false := decide_eq_false (by omega)
    have e2 : decide (i ≥ 2 ^ 63) = false := decide_eq_false (by omega)
    rw [e1, e2, Bool.or_false]) (by rw [h1]; simpa using h2) ⟨.str ⟨#[c]⟩, H, I.tok _, ⟨_, rfl⟩, q⟩) hs
/-- list, tuple or str -/
def rIx (K : PySem.W.Frag) : R2 := fun x y H Q => rIxL K x y H Q ∨ rIxT K x y H Q ∨ rIxS x y H Q
theorem ix_seq : IxR X (rIx X.K) := ix_list.or (ix_tup.or ix_str)

/-! ### xs[i] = v, any sign -/
/-- the list's object behind a store -/
theorem mapSeq_set (its : List Value) (n j : Nat) (u : Value) : Obj.mapSeq (·.setIfInBounds j u) { cls := .type "list", data := .seq its.toArray n } = { cls := .type "list", data := .seq (its.set j u).toArray n } := by
  simp [Obj.mapSeq]
theorem Inv.lst {pins : List (Addr × Obj)} {σ : St} {H : Hp} {s : Shared} {p : Addr} {xs : List V} (I : Inv X pins σ H s) (h : H p = some (.lst xs)) :
    ∃ (its : List Value) (n : Nat), Vals xs its ∧ s.heap.get? p = some { cls := .type "list", data := .seq its.toArray n } ∧ xs.length ≤ sizeLine := by
  obtain ⟨z, its, n, r, e⟩ := I.hok p _ h
  exact ⟨its, n, r, e, z⟩
/-- the list at p is written by an update of its object -/
theorem Inv.lstUpd {pins : List (Addr × Obj)} {σ : St} {H : Hp} {s : Shared} {p : Addr} {xs ys : List V} {its its' : List Value} {n n' : Nat} {f : Obj → Obj} (I : Inv X pins σ H s) (h : H p = some (.lst xs))
    (ho : s.heap.get? p = some { cls := .type "list", data := .seq its.toArray n }) (hf : f { cls := .type "list", data := .seq its.toArray n } = { cls := .type "list", data := .seq its'.toArray n' }) (r : Vals ys its') (hz : ys.length ≤ sizeLine) (t : Nat) :
    Inv X pins σ (upd H p (.lst ys)) { s with heap := s.heap.update p f, toks := t } := by
  have e : (s.heap.update p f).get? p = some { cls := .type "list", data := .seq its'.toArray n' } := by
    rw [Heap.get?_update_self f ho (by rw [hf] <;> rfl), hf]
  refine I.write (x := p) (e := p) (by rw [h]; trivial) (.inl rfl) (fun b u hb q => (Heap.get?_update_other _ _ (Ne.symm hb)).trans q) ⟨_, e⟩ ?_
  exact ⟨hz, its', n', r, e⟩
def rSetL : V → V → V → Hp → (Hp → Prop) → Prop := fun o i v H Q => ∃ p xs k j, o = .ref p ∧ i = .int k ∧ H p = some (.lst xs) ∧ ixN xs.length k = some j ∧ Q (upd H p (.lst (xs.set j v)))
theorem set_list : PSet X rSetL := by
  intro pins s σ H o i v ov iv u Q I ro ri rv h
  obtain ⟨p, xs, k, j, rfl, rfl, hp, hj, q⟩ := h
  cases ro
  obtain ⟨t, rfl⟩ := ri
  obtain ⟨its, n, r, ho, hz⟩ := I.lst hp
  obtain ⟨h1, h2, h3, h4⟩ := ixN_seq hj
  have hl := r.length
  have hn := line63
  have I' : Inv X pins σ (upd H p (.lst (xs.set j v))) { s with heap := s.heap.update p (Obj.mapSeq (·.setIfInBounds j u)) } :=
    I.lstUpd hp ho (mapSeq_set its n j u) (r.set rv j) (by rw [List.length_set]; exact hz) s.toks
  by_cases h0 : 0 ≤ k
  · have hk : k.toNat = j := by
      rw [seqIndex_of h0 h4] at h1
      exact Option.some.inj h1
    exact PySem.W.ki_setAt ho h0 (by omega) (by rw [List.size_toArray, ← hl]; exact h4) (by rw [hk]; exact ⟨_, I', q⟩)
  · have hk : (k + (its.toArray.size : Int)).toNat = j := by
      rw [seqIndex_neg (by omega) h3] at h1
      rw [List.size_toArray, ← hl]
      exact Option.some.inj h1
    exact PySem.W.ki_setBack ho (by omega) (by rw [List.size_toArray, ← hl]; exact h3) (by omega) (by rw [hk]; exact ⟨_, I', q⟩)

/-! ### slices -/
theorem slice_bounds (lo hi : Option Int) (n : Nat) : (sliceBounds lo hi none n).1 = ((HT.sIx n 0 lo : Nat) : Int) ∧ (sliceBounds lo hi none n).2.1 = ((HT.sIx n n hi : Nat) : Int) ∧ (sliceBounds lo hi none n).2.2 = 1 := by
  refine ⟨?_, ?_, rfl⟩
  · cases lo with
    | none => simp [sliceBounds, HT.sIx]
    | some i =>
      simp only [sliceBounds, HT.sIx, Option.getD_none, show (1 : Int) > 0 by decide, if_true]
      by_cases h : i < 0
      · simp only [h, if_true] <;> omega
      · simp only [h, if_false] <;> omega
  · cases hi with
    | none => simp [sliceBounds, HT.sIx]
    | some i =>
      simp only [sliceBounds, HT.sIx, Option.getD_none, show (1 : Int) > 0 by decide, if_true]
      by_cases h : i < 0
      · simp only [h, if_true] <;> omega
      · simp only [h, if_false] <;> omega
theorem slicePick_cut (its : List Value) (lo hi : Option Int) : slicePick its.toArray lo hi none = ((its.drop (HT.sIx its.length 0 lo)).take (HT.sIx its.length its.length hi - HT.sIx its.length 0 lo)).toArray := by
  obtain ⟨h1, h2, h3⟩ := slice_bounds lo hi its.toArray.size
  unfold slicePick
  rw [h1, h2, h3]
  simp only [sliceRange_one, pick_run, List.size_toArray] <;> rfl
/-- xs[lo:hi] of a list: a new list -/
def rSlL (K : PySem.W.Frag) : V → Option Int → Option Int → Hp → VK → Prop := fun x lo hi H Q => ∃ a xs, x = .ref a ∧ SqL K H a xs ∧ ∀ p, H p = none → Q (.ref p) (upd H p (.lst (cutV xs lo hi)))
theorem sl_list : SlR X (rSlL X.K) := by
  intro pins s σ H x v vl vu lo hi sl Q I rx hs pl pu h
  obtain ⟨a, xs, rfl, hx, q⟩ := h
  cases rx
  obtain ⟨its, r, ht, hz⟩ := I.list hx
  have hlen := r.length
  refine ⟨"list", _, slot_list_getitem.lookup, ht.isList.typeIs, ?_⟩
  refine wpAny_getItem_list_slice ht.isList hs pl pu .none (by simp) ?_ (by rw [List.size_toArray] <;> omega)
  rw [slicePick_cut, ← hlen]
  refine ⟨.ref s.heap.objs.size, _, I.laid (t' := s.toks) (o := .lst (cutV xs lo hi)) (fun b ob q => Heap.get?_push_of_some _ q) (Nat.le_refl _) ?_, rfl, q _ (I.hok.fresh (Nat.le_refl _))⟩
  exact ⟨Nat.le_trans (cutV_length xs lo hi) hz, _, 0, (r.drop (HT.sIx xs.length 0 lo)).take (HT.sIx xs.length xs.length hi - HT.sIx xs.length 0 lo), Heap.get?_push_size _ rfl⟩

/-! ### in, not in: flat items -/
def flatV : V → Bool
  | .non => true
  | .bl _ => true
  | .int _ => true
  | .str _ => true
  | _ => false
/-- == of flat values -/
def eqV : V → V → Bool
  | .non, .non => true
  | .bl a, .bl b => a == b
  | .bl a, .int b => (if a then 1 else 0) == b
  | .int a, .bl b => a == (if b then 1 else 0)
  | .int a, .int b => a == b
  | .str a, .str b => a == b
  | _, _ => false
theorem eqAt_V {A : Around} {s : Shared} {y x : V} {u v : Value} (ry : RelV y u) (rx : RelV x v) (fy : flatV y = true) (fx : flatV x = true) : SeqAt.EqAt A s u v (eqV y x) := by
  cases y with
  | non =>
    cases ry
    cases x with
    | non => cases rx; exact SeqAt.EqAt.same _
    | bl b => cases rx; exact SeqAt.EqAt.none_bool b
    | int b => obtain ⟨t, rfl⟩ := rx; exact SeqAt.EqAt.none_int b t
    | str b => obtain ⟨t, rfl⟩ := rx; exact SeqAt.EqAt.none_str b t
    | _ => exact absurd (show false = true from fx) Bool.false_ne_true
  | bl a =>
    cases ry
    cases x with
    | non => cases rx; exact SeqAt.EqAt.bool_none a
    | bl b => cases rx; exact SeqAt.EqAt.bool_bool a b
    | int b => obtain ⟨t, rfl⟩ := rx; exact SeqAt.EqAt.bool_int a b t
    | str b => obtain ⟨t, rfl⟩ := rx; exact SeqAt.EqAt.bool_str a b t
    | _ => exact absurd (show false = true from fx) Bool.false_ne_true
  | int a =>
    obtain ⟨t', rfl⟩ := ry
    cases x with
    | non => cases rx; exact SeqAt.EqAt.int_none a t'
    | bl b => cases rx; exact SeqAt.EqAt.int_bool a t' b
    | int b => obtain ⟨t, rfl⟩ := rx; exact SeqAt.EqAt.int_int a t' b t
    | str b => obtain ⟨t, rfl⟩ := rx; exact SeqAt.EqAt.int_str a t' b t
    | _ => exact absurd (show false = true from fx) Bool.false_ne_true
  | str a =>
    obtain ⟨t', rfl⟩ := ry
    cases x with
    | non => cases rx; exact SeqAt.EqAt.str_none a t'
    | bl b => cases rx; exact SeqAt.EqAt.str_bool a t' b
    | int b => obtain ⟨t, rfl⟩ := rx; exact SeqAt.EqAt.str_int a t' b t
    | str b => obtain ⟨t, rfl⟩ := rx; exact SeqAt.EqAt.str_str a t' b t
    | _ => exact absurd (show false = true from fx) Bool.false_ne_true
  | _ => exact absurd (show false = true from fy) Bool.false_ne_true
/-- the items' answers, read off the values (a value's own answer does not lean on its token) -/
def eqU (x : V) (u : Value) : Bool := match u with
  | .none => eqV .non x
  | .bool b => eqV (.bl b) x
  | .int i _ => eqV (.int i) x
  | .str z _ => eqV (.str z) x
  | _ => false
theorem eqU_of {x y : V} {u : Value} (r : RelV y u) (f : flatV y = true) : eqU x u = eqV y x := by
  cases y with
  | non => cases r; rfl
  | bl b => cases r; rfl
  | int i => obtain ⟨t, rfl⟩ := r; rfl
  | str z => obtain ⟨t, rfl⟩ := r; rfl
  | _ => exact absurd (show false = true from f) Bool.false_ne_true
theorem any_eqU {x : V} : ∀ {xs : List V} {us : List Value}, Vals xs us → xs.all flatV = true → us.any (eqU x) = xs.any fun y => eqV y x
  | _, _, .nil, _ => rfl
  | y :: xs, u :: us, .cons r t, f => by
    rw [List.all_cons, Bool.and_eq_true] at f
    rw [List.any_cons, List.any_cons, eqU_of r f.1, any_eqU t f.2]
theorem mem_eqAt {A : Around} {s : Shared} {x : V} {v : Value} (rx : RelV x v) (fx : flatV x = true) : ∀ {xs : List V} {us : List Value}, Vals xs us → xs.all flatV = true → ∀ u ∈ us, SeqAt.EqAt A s u v (eqU x u)
  | _, _, .nil, _ => fun u hu => by cases hu
  | y :: xs, u :: us, .cons r t, f => fun u' hu => by
    rw [List.all_cons, Bool.and_eq_true] at f
    rcases List.mem_cons.mp hu with rfl | hu
    · rw [eqU_of r f.1]; exact eqAt_V r rx f.1 fx
    · exact mem_eqAt rx fx t f.2 u' hu
def inV (x : V) (xs : List V) : Bool := xs.any fun y => eqV y x
/-- x in a list or tuple of flat items -/
def rIn (K : PySem.W.Frag) (neg : Bool) : R2 := fun x y H Q => ∃ p xs, y = .ref p ∧ (SqL K H p xs ∨ SqT K H p xs) ∧ flatV x = true ∧ xs.all flatV = true ∧ Q (.bl (if neg then !inV x xs else inV x xs)) H
theorem op_in_seq : OpR X (compareOp .In) (rIn X.K false) := by
  intro pins s σ H x y v u Q I rx ry h
  obtain ⟨p, xs, rfl, hq, fx, fs, q⟩ := h
  cases ry
  rcases hq with hq | hq
  · obtain ⟨its, r, pl, hz⟩ := I.list hq
    refine SeqAt.in_listAt (eqU x) pl.isList (fun w hw => mem_eqAt rx fx r fs w (by simpa using hw)) ⟨.bl _, H, I, rfl, ?_⟩
    rw [show its.toArray.any (eqU x) = its.any (eqU x) by simp, any_eqU r fs]
    exact q
  · obtain ⟨its, r, pl, hz⟩ := I.tuple hq
    refine SeqAt.in_tupleAt (eqU x) pl (fun w hw => mem_eqAt rx fx r fs w (by simpa using hw)) ⟨.bl _, H, I, rfl, ?_⟩
    rw [show its.toArray.any (eqU x) = its.any (eqU x) by simp, any_eqU r fs]
    exact q
theorem op_notIn_seq : OpR X (compareOp .NotIn) (rIn X.K true) := by
  intro pins s σ H x y v u Q I rx ry h
  obtain ⟨p, xs, rfl, hq, fx, fs, q⟩ := h
  cases ry
  rcases hq with hq | hq
  · obtain ⟨its, r, pl, hz⟩ := I.list hq
    refine SeqAt.notIn_listAt (eqU x) pl.isList (fun w hw => mem_eqAt rx fx r fs w (by simpa using hw)) ⟨.bl _, H, I, rfl, ?_⟩
    rw [show its.toArray.any (eqU x) = its.any (eqU x) by simp, any_eqU r fs]
    exact q
  · obtain ⟨its, r, pl, hz⟩ := I.tuple hq
    refine SeqAt.notIn_tupleAt (eqU x) pl (fun w hw => mem_eqAt rx fx r fs w (by simpa using hw)) ⟨.bl _, H, I, rfl, ?_⟩
    rw [show its.toArray.any (eqU x) = its.any (eqU x) by simp, any_eqU r fs]
    exact q
theorem op_notIn_str : OpR X (compareOp .NotIn) (fun x y H Q => ∃ i j, x = .str i ∧ y = .str j ∧ Q (.bl (!(!(Builtin.Str.occurrences j i 0 j.length 1).isEmpty))) H) := by
  intro pins s σ H x y v u Q I rx ry h
  obtain ⟨i, j, rfl, rfl, q⟩ := h
  obtain ⟨t, rfl⟩ := rx
  obtain ⟨t', rfl⟩ := ry
  exact notIn_str ⟨.bl _, H, I, rfl, q⟩

/-! ### len, list(x), tuple(x) of any list or tuple that is read -/
theorem call_len_seq : CallR X (.builtin "len") (fun xs H Q => ∃ p ys, xs = [.ref p] ∧ (SqL X.K H p ys ∨ SqT X.K H p ys) ∧ Q (.int ys.length) H) := by
  intro pins s σ H xs us Q I r h
  obtain ⟨p, ys, rfl, hq, q⟩ := h
  obtain ⟨u, rfl, rx⟩ := vals1 r
  cases rx
  have hn := line63
  rcases hq with hq | hq
  · obtain ⟨its, r', pl, hz⟩ := I.list hq
    have hlen := r'.length
    exact Calls.call_len_list pl.isList (by simp only [List.size_toArray] <;> omega) ⟨.int ys.length, H, I.tok _, ⟨s.toks + 1, by rw [List.size_toArray, hlen]⟩, q⟩
  · obtain ⟨its, r', pl, hz⟩ := I.tuple hq
    have hlen := r'.length
    exact len_tuple pl (by simp only [List.size_toArray] <;> omega) ⟨.int ys.length, H, I.tok _, ⟨s.toks + 1, by rw [List.size_toArray, hlen]⟩, q⟩
theorem call_len_str : CallR X (.builtin "len") (fun xs H Q => ∃ z, xs = [.str z] ∧ z.length ≤ sizeLine ∧ Q (.int z.length) H) := by
  intro pins s σ H xs us Q I r h
  obtain ⟨z, rfl, hz, q⟩ := h
  obtain ⟨u, rfl, t, rfl⟩ := vals1 r
  have hn := line63
  exact len_str (by omega) ⟨.int z.length, H, I.tok _, ⟨_, rfl⟩, q⟩
theorem CallR.or {f : Value} {r r' : List V → Hp → VK → Prop} (h : CallR X f r) (h' : CallR X f r') : CallR X f (fun xs H Q => r xs H Q ∨ r' xs H Q) := by
  intro pins s σ H xs us Q I rs q
  rcases q with q | q
  · exact h pins s σ H xs us Q I rs q
  · exact h' pins s σ H xs us Q I rs q
theorem call_list_of : CallR X (.type "list") (fun xs H Q => ∃ p ys, xs = [.ref p] ∧ (SqL X.K H p ys ∨ SqT X.K H p ys) ∧ ∀ l, H l = none → Q (.ref l) (upd H l (.lst ys))) := by
  intro pins s σ H xs us Q I r h
  obtain ⟨p, ys, rfl, hq, q⟩ := h
  obtain ⟨u, rfl, rx⟩ := vals1 r
  cases rx
  have fin : ∀ (its : List Value), Vals ys its → ys.length ≤ sizeLine → ∀ (h' : Heap) (c' : Nat), (∀ b o', s.heap.get? b = some o' → h'.get? b = some o') →
      h'.get? s.heap.objs.size = some { cls := .type "list", dict := none, data := .seq its.toArray c', slots := #[] } → EP X pins σ Q (.ref s.heap.objs.size) { s with heap := h' } := fun its r' hz h' c' kp e =>
    ⟨.ref s.heap.objs.size, _, I.laid (t' := s.toks) kp (Nat.le_refl _) (show ObjOk X.prog X.w _ h' _ (.lst ys) from ⟨hz, its, c', r', e⟩), rfl, q _ (I.hok.fresh (Nat.le_refl _))⟩
  rcases hq with hq | hq
  · obtain ⟨its, r', pl, hz⟩ := I.list hq
    have hlen := r'.length
    obtain ⟨o, ho, hc, n, hd⟩ := pl.isList
    exact call_list_seq p (.inl rfl) ho hc hd (fun h' c' kp e => fin its r' hz h' c' kp e) (by simp only [List.size_toArray] <;> omega)
  · obtain ⟨its, r', pl, hz⟩ := I.tuple hq
    have hlen := r'.length
    obtain ⟨o, ho, hc, n, hd⟩ := pl
    exact call_list_seq p (.inr rfl) ho hc hd (fun h' c' kp e => fin its r' hz h' c' kp e) (by simp only [List.size_toArray] <;> omega)
theorem call_tuple_of : CallR X (.type "tuple") (fun xs H Q => ∃ p ys, xs = [.ref p] ∧ ((SqL X.K H p ys ∧ ∀ l, H l = none → Q (.ref l) (upd H l (.tup ys))) ∨ (SqT X.K H p ys ∧ Q (.ref p) H))) := by
  intro pins s σ H xs us Q I r h
  obtain ⟨p, ys, rfl, h⟩ := h
  obtain ⟨u, rfl, rx⟩ := vals1 r
  cases rx
  rcases h with ⟨hq, q⟩ | ⟨hq, q⟩
  · obtain ⟨its, r', pl, hz⟩ := I.list hq
    have hlen := r'.length
    refine call_tuple_list pl.isList (fun h' kp => ?_) (by simp only [List.size_toArray] <;> omega)
    have I1 : Inv X pins σ H { s with heap := h' } := I.kept (t' := s.toks) kp
    have I2 : Inv X pins σ (upd H h'.objs.size (.tup ys)) { s with heap := h'.push { cls := .type "tuple", data := .seq its.toArray } } :=
      I1.laid (t' := s.toks) (fun b o e => Heap.get?_push_of_some _ e) (Nat.le_refl _) (show ObjOk X.prog X.w _ _ _ (.tup ys) from ⟨hz, its, r', IsTup.new _ _⟩)
    exact ⟨.ref h'.objs.size, _, I2, rfl, q _ (I1.hok.fresh (Nat.le_refl _))⟩
  · obtain ⟨its, r', pl, hz⟩ := I.tuple hq
    exact call_tuple_same pl ⟨.ref p, H, I, rfl, q⟩

/-! ### the call of a builtin's method: o.m(..) -/
/-- the value is of that builtin type -/
def tyV (K : PySem.W.Frag) (T : String) (x : V) (H : Hp) : Prop := match x with
  | .str _ => T = "str"
  | .int _ => T = "int"
  | .ref p => (T = "list" ∧ ∃ xs, SqL K H p xs) ∨ (T = "tuple" ∧ ∃ o, K.lookup p = some o ∧ o.cls = .type "tuple" ∧ o.dict = none) ∨
      (T = "dict" ∧ ((∃ kvs, H p = some (.dK kvs)) ∨ ∃ kvs, H p = some (.dT kvs))) ∨ (T = "set" ∧ ∃ S n, H p = some (.set S n))
  | _ => False
theorem tyV_is {pins : List (Addr × Obj)} {σ : St} {H : Hp} {s : Shared} {T : String} {x : V} {v : Value} (I : Inv X pins σ H s) (r : RelV x v) (ty : tyV X.K T x H) :
    s.TypeIs v T ∧ ∀ a, v = .ref a → ∃ ob, s.heap.get? a = some ob ∧ ob.dict = none := by
  cases x with
  | str z =>
    obtain ⟨t, rfl⟩ := r
    cases (show T = "str" from ty)
    exact ⟨typeIs_str s z t, fun _ e => nomatch e⟩
  | int i =>
    obtain ⟨t, rfl⟩ := r
    cases (show T = "int" from ty)
    exact ⟨typeIs_int s i t, fun _ e => nomatch e⟩
  | ref p =>
    cases r
    rcases ty with ⟨rfl, xs, hq⟩ | ⟨rfl, o, hk, hc, hd⟩ | ⟨rfl, hk⟩ | ⟨rfl, S, n, hk⟩
    · obtain ⟨its, _, pl, _⟩ := I.list hq
      refine ⟨pl.isList.typeIs, fun a e => ?_⟩
      cases e
      obtain ⟨o, n, e, c, hd, _⟩ := pl
      exact ⟨o, e, hd⟩
    · refine ⟨⟨o, I.kIn p o hk, hc⟩, fun a e => ?_⟩
      cases e
      exact ⟨o, I.kIn _ o hk, hd⟩
    · have z : ∃ o, s.heap.get? p = some o ∧ o.ExactDict := by
        rcases hk with ⟨kvs, hk⟩ | ⟨kvs, hk⟩
        · obtain ⟨_, _, _, _, o, _, _, e, ex, _⟩ := I.hok p _ hk
          exact ⟨o, e, ex⟩
        · obtain ⟨_, _, _, _, o, _, _, e, ex, _⟩ := I.hok p _ hk
          exact ⟨o, e, ex⟩
      obtain ⟨o, e, ex⟩ := z
      refine ⟨⟨o, e, ex.1⟩, fun a e2 => ?_⟩
      cases e2
      exact ⟨o, e, ex.2.1⟩
    · obtain ⟨o, _, _, _, e, ex, _⟩ := I.hok p _ hk
      refine ⟨⟨o, e, ex.1⟩, fun a e2 => ?_⟩
      cases e2
      exact ⟨o, e, ex.2.1⟩
  | _ => exact False.elim ty
def tBM0 (K : PySem.W.Frag) (T : String) (r : V → List V → Hp → VK → Prop) (to : TE) : TE := fun σ H Q => to σ H fun x H1 => tyV K T x H1 ∧ r x [] H1 Q
def tBM (K : PySem.W.Frag) (T : String) (r : V → List V → Hp → VK → Prop) (to : TE) (t : TA) : TE := fun σ H Q => to σ H fun x H1 => tyV K T x H1 ∧ t σ H1 fun xs H2 => r x xs H2 Q
variable {o e : Expr} {es : List Expr} {to : TE} {t : TA} {name : Str} {apos cpos : Pos} {T id : String} {r : V → List V → Hp → VK → Prop}
theorem pe_bm0 (pa : PlainAttrs T) (slot : Slot T name id) (hty : typeOf (.builtin id) = pure (.type "method_descriptor")) (hm : MtR X id r) (ho : PE X o to)
    (hbase : attributeBase o name X.env (eval o X.env) = eval o X.env := by rfl) (hline : (apos.endLine == cpos.line) = true := by rfl) : PE X (.Call (.Attribute o name apos) [] [] cpos) (tBM0 X.K T r to) := by
  intro pins s σ H Q I h
  refine wpAny_Call_method0_late hbase hline (thn (ho pins s σ H _ I h) fun v s1 ⟨x, H1, I1, r1, ty, q1⟩ => ?_)
  obtain ⟨h1, h2⟩ := tyV_is I1 r1 ty
  exact ⟨T, id, pa, slot, hty, h1, h2, Calls.callWith_builtin rfl (PySem.evalArgs_none (hm pins s1 σ H1 x [] v [] Q I1 r1 .nil q1))⟩
theorem pe_bm (pa : PlainAttrs T) (slot : Slot T name id) (hty : typeOf (.builtin id) = pure (.type "method_descriptor")) (hm : MtR X id r) (ho : PE X o to) (ha : PA X (e :: es) t)
    (hbase : attributeBase o name X.env (eval o X.env) = eval o X.env := by rfl)
    (hfew : ((backTo cpos (starEach (e :: es) X.env)).all (fun x => !x.1) && (backToKw cpos (keywordEach [] X.env)).all (fun x => x.1.isSome)
      && decide ((e :: es).length + ([] : List Keyword).length + (if ([] : List Keyword).isEmpty then 0 else 1) < 30)) = true := by rfl)
    (hline : (apos.endLine == cpos.line) = true := by rfl) (hs : starEach (e :: es) X.env = (false, eval e X.env) :: starEach es X.env := by rfl) (hplain : (backTo cpos (starEach es X.env)).any (·.1) = false := by rfl) :
    PE X (.Call (.Attribute o name apos) (e :: es) [] cpos) (tBM X.K T r to t) := by
  intro pins s σ H Q I h
  refine wpAny_Call_method_late hbase hfew hline rfl (thn (ho pins s σ H _ I h) fun v s1 ⟨x, H1, I1, r1, ty, q1⟩ => ?_)
  obtain ⟨h1, h2⟩ := tyV_is I1 r1 ty
  refine ⟨T, id, pa, slot, hty, h1, h2, ?_⟩
  have hA := ha cpos pins s1 σ H1 _ I1 q1
  rw [hs] at hA ⊢
  refine Calls.callWith_builtin (by show (false || (backTo cpos (starEach es X.env)).any (·.1)) = false; rw [hplain] <;> rfl) (Calls.evalArgs_plain ?_)
  exact thn hA fun us s2 ⟨vs, H2, I2, r2, q2⟩ => hm pins s2 σ H2 x vs v us Q I2 r1 r2 q2
/- xs.append(e), list.index on a module's tuple .. are MtR facts of 06m -/
end
end L2

namespace L2
open PySem PySem.Spec PyProof.Rows

def MtM (X : Cx) (id : String) (r : V → List V → Hp → VK → Prop) : Prop :=
  ∀ (pins : List (Addr × Obj)) (s : Shared) (σ : St) (H : Hp) (x : V) (xs : List V) (v : Value) (us : List Value) (Q : VK), Inv X pins σ H s → RelV x v → Vals xs us → r x xs H Q →
    wpAny (model X.prog X.w) X.A (call (.builtin id) (v :: us)) (EP X pins σ Q) X.xe s

/-! ### lists of values -/
theorem Vals.one : ∀ {x : V} {us : List Value}, Vals [x] us → ∃ u, us = [u] ∧ RelV x u
  | _, _, .cons r .nil => ⟨_, rfl, r⟩
theorem Vals.two : ∀ {x y : V} {us : List Value}, Vals [x, y] us → ∃ u v, us = [u, v] ∧ RelV x u ∧ RelV y v
  | _, _, _, .cons r (.cons q .nil) => ⟨_, _, rfl, r, q⟩
theorem Vals.zero : ∀ {us : List Value}, Vals [] us → us = []
  | _, .nil => rfl
theorem Vals.dropLast {xs : List V} {us : List Value} (h : Vals xs us) : Vals xs.dropLast us.dropLast := by
  induction h with
  | nil => exact .nil
  | cons r t ih =>
    cases t with
    | nil => exact .nil
    | cons q t' => exact .cons r ih
theorem Vals.eraseIdx : ∀ {xs : List V} {us : List Value} (i : Nat), Vals xs us → Vals (xs.eraseIdx i) (us.eraseIdx i)
  | _, _, _, .nil => .nil
  | _, _, 0, .cons _ t => t
  | _, _, i + 1, .cons r t => .cons r (Vals.eraseIdx i t)
theorem Vals.reverse {xs : List V} {us : List Value} (h : Vals xs us) : Vals xs.reverse us.reverse := by
  induction h with
  | nil => exact .nil
  | cons r t ih => rw [List.reverse_cons, List.reverse_cons]; exact Vals.append ih (.cons r .nil)
theorem Vals.rep {xs : List V} {us : List Value} (h : Vals xs us) : ∀ k : Nat, Vals (List.replicate k xs).flatten (List.replicate k us).flatten
  | 0 => .nil
  | k + 1 => by
    rw [List.replicate_succ, List.replicate_succ, List.flatten_cons, List.flatten_cons]
    exact Vals.append h (Vals.rep h k)
theorem erase_last {α : Type} (l : List α) : l.eraseIdx (l.length - 1) = l.dropLast := by
  induction l with
  | nil => rfl
  | cons a r ih =>
    cases r with
    | nil => rfl
    | cons b r =>
      have e : (a :: b :: r).length - 1 = ((b :: r).length - 1) + 1 := by
        have h1 : (a :: b :: r).length = r.length + 2 := rfl
        have h2 : (b :: r).length = r.length + 1 := rfl
        omega
      rw [e, List.eraseIdx_cons_succ, ih]
      all_goals rfl
theorem len_erase {α : Type} : ∀ (l : List α) (i : Nat), (l.eraseIdx i).length ≤ l.length
  | [], _ => Nat.le_refl _
  | _ :: _, 0 => Nat.le_succ _
  | _ :: r, i + 1 => Nat.succ_le_succ (len_erase r i)
theorem foldl_rep (its : List Value) : ∀ (k : Nat) (acc : List Value),
    List.foldl (fun x1 x2 => x1 ++ x2) acc.toArray (List.replicate k its.toArray) = (acc ++ (List.replicate k its).flatten).toArray
  | 0, acc => by simp
  | k + 1, acc => by
    have e : acc.toArray ++ its.toArray = (acc ++ its).toArray := by simp
    have e2 : (acc ++ its) ++ (List.replicate k its).flatten = acc ++ (List.replicate (k + 1) its).flatten := by
      rw [List.replicate_succ, List.flatten_cons, List.append_assoc]
    rw [← e2, ← foldl_rep its k (acc ++ its), ← e, List.replicate_succ, List.foldl_cons]

section
variable {X : Cx} {pins : List (Addr × Obj)} {σ : St} {H : Hp} {s : Shared} {l b : Addr} {xs ys zs : List V}

/-! ### the two steps: a tracked list is rewritten, a new list is laid -/
theorem Inv.lset {its its' : List Value} {n : Nat} {f : Array Value → Array Value} {t' : Nat} (I : Inv X pins σ H s) (hH : H l = some (.lst xs))
    (e : s.heap.get? l = some { cls := .type "list", data := .seq its.toArray n }) (hf : f its.toArray = its'.toArray) (hv : Vals ys its') (hz : ys.length ≤ sizeLine) :
    Inv X pins σ (upd H l (.lst ys)) { s with heap := s.heap.update l (Obj.mapSeq f), toks := t' } := by
  have q := PySem.IsL.update e f
  rw [hf] at q
  refine I.write (x := l) (e := l) (by rw [hH]; exact trivial) (.inl rfl) (fun b' u hb hu => (Heap.get?_update_other s.heap (Obj.mapSeq f) (Ne.symm hb)).trans hu) ⟨_, q⟩ ?_
  exact ⟨hz, its', _, hv, q⟩
theorem Inv.lnew {its : List Value} {t' : Nat} (I : Inv X pins σ H s) (hv : Vals ys its) (hz : ys.length ≤ sizeLine) :
    Inv X pins σ (upd H s.heap.objs.size (.lst ys)) { s with heap := s.heap.push { cls := .type "list", data := .seq its.toArray }, toks := t' } :=
  I.laid (fun _ _ q => Heap.get?_push_of_some _ q) (Nat.le_refl _) ⟨hz, its, 0, hv, Heap.get?_push_size _ rfl⟩
theorem Inv.fresh (I : Inv X pins σ H s) : H s.heap.objs.size = none := I.hok.fresh (Nat.le_refl _)
theorem Inv.lstM (I : Inv X pins σ H s) (hH : H l = some (.lst xs)) : xs.length ≤ sizeLine ∧ ∃ (its : List Value) (n : Nat), Vals xs its ∧ xs.length = its.length ∧ s.heap.get? l = some { cls := .type "list", data := .seq its.toArray n } := by
  obtain ⟨z, its, n, r, e⟩ := I.hok l _ hH
  exact ⟨z, its, n, r, r.length, e⟩

theorem notLongL {n : Nat} (h : n ≤ sizeLine) : Builtin.List.listTooLong n = false := by
  unfold Builtin.List.listTooLong
  exact decide_eq_false (by omega)
end

section
variable {X : Cx}

/-! ### methods -/
def rAppend : V → List V → Hp → VK → Prop := fun x vs H Q => ∃ l xs y, x = .ref l ∧ vs = [y] ∧ H l = some (.lst xs) ∧ xs.length < sizeLine ∧ Q .non (upd H l (.lst (xs ++ [y])))
theorem mt_append : MtM X "list.append" rAppend := by
  intro pins s σ H x vs v us Q I rx rv h
  obtain ⟨l, xs, y, rfl, rfl, hH, hz, q⟩ := h
  cases rx
  obtain ⟨u, rfl, ru⟩ := rv.one
  obtain ⟨z, its, n, r, hl, e⟩ := I.lstM hH
  refine call_meets F.slot_list_append ⟨_, e, rfl⟩ F.entry_list_append (F.args_list_append_2 _ _) (PySem.list_append l its.toArray n u (by rw [List.size_toArray]; omega)) ⟨e, ?_⟩
  refine ⟨.non, _, I.lset (its' := its ++ [u]) hH e (by simp) (r.append (.cons ru .nil)) ?_, rfl, q⟩
  rw [List.length_append, List.length_singleton]
  omega

def rExtend : V → List V → Hp → VK → Prop := fun x vs H Q => ∃ l b xs zs, x = .ref l ∧ vs = [.ref b] ∧ H l = some (.lst xs) ∧ H b = some (.lst zs) ∧ xs.length + zs.length ≤ sizeLine ∧ Q .non (upd H l (.lst (xs ++ zs)))
theorem mt_extend : MtM X "list.extend" rExtend := by
  intro pins s σ H x vs v us Q I rx rv h
  obtain ⟨l, b, xs, zs, rfl, rfl, hH, hB, hz, q⟩ := h
  cases rx
  obtain ⟨u, rfl, ru⟩ := rv.one
  cases ru
  obtain ⟨z, its, n, r, hl, e⟩ := I.lstM hH
  obtain ⟨z2, its2, n2, r2, hl2, e2⟩ := I.lstM hB
  have hsz : its.toArray.size + its2.toArray.size ≤ sizeLine := by rw [List.size_toArray, List.size_toArray]; omega
  have hlong : ¬ (!its.toArray.isEmpty && Builtin.List.listTooLong (its.toArray.size + its2.toArray.size)) = true := by
    rw [notLongL hsz, Bool.and_false]
    exact Bool.false_ne_true
  refine call_meets F.slot_list_extend ⟨_, e, rfl⟩ F.entry_list_extend (F.args_list_extend_2 _ _)
    (AutoSeq1.list_extend_list_list_0 l its.toArray n b its2.toArray n2 hlong (by rw [List.size_toArray]; omega) (by omega)) ⟨e, e2, ?_⟩
  refine ⟨.non, _, I.lset (its' := its ++ its2) hH e (by simp) (r.append r2) ?_, rfl, q⟩
  rw [List.length_append]
  omega

def rPop : V → List V → Hp → VK → Prop := fun x vs H Q => ∃ l xs y, x = .ref l ∧ vs = [] ∧ H l = some (.lst xs) ∧ xs[xs.length - 1]? = some y ∧ Q y (upd H l (.lst xs.dropLast))
theorem mt_pop : MtM X "list.pop" rPop := by
  intro pins s σ H x vs v us Q I rx rv h
  obtain ⟨l, xs, y, rfl, rfl, hH, hy, q⟩ := h
  cases rx
  have hus := rv.zero
  subst hus
  obtain ⟨z, its, n, r, hl, e⟩ := I.lstM hH
  obtain ⟨u, hu, ru⟩ := r.get hy
  have hy' : its.toArray[its.toArray.size - 1]? = some u := by
    show its.toArray[its.length - 1]? = some u
    rw [← Array.getElem?_toList, ← hl]
    exact hu
  refine call_meets F.slot_list_pop ⟨_, e, rfl⟩ F.entry_list_pop (F.args_list_pop_1 _) (MeetsSeq.list_pop_last l its.toArray n u hy' (by rw [List.size_toArray]; omega)) ⟨e, ?_⟩
  refine ⟨y, _, I.lset (its' := its.dropLast) hH e ?_ r.dropLast ?_, ru, q⟩
  · show its.toArray.eraseIdxIfInBounds (its.toArray.size - 1) = its.dropLast.toArray
    rw [List.size_toArray, List.eraseIdxIfInBounds_toArray, erase_last]
  · rw [List.length_dropLast]
    omega

def rPopAt : V → List V → Hp → VK → Prop := fun x vs H Q => ∃ l xs i k y, x = .ref l ∧ vs = [.int i] ∧ H l = some (.lst xs) ∧ -(2 ^ 63) ≤ i ∧ i < 2 ^ 63 ∧ seqIndex? i xs.length = some k ∧ xs[k]? = some y ∧ Q y (upd H l (.lst (xs.eraseIdx k)))
theorem mt_popAt : MtM X "list.pop" rPopAt := by
  intro pins s σ H x vs v us Q I rx rv h
  obtain ⟨l, xs, i, k, y, rfl, rfl, hH, h1, h2, hk, hy, q⟩ := h
  cases rx
  obtain ⟨u, rfl, ru⟩ := rv.one
  obtain ⟨t, rfl⟩ := ru
  obtain ⟨z, its, n, r, hl, e⟩ := I.lstM hH
  obtain ⟨w, hw, rw'⟩ := r.get hy
  refine call_meets F.slot_list_pop ⟨_, e, rfl⟩ F.entry_list_pop (F.args_list_pop_2 _ _)
    (MeetsSeq.list_pop_at l its.toArray n i t k w (fitsIndex_both h1 h2) (by rw [List.size_toArray, ← hl]; exact hk) (by rw [← Array.getElem?_toList]; exact hw) (by rw [List.size_toArray]; omega)) ⟨e, ?_⟩
  refine ⟨y, _, I.lset (its' := its.eraseIdx k) hH e ?_ (r.eraseIdx k) ?_, rw', q⟩
  · show its.toArray.eraseIdxIfInBounds k = (its.eraseIdx k).toArray
    rw [List.eraseIdxIfInBounds_toArray]
  · have := len_erase xs k
    omega

def rReverse : V → List V → Hp → VK → Prop := fun x vs H Q => ∃ l xs, x = .ref l ∧ vs = [] ∧ H l = some (.lst xs) ∧ Q .non (upd H l (.lst xs.reverse))
theorem mt_reverse : MtM X "list.reverse" rReverse := by
  intro pins s σ H x vs v us Q I rx rv h
  obtain ⟨l, xs, rfl, rfl, hH, q⟩ := h
  cases rx
  have hus := rv.zero
  subst hus
  obtain ⟨z, its, n, r, hl, e⟩ := I.lstM hH
  refine call_meets F.slot_list_reverse ⟨_, e, rfl⟩ F.entry_list_reverse (F.args_list_reverse_1 _) (AutoSeq1.list_reverse_list_0 l its.toArray n (by rw [List.size_toArray]; omega)) ⟨e, ?_⟩
  refine ⟨.non, _, I.lset (its' := its.reverse) hH e (by simp) r.reverse ?_, rfl, q⟩
  rw [List.length_reverse]
  omega

def rClear : V → List V → Hp → VK → Prop := fun x vs H Q => ∃ l xs, x = .ref l ∧ vs = [] ∧ H l = some (.lst xs) ∧ Q .non (upd H l (.lst []))
theorem mt_clear : MtM X "list.clear" rClear := by
  intro pins s σ H x vs v us Q I rx rv h
  obtain ⟨l, xs, rfl, rfl, hH, q⟩ := h
  cases rx
  have hus := rv.zero
  subst hus
  obtain ⟨z, its, n, r, hl, e⟩ := I.lstM hH
  refine call_meets F.slot_list_clear ⟨_, e, rfl⟩ F.entry_list_clear (F.args_list_clear_1 _) (AutoSeq1.list_clear_list_0 l its.toArray n (by rw [List.size_toArray]; omega)) ⟨e, ?_⟩
  exact ⟨.non, _, I.lset (its' := []) (ys := []) hH e rfl .nil (Nat.zero_le _), rfl, q⟩

/-! ### list + list, list += list, list * int -/
def rCat : R2 := fun x y H Q => ∃ l b xs zs, x = .ref l ∧ y = .ref b ∧ H l = some (.lst xs) ∧ H b = some (.lst zs) ∧ xs.length + zs.length ≤ sizeLine ∧ ∀ p, H p = none → Q (.ref p) (upd H p (.lst (xs ++ zs)))
theorem op_cat : OpR X (binaryOp .Add) rCat := by
  intro pins s σ H x y v u Q I rx ry h
  obtain ⟨l, b, xs, zs, rfl, rfl, hH, hB, hz, q⟩ := h
  cases rx
  cases ry
  obtain ⟨z, its, n, r, hl, e⟩ := I.lstM hH
  obtain ⟨z2, its2, n2, r2, hl2, e2⟩ := I.lstM hB
  refine PySem.P.add_list e e2 ?_ (by rw [List.size_toArray, List.size_toArray]; omega)
  have ea : its.toArray ++ its2.toArray = (its ++ its2).toArray := by simp
  rw [ea]
  exact ⟨.ref _, _, I.lnew (t' := s.toks) (r.append r2) (by rw [List.length_append]; omega), rfl, q _ I.fresh⟩
/-- a list times an int (a negative one is nothing) -/
def rRep : R2 := fun x y H Q => ∃ l k xs, x = .ref l ∧ y = .int k ∧ H l = some (.lst xs) ∧ -(2 ^ 63) ≤ k ∧ k < 2 ^ 63 ∧ xs.length * k.toNat ≤ sizeLine ∧
  ∀ p, H p = none → Q (.ref p) (upd H p (.lst (List.replicate k.toNat xs).flatten))
theorem len_rep {α : Type} (xs : List α) (k : Nat) : (List.replicate k xs).flatten.length = k * xs.length := by
  induction k with
  | zero => simp
  | succ k ih => rw [List.replicate_succ, List.flatten_cons, List.length_append, ih, Nat.succ_mul, Nat.add_comm]
theorem op_rep : OpR X (binaryOp .Mult) rRep := by
  intro pins s σ H x y v u Q I rx ry h
  obtain ⟨l, k, xs, rfl, rfl, hH, h1, h2, hz, q⟩ := h
  cases rx
  obtain ⟨t, rfl⟩ := ry
  obtain ⟨z, its, n, r, hl, e⟩ := I.lstM hH
  have hlen : its.toArray.size * k.toNat ≤ sizeLine := by rw [List.size_toArray, ← hl]; exact hz
  have hcap : ¬ its.toArray.size * k.toNat > (2 ^ 63 - 1) / 8 := by
    have : (sizeLine : Nat) ≤ (2 ^ 63 - 1) / 8 := by decide
    omega
  have hfit : ¬ (!Builtin.List.listFitsIndex k) = true := by
    rw [fitsIndex_both h1 h2]
    exact Bool.false_ne_true
  have hlong : ¬ Builtin.List.listTooLong (its.toArray.size * k.toNat) = true := by
    rw [notLongL hlen]
    exact Bool.false_ne_true
  have hnew : List.foldl (fun x1 x2 => x1 ++ x2) #[] (List.replicate (if its.toArray.isEmpty = true then 0 else k.toNat) its.toArray) = (List.replicate k.toNat its).flatten.toArray := by
    have f0 : ∀ m : Nat, List.foldl (fun x1 x2 => x1 ++ x2) #[] (List.replicate m its.toArray) = (List.replicate m its).flatten.toArray := fun m => by
      have := foldl_rep its m []
      rw [List.nil_append] at this
      exact this
    rw [f0]
    cases its with
    | nil => simp
    | cons a r' => rw [if_neg (by simp)]
  refine wpAny_binaryOp_repeat_ref (T := "list") (U := "int") (by decide) ⟨_, e, rfl⟩ (fun s' => typeIs_int s' k t) noFill_list_mul F.fills_int_mul F.slot_int_rmul repeat_list F.slot_int_index.lookup
    (call_meets F.slot_int_rmul (typeIs_int s k t) F.entry_int_rmul (F.args_int_rmul_2 _ _) (int___rmul___int_list k t l its.toArray n)
      ⟨e, rfl, ⟨_, e, rfl⟩, call_meets F.slot_list_mul ⟨_, e, rfl⟩ F.entry_list_mul (F.args_list_mul_2 _ _) (AutoListH.list___mul___list_int_3 l its.toArray n k t hfit hcap hlong) ⟨e, ?_⟩⟩)
  rw [hnew]
  exact ⟨.ref _, _, I.lnew (t' := s.toks) (r.rep k.toNat) (by rw [len_rep, Nat.mul_comm]; exact hz), rfl, q _ I.fresh⟩

/-! ### del xs[i] -/
theorem del_list {pins : List (Addr × Obj)} {s : Shared} {σ : St} {H : Hp} {l : Addr} {xs : List V} {i : Int} {t : Tok} {k : Nat} {Q : Unit → Shared → Prop} (I : Inv X pins σ H s) (hH : H l = some (.lst xs))
    (h1 : -(2 ^ 63) ≤ i) (h2 : i < 2 ^ 63) (hk : seqIndex? i xs.length = some k) (h : ∀ s', Inv X pins σ (upd H l (.lst (xs.eraseIdx k))) s' → Q () s') :
    wpAny (model X.prog X.w) X.A (delItem (.ref l) (.int i t)) Q X.xe s := by
  obtain ⟨z, its, n, r, hl, e⟩ := I.lstM hH
  refine PySem.P.delItem_list (k := k) e (fitsIndex_both h1 h2) (by rw [List.size_toArray, ← hl]; exact hk) (h _ ?_) (by rw [List.size_toArray]; omega)
  refine I.lset (its' := its.eraseIdx k) (t' := s.toks) hH e ?_ (r.eraseIdx k) ?_
  · show its.toArray.eraseIdxIfInBounds k = (its.eraseIdx k).toArray
    rw [List.eraseIdxIfInBounds_toArray]
  · have := len_erase xs k
    omega
end

/-! ### xs[a:b] = ys -/
section
variable {prog : Program} {w : World} {A : Around} {E : Value → Shared → Prop} {s : Shared}
theorem splice_eq (its its2 : List Value) (a c : Nat) : its.toArray.extract 0 a ++ its2.toArray ++ its.toArray.extract c its.toArray.size = (its.take a ++ its2 ++ its.drop c).toArray := by
  apply Array.toList_inj.mp
  first
    | (simp
       exact List.take_of_length_le (by simp))
    | simp [List.take_of_length_le]
    | simp
theorem bounds_run {a c n : Nat} (hac : a ≤ c) (hc : c ≤ n) : sliceBounds (some (a : Int)) (some (c : Int)) none n = ((a : Int), (c : Int), 1) := by
  simp only [sliceBounds, Option.getD_none]
  have h1 : ¬ ((a : Int) < 0) := by omega
  have h2 : ¬ ((c : Int) < 0) := by omega
  simp only [h1, h2, if_false, show (1 : Int) > 0 by decide, if_true]
  congr 1
  · omega
  · congr 1; omega
set_option maxRecDepth 100000 in
/-- list.__setitem__ with a slice of step one and another list -/
theorem setItem_slice {l b sl : Addr} {items new : Array Value} {n n2 : Nat} {vl vu : Value} {a c : Nat} {Q : Unit → Shared → Prop}
    (e : s.heap.get? l = some { cls := .type "list", data := .seq items n }) (e2 : s.heap.get? b = some { cls := .type "list", data := .seq new n2 }) (hne : l ≠ b)
    (hs : s.heap.IsSliceOf sl vl vu .none) (pl : IsPart vl (some (a : Int))) (pu : IsPart vu (some (c : Int))) (hac : a ≤ c) (hc : c ≤ items.size)
    (hsz : items.size + new.size ≤ sizeLine) (h : Q () { s with heap := s.heap.update l (Obj.mapSeq fun xs => xs.extract 0 a ++ new ++ xs.extract c xs.size) }) :
    wpAny (model prog w) A (setItem (.ref l) (.ref sl) (.ref b)) Q E s := by
  have hl : s.heap.IsList l items := PySem.IsL.isList e
  have hb : s.heap.IsList b new := PySem.IsL.isList e2
  obtain ⟨os, hos, hcs, hds⟩ := id hs
  have hTs : s.TypeIs (.ref sl) "slice" := ⟨os, hos, hcs⟩
  have hstep : ¬ ((rawPart none == rawInt 0) = true) := Bool.false_ne_true
  have hsame : Builtin.List.listSameRef (.ref l) (.ref b) = false := by
    unfold Builtin.List.listSameRef
    exact beq_eq_false_iff_ne.mpr hne
  have hmax : (max (a : Int) (c : Int)).toNat = c := by omega
  have hz' : ((fun xs : Array Value => xs.extract 0 a ++ new ++ xs.extract c xs.size) items).size ≤ sizeLine + 1 := by
    simp only [Array.size_append, Array.size_extract]
    omega
  unfold setItem
  try with_reducible refine wpAny_holding ?_
  first | refine wpAny_bind (wpAny_pure ?_) | skip
  refine wpAny_bind (wpAny_sequenceKey hl.typeIs (by decide) ?_)
  refine wpAny_bind (wpAny_callSpecial?_slot (name := Str.ofString "__setitem__") hl.typeIs slot_list_setitem
    (wpAny_call_entry slot_list_setitem hl.typeIs entry_list_setitem ?_ (args_list_setitem _ _ _)))
  show wpAny _ _ (Builtin.List.listSubscript? (.ref sl) >>= _) _ _ s
  refine wpAny_bind ?_
  unfold Builtin.List.listSubscript?
  refine wpAny_bind (wpAny_specialOf hTs slice_no_index ?_)
  simp only [Option.isNone_none, if_true]
  refine wpAny_pure ?_
  show wpAny _ _ (typeOf (.ref sl) >>= _) _ _ s
  refine wpAny_bind (wpAny_typeOf hTs ?_)
  first
    | rw [if_neg (by decide)]
    | refine PySem.W.KFB.if_not (by decide) ?_
  rw [listSliceParts_eq]
  refine wpAny_bind (wpAny_bind (wpAny_field hos hds (x := .none) rfl (wpAny_bind (wpAny_listPart .none ?_))))
  rw [if_neg hstep]
  refine wpAny_bind (wpAny_field hos hds (x := vl) rfl (wpAny_bind (wpAny_listPart pl ?_)))
  refine wpAny_bind (wpAny_field hos hds (x := vu) rfl (wpAny_bind (wpAny_listPart pu (wpAny_pure ?_))))
  first
    | simp only [hsame, Bool.false_eq_true, if_false]
    | refine PySem.W.KFB.if_not hsame ?_
    | (dsimp only
       rw [if_neg (by rw [hsame]; exact Bool.false_ne_true)])
  refine wpAny_bind (m := Builtin.List.listAllItems (.ref b) "must assign iterable to extended slice") ?_
  unfold Builtin.List.listAllItems
  refine wpAny_bind (wpAny_typeOf hb.typeIs ?_)
  first
    | refine PySem.W.KFB.if_so (by decide) ?_
    | rw [if_pos (by decide)]
    | simp only [beq_self_eq_true, Bool.true_or, if_true]
  unfold Builtin.List.listItems
  refine wpAny_bind (wpAny_seqItems e2 rfl (wpAny_pure ?_))
  refine wpAny_bind (wpAny_bind (wpAny_seqItems e rfl (wpAny_pure ?_)))
  refine wpAny_bind (wpAny_of_eq ((sliceIndices_raw (some (a : Int)) (some (c : Int)) none items.size (by simp)).trans (congrArg (pure : Int × Int × Int → Sem (Int × Int × Int)) (bounds_run hac hc))) ?_)
  show wpAny _ _ (if ((1 : Int) == 1) = true then _ else _) _ _ s
  rw [if_pos (by decide)]
  refine wpAny_bind (wpAny_rule ?_)
  first
    | simp only [notLongL hsz, Bool.false_eq_true, if_false]
    | refine PySem.W.KFB.if_not (notLongL hsz) ?_
  first | refine wpAny_bind (wpAny_pure ?_) | skip
  show wpAny _ _ (updateSeq l (fun xs => xs.extract 0 ((a : Int)).toNat ++ new ++ xs.extract (max (a : Int) (c : Int)).toNat xs.size) >>= _) _ _ s
  rw [hmax, Int.toNat_natCast]
  refine wpAny_bind (wpAny_updateSeq (hz := Nat.le_trans (Nat.le_add_right _ _) hsz) (_hz' := hz') e rfl ?_)
  refine wpAny_bind (wpAny_letGo ?_)
  first
    | exact wpAny_bind (wpAny_pure (wpAny_pure ⟨.none, rfl, wpAny_pure h⟩))
    | exact wpAny_pure ⟨.none, rfl, wpAny_pure h⟩
end

section
variable {X : Cx}
/-- xs[a:c] = ys of another list, at the value level: sl is the slice object that was just made -/
theorem set_slice {pins : List (Addr × Obj)} {s : Shared} {σ : St} {H : Hp} {l b sl : Addr} {xs ys : List V} {a c : Int} {vl vu : Value} {Q : Unit → Shared → Prop} (I : Inv X pins σ H s)
    (hH : H l = some (.lst xs)) (hB : H b = some (.lst ys)) (hne : l ≠ b) (hs : s.heap.IsSliceOf sl vl vu .none) (ra : RelV (.int a) vl) (rc : RelV (.int c) vu) (h0 : 0 ≤ a) (hac : a ≤ c) (hc : c ≤ xs.length)
    (hz : xs.length + ys.length ≤ sizeLine) (h : ∀ s', Inv X pins σ (upd H l (.lst (xs.take a.toNat ++ ys ++ xs.drop c.toNat))) s' → Q () s') :
    wpAny (model X.prog X.w) X.A (setItem (.ref l) (.ref sl) (.ref b)) Q X.xe s := by
  obtain ⟨ta, rfl⟩ := ra
  obtain ⟨tc, rfl⟩ := rc
  obtain ⟨z, its, n, r, hl, e⟩ := I.lstM hH
  obtain ⟨z2, its2, n2, r2, hl2, e2⟩ := I.lstM hB
  obtain ⟨a', rfl⟩ := Int.eq_ofNat_of_zero_le h0
  obtain ⟨c', rfl⟩ := Int.eq_ofNat_of_zero_le (Int.le_trans h0 hac)
  simp only [Int.toNat_natCast] at h
  refine setItem_slice (a := a') (c := c') e e2 hne hs (.int _ _) (.int _ _) (by omega) (by rw [List.size_toArray]; omega) (by rw [List.size_toArray, List.size_toArray]; omega) (h _ ?_)
  refine I.lset (its' := its.take a' ++ its2 ++ its.drop c') (t' := s.toks) hH e ?_ (Vals.append (Vals.append (r.take _) r2) (r.drop _)) ?_
  · exact splice_eq its its2 a' c'
  · rw [List.length_append, List.length_append, List.length_take, List.length_drop]
    omega
end
end L2

namespace L2
open PySem PySem.Spec PyProof.Rows

/-! ### lists of pairs as tables -/
section
variable {κ : Type} [DecidableEq κ]
def valV (kvs : List (κ × V)) (k : κ) : Option V := (kvs.find? fun kv => decide (kv.1 = k)).map (·.2)
/-- in its place, or at the end -/
def putK (kvs : List (κ × V)) (k : κ) (v : V) : List (κ × V) :=
  if (kvs.any fun kv => decide (kv.1 = k)) = true then kvs.map (fun kv => if kv.1 = k then (kv.1, v) else kv) else kvs ++ [(k, v)]
def dropK (kvs : List (κ × V)) (k : κ) : List (κ × V) := kvs.filter fun kv => decide (kv.1 ≠ k)

theorem valV_nil {k : κ} : valV ([] : List (κ × V)) k = none := rfl
theorem valV_pos {p : κ × V} {r : List (κ × V)} {k : κ} (e : p.1 = k) : valV (p :: r) k = some p.2 := by simp [valV, List.find?_cons, e]
theorem valV_neg {p : κ × V} {r : List (κ × V)} {k : κ} (e : ¬ p.1 = k) : valV (p :: r) k = valV r k := by simp [valV, List.find?_cons, e]
theorem valV_any (k : κ) : ∀ kvs : List (κ × V), (kvs.any fun kv => decide (kv.1 = k)) = (valV kvs k).isSome
  | [] => rfl
  | p :: r => by
    rw [List.any_cons]
    by_cases e : p.1 = k
    · simp only [valV_pos e, decide_eq_true e, Bool.true_or, Option.isSome_some]
    · rw [valV_neg e, decide_eq_false e, Bool.false_or]; exact valV_any k r
theorem valV_map (k j : κ) (y : V) : ∀ kvs : List (κ × V), valV (kvs.map fun kv => if kv.1 = k then (kv.1, y) else kv) j = (valV kvs j).map fun x => if j = k then y else x
  | [] => rfl
  | p :: r => by
    have ih := valV_map k j y r
    rw [List.map_cons]
    by_cases h : p.1 = k
    · rw [if_pos h]
      by_cases e : p.1 = j
      · rw [valV_pos (p := (p.1, y)) e, valV_pos e, Option.map_some, if_pos (e.symm.trans h)]
      · rw [valV_neg (p := (p.1, y)) e, valV_neg e, ih]
    · rw [if_neg h]
      by_cases e : p.1 = j
      · rw [valV_pos (p := p) e, valV_pos e, Option.map_some, if_neg (fun z => h (e.trans z))]
      · rw [valV_neg (p := p) e, valV_neg e, ih]
theorem valV_snoc (k j : κ) (y : V) : ∀ kvs : List (κ × V), valV kvs k = none → valV (kvs ++ [(k, y)]) j = if j = k then some y else valV kvs j
  | [], _ => by
    by_cases e : k = j
    · rw [if_pos e.symm]; exact valV_pos (p := (k, y)) e
    · rw [if_neg (fun z => e z.symm)]; exact valV_neg (p := (k, y)) e
  | p :: r, hn => by
    rw [List.cons_append]
    have hk : ¬ p.1 = k := fun z => by rw [valV_pos z] at hn; cases hn
    rw [valV_neg hk] at hn
    have ih := valV_snoc k j y r hn
    by_cases e : p.1 = j
    · rw [valV_pos e, valV_pos e, if_neg (fun z => hk (e.trans z))]
    · rw [valV_neg e, valV_neg e, ih]
theorem valV_put (kvs : List (κ × V)) (k j : κ) (y : V) : valV (putK kvs k y) j = if j = k then some y else valV kvs j := by
  unfold putK
  by_cases a : (kvs.any fun kv => decide (kv.1 = k)) = true
  · rw [if_pos a, valV_map]
    rw [valV_any] at a
    by_cases e : j = k
    · obtain ⟨x, hx⟩ := Option.isSome_iff_exists.mp a
      rw [if_pos e, e, hx, Option.map_some, if_pos rfl]
    · rw [if_neg e]
      cases valV kvs j with
      | none => rfl
      | some x => rw [Option.map_some, if_neg e]
  · rw [if_neg a]
    refine valV_snoc k j y kvs ?_
    rw [valV_any] at a
    cases q : valV kvs k with
    | none => rfl
    | some x => rw [q] at a; exact (a rfl).elim
theorem length_putK (kvs : List (κ × V)) (k : κ) (v : V) : (putK kvs k v).length ≤ kvs.length + 1 := by
  unfold putK
  split
  · rw [List.length_map]; omega
  · rw [List.length_append, List.length_cons, List.length_nil]; omega
theorem putK_new {kvs : List (κ × V)} {k : κ} (v : V) (h : valV kvs k = none) : putK kvs k v = kvs ++ [(k, v)] := by
  unfold putK
  rw [valV_any, h]
  exact if_neg (by decide)

theorem RelO.isSome_eq {o : Option V} {u : Option Value} (r : RelO o u) : o.isSome = u.isSome := by
  cases o with
  | none => cases u with
    | none => rfl
    | some _ => exact (show False from r).elim
  | some _ => cases u with
    | none => exact (show False from r).elim
    | some _ => rfl
theorem RelO.getD {o : Option V} {u : Option Value} {d : V} {d' : Value} (r : RelO o u) (rd : RelV d d') : RelV (o.getD d) (u.getD d') := by
  cases o with
  | none => cases u with
    | none => exact rd
    | some _ => exact (show False from r).elim
  | some _ => cases u with
    | none => exact (show False from r).elim
    | some _ => exact r

/-- raw tables of the same keys -/
theorem KV.val {kvs : List (κ × V)} {vs : List (κ × Value)} (r : KV kvs vs) (k : κ) : RelO (valV kvs k) (valueAt vs k) := by
  unfold KV at r
  induction r with
  | nil => exact True.intro
  | @cons p q ps qs h t ih =>
    obtain ⟨h1, h2⟩ := h
    by_cases e : p.1 = k
    · have e' : q.1 = k := h1.symm.trans e
      have b : valueAt (q :: qs) k = some q.2 := by simp [valueAt, List.find?_cons, e']
      rw [valV_pos e, b]; exact h2
    · have e' : ¬ q.1 = k := fun z => e (h1.trans z)
      have b : valueAt (q :: qs) k = valueAt qs k := by simp [valueAt, List.find?_cons, e']
      rw [valV_neg e, b]; exact ih
theorem KV.any {kvs : List (κ × V)} {vs : List (κ × Value)} (r : KV kvs vs) (k : κ) : (kvs.any fun kv => decide (kv.1 = k)) = vs.any fun kv => decide (kv.1 = k) := by
  unfold KV at r
  induction r with
  | nil => rfl
  | cons h t ih => rw [List.any_cons, List.any_cons, ih, h.1]
theorem KV.repl {kvs : List (κ × V)} {vs : List (κ × Value)} (r : KV kvs vs) (k : κ) {y : V} {u : Value} (ry : RelV y u) :
    KV (kvs.map fun kv => if kv.1 = k then (kv.1, y) else kv) (vs.map fun kv => if kv.1 = k then (kv.1, u) else kv) := by
  unfold KV at r ⊢
  induction r with
  | nil => exact .nil
  | @cons p q ps qs h t ih =>
    rw [List.map_cons, List.map_cons]
    refine .cons ?_ ih
    obtain ⟨h1, h2⟩ := h
    by_cases e : p.1 = k
    · rw [if_pos e, if_pos (h1.symm.trans e)]; exact ⟨h1, ry⟩
    · rw [if_neg e, if_neg (fun z => e (h1.trans z))]; exact ⟨h1, h2⟩
theorem KV.put {kvs : List (κ × V)} {vs : List (κ × Value)} (r : KV kvs vs) (k : κ) {y : V} {u : Value} (ry : RelV y u) : KV (putK kvs k y) (stored vs k u) := by
  unfold putK stored
  rw [r.any k]
  by_cases e : (vs.any fun kv => decide (kv.1 = k)) = true
  · rw [if_pos e, if_pos e]; exact r.repl k ry
  · rw [if_neg e, if_neg e]; exact Paired.snoc r ⟨rfl, ry⟩
theorem KV.drop {kvs : List (κ × V)} {vs : List (κ × Value)} (r : KV kvs vs) (k : κ) : KV (dropK kvs k) (without vs k) := by
  unfold KV at r ⊢
  unfold dropK without
  induction r with
  | nil => exact .nil
  | @cons p q ps qs h t ih =>
    obtain ⟨h1, h2⟩ := h
    rw [List.filter_cons, List.filter_cons]
    by_cases e : p.1 = k
    · have a : ¬ decide (p.1 ≠ k) = true := by simp [e]
      have b : ¬ decide (q.1 ≠ k) = true := by simp [h1.symm.trans e]
      rw [if_neg a, if_neg b]; exact ih
    · have e' : ¬ q.1 = k := fun z => e (h1.trans z)
      have a : decide (p.1 ≠ k) = true := by simp [e]
      have b : decide (q.1 ≠ k) = true := by simp [e']
      rw [if_pos a, if_pos b]; exact .cons ⟨h1, h2⟩ ih
theorem KV.keys {kvs : List (κ × V)} {vs : List (κ × Value)} (r : KV kvs vs) : kvs.map (·.1) = vs.map (·.1) := by
  unfold KV at r
  induction r with
  | nil => rfl
  | cons h t ih => rw [List.map_cons, List.map_cons, ih, h.1]
theorem KV.length {kvs : List (κ × V)} {vs : List (κ × Value)} (r : KV kvs vs) : kvs.length = vs.length := Paired.length r
theorem dropK_le (kvs : List (κ × V)) (k : κ) : (dropK kvs k).length ≤ kvs.length := List.length_filter_le _ _
end


/-! ### a tracked dict, its keys ints and texts or tuples of these -/
theorem kV_is {P : Program} {w : World} {k : Key} {u : Value} (r : RelV (kV k) u) : (mixKind P w).is k u = true := by
  cases k with
  | inl i => obtain ⟨t, e⟩ := (show ∃ t, u = Value.int i t from r); subst e; exact mixKind_int P w i t
  | inr x => obtain ⟨t, e⟩ := (show ∃ t, u = Value.str x t from r); subst e; exact mixKind_str P w x t
theorem kV_inj {a b : Key} (e : kV a = kV b) : a = b := by
  cases a with
  | inl i => cases b with
    | inl j => have e' : V.int i = V.int j := e; injection e' with e'; rw [e']
    | inr y => exact nomatch (show V.int i = V.str y from e)
  | inr x => cases b with
    | inl j => exact nomatch (show V.str x = V.int j from e)
    | inr y => have e' : V.str x = V.str y := e; injection e' with e'; rw [e']
theorem kVs_inj : ∀ {a b : List Key}, a.map kV = b.map kV → a = b
  | [], [], _ => rfl
  | [], _ :: _, e => by simp at e
  | _ :: _, [], e => by simp at e
  | x :: xs, y :: ys, e => by
    rw [List.map_cons, List.map_cons] at e
    injection e with e1 e2
    rw [kV_inj e1, kVs_inj e2]
theorem items_are {P : Program} {w : World} : ∀ {ks : List Key} {us : List Value}, Vals (ks.map kV) us → ItemsAre (mixKind P w) ks us
  | [], _, r => by rw [List.map_nil] at r; cases r; exact .nil
  | k :: ks, _, r => by
    rw [List.map_cons] at r
    cases r with
    | cons h t => exact .cons (kV_is h) (items_are t)

/-- raw entries of a dict with tuple keys -/
abbrev KT (H : Hp) : List (List Key × V) → List (List Key × Addr × Value) → Prop := Paired fun p q => p.1 = q.1 ∧ H q.2.1 = some (.tup (p.1.map kV)) ∧ RelV p.2 q.2.2
theorem KT.val {H : Hp} {kvs : List (List Key × V)} {xs : List (List Key × Addr × Value)} (r : KT H kvs xs) (k : List Key) : RelO (valV kvs k) ((atKey xs k).map (·.2)) := by
  induction r with
  | nil => exact True.intro
  | @cons p q ps qs h t ih =>
    obtain ⟨h1, _, h2⟩ := h
    by_cases e : p.1 = k
    · have e' : q.1 = k := h1.symm.trans e
      have b : atKey (q :: qs) k = some q.2 := by simp [atKey, List.find?_cons, e']
      rw [valV_pos e, b]; exact h2
    · have e' : ¬ q.1 = k := fun z => e (h1.trans z)
      have b : atKey (q :: qs) k = atKey qs k := by simp [atKey, List.find?_cons, e']
      rw [valV_neg e, b]; exact ih
theorem KT.repl {H : Hp} {kvs : List (List Key × V)} {xs : List (List Key × Addr × Value)} (r : KT H kvs xs) (k : List Key) {y : V} {u : Value} (ry : RelV y u) :
    KT H (kvs.map fun kv => if kv.1 = k then (kv.1, y) else kv) (xs.map (putAt k u)) := by
  induction r with
  | nil => exact .nil
  | @cons p q ps qs h t ih =>
    rw [List.map_cons, List.map_cons]
    refine .cons ?_ ih
    obtain ⟨h1, h2, h3⟩ := h
    unfold putAt
    by_cases e : p.1 = k
    · rw [if_pos e, if_pos (h1.symm.trans e)]; exact ⟨h1, h2, ry⟩
    · rw [if_neg e, if_neg (fun z => e (h1.trans z))]; exact ⟨h1, h2, h3⟩
theorem KT.put {H : Hp} {kvs : List (List Key × V)} {xs : List (List Key × Addr × Value)} (r : KT H kvs xs) (k : List Key) {b : Addr} {y : V} {u : Value} (hb : H b = some (.tup (k.map kV))) (ry : RelV y u) :
    KT H (putK kvs k y) (storedH xs k b u) := by
  have e : (kvs.any fun kv => decide (kv.1 = k)) = (atKey xs k).isSome := by
    rw [valV_any, (r.val k).isSome_eq, Option.isSome_map]
  unfold putK storedH
  rw [e]
  by_cases q : (atKey xs k).isSome = true
  · rw [if_pos q, if_pos q]; exact r.repl k ry
  · rw [if_neg q, if_neg q]; exact Paired.snoc r ⟨rfl, hb, ry⟩
theorem KT.keeps {H H' : Hp} {kvs : List (List Key × V)} {xs : List (List Key × Addr × Value)} (r : KT H kvs xs) (ht : ∀ b ys, H b = some (.tup ys) → H' b = some (.tup ys)) : KT H' kvs xs :=
  Paired.mapP r fun _ _ z => ⟨z.1, ht _ _ z.2.1, z.2.2⟩

section
variable {P : Program} {w : World} {H : Hp} {h : Heap} {a : Addr}
theorem rd_of {u : HO} (ok : HOk P w H h) (e : Rd H a u) : ObjOk P w H h a u := e.ok ok
theorem dk_rd {kvs : List (Key × V)} (ok : HOk P w H h) (e : Rd H a (.dK kvs)) : kvs.length ≤ sizeLine ∧ (a == sysModules) = false ∧ ∃ vs, KV kvs vs ∧ h.DictOf (mixKind P w) a vs :=
  show ObjOk P w H h a (.dK kvs) from rd_of ok e
theorem dk_of {kvs : List (Key × V)} (ok : HOk P w H h) (e : H a = some (.dK kvs)) : kvs.length ≤ sizeLine ∧ (a == sysModules) = false ∧ ∃ vs, KV kvs vs ∧ h.DictOf (mixKind P w) a vs := dk_rd ok (.inl e)
/-- a tracked tuple of ints and texts is a key -/
theorem key_of {ks : List Key} (ok : HOk P w H h) (e : H a = some (.tup (ks.map kV))) : (tupleKind (mixKind P w)).is h ks a := by
  obtain ⟨_, its, r, o, h1, h2, n, h3⟩ := (show ObjOk P w H h a (.tup (ks.map kV)) from ok a _ e)
  exact ⟨o, its.toArray, n, h1, h2, h3, by simpa using items_are r⟩
theorem dt_rd {kvs : List (List Key × V)} (ok : HOk P w H h) (e : Rd H a (.dT kvs)) : kvs.length ≤ sizeLine ∧ (a == sysModules) = false ∧
    ∃ xs, KT H kvs xs ∧ h.DictOfH (tupleKind (mixKind P w)) a xs := by
  obtain ⟨z, y, xs, r, o, es, ep, h1, h2, h3, h4, h5⟩ := (show ObjOk P w H h a (.dT kvs) from rd_of ok e)
  refine ⟨z, y, xs, r, o, es, ep, h1, h2, h3, h4, fun x hx => ?_, h5⟩
  have all : ∀ {l : List (List Key × V)} {m : List (List Key × Addr × Value)}, KT H l m → ∀ x ∈ m, (tupleKind (mixKind P w)).is h x.1 x.2.1 := by
    intro l m q
    induction q with
    | nil => intro x hx; exact nomatch hx
    | @cons p q ps qs hq t ih =>
      intro x hx
      rcases List.mem_cons.mp hx with e | hx
      · subst e
        exact key_of ok (by rw [← hq.1]; exact hq.2.1)
      · exact ih x hx
  exact all r x hx
theorem dt_of {kvs : List (List Key × V)} (ok : HOk P w H h) (e : H a = some (.dT kvs)) : kvs.length ≤ sizeLine ∧ (a == sysModules) = false ∧
    ∃ xs, KT H kvs xs ∧ h.DictOfH (tupleKind (mixKind P w)) a xs := dt_rd ok (.inl e)
end

/-- what the dict at a holds at the key y -/
def DGet (H : Hp) (a : Addr) (y : V) (r : Option V) : Prop :=
  (∃ kvs k, Rd H a (.dK kvs) ∧ y = kV k ∧ r = valV kvs k) ∨ ∃ kvs k b, Rd H a (.dT kvs) ∧ y = .ref b ∧ H b = some (.tup (k.map kV)) ∧ r = valV kvs k
/-- the heap behind a[y] = v -/
def DPut (H : Hp) (a : Addr) (y v : V) (H' : Hp) : Prop :=
  (∃ kvs k, H a = some (.dK kvs) ∧ y = kV k ∧ kvs.length < sizeLine ∧ H' = upd H a (.dK (putK kvs k v))) ∨
  ∃ kvs k b, H a = some (.dT kvs) ∧ y = .ref b ∧ H b = some (.tup (k.map kV)) ∧ kvs.length < sizeLine ∧ H' = upd H a (.dT (putK kvs k v))
theorem DGet.k {H : Hp} {a : Addr} {kvs : List (Key × V)} {k : Key} (e : H a = some (.dK kvs)) : DGet H a (kV k) (valV kvs k) := .inl ⟨kvs, k, .inl e, rfl, rfl⟩
theorem DGet.t {H : Hp} {a b : Addr} {kvs : List (List Key × V)} {k : List Key} (e : H a = some (.dT kvs)) (eb : H b = some (.tup (k.map kV))) : DGet H a (.ref b) (valV kvs k) := .inr ⟨kvs, k, b, .inl e, rfl, eb, rfl⟩
theorem DPut.k {H : Hp} {a : Addr} {kvs : List (Key × V)} {k : Key} {v : V} (e : H a = some (.dK kvs)) (hl : kvs.length < sizeLine) : DPut H a (kV k) v (upd H a (.dK (putK kvs k v))) := .inl ⟨kvs, k, e, rfl, hl, rfl⟩
theorem DPut.t {H : Hp} {a b : Addr} {kvs : List (List Key × V)} {k : List Key} {v : V} (e : H a = some (.dT kvs)) (eb : H b = some (.tup (k.map kV))) (hl : kvs.length < sizeLine) :
    DPut H a (.ref b) v (upd H a (.dT (putK kvs k v))) := .inr ⟨kvs, k, b, e, rfl, eb, hl, rfl⟩


section
variable {X : Cx} {pins : List (Addr × Obj)} {σ : St} {H : Hp} {s : Shared} {a : Addr} {y v : V} {u r : Value} {o : Option V} {A : Around} {E : Value → Shared → Prop}

theorem Inv.big (I : Inv X pins σ H s) : sysModules < s.heap.objs.size := by
  have h : mainGlobals < s.heap.objs.size := (I.mod.glob.keeps I.bk).lt
  exact Nat.lt_trans (by decide) h

/-- d[y], there -/
theorem d_getItem {Q : Value → Shared → Prop} (hu : A.units + 1 < cLine) (I : Inv X pins σ H s) (g : DGet H a y (some v)) (ry : RelV y u) (h : ∀ w' s', Inv X pins σ H s' → RelV v w' → Q w' s') :
    wpAny (model X.prog X.w) A (getItem (.ref a) u) Q E s := by
  rcases g with ⟨kvs, k, e, ey, l⟩ | ⟨kvs, k, b, e, ey, eb, l⟩
  · subst ey
    obtain ⟨z, hd, vs, rel, dd⟩ := dk_rd I.hok e
    obtain ⟨w', hw, rw'⟩ := RelO.some_of (v := v) (o := valueAt vs k) (by rw [l]; exact rel.val k)
    exact wpAny_getItem_of (kV_is ry) dd.mapOf hw (h w' _ (I.tok _) rw')
  · subst ey
    cases (show u = Value.ref b from ry)
    obtain ⟨z, hd, xs, rel, dd⟩ := dt_rd I.hok e
    obtain ⟨w', hw, rw'⟩ := RelO.some_of (v := v) (o := (atKey xs k).map (·.2)) (by rw [l]; exact rel.val k)
    obtain ⟨p, hp, hp2⟩ := Option.map_eq_some_iff.mp hw
    refine wpAny_getItem_heap (tupleKind_room_in1 hu) (key_of I.hok eb) dd hp ?_
    rw [hp2]
    exact h w' _ (I.tok _) rw'
/-- y in d -/
theorem d_in {Q : Value → Shared → Prop} (hu : A.units + 1 < cLine) (I : Inv X pins σ H s) (g : DGet H a y o) (ry : RelV y u) (h : ∀ s', Inv X pins σ H s' → Q (.bool o.isSome) s') :
    wpAny (model X.prog X.w) A (compareOp .In u (.ref a)) Q E s := by
  rcases g with ⟨kvs, k, e, ey, l⟩ | ⟨kvs, k, b, e, ey, eb, l⟩
  · subst ey
    obtain ⟨z, hd, vs, rel, dd⟩ := dk_rd I.hok e
    refine wpAny_in_of (kV_is ry) hd dd.mapOf ?_
    rw [← (rel.val k).isSome_eq, ← l]
    exact h _ (I.tok _)
  · subst ey
    cases (show u = Value.ref b from ry)
    obtain ⟨z, hd, xs, rel, dd⟩ := dt_rd I.hok e
    refine wpAny_in_heap (tupleKind_room_in1 hu) (key_of I.hok eb) hd dd ?_
    have q := (rel.val k).isSome_eq
    rw [Option.isSome_map] at q
    rw [← q, ← l]
    exact h _ (I.tok _)
theorem d_notIn {Q : Value → Shared → Prop} (hu : A.units + 1 < cLine) (I : Inv X pins σ H s) (g : DGet H a y o) (ry : RelV y u) (h : ∀ s', Inv X pins σ H s' → Q (.bool (!o.isSome)) s') :
    wpAny (model X.prog X.w) A (compareOp .NotIn u (.ref a)) Q E s := by
  rcases g with ⟨kvs, k, e, ey, l⟩ | ⟨kvs, k, b, e, ey, eb, l⟩
  · subst ey
    obtain ⟨z, hd, vs, rel, dd⟩ := dk_rd I.hok e
    refine wpAny_notIn_of (kV_is ry) hd dd.mapOf ?_
    rw [← (rel.val k).isSome_eq, ← l]
    exact h _ (I.tok _)
  · subst ey
    cases (show u = Value.ref b from ry)
    obtain ⟨z, hd, xs, rel, dd⟩ := dt_rd I.hok e
    refine wpAny_notIn_heap (tupleKind_room_in1 hu) (key_of I.hok eb) hd dd ?_
    have q := (rel.val k).isSome_eq
    rw [Option.isSome_map] at q
    rw [← q, ← l]
    exact h _ (I.tok _)
/-- a dict's object is replaced -/
theorem d_write {h' : Heap} {t' : Nat} {ob : HO} (I : Inv X pins σ H s) (mu : Mut (H a)) (hs : Heap.SameBut a s.heap h') (he : ∃ q, h'.get? a = some q) (new : ObjOk X.prog X.w (upd H a ob) h' a ob) :
    Inv X pins σ (upd H a ob) { s with heap := h', toks := t' } :=
  I.write (x := a) (e := a) mu (.inl rfl) (fun b q hb z => (hs.2 b hb).trans z) he new
theorem dk_new {P : Program} {w : World} {H' : Hp} {h' : Heap} {kvs : List (Key × V)} {vs : List (Key × Value)} (z : kvs.length ≤ sizeLine) (hd : (a == sysModules) = false) (rel : KV kvs vs) (dd : h'.DictOf (mixKind P w) a vs) :
    ObjOk P w H' h' a (.dK kvs) := ⟨z, hd, vs, rel, dd⟩
/-- d[y] = v -/
theorem d_setItem {H' : Hp} {Q : Unit → Shared → Prop} (hu : A.units + 1 < cLine) (I : Inv X pins σ H s) (g : DPut H a y v H') (ry : RelV y u) (rv : RelV v r) (h : ∀ s', Inv X pins σ H' s' → Q () s') :
    wpAny (model X.prog X.w) A (setItem (.ref a) u r) Q E s := by
  rcases g with ⟨kvs, k, e, ey, l, eH⟩ | ⟨kvs, k, b, e, ey, eb, l, eH⟩
  · subst ey eH
    obtain ⟨z, hd, vs, rel, dd⟩ := dk_of I.hok e
    have hz : vs.length ≤ sizeLine := by rw [← rel.length]; exact z
    have hl : (putK kvs k v).length ≤ sizeLine := by have := length_putK kvs k v; omega
    refine wpAny_setItem_pairs (hsz := hz) (kV_is ry) dd fun h' dd' hs => h _ ?_
    have he : ∃ q, h'.get? a = some q := let ⟨q, _, _, hq, _⟩ := dd'; ⟨q, hq⟩
    exact d_write I (by rw [e]; exact True.intro) hs he (dk_new hl hd (rel.put k rv) dd')
  · subst ey eH
    cases (show u = Value.ref b from ry)
    obtain ⟨z, hd, xs, rel, dd⟩ := dt_of I.hok e
    have hz : xs.length ≤ sizeLine := by rw [← Paired.length rel]; exact z
    have hl : (putK kvs k v).length ≤ sizeLine := by have := length_putK kvs k v; omega
    refine wpAny_setItem_heap (hsz := hz) (tupleKind_room_in1 hu) (key_of I.hok eb) dd fun h' dd' hs => h _ ?_
    obtain ⟨q, es, ep, hq, h2, h3, h4, _, h5⟩ := dd'
    refine d_write I (by rw [e]; exact True.intro) hs ⟨q, hq⟩ ⟨hl, hd, _, (rel.put k eb rv).keeps fun c ys ec => ?_, q, es, ep, hq, h2, h3, h4, h5⟩
    rw [upd_ne (ne_of ec e (fun z => nomatch z))]
    exact ec
end

section
variable {X : Cx} {pins : List (Addr × Obj)} {σ : St} {H : Hp} {s : Shared} {a : Addr} {kvs : List (Key × V)} {k : Key} {u : Value} {A : Around} {E : Value → Shared → Prop}
/-- del d[k] -/
theorem d_delItem {Q : Unit → Shared → Prop} (I : Inv X pins σ H s) (e : H a = some (.dK kvs)) (ry : RelV (kV k) u) (l : (valV kvs k).isSome = true) (h : ∀ s', Inv X pins σ (upd H a (.dK (dropK kvs k))) s' → Q () s') :
    wpAny (model X.prog X.w) A (delItem (.ref a) u) Q E s := by
  obtain ⟨z, hd, vs, rel, dd⟩ := dk_of I.hok e
  refine wpAny_delItem_slot dd.typeIs (by decide) PySem.F.slot_dict_delitem
    (call_meetsIn PySem.F.slot_dict_delitem dd.typeIs PySem.F.entry_dict_delitem (PySem.F.args_dict_delitem_2 _ _) (meets_dict_delitem_pairs (mixKind X.prog X.w) a (kV_is ry)) ⟨vs, dd, by rw [← rel.length]; exact z, by rw [← (rel.val k).isSome_eq]; exact l, fun h' dd' hs => h _ ?_⟩)
  have he : ∃ q, h'.get? a = some q := let ⟨q, _, _, hq, _⟩ := dd'; ⟨q, hq⟩
  exact d_write I (by rw [e]; exact True.intro) hs he (dk_new (Nat.le_trans (dropK_le kvs k) z) hd (rel.drop k) dd')
/-- d.pop(k[, x]), there -/
theorem d_pop {v : V} {more : List Value} {Q : Value → Shared → Prop} (I : Inv X pins σ H s) (e : H a = some (.dK kvs)) (ry : RelV (kV k) u) (l : valV kvs k = some v) (hm : more = [] ∨ ∃ x, more = [x])
    (h : ∀ w' s', Inv X pins σ (upd H a (.dK (dropK kvs k))) s' → RelV v w' → Q w' s') : wpAny (model X.prog X.w) A (call (.builtin "dict.pop") (.ref a :: u :: more)) Q E s := by
  obtain ⟨z, hd, vs, rel, dd⟩ := dk_of I.hok e
  obtain ⟨w', hw, rw'⟩ := RelO.some_of (v := v) (o := valueAt vs k) (by rw [← l]; exact rel.val k)
  have hp : (keyPart u).isSome = true := by
    cases k with
    | inl i => obtain ⟨t, q⟩ := (show ∃ t, u = Value.int i t from ry); subst q; rfl
    | inr x => obtain ⟨t, q⟩ := (show ∃ t, u = Value.str x t from ry); subst q; rfl
  have ha : argsOk "dict.pop" ⟨.ref a :: u :: more, []⟩ := by
    rcases hm with q | ⟨x, q⟩
    · subst q; exact PySem.F.args_dict_pop_2 _ _
    · subst q; exact PySem.F.args_dict_pop_3 _ _ _
  refine call_meetsIn PySem.F.slot_dict_pop dd.typeIs PySem.F.entry_dict_pop ha (meets_dict_pop_there (mixKind X.prog X.w) a (kV_is ry) more hm hp)
    ⟨vs, w', dd, by rw [← rel.length]; exact z, hw, fun h' dd' hs => h w' _ ?_ rw'⟩
  have he : ∃ q, h'.get? a = some q := let ⟨q, _, _, hq, _⟩ := dd'; ⟨q, hq⟩
  exact d_write I (by rw [e]; exact True.intro) hs he (dk_new (Nat.le_trans (dropK_le kvs k) z) hd (rel.drop k) dd')
/-- d.pop(k, x), not there -/
theorem d_popD {r : Value} {Q : Value → Shared → Prop} (I : Inv X pins σ H s) (e : H a = some (.dK kvs)) (ry : RelV (kV k) u) (l : valV kvs k = none) (h : ∀ s', Inv X pins σ H s' → Q r s') :
    wpAny (model X.prog X.w) A (call (.builtin "dict.pop") [.ref a, u, r]) Q E s := by
  obtain ⟨z, hd, vs, rel, dd⟩ := dk_of I.hok e
  have hn : valueAt vs k = none := RelO.none_of (by rw [← l]; exact rel.val k)
  have hp : (keyPart u).isSome = true := by
    cases k with
    | inl i => obtain ⟨t, q⟩ := (show ∃ t, u = Value.int i t from ry); subst q; rfl
    | inr x => obtain ⟨t, q⟩ := (show ∃ t, u = Value.str x t from ry); subst q; rfl
  exact call_meetsIn PySem.F.slot_dict_pop dd.typeIs PySem.F.entry_dict_pop (PySem.F.args_dict_pop_3 _ _ _) (meets_dict_pop_default (mixKind X.prog X.w) a (kV_is ry) hd hp r) ⟨vs, dd, hn, h _ (I.tok _)⟩
/-- d.clear() -/
theorem d_clear {Q : Value → Shared → Prop} (I : Inv X pins σ H s) (e : H a = some (.dK kvs)) (h : ∀ s', Inv X pins σ (upd H a (.dK [])) s' → Q .none s') : wpAny (model X.prog X.w) A (call (.builtin "dict.clear") [.ref a]) Q E s := by
  obtain ⟨z, hd, vs, rel, dd⟩ := dk_of I.hok e
  refine call_meetsIn PySem.F.slot_dict_clear dd.typeIs PySem.F.entry_dict_clear (PySem.F.args_dict_clear_1 _) (meets_dict_clear (mixKind X.prog X.w) a) ⟨vs, dd, by rw [← rel.length]; exact z, fun h' dd' hs => h _ ?_⟩
  have he : ∃ q, h'.get? a = some q := let ⟨q, _, _, hq, _⟩ := dd'; ⟨q, hq⟩
  exact d_write (t' := s.toks) I (by rw [e]; exact True.intro) hs he (dk_new (Nat.zero_le _) hd .nil dd')
/-- len(d) -/
theorem d_len {Q : Value → Shared → Prop} (I : Inv X pins σ H s) (e : Rd H a (.dK kvs)) (h : ∀ t s', Inv X pins σ H s' → Q (.int kvs.length t) s') : wpAny (model X.prog X.w) A (call (.builtin "len") [.ref a]) Q E s := by
  obtain ⟨z, hd, vs, rel, dd⟩ := dk_rd I.hok e
  refine call_len_dict hd dd (by rw [← rel.length]; rw [sizeLine_eq] at z; omega) ?_
  rw [← rel.length]
  exact h _ _ (I.tok _)
/-- if d -/
theorem d_truth {Q : Bool → Shared → Prop} (I : Inv X pins σ H s) (e : Rd H a (.dK kvs)) (h : ∀ s', Inv X pins σ H s' → Q (!kvs.isEmpty) s') : wpAny (model X.prog X.w) A (truthy (.ref a)) Q E s := by
  obtain ⟨z, hd, vs, rel, dd⟩ := dk_rd I.hok e
  refine wpAny_truthy_dict hd dd (by rw [← rel.length]; rw [sizeLine_eq] at z; omega) ?_
  have q : kvs.isEmpty = vs.isEmpty := by cases rel <;> rfl
  rw [← q]
  exact h _ (I.tok _)
end


/-! ### readings and rules -/
/-- the element of a subscription, not a slice -/
def NoSl (i : Expr) : Prop := ∀ ov iv, subscripted i false ov iv = operate [ov, iv] (getItem ov iv)
theorem subD_of {prog : Program} {w : World} {A : Around} {E : Value → Shared → Prop} {s : Shared} {env : Env} {value slice : Expr} {pos : Pos} {T id : String} {Q : Value → Shared → Prop}
    (hl : typeLookup (.type T) "__getitem__" = pure (some (.builtin id))) (hs : NoSl slice)
    (h : wpAny (model prog w) A (eval value env) (fun o s₁ => wpAny (model prog w) A (eval slice env) (fun i s₂ => s₂.TypeIs o T ∧ wpAny (model prog w) A (getItem o i) Q E s₂) E s₁) E s) :
    wpAny (model prog w) A (eval (.Subscript value slice pos) env) Q E s := by
  refine Subscript_ (wpAny_mono h (fun o s₁ h₁ => wpAny_mono h₁ (fun i s₂ h₂ => ?_) fun _ _ x => x) fun _ _ x => x)
  obtain ⟨hT, h₂⟩ := h₂
  unfold subscriptTail
  refine wpAny_bind ?_
  rw [getitemInPython_of_ne hT.not_modules]
  refine wpAny_bind (wpAny_specialOf hT hl ?_)
  have fin : wpAny (model prog w) A (subscripted slice false o i) (fun r s₃ => wpAny (model prog w) A (letTemporaryGo value o r >>= fun _ => pure r) Q E s₃) E s₂ := by
    rw [hs o i]
    exact wpAny_operating (wpAny_mono h₂ (fun r s₃ h₃ => wpAny_bind (wpAny_letTemporaryGo (wpAny_pure h₃))) fun _ _ x => x)
  first
    | exact wpAny_pure (wpAny_bind fin)
    | exact wpAny_bind (wpAny_pure (wpAny_bind fin))
    | exact wpAny_bind fin

theorem dict_typeIs {X : Cx} {pins : List (Addr × Obj)} {σ : St} {H : Hp} {s : Shared} {a : Addr} {y : V} {o : Option V} (I : Inv X pins σ H s) (g : DGet H a y o) : s.TypeIs (.ref a) "dict" := by
  rcases g with ⟨kvs, k, e, _, _⟩ | ⟨kvs, k, b, e, _, _, _⟩
  · obtain ⟨_, _, vs, _, dd⟩ := dk_rd I.hok e
    exact dd.typeIs
  · obtain ⟨_, _, xs, _, dd⟩ := dt_rd I.hok e
    exact dd.typeIs
theorem dict_noDict {X : Cx} {pins : List (Addr × Obj)} {σ : St} {H : Hp} {s : Shared} {a : Addr} {y : V} {o : Option V} (I : Inv X pins σ H s) (g : DGet H a y o) :
    ∀ b, Value.ref a = .ref b → ∃ ob, s.heap.get? b = some ob ∧ ob.dict = none := fun b q => by
  cases q
  rcases g with ⟨kvs, k, e, _, _⟩ | ⟨kvs, k, b, e, _, _, _⟩
  · obtain ⟨_, _, vs, _, ob, _, _, h1, h2, _⟩ := dk_rd I.hok e
    exact ⟨ob, h1, h2.2.1⟩
  · obtain ⟨_, _, xs, _, ob, _, _, h1, h2, _⟩ := dt_rd I.hok e
    exact ⟨ob, h1, h2.2.1⟩

/-- d[y] -/
def tDGet (td ty : TE) : TE := fun σ H Q => td σ H fun x H1 => ty σ H1 fun y H2 => ∃ a v, x = .ref a ∧ DGet H2 a y (some v) ∧ Q v H2
/-- y in d, y not in d -/
def tDIn (ty td : TE) : TE := fun σ H Q => ty σ H fun y H1 => td σ H1 fun x H2 => ∃ a o, x = .ref a ∧ DGet H2 a y o ∧ Q (.bl o.isSome) H2
def tDNotIn (ty td : TE) : TE := fun σ H Q => ty σ H fun y H1 => td σ H1 fun x H2 => ∃ a o, x = .ref a ∧ DGet H2 a y o ∧ Q (.bl (!o.isSome)) H2
/-- d[y] = v -/
def sDPut (td ty tv : TE) : TS := fun D σ H => tv σ H fun v H1 => td σ H1 fun x H2 => ty σ H2 fun y H3 => ∃ a H4, x = .ref a ∧ DPut H3 a y v H4 ∧ D.nx σ H4
/-- d[y] op= v -/
def sDAug (td ty tv : TE) (rd : V → V → Hp → VK → Prop) : TS := fun D σ H => td σ H fun x H1 => ty σ H1 fun y H2 => ∃ a v, x = .ref a ∧ DGet H2 a y (some v) ∧
  tv σ H2 fun y2 H3 => rd v y2 H3 fun z H4 => ∃ H5, DPut H4 a y z H5 ∧ D.nx σ H5
/-- del d[y] -/
def sDDel (td ty : TE) : TS := fun D σ H => td σ H fun x H1 => ty σ H1 fun y H2 => ∃ a kvs k, x = .ref a ∧ H2 a = some (.dK kvs) ∧ y = kV k ∧ (valV kvs k).isSome = true ∧ D.nx σ (upd H2 a (.dK (dropK kvs k)))

section
variable {X : Cx} {o i e value : Expr} {pos pos' tpos : Pos} {td ty tv : TE}
theorem pe_dget (hu : X.A.units + 1 < cLine) (ho : PE X o td) (hi : PE X i ty) (hs : NoSl i) : PE X (.Subscript o i pos) (tDGet td ty) := by
  intro pins s σ H Q I h
  refine subD_of PySem.F.slot_dict_getitem.lookup hs (thn (ho pins s σ H _ I h) fun u s1 ⟨x, H1, I1, rx, q1⟩ => thn (hi pins s1 σ H1 _ I1 q1) fun iv s2 ⟨y, H2, I2, ry, a, v, ex, g, q2⟩ => ?_)
  subst ex
  obtain rfl : u = Value.ref a := rx
  exact ⟨dict_typeIs I2 g, d_getItem hu I2 g ry fun w' s3 I3 rw' => ⟨v, H2, I3, rw', q2⟩⟩
theorem pc_din (hu : X.A.units + 1 < cLine) (hi : PE X i ty) (ho : PE X o td) : PC X .In i o (tDIn ty td) := by
  intro pins s σ H Q I h
  refine thn (hi pins s σ H _ I h) fun iv s1 ⟨y, H1, I1, ry, q1⟩ => thn (ho pins s1 σ H1 _ I1 q1) fun u s2 ⟨x, H2, I2, rx, a, ov, ex, g, q2⟩ => ?_
  subst ex
  obtain rfl : u = Value.ref a := rx
  exact d_in hu I2 g ry fun s3 I3 => ⟨.bl ov.isSome, H2, I3, rfl, q2⟩
theorem pc_dnotin (hu : X.A.units + 1 < cLine) (hi : PE X i ty) (ho : PE X o td) : PC X .NotIn i o (tDNotIn ty td) := by
  intro pins s σ H Q I h
  refine thn (hi pins s σ H _ I h) fun iv s1 ⟨y, H1, I1, ry, q1⟩ => thn (ho pins s1 σ H1 _ I1 q1) fun u s2 ⟨x, H2, I2, rx, a, ov, ex, g, q2⟩ => ?_
  subst ex
  obtain rfl : u = Value.ref a := rx
  exact d_notIn hu I2 g ry fun s3 I3 => ⟨.bl (!ov.isSome), H2, I3, rfl, q2⟩
theorem ps_dput (hu : X.A.units + 1 < cLine) (ho : PE X o td) (hi : PE X i ty) (hv : PE X value tv) (hs : swapsWith value (some (.Subscript o i pos')) pos.line X.env = pure false) :
    PS X (.Assign [.Subscript o i pos'] value pos) (sDPut td ty tv) := by
  intro pins s σ H D I h
  refine wpAny_Assign_Subscript (thn (hv pins s σ H _ I h) fun r s1 ⟨v, H1, I1, rv, q1⟩ => thn (ho pins s1 σ H1 _ I1 q1) fun u s2 ⟨x, H2, I2, rx, q2⟩ => thn (hi pins s2 σ H2 _ I2 q2) fun iv s3 ⟨y, H3, I3, ry, a, H4, ex, g, q3⟩ => ?_) hs
  subst ex
  obtain rfl : u = Value.ref a := rx
  exact d_setItem hu I3 g ry rv fun s4 I4 => ⟨σ, H4, I4, q3⟩
theorem ps_daug {op : Operator} {rd : V → V → Hp → VK → Prop} (hu : X.A.units + 1 < cLine) (ho : PE X o td) (hi : PE X i ty) (hv : PE X value tv) (hop : InOp X op rd)
    (ha : ∀ ov iv new, augStore i ov iv new = (do holding [new, ov, iv] (setItem ov iv new); release [new, ov, iv] []; pure .next)) : PS X (.AugAssign (.Subscript o i tpos) op value pos) (sDAug td ty tv rd) := by
  intro pins s σ H D I h
  refine wpAny_AugAssign_SubscriptAny (thn (ho pins s σ H _ I h) fun u s1 ⟨x, H1, I1, rx, q1⟩ => thn (hi pins s1 σ H1 _ I1 q1) fun iv s2 ⟨y, H2, I2, ry, a, v, ex, g, q2⟩ => ?_) ha
  subst ex
  obtain rfl : u = Value.ref a := rx
  refine d_getItem hu I2 g ry fun w' s3 I3 rw' => thn (hv pins s3 σ H2 _ I3 q2) fun w2 s4 ⟨y2, H3, I4, ry2, q3⟩ => thn (hop pins s4 σ H3 v y2 w' w2 _ I4 rw' ry2 q3) fun w3 s5 ⟨z, H4, I5, rz, H5, g5, q4⟩ => ?_
  exact d_setItem hu I5 g5 ry rz fun s6 I6 => ⟨σ, H5, I6, q4⟩
theorem ps_ddel (ho : PE X o td) (hi : PE X i ty) : PS X (.Delete [.Subscript o i tpos] pos) (sDDel td ty) := by
  intro pins s σ H D I h
  refine wpAny_Delete (wpAny_deleteEach_cons (wpAny_delete_Subscript (thn (ho pins s σ H _ I h) fun u s1 ⟨x, H1, I1, rx, q1⟩ => thn (hi pins s1 σ H1 _ I1 q1) fun iv s2 ⟨y, H2, I2, ry, a, kvs, k, ex, e, ey, l, q2⟩ => ?_)))
  subst ex ey
  obtain rfl : u = Value.ref a := rx
  exact d_delItem I2 e ry l fun s3 I3 => wpAny_deleteEach_nil ⟨σ, _, I3, q2⟩
end


/-! ### displays -/
theorem dk_empty {P : Program} {w : World} {H : Hp} (h : Heap) (hb : sysModules < h.objs.size) : ObjOk P w H (h.push { cls := .type "dict", data := .dict #[] }) h.objs.size (.dK []) :=
  ⟨Nat.zero_le _, beq_eq_false_iff_ne.mpr (Ne.symm (Nat.ne_of_lt hb)), [], .nil, Heap.DictOf.new h⟩
theorem dt_empty {P : Program} {w : World} {H : Hp} (h : Heap) (hb : sysModules < h.objs.size) : ObjOk P w H (h.push { cls := .type "dict", data := .dict #[] }) h.objs.size (.dT []) :=
  ⟨Nat.zero_le _, beq_eq_false_iff_ne.mpr (Ne.symm (Nat.ne_of_lt hb)), [], .nil, _, #[], 0, Heap.get?_push_size _ rfl, ⟨rfl, rfl, rfl⟩, rfl, rfl, List.nodup_nil⟩
/-- {}, to be a dict of the kind that is wanted -/
def tDNewK : TE := fun _ H Q => ∀ p, H p = none → Q (.ref p) (upd H p (.dK []))
def tDNewT : TE := fun _ H Q => ∀ p, H p = none → Q (.ref p) (upd H p (.dT []))
section
variable {X : Cx} {pos : Pos}
theorem pe_dnewK : PE X (.Dict [] [] pos) tDNewK := fun pins s σ H Q I h =>
  wpAny_Dict_empty ⟨.ref s.heap.objs.size, _, I.laid (a := s.heap.objs.size) (o := .dK []) (t' := s.toks) (fun _ _ q => Heap.get?_push_of_some _ q) (Nat.le_refl _) (dk_empty s.heap I.big), rfl, h _ (I.hok.fresh (Nat.le_refl _))⟩
theorem pe_dnewT : PE X (.Dict [] [] pos) tDNewT := fun pins s σ H Q I h =>
  wpAny_Dict_empty ⟨.ref s.heap.objs.size, _, I.laid (a := s.heap.objs.size) (o := .dT []) (t' := s.toks) (fun _ _ q => Heap.get?_push_of_some _ q) (Nat.le_refl _) (dt_empty s.heap I.big), rfl, h _ (I.hok.fresh (Nat.le_refl _))⟩
end

/-- the pairs of a display, from the left -/
def tPairs : List (TE × TE) → St → Hp → (List (V × V) → Hp → Prop) → Prop
  | [], _, H, Q => Q [] H
  | (tk, tv) :: r, σ, H, Q => tk σ H fun x H1 => tv σ H1 fun y H2 => tPairs r σ H2 fun ps H3 => Q ((x, y) :: ps) H3
abbrev VV : List (V × V) → List (Value × Value) → Prop := Paired fun p q => RelV p.1 q.1 ∧ RelV p.2 q.2
def PPs (X : Cx) (pos : Pos) (keys : List (Option Expr)) (values : List Expr) (trs : List (TE × TE)) : Prop :=
  ∀ (pins : List (Addr × Obj)) (s : Shared) (σ : St) (H : Hp) (Q : List (V × V) → Hp → Prop), Inv X pins σ H s → tPairs trs σ H Q →
    wpAny (model X.prog X.w) X.A (evalPairs (pairTrees keys values X.env pos)) (fun vs s' => ∃ ps H', Inv X pins σ H' s' ∧ VV ps vs ∧ Q ps H') X.xe s
theorem pps_nil {X : Cx} {pos : Pos} : PPs X pos [] [] [] := fun pins s σ H Q I h => pairTrees_nil_walk ⟨[], H, I, .nil, h⟩
theorem pps_cons {X : Cx} {pos : Pos} {k v : Expr} {ks : List (Option Expr)} {vs : List Expr} {tk tv : TE} {trs : List (TE × TE)} (hk : PE X k tk) (hv : PE X v tv) (hr : PPs X pos ks vs trs) :
    PPs X pos (some k :: ks) (v :: vs) ((tk, tv) :: trs) := fun pins s σ H Q I h =>
  pairTrees_cons_walk (thn (hk pins s σ H _ I h) fun u s1 ⟨x, H1, I1, rx, q1⟩ => thn (hv pins s1 σ H1 _ I1 q1) fun w2 s2 ⟨y, H2, I2, ry, q2⟩ =>
    thn (hr pins s2 σ H2 _ I2 q2) fun ws s3 ⟨ps, H3, I3, rel, q3⟩ => ⟨(x, y) :: ps, H3, I3, .cons ⟨rx, ry⟩ rel, q3⟩)

def mergeK (kvs more : List (Key × V)) : List (Key × V) := more.foldl (fun acc kv => putK acc kv.1 kv.2) kvs
theorem KV.merge : ∀ {more : List (Key × V)} {rs : List (Key × Value)} {kvs : List (Key × V)} {vs : List (Key × Value)}, KV more rs → KV kvs vs → KV (mergeK kvs more) (merged vs rs) := by
  intro more rs kvs vs r
  unfold KV at r
  induction r generalizing kvs vs with
  | nil => intro q; exact q
  | @cons p q ps qs h t ih =>
    intro r0
    have e : KV (putK kvs p.1 p.2) (stored vs q.1 q.2) := by
      have := r0.put p.1 h.2
      rw [← h.1]; exact this
    exact ih e
theorem length_mergeK : ∀ (more kvs : List (Key × V)), (mergeK kvs more).length ≤ kvs.length + more.length
  | [], kvs => by show kvs.length ≤ kvs.length + 0; omega
  | p :: r, kvs => by
    have h1 := length_mergeK r (putK kvs p.1 p.2)
    have h2 := length_putK kvs p.1 p.2
    show (mergeK (putK kvs p.1 p.2) r).length ≤ _
    rw [List.length_cons]; omega
theorem carries_of {P : Program} {w : World} : ∀ {kvs : List (Key × V)} {ws : List (Value × Value)}, VV (kvs.map fun kv => (kV kv.1, kv.2)) ws → ∃ rs, Carries (mixKind P w) ws rs ∧ KV kvs rs
  | [], _, r => by rw [List.map_nil] at r; cases r; exact ⟨[], True.intro, .nil⟩
  | p :: kvs, _, r => by
    rw [List.map_cons] at r
    cases r with
    | @cons a b as bs h t =>
      obtain ⟨rs, c, q⟩ := carries_of (P := P) (w := w) t
      obtain ⟨b1, b2⟩ := b
      exact ⟨(p.1, b2) :: rs, ⟨kV_is h.1, rfl, c⟩, .cons ⟨rfl, h.2⟩ q⟩
/-- {k: v, ..} with keys ints and texts; the new dict stands empty while the pairs are made -/
def tDisp (trs : List (TE × TE)) : TE := fun σ H Q => ∀ p, H p = none → tPairs trs σ (upd H p (.dK [])) fun ps H2 => H2 p = some (.dK []) ∧ ∃ kvs : List (Key × V), ps = kvs.map (fun kv => (kV kv.1, kv.2)) ∧ kvs.length ≤ 15 ∧ Q (.ref p) (upd H2 p (.dK (mergeK [] kvs)))
theorem pe_disp {X : Cx} {pos : Pos} {keys : List (Option Expr)} {values : List Expr} {trs : List (TE × TE)} (h : PPs X pos keys values trs) (hall : keys.all (·.isSome) = true) (hl : keys.length = values.length) (h0 : keys ≠ [])
    (h15 : keys.length ≤ 15) : PE X (.Dict keys values pos) (tDisp trs) := by
  intro pins s σ H Q I q
  have hn := I.hok.fresh (Nat.le_refl s.heap.objs.size)
  have I1 := I.laid (a := s.heap.objs.size) (o := .dK []) (h' := s.heap.push { cls := .type "dict", data := .dict #[] }) (t' := s.toks) (fun _ _ q => Heap.get?_push_of_some _ q) (Nat.le_refl _) (dk_empty s.heap I.big)
  refine wpAny_Dict_walk (knd := mixKind X.prog X.w) hall hl h0 h15 (thn (h pins _ σ _ _ I1 (q _ hn)) fun ws s2 ⟨ps, H2, I2, rel, e, kvs, ep, lk, q2⟩ => ?_)
  subst ep
  obtain ⟨rs, c, rk⟩ := carries_of (P := X.prog) (w := X.w) rel
  obtain ⟨z, hd, vs0, r0, dd⟩ := dk_of I2.hok e
  cases r0
  refine ⟨rs, c, dd, fun h' dd' hs => ⟨.ref s.heap.objs.size, _, ?_, rfl, q2⟩⟩
  have hz : (mergeK [] kvs).length ≤ sizeLine := by
    have h1 := length_mergeK kvs []
    rw [List.length_nil] at h1
    rw [sizeLine_eq]; omega
  have he : ∃ q, h'.get? s.heap.objs.size = some q := let ⟨q, _, _, hq, _⟩ := dd'; ⟨q, hq⟩
  exact d_write I2 (by rw [e]; exact True.intro) hs he (dk_new hz hd (rk.merge .nil) dd')


/-! ### methods -/
/-- a method call o.m(e) of a built-in, with one argument: what must be seen of the text -/
structure M1 (X : Cx) (o : Expr) (m : Str) (apos : Pos) (e : Expr) (cpos : Pos) : Prop where
  base : attributeBase o m X.env (eval o X.env) = eval o X.env
  few : ((backTo cpos (starEach [e] X.env)).all (fun x => !x.1) && (backToKw cpos (keywordEach [] X.env)).all (fun x => x.1.isSome)
    && decide (([e] : List Expr).length + ([] : List Keyword).length + (if ([] : List Keyword).isEmpty then 0 else 1) < 30)) = true
  line : (apos.endLine == cpos.line) = true
  trees : backTo cpos (starEach [e] X.env) = [(false, eval e X.env)]
structure M2 (X : Cx) (o : Expr) (m : Str) (apos : Pos) (e f : Expr) (cpos : Pos) : Prop where
  base : attributeBase o m X.env (eval o X.env) = eval o X.env
  few : ((backTo cpos (starEach [e, f] X.env)).all (fun x => !x.1) && (backToKw cpos (keywordEach [] X.env)).all (fun x => x.1.isSome)
    && decide (([e, f] : List Expr).length + ([] : List Keyword).length + (if ([] : List Keyword).isEmpty then 0 else 1) < 30)) = true
  line : (apos.endLine == cpos.line) = true
  trees : backTo cpos (starEach [e, f] X.env) = [(false, eval e X.env), (false, eval f X.env)]

/-- a is a dict, whatever its keys -/
def IsD (H : Hp) (a : Addr) : Prop := (∃ kvs, Rd H a (.dK kvs)) ∨ ∃ kvs, Rd H a (.dT kvs)
theorem isD_at {X : Cx} {pins : List (Addr × Obj)} {σ : St} {H : Hp} {s : Shared} {a : Addr} (I : Inv X pins σ H s) (d : IsD H a) :
    s.TypeIs (.ref a) "dict" ∧ (∀ b, Value.ref a = .ref b → ∃ ob, s.heap.get? b = some ob ∧ ob.dict = none) ∧ (a == sysModules) = false := by
  rcases d with ⟨kvs, e⟩ | ⟨kvs, e⟩
  · obtain ⟨_, hd, vs, _, dd⟩ := dk_rd I.hok e
    refine ⟨dd.typeIs, fun b q => ?_, hd⟩
    cases q
    obtain ⟨ob, _, _, h1, h2, _⟩ := dd
    exact ⟨ob, h1, h2.2.1⟩
  · obtain ⟨_, hd, xs, _, dd⟩ := dt_rd I.hok e
    refine ⟨dd.typeIs, fun b q => ?_, hd⟩
    cases q
    obtain ⟨ob, _, _, h1, h2, _⟩ := dd
    exact ⟨ob, h1, h2.2.1⟩

section
variable {X : Cx} {pins : List (Addr × Obj)} {σ : St} {H : Hp} {s : Shared} {a : Addr} {y d : V} {u r : Value} {o : Option V} {A : Around} {E : Value → Shared → Prop}
/-- d.get(y) -/
theorem d_get1 {Q : Value → Shared → Prop} (hu : A.units + 1 < cLine) (I : Inv X pins σ H s) (g : DGet H a y o) (ry : RelV y u) (h : ∀ w' s', Inv X pins σ H s' → RelV (o.getD .non) w' → Q w' s') :
    wpAny (model X.prog X.w) A (call (.builtin "dict.get") [.ref a, u]) Q E s := by
  rcases g with ⟨kvs, k, e, ey, l⟩ | ⟨kvs, k, b, e, ey, eb, l⟩
  · subst ey
    obtain ⟨z, hd, vs, rel, dd⟩ := dk_rd I.hok e
    refine call_meetsIn PySem.F.slot_dict_get dd.typeIs PySem.F.entry_dict_get (PySem.F.args_dict_get_2 _ _) (meets_dict_get (mixKind X.prog X.w) a (kV_is ry) hd) ⟨_, dd.mapOf, h _ _ (I.tok _) ?_⟩
    rw [l]
    exact (rel.val k).getD rfl
  · subst ey
    cases (show u = Value.ref b from ry)
    obtain ⟨z, hd, xs, rel, dd⟩ := dt_rd I.hok e
    refine call_meetsIn PySem.F.slot_dict_get dd.typeIs PySem.F.entry_dict_get (PySem.F.args_dict_get_2 _ _) (meetsH_dict_get (tupleKind (mixKind X.prog X.w)) a b hd) ⟨tupleKind_room_in1 hu, k, xs, key_of I.hok eb, dd, h _ _ (I.tok _) ?_⟩
    rw [l]
    exact (rel.val k).getD rfl
/-- d.get(y, x) -/
theorem d_get2 {Q : Value → Shared → Prop} (hu : A.units + 1 < cLine) (I : Inv X pins σ H s) (g : DGet H a y o) (ry : RelV y u) (rd : RelV d r) (h : ∀ w' s', Inv X pins σ H s' → RelV (o.getD d) w' → Q w' s') :
    wpAny (model X.prog X.w) A (call (.builtin "dict.get") [.ref a, u, r]) Q E s := by
  rcases g with ⟨kvs, k, e, ey, l⟩ | ⟨kvs, k, b, e, ey, eb, l⟩
  · subst ey
    obtain ⟨z, hd, vs, rel, dd⟩ := dk_rd I.hok e
    refine call_meetsIn PySem.F.slot_dict_get dd.typeIs PySem.F.entry_dict_get (PySem.F.args_dict_get_3 _ _ _) (meets_dict_get_default (mixKind X.prog X.w) a (kV_is ry) hd r) ⟨_, dd.mapOf, h _ _ (I.tok _) ?_⟩
    rw [l]
    exact (rel.val k).getD rd
  · subst ey
    cases (show u = Value.ref b from ry)
    obtain ⟨z, hd, xs, rel, dd⟩ := dt_rd I.hok e
    refine call_meetsIn PySem.F.slot_dict_get dd.typeIs PySem.F.entry_dict_get (PySem.F.args_dict_get_3 _ _ _) (meetsH_dict_get_default (tupleKind (mixKind X.prog X.w)) a b hd r) ⟨tupleKind_room_in1 hu, k, xs, key_of I.hok eb, dd, h _ _ (I.tok _) ?_⟩
    rw [l]
    exact (rel.val k).getD rd
end

def tDGet1 (td ty : TE) : TE := fun σ H Q => td σ H fun x H1 => ∃ a, x = .ref a ∧ IsD H1 a ∧ ty σ H1 fun y H2 => ∃ o, DGet H2 a y o ∧ Q (o.getD .non) H2
def tDGet2 (td ty tx : TE) : TE := fun σ H Q => td σ H fun x H1 => ∃ a, x = .ref a ∧ IsD H1 a ∧ ty σ H1 fun y H2 => tx σ H2 fun z H3 => ∃ o, DGet H3 a y o ∧ Q (o.getD z) H3
/-- d.pop(k): there; d.pop(k, x): there or not -/
def tDPop1 (td ty : TE) : TE := fun σ H Q => td σ H fun x H1 => ∃ a, x = .ref a ∧ IsD H1 a ∧ ty σ H1 fun y H2 => ∃ kvs k v, H2 a = some (.dK kvs) ∧ y = kV k ∧ valV kvs k = some v ∧ Q v (upd H2 a (.dK (dropK kvs k)))
def tDPop2 (td ty tx : TE) : TE := fun σ H Q => td σ H fun x H1 => ∃ a, x = .ref a ∧ IsD H1 a ∧ ty σ H1 fun y H2 => tx σ H2 fun z H3 => ∃ kvs k, H3 a = some (.dK kvs) ∧ y = kV k ∧
  (∀ v, valV kvs k = some v → Q v (upd H3 a (.dK (dropK kvs k)))) ∧ (valV kvs k = none → Q z H3)
section
variable {X : Cx} {o e f : Expr} {apos cpos : Pos} {td ty tx : TE}
theorem pe_dget1 (hu : X.A.units + 1 < cLine) (ho : PE X o td) (he : PE X e ty) (m : M1 X o "get" apos e cpos) : PE X (.Call (.Attribute o "get" apos) [e] [] cpos) (tDGet1 td ty) := by
  intro pins s σ H Q I h
  refine wpAny_Call_method m.base m.few m.line PySem.F.plainAttrs_dict PySem.F.slot_dict_get PySem.F.type_dict_get (thn (ho pins s σ H _ I h) fun u s1 ⟨x, H1, I1, rx, a, ex, d, q1⟩ => ?_)
  subst ex
  obtain rfl : u = Value.ref a := rx
  obtain ⟨t1, t2, _⟩ := isD_at I1 d
  refine ⟨t1, t2, ?_⟩
  rw [m.trees]
  refine Calls.callWith_builtin rfl (Calls.evalArgs_plain (Calls.spliced_cons (thn (he pins s1 σ H1 _ I1 q1) fun iv s2 ⟨y, H2, I2, ry, ov, g, q2⟩ => Calls.spliced_nil ?_)))
  exact d_get1 hu I2 g ry fun w' s3 I3 rw' => ⟨_, H2, I3, rw', q2⟩
theorem pe_dget2 (hu : X.A.units + 1 < cLine) (ho : PE X o td) (he : PE X e ty) (hf : PE X f tx) (m : M2 X o "get" apos e f cpos) : PE X (.Call (.Attribute o "get" apos) [e, f] [] cpos) (tDGet2 td ty tx) := by
  intro pins s σ H Q I h
  refine wpAny_Call_method m.base m.few m.line PySem.F.plainAttrs_dict PySem.F.slot_dict_get PySem.F.type_dict_get (thn (ho pins s σ H _ I h) fun u s1 ⟨x, H1, I1, rx, a, ex, d, q1⟩ => ?_)
  subst ex
  obtain rfl : u = Value.ref a := rx
  obtain ⟨t1, t2, _⟩ := isD_at I1 d
  refine ⟨t1, t2, ?_⟩
  rw [m.trees]
  refine Calls.callWith_builtin rfl (Calls.evalArgs_plain (Calls.spliced_cons (thn (he pins s1 σ H1 _ I1 q1) fun iv s2 ⟨y, H2, I2, ry, q2⟩ =>
    Calls.spliced_cons (thn (hf pins s2 σ H2 _ I2 q2) fun fv s3 ⟨z, H3, I3, rz, ov, g, q3⟩ => Calls.spliced_nil ?_))))
  exact d_get2 hu I3 g ry rz fun w' s4 I4 rw' => ⟨_, H3, I4, rw', q3⟩
theorem pe_dpop1 (ho : PE X o td) (he : PE X e ty) (m : M1 X o "pop" apos e cpos) : PE X (.Call (.Attribute o "pop" apos) [e] [] cpos) (tDPop1 td ty) := by
  intro pins s σ H Q I h
  refine wpAny_Call_method m.base m.few m.line PySem.F.plainAttrs_dict PySem.F.slot_dict_pop PySem.F.type_dict_pop (thn (ho pins s σ H _ I h) fun u s1 ⟨x, H1, I1, rx, a, ex, d, q1⟩ => ?_)
  subst ex
  obtain rfl : u = Value.ref a := rx
  obtain ⟨t1, t2, _⟩ := isD_at I1 d
  refine ⟨t1, t2, ?_⟩
  rw [m.trees]
  refine Calls.callWith_builtin rfl (Calls.evalArgs_plain (Calls.spliced_cons (thn (he pins s1 σ H1 _ I1 q1) fun iv s2 ⟨y, H2, I2, ry, kvs, k, v, ea, ey, l, q2⟩ => Calls.spliced_nil ?_)))
  subst ey
  exact d_pop I2 ea ry l (.inl rfl) fun w' s3 I3 rw' => ⟨v, _, I3, rw', q2⟩
theorem pe_dpop2 (ho : PE X o td) (he : PE X e ty) (hf : PE X f tx) (m : M2 X o "pop" apos e f cpos) : PE X (.Call (.Attribute o "pop" apos) [e, f] [] cpos) (tDPop2 td ty tx) := by
  intro pins s σ H Q I h
  refine wpAny_Call_method m.base m.few m.line PySem.F.plainAttrs_dict PySem.F.slot_dict_pop PySem.F.type_dict_pop (thn (ho pins s σ H _ I h) fun u s1 ⟨x, H1, I1, rx, a, ex, d, q1⟩ => ?_)
  subst ex
  obtain rfl : u = Value.ref a := rx
  obtain ⟨t1, t2, _⟩ := isD_at I1 d
  refine ⟨t1, t2, ?_⟩
  rw [m.trees]
  refine Calls.callWith_builtin rfl (Calls.evalArgs_plain (Calls.spliced_cons (thn (he pins s1 σ H1 _ I1 q1) fun iv s2 ⟨y, H2, I2, ry, q2⟩ =>
    Calls.spliced_cons (thn (hf pins s2 σ H2 _ I2 q2) fun fv s3 ⟨z, H3, I3, rz, kvs, k, ea, ey, q3, q4⟩ => Calls.spliced_nil ?_))))
  subst ey
  cases l : valV kvs k with
  | some v => exact d_pop I3 ea ry l (.inr ⟨fv, rfl⟩) fun w' s4 I4 rw' => ⟨v, _, I4, rw', q3 v l⟩
  | none => exact d_popD I3 ea ry l fun s4 I4 => ⟨z, H3, I4, rz, q4 l⟩
end

/-! ### dict(d): a copy -/
section
variable {X : Cx} {pins : List (Addr × Obj)} {σ : St} {H : Hp} {s : Shared} {a : Addr} {kvs : List (Key × V)} {A : Around} {E : Value → Shared → Prop}
theorem d_copyOf {Q : Value → Shared → Prop} (I : Inv X pins σ H s) (e : Rd H a (.dK kvs)) (h : ∀ p s', H p = none → Inv X pins σ (upd H p (.dK kvs)) s' → Q (.ref p) s') : wpAny (model X.prog X.w) A (call (.type "dict") [.ref a]) Q E s := by
  obtain ⟨z, hd, vs, rel, dd⟩ := dk_rd I.hok e
  refine kt_call_dict hd dd (by rw [← rel.length]; exact z) fun h' dd' hs => ?_
  refine h _ _ (I.hok.fresh (Nat.le_refl _)) (I.laid (a := s.heap.objs.size) (o := .dK kvs) (t' := s.toks) (fun b q hq => ?_) (Nat.le_refl _) (dk_new z (beq_eq_false_iff_ne.mpr (Ne.symm (Nat.ne_of_lt I.big))) rel dd'))
  exact (hs.2 b (Nat.ne_of_lt (Heap.lt_size hq))).trans (Heap.get?_push_of_some _ hq)
end


section
variable {X : Cx} {pins : List (Addr × Obj)} {σ : St} {H : Hp} {s : Shared} {a : Addr} {y : V} {u : Value} {A : Around} {E : Value → Shared → Prop}
/-- d[y], not there: a KeyError -/
theorem d_missing {Q : Value → Shared → Prop} (hu : A.units + 1 < cLine) (hh : A.handled = none) (I : Inv X pins σ H s) (g : DGet H a y none) (ry : RelV y u)
    (h : ∀ h' e t', Heap.NewExc s.heap h' e "KeyError" → E (.ref e) { s with heap := h', toks := t' }) : wpAny (model X.prog X.w) A (getItem (.ref a) u) Q E s := by
  rcases g with ⟨kvs, k, e, ey, l⟩ | ⟨kvs, k, b, e, ey, eb, l⟩
  · subst ey
    obtain ⟨z, hd, vs, rel, dd⟩ := dk_rd I.hok e
    have hn : valueAt vs k = none := RelO.none_of (by rw [l]; exact rel.val k)
    exact wpAny_getItem_missing_of (kV_is ry) hd hh dd.mapOf hn fun h' ex ne => h h' ex _ ne
  · subst ey
    cases (show u = Value.ref b from ry)
    obtain ⟨z, hd, xs, rel, dd⟩ := dt_rd I.hok e
    have hn : (atKey xs k).map (·.2) = none := RelO.none_of (by rw [l]; exact rel.val k)
    exact wpAny_getItem_missing_heap (tupleKind_room_in1 hu) (key_of I.hok eb) hd hh dd (Option.map_eq_none_iff.mp hn) fun h' ex ne => h h' ex _ ne
end
end L2

namespace Att
open PySem PySem.W PySem.Calls PyProof.Rows

/-! ### the script -/
theorem ints_of_wellAll {P : Params} {h : Heap} : ∀ (ns : List Int) (vs : List Value), WellAll P h vs (ns.map WData.int) → IntsAre vs ns := by
  intro ns
  induction ns with
  | nil =>
    intro vs w
    rw [List.map_nil] at w
    cases w
    exact .nil
  | cons n ns ih =>
    intro vs w
    rw [List.map_cons] at w
    cases w with
    | cons a b =>
      cases a
      exact .cons _ _ (ih _ b)

theorem script_of {l : OpenLaw} {n : Nat} (hn : l.most = some n) {P : Params} {h : Heap} {args : List WData} {vals : List Value}
    (hpre : l.row.toRowW.claim.pre args = true) (hwl : WellAll P h vals args) :
    ∃ a vs ns, vals = [Value.ref a] ∧ args = [WData.list (ns.map WData.int)] ∧ h.get? a = some { cls := .type "list", data := .seq vs.toArray } ∧ IntsAre vs ns ∧ ns.length ≤ n := by
  have hsh : WShape.hasAll [] args [.list .int] = true := (pre_splitW hpre).1
  have hc : l.pre.holds [] { args := args } = true := (pre_splitW hpre).2
  obtain ⟨d, r, rfl, h1, h2⟩ := hasAllW_cons hsh
  obtain rfl := hasAllW_nil h2
  obtain ⟨xs, rfl, h3⟩ := hasW_list h1
  obtain ⟨ns, rfl⟩ := items_int h3
  have hlen : ns.length ≤ n := by
    unfold OpenLaw.pre at hc
    have h4 : (WTm.not (.lt (.lit (.int (n : Int))) (.len (.arg 0)))).holds [] { args := [.list (ns.map .int)] } = true := by
      have h4 := (holds_andW hc).1
      rw [hn] at h4
      exact h4
    have h5 := condW_of h4 (w_not (w_lt w_lit (w_len_list (w_arg rfl))))
    rw [List.length_map] at h5
    refine Nat.le_of_not_lt fun q => ?_
    have q' : (n : Int) < ((ns.length : Nat) : Int) := by omega
    first
      | (rw [decide_eq_true q'] at h5; exact absurd h5 (by decide))
      | (simp at h5; omega)
  cases hwl with
  | cons w1 w2 =>
    cases w2
    cases w1 with
    | list ho hall => exact ⟨_, _, ns, rfl, rfl, ho, ints_of_wellAll ns _ hall, hlen⟩

theorem post_true (l : OpenLaw) (args : List WData) : l.row.toRowW.claim.post args (.bool true) args = true :=
  postW_of (r := l.row.toRowW) (X := (true == true))
    (show WShape.has [] (.bool true) .bool = true by first | rfl | decide | simp [WShape.has, WShape.arms, WShape.armsAll])
    (show (WTm.eq .res (.lit (.bool true))).value [] { args := args, res := some (.bool true), after := args } = some (.bool (true == true)) from w_eq_bool (w_res rfl) w_lit) rfl

/-! ### the attachment: holds_open's last premise (the goal 'hc' behind k_head) from a wpAny of the law's body -/
theorem attach {l : OpenLaw} {n : Nat} {q : Program} {loose : List Str} {XP : (Str → Option Value) → Heap → Prop} {YP : World → Heap → Prop} {d : DefRec} {x : Str}
    (hn : l.most = some n) (hdf : d.params.defaults = [])
    (hbind : ∀ pm cd doc v : Value, bindArgs (docDef d.name d.params d.body d.scope pm cd doc) ⟨[v], []⟩ = pure [(x, v)])
    (hx : d.scope.names.lookup x = some .local ∨ d.scope.names.lookup x = some .cell)
    (hk : d.scope.kind = .function) (hco : d.scope.isCoroutine = false) (hgen : d.scope.isGenerator = false)
    (body : ∀ (w : World) (s₀ s₁ s : Shared) (mg mb : Str → Option Value) (fa : Addr) (o : Obj) (pm cd doc : Value) (a : Addr) (vs : List Value) (ns : List Int),
      Ground q loose [] XP w s₀ mg mb s₁.heap → YP w s₁.heap →
      s₁.heap.get? fa = some o → o.data = .func (docDef d.name d.params d.body d.scope pm cd doc) → s₁.heap.CodeRec cd d.name → mg d.name = some (.ref fa) →
      s₁.heap.get? a = some { cls := .type "list", data := .seq vs.toArray } → IntsAre vs ns → ns.length ≤ n →
      s.gens = #[] → s.os = s₁.os →
      Fr s₁.heap s₁.heap.objs.size s.heap (bindL (envOfC d.name d.scope s₁.heap.objs.size fa cd).kindOf [(x, .ref a)] fun _ => none) →
      Cl s₁.heap.objs.size (cellsFrom (s₁.heap.objs.size + 1) d.scope.names []) s.heap (bindC (envOfC d.name d.scope s₁.heap.objs.size fa cd).kindOf [(x, .ref a)] fun _ => none) →
      wpAny (model l.prog w) (callerA.deeper (envOfC d.name d.scope s₁.heap.objs.size fa cd)) (execs d.body (envOfC d.name d.scope s₁.heap.objs.size fa cd))
        (fun f s' => f = .ret (.bool true) ∧ OldK s₁.heap s'.heap ∧ s'.os = s₁.os ∧ AllBare s'.gens) (fun _ _ => False) s) :
    WalkO q loose XP YP l.row.toRowW d [] (fun f vs => PySem.call f vs) := by
  intro w s₀ s₁ mg mb G Y fa o pm cd doc dV kV ho hd hcd hD hmg hg args vals as hpre hlay hrd hwl hlo
  obtain rfl : dV = .none := Dflts.none hD hdf
  obtain rfl : kV = .none := Dflts.noKw hD
  obtain ⟨a, vs, ns, rfl, rfl, hobj, hints, hlen⟩ := script_of hn hpre hwl
  refine enter_call ?_
  refine call_cells_ret (o := o) (by rw [depth_caller]; decide) ho (fd_plain hd) G.T.nolimit hcd (hbind pm cd doc (.ref a)) (fun y hy => ?_) (fun h₁ tk F X => ?_) hco hgen hk
  · obtain rfl : y = (x, Value.ref a) := List.mem_singleton.mp hy
    rcases hx with e | e
    · exact .inl e
    · exact .inr ⟨e, cellsFrom_some _ _ _ (.inl e)⟩
  · refine wpAny_mono (body w s₀ s₁ { s₁ with heap := h₁, toks := tk } mg mb fa o pm cd doc a vs ns G Y ho (fd_plain hd) hcd hmg hobj hints hlen hg rfl F X) (fun f s' hq => ?_) (fun _ _ hq => hq)
    obtain ⟨rfl, h2, h3, h4⟩ := hq
    exact ⟨.inl ⟨.bool true, .bool true, [], rfl, fun _ => rfl, .bool true, post_true l _, fun _ => ⟨List.Pairwise.nil, fun _ hm => (nomatch hm)⟩⟩, h2, h3, h4⟩

/-- the same from a codeAny of the CALL (for a layer whose function contracts speak of calls) -/
theorem attach_call {l : OpenLaw} {n : Nat} {q : Program} {loose : List Str} {XP : (Str → Option Value) → Heap → Prop} {YP : World → Heap → Prop} {d : DefRec}
    (hn : l.most = some n) (hdf : d.params.defaults = [])
    (call : ∀ (w : World) (s₀ s₁ : Shared) (mg mb : Str → Option Value) (fa : Addr) (o : Obj) (pm cd doc : Value) (a : Addr) (vs : List Value) (ns : List Int),
      Ground q loose [] XP w s₀ mg mb s₁.heap → YP w s₁.heap →
      s₁.heap.get? fa = some o → o.data = .func (docDef d.name d.params d.body d.scope pm cd doc) → s₁.heap.CodeRec cd d.name → mg d.name = some (.ref fa) →
      s₁.heap.get? a = some { cls := .type "list", data := .seq vs.toArray } → IntsAre vs ns → ns.length ≤ n → s₁.gens = #[] →
      codeAny (model l.prog w) callerA (.call (.ref fa) ⟨[.ref a], []⟩) (fun r s' => r = .ok (.ret (.bool true)) ∧ OldK s₁.heap s'.heap ∧ s'.os = s₁.os ∧ AllBare s'.gens) s₁) :
    WalkO q loose XP YP l.row.toRowW d [] (fun f vs => PySem.call f vs) := by
  intro w s₀ s₁ mg mb G Y fa o pm cd doc dV kV ho hd hcd hD hmg hg args vals as hpre hlay hrd hwl hlo
  obtain rfl : dV = .none := Dflts.none hD hdf
  obtain rfl : kV = .none := Dflts.noKw hD
  obtain ⟨a, vs, ns, rfl, rfl, hobj, hints, hlen⟩ := script_of hn hpre hwl
  refine enter_call (codeAny_mono (call w s₀ s₁ mg mb fa o pm cd doc a vs ns G Y ho (fd_plain hd) hcd hmg hobj hints hlen hg) fun r s' hq => ?_)
  obtain ⟨rfl, h2, h3, h4⟩ := hq
  exact ⟨.inl ⟨.bool true, .bool true, [], rfl, fun _ => rfl, .bool true, post_true l _, fun _ => ⟨List.Pairwise.nil, fun _ hm => (nomatch hm)⟩⟩, h2, h3, h4⟩

/-- the same where the top left finished generators (o_head chose holds_openN): nothing may have changed at all and no generator may be left -/
theorem attachN {l : OpenLaw} {n : Nat} {q : Program} {loose : List Str} {XP : (Str → Option Value) → Heap → Prop} {YP : World → Heap → Prop} {d : DefRec} {x : Str}
    (hn : l.most = some n) (hdf : d.params.defaults = [])
    (hbind : ∀ pm cd doc v : Value, bindArgs (docDef d.name d.params d.body d.scope pm cd doc) ⟨[v], []⟩ = pure [(x, v)])
    (hx : d.scope.names.lookup x = some .local ∨ d.scope.names.lookup x = some .cell)
    (hk : d.scope.kind = .function) (hco : d.scope.isCoroutine = false) (hgen : d.scope.isGenerator = false)
    (body : ∀ (w : World) (s₀ s₁ s : Shared) (mg mb : Str → Option Value) (fa : Addr) (o : Obj) (pm cd doc : Value) (a : Addr) (vs : List Value) (ns : List Int),
      Ground q loose [] XP w s₀ mg mb s₁.heap → YP w s₁.heap →
      s₁.heap.get? fa = some o → o.data = .func (docDef d.name d.params d.body d.scope pm cd doc) → s₁.heap.CodeRec cd d.name → mg d.name = some (.ref fa) →
      s₁.heap.get? a = some { cls := .type "list", data := .seq vs.toArray } → IntsAre vs ns → ns.length ≤ n →
      s.gens = #[] → s.os = s₁.os →
      Fr s₁.heap s₁.heap.objs.size s.heap (bindL (envOfC d.name d.scope s₁.heap.objs.size fa cd).kindOf [(x, .ref a)] fun _ => none) →
      Cl s₁.heap.objs.size (cellsFrom (s₁.heap.objs.size + 1) d.scope.names []) s.heap (bindC (envOfC d.name d.scope s₁.heap.objs.size fa cd).kindOf [(x, .ref a)] fun _ => none) →
      wpAny (model l.prog w) (callerA.deeper (envOfC d.name d.scope s₁.heap.objs.size fa cd)) (execs d.body (envOfC d.name d.scope s₁.heap.objs.size fa cd))
        (fun f s' => f = .ret (.bool true) ∧ (∀ b o, s₁.heap.get? b = some o → s'.heap.get? b = some o) ∧ s'.os = s₁.os ∧ s'.gens = #[]) (fun _ _ => False) s) :
    WalkN q loose XP YP l.row.toRowW d [] (fun f vs => PySem.call f vs) := by
  intro w s₀ s₁ mg mb G Y fa o pm cd doc dV kV ho hd hcd hD hmg hg args vals as hpre hlay hrd hwl hlo
  obtain rfl : dV = .none := Dflts.none hD hdf
  obtain rfl : kV = .none := Dflts.noKw hD
  obtain ⟨a, vs, ns, rfl, rfl, hobj, hints, hlen⟩ := script_of hn hpre hwl
  refine enter_callW ?_
  refine call_cells_ret (o := o) (by rw [depth_caller]; decide) ho (fd_plain hd) G.T.nolimit hcd (hbind pm cd doc (.ref a)) (fun y hy => ?_) (fun h₁ tk F X => ?_) hco hgen hk
  · obtain rfl : y = (x, Value.ref a) := List.mem_singleton.mp hy
    rcases hx with e | e
    · exact .inl e
    · exact .inr ⟨e, cellsFrom_some _ _ _ (.inl e)⟩
  · refine wpAny_mono (body w s₀ s₁ { s₁ with heap := h₁, toks := tk } mg mb fa o pm cd doc a vs ns G Y ho (fd_plain hd) hcd hmg hobj hints hlen hg rfl F X) (fun f s' hq => ?_) (fun _ _ hq => hq)
    obtain ⟨rfl, h2, h3, h4⟩ := hq
    exact ⟨.inl ⟨.bool true, .bool true, [], rfl, fun _ => rfl, .bool true, post_true l _, fun _ => ⟨List.Pairwise.nil, fun _ hm => (nomatch hm)⟩⟩, h2, h3, h4⟩

/-! ### rules over ANY heap (no ledger) from facts about the written part K: the library's own take a ledger (News) for what they write -/
section
variable {prog : Program} {w : World} {A : Around} {E : Value → Shared → Prop} {s : Shared} {K : Frag}

/-- a def of the module, or a method (qual 'C.m'), entered: the frame is the next address; cells behind it -/
theorem call_fn {R : Result → Shared → Prop} {name qual : Str} {params : Arguments} {body : List Stmt} {scope : Scope} {dV kV doc pm cdv ct oc : Value} {an od : Option Addr} {osl : Array (Option Value)} {f : Addr} {args : Args} {binds : List (Str × Value)}
    (X : K.In s.heap) (hlim : s.heap.NoLimit) (ho : K.lookup f = some ⟨oc, od, .func (fnOf name qual params body scope dV kV doc pm an cdv ct), osl⟩) (hcd : codeIn K cdv qual = true) (hroom : A.depth < recursionLimit)
    (hbind : BindsTo s (fnOf name qual params body scope dV kV doc pm an cdv ct) args binds)
    (hkind : (binds.all fun y => scope.names.lookup y.1 == some .local || scope.names.lookup y.1 == some .cell) = true)
    (h : ∀ s₁, InCallC s s.heap.objs.size (bindL (envOfC qual scope s.heap.objs.size f cdv).kindOf binds fun _ => none) (cellsFrom (s.heap.objs.size + 1) scope.names [])
        (bindC (envOfC qual scope s.heap.objs.size f cdv).kindOf binds fun _ => none) s₁ →
      wpAny (model prog w) (A.deeper (envOfC qual scope s.heap.objs.size f cdv)) (execs body (envOfC qual scope s.heap.objs.size f cdv))
        (fun fl s' => R (.ok (.ret (match fl with | .ret v => v | _ => .none))) s')
        (fun e s' => wpAny (model prog w) (A.deeper (envOfC qual scope s.heap.objs.size f cdv)) (leaving (envOfC qual scope s.heap.objs.size f cdv) e) (fun _ s'' => R (.error e) s'') (fun e' s'' => R (.error e') s'') s') s₁)
    (hco : scope.isCoroutine = false) (hgen : scope.isGenerator = false) (hk : scope.kind = .function) : codeAny (model prog w) A (.call (.ref f) args) R s := by
  refine codeAny_call_function hroom (X _ _ ho) rfl hco hgen rfl (codeRec_of X hcd) (hbind _ _ _ _ ?_)
  refine wpAny_newFunctionEnv_cells hk (kindsX hkind _) fun env he s₁ x => ?_
  subst he
  exact ⟨hlim.keeps x.toInCall.keep, codeAny_func (h s₁ x)⟩

/-- C(..): dict at size, instance at size + 1, then __init__ -/
theorem make_obj {R : Result → Shared → Prop} {C fI : Addr} {rest : List Value} {kw : List (Str × Value)}
    (X : K.In s.heap) (hm : makesIn K C = true) (hi : findIn K (.ref C) "__init__" = some (some (.ref fI))) (hf : isFn K (.ref fI) = true)
    (h : codeAny (model prog w) (A.under (.builtin "type.__call__" ⟨.ref C :: rest, kw⟩)) (.call (.ref fI) ⟨.ref (s.heap.objs.size + 1) :: rest, kw⟩) (InitBack (s.heap.objs.size + 1) R)
      { s with heap := (s.heap.push emptyDict).push (instObj C s.heap.objs.size) }) : codeAny (model prog w) A (.call (.ref C) ⟨rest, kw⟩) R s := by
  obtain ⟨hh, g, d, t, os⟩ := s
  exact make_core (makes_of X hm) (looks_findIn X hi) (fun self => bind_fn X self (beq_iff_eq.mp hf)) (.inl rfl) h

/-- x.name where the instance's dict holds the name and the class does not -/
theorem get_field {x C : Addr} {ox : Obj} {es : List DictEntry} {n : Nat} {name : Str} {expr : Bool} {v : Value} {Q : Value → Shared → Prop}
    (X : K.In s.heap) (I : PySem.W.InstAt s.heap x ox C (some (dictOf es n))) (hg : plainGet K C name = true) (hh : hasDictIn K C = true) (ha : findIn K (.ref C) name = some none)
    (hl : getL name es = some (some v)) (hv : handedIn v = true) (h : Q v { s with toks := s.toks + 1 }) : wpAny (model prog w) A (getAttr (.ref x) name expr) Q E s :=
  get_value X I (plainGet_of hg).1 (findObj_own hh ha rfl hl) hv h

/-- x.m(..): the method found in the class -/
theorem get_method {x C f : Addr} {ox : Obj} {es : List DictEntry} {n : Nat} {name : Str} {pl : Sem Bool} {Q : Value × List Value → Shared → Prop}
    (X : K.In s.heap) (I : PySem.W.InstAt s.heap x ox C (some (dictOf es n))) (hg : plainGet K C name = true) (hf : findIn K (.ref C) name = some (some (.ref f))) (ht : isFn K (.ref f) = true)
    (hl : getL name es = some none) (h : Q (.ref f, [.ref x]) s) : wpAny (model prog w) A (getMethod (.ref x) name pl) Q E s :=
  method_fn X I (plainGet_of hg).1 (plainGet_of hg).2 hf (beq_iff_eq.mp ht) (by show (lookIn name (dictOf es n)).map _ = _; rw [lookIn_dict, hl]; rfl) h

/-! the whole heap as the ledger: makes every rule that writes through a ledger a rule over any heap -/
def noObjs (h : Heap) : Heap := { h with objs := #[] }
theorem noObjs_get (h : Heap) (b : Addr) : (noObjs h).get? b = none := by
  cases e : (noObjs h).get? b with
  | none => rfl
  | some o => exact absurd (Heap.lt_size e) (Nat.not_lt_zero _)
def ledger (h : Heap) (L d : Addr) : List (Addr × Obj) := (List.range h.objs.size).filterMap fun a => if a = L ∨ a = d then none else (h.get? a).map fun o => (a, o)
theorem mem_ledger {h : Heap} {L d a : Addr} {o : Obj} : (a, o) ∈ ledger h L d ↔ a ≠ L ∧ a ≠ d ∧ h.get? a = some o := by
  unfold ledger
  rw [List.mem_filterMap]
  constructor
  · rintro ⟨b, _, e⟩
    split at e
    · cases e
    · rename_i hb
      obtain ⟨o', ho, e'⟩ := Option.map_eq_some_iff.mp e
      cases e'
      exact ⟨fun q => hb (.inl q), fun q => hb (.inr q), ho⟩
  · rintro ⟨n1, n2, ho⟩
    refine ⟨a, List.mem_range.mpr (Heap.lt_size ho), ?_⟩
    rw [if_neg (show ¬ (a = L ∨ a = d) from fun q => q.elim n1 n2), ho] <;> rfl
theorem news_ledger {h : Heap} {L d : Addr} {od : Obj} (hne : d ≠ L) (ho : h.get? d = some od) : News (noObjs h) L h ([] ++ (d, od) :: ledger h L d) := by
  rintro ⟨a, o⟩ hp
  rcases List.mem_cons.mp hp with e | hp
  · cases e
    exact ⟨ho, hne, noObjs_get _ _⟩
  · obtain ⟨n1, n2, e⟩ := mem_ledger.mp hp
    exact ⟨e, n1, noObjs_get _ _⟩
theorem fr_all {h : Heap} {L : Addr} {m : Str → Option Value} (n : h.Ns L m) : Fr (noObjs h) L h m :=
  ⟨n, fun b o e => (by rw [noObjs_get] at e; cases e), Nat.zero_le _⟩
/-- Upd of the head entry (for append_K, setItem_K ..) -/
theorem upd_ledger {h : Heap} {L d : Addr} {o o' : Obj} : Upd d o o' ((d, o) :: ledger h L d) ((d, o') :: ledger h L d) :=
  .head fun ⟨_, _⟩ hp => (mem_ledger.mp hp).2.1

/-- x.name = v over any heap: L is any namespace of the heap (the frame's, say): its map stays, its object is not told; all else but the dict stays -/
theorem set_field {x C dx L : Addr} {ox : Obj} {m : Str → Option Value} {es es' : List DictEntry} {n n' : Nat} {name : Str} {v : Value} {Q : Unit → Shared → Prop}
    (X : K.In s.heap) (I : PySem.W.InstAt s.heap x ox C (some (dictOf es n))) (hd : ox.dict = some dx) (hL : s.heap.Ns L m) (hne : dx ≠ L)
    (hs : findIn K (.ref C) "__setattr__" = some (some (.builtin "object.__setattr__"))) (hp : plainOver K C = true) (ht : takerIn K C name = some none) (hh : hasDictIn K C = true) (hl : (getL name es).isSome = true)
    (e : (putL name (PyData.keyHash w.params name) (.str name (s.toks + 1)) v es, putN name es n) = (es', n')) (hz : es'.length ≤ 1000)
    (h : ∀ h' : Heap, h'.Ns L m → h'.get? dx = some (dictOf es' n') → (∀ b o, b ≠ dx → b ≠ L → s.heap.get? b = some o → h'.get? b = some o) → Q () { s with heap := h', toks := s.toks + 2 }) :
    wpAny (model prog w) A (setAttr (.ref x) name v) Q E s := by
  obtain ⟨e1, e2⟩ := Prod.mk.inj e
  have hdx : s.heap.get? dx = some (dictOf es n) := by
    have := I.dict
    rw [hd] at this
    exact this
  refine set_plain X I hs (osa_dict (s := { s with toks := s.toks + 1 }) (h₀ := noObjs s.heap) (L := L) (m := m) (od := dictOf es n) (od' := dictOf es' n') (es := es') (n := n') (pre := []) (post := ledger s.heap L dx)
    (fr_all hL) (news_ledger hne hdx) X I hd hp ht hh hl (fun _ q => nomatch q) (fun ⟨_, _⟩ q => (mem_ledger.mp q).2.1) (by rw [putName_dict, e1, e2]) rfl hz fun h' F' N' => ?_)
  exact h h' F'.ns (N'.get (List.Mem.head _)) fun b o n1 n2 ho => N'.get (List.Mem.tail _ (mem_ledger.mpr ⟨n2, n1, ho⟩))
end
end Att

namespace L2
open PySem PySem.Spec PyProof.Rows

theorem vals_ints : ∀ {vs : List Value} {ns : List Int}, IntsAre vs ns → Vals (ns.map V.int) vs
  | _, _, .nil => .nil
  | _, _, .cons n t h => .cons ⟨t, rfl⟩ (vals_ints h)

/-- nothing is tracked but the script, known to the object (or it is an object of the module) -/
def Only (H : Hp) : Prop := ∀ b, H b = none ∨ ∃ o xs, H b = some (.frz o (.lst xs))

/-- THE HEAD: the law's promise, at the heap behind the top. F, the promise of the law's def, may use that base is part of the heap (so K.In base, base.Ns mainGlobals mg stand in Mod) -/
theorem law_call {P : Program} {w : World} {K : PySem.W.Frag} {mg mb : Str → Option Value} {CX : CXT} {k : Nat} {fa a : Addr} {fd : FuncData} {x : Str} {sp : Sp} {s₁ : Shared} {vs : List Value} {ns : List Int}
    (KX : K.In s₁.heap) (hns : s₁.heap.Ns mainGlobals mg) (hb : s₁.heap.Ns builtinsNs mb) (hbb : ∀ x : Str, x ≠ "__name__" → mb x = bootBuiltins x) (hlim : s₁.heap.NoLimit) (hg : s₁.gens = #[])
    (ha : s₁.heap.get? a = some { cls := .type "list", data := .seq vs.toArray }) (hi : IntsAre vs ns) (hl : ns.length ≤ sizeLine) (hr : Room k callerA)
    (F : ∀ base : Heap, K.In base → base.Ns mainGlobals mg → FnOk P w K mg base CX k fa fd [x] sp) (hbind : ∀ (s : Shared) (u : Value), BindsTo s fd ⟨[u], []⟩ [(x, u)])
    (hsp : ∀ H : Hp, Only H → SqL K H a (ns.map V.int) → sp [.ref a] H (fun v _ => v = .bl true) fun _ _ _ => False)
    (hCX : ∀ H e s', CX [] H s₁ (fun _ _ _ => False) e s' → False) :
    codeAny (model P w) callerA (.call (.ref fa) ⟨[.ref a], []⟩) (fun r s' => r = .ok (.ret (.bool true)) ∧ OldK s₁.heap s'.heap ∧ s'.os = s₁.os ∧ AllBare s'.gens) s₁ := by
  have rv := vals_ints hi
  have lenV := hi.length
  -- from an abstract heap in which nothing but the script may be tracked
  have core : ∀ H : Hp, Only H → SqL K H a (ns.map V.int) → HOk P w H s₁.heap → (∀ b, H b ≠ none → b = a) → (H a ≠ none → K.lookup a = none) →
      codeAny (model P w) callerA (.call (.ref fa) ⟨[.ref a], []⟩) (fun r s' => r = .ok (.ret (.bool true)) ∧ OldK s₁.heap s'.heap ∧ s'.os = s₁.os ∧ AllBare s'.gens) s₁ := by
    intro H hO hS hok hA hK
    have base_of : ∀ {b : Addr} {o : Obj}, s₁.heap.get? b = some o → H b = none → (hidT s₁.heap H).get? b = some o := fun e n => hidT_get e n
    have noA : ∀ {b : Addr} {o : Obj} {es : Array DictEntry} {ep : Nat}, s₁.heap.get? b = some o → o.data = .dict es ep → H b = none := fun {b o es ep} e d => by
      cases q : H b with
      | none => rfl
      | some u =>
        have e' : b = a := hA b (by rw [q]; simp)
        subst e'
        rw [ha] at e; cases e
        have d' : Data.seq vs.toArray _ = Data.dict es ep := d
        cases d'
    have nsK : ∀ {b : Addr} {m : Str → Option Value}, s₁.heap.Ns b m → (hidT s₁.heap H).Ns b m := fun {b m} ⟨o, es, ep, e, d, r⟩ => ⟨o, es, ep, base_of e (noA e d), d, r⟩
    have hKb : K.In (hidT s₁.heap H) := fun b o e => base_of (KX b o e) (by
      cases q : H b with
      | none => rfl
      | some u =>
        have e' : b = a := hA b (by rw [q]; simp)
        subst e'
        rw [hK (by rw [q]; simp)] at e; cases e)
    have hM : Mod K mg (hidT s₁.heap H) := ⟨hKb, nsK hns, ⟨mb, nsK hb, hbb⟩, let ⟨mc, h1, h2⟩ := hlim; ⟨mc, nsK h1, h2⟩⟩
    have e0 : Env0 P w K mg (hidT s₁.heap H) callerA [] s₁ H := ⟨rfl, hM, fun b o e => of_hidT e, Nat.le_of_eq (hidT_size _ _), trivial, fun b hb => absurd (show b ∈ ([] : List Addr) from hb) (by simp), hok, .of_eq hg⟩
    refine codeAny_mono ((F _ hKb (nsK hns)).run callerA [] s₁ H ⟨[.ref a], []⟩ [.ref a] [.ref a] _ _ hr e0 (hbind s₁ (.ref a)) (.cons rfl .nil) (hsp H hO hS)) fun r s' h => ?_
    cases r with
    | error e => exact (hCX H e s' h).elim
    | ok fl =>
      cases fl with
      | next => exact False.elim h
      | brk => exact False.elim h
      | cont => exact False.elim h
      | ret u =>
        obtain ⟨v, H', os, bare, un, hok', r', q⟩ := h
        have q' : v = .bl true := q
        subst q'
        obtain rfl : u = Value.bool true := r'
        refine ⟨rfl, OldK.of_keep fun b o e => ?_, os, bare⟩
        cases q : H b with
        | none => exact un.keep b o e q (by intro z; exact absurd (show b ∈ ([] : List Addr) from z) (by simp)) (by simp)
        | some u =>
          rcases hO b with z | ⟨ob, xs, z⟩
          · rw [q] at z; cases z
          · have z2 := un.frzs b ob _ z
            obtain ⟨e1, _⟩ := hok b _ z
            obtain ⟨e2, _⟩ := hok' b _ z2
            rw [e] at e1; cases e1
            exact e2
  cases hk : K.lookup a with
  | some o =>
    -- the script is one of the module's own objects
    have e := KX a o hk
    rw [ha] at e
    cases e
    refine core (fun _ => none) (fun _ => .inl rfl) (.inr ⟨_, vs.toArray, _, hk, rfl, rfl, rfl, by rw [List.size_toArray, lenV]; exact hl, by simpa using rv⟩) (fun b u z => by have z' : (none : Option HO) = some u := z; cases z') (fun b z => absurd rfl z) fun z => absurd rfl z
  | none =>
    refine core (fun b => if b = a then some (.frz { cls := .type "list", data := .seq vs.toArray } (.lst (ns.map V.int))) else none) (fun b => ?_) (.inl (.inr ⟨{ cls := .type "list", data := .seq vs.toArray }, if_pos rfl⟩)) (fun b u z => ?_) (fun b z => ?_) fun _ => hk
    · by_cases hb : b = a
      · exact .inr ⟨_, _, if_pos hb⟩
      · exact .inl (if_neg hb)
    · by_cases hb : b = a
      · have z' := (if_pos hb).symm.trans z
        cases z'
        subst hb
        exact ⟨ha, by rw [List.length_map]; exact hl, vs, _, rv, ha⟩
      · have z' := (if_neg hb).symm.trans z
        cases z'
    · by_cases hb : b = a
      · exact hb
      · exact absurd (if_neg hb) z
end L2

namespace L2
open PySem PySem.Spec PyProof.Rows

abbrev KOf {K : PySem.W.Frag} {h : Heap} (_ : K.In h) : PySem.W.Frag := K

/-- the goal that k_head leaves (case hc), from the law's promise. F gives the function object fd (K's own) once, then the promise over every base -/
theorem walk_of {l : PySem.W.OpenLaw} {n k : Nat} {q : Program} {loose : List Str} {XP : (Str → Option Value) → Heap → Prop} {YP : World → Heap → Prop} {d : DefRec} {K : Params → PySem.W.Frag} {CX : World → CXT} {sp : World → Sp} {x : Str}
    (hn : l.most = some n) (hn2 : n ≤ sizeLine) (hdf : d.params.defaults = []) (hr : Room k callerA)
    (hY : ∀ (w : World) (h : Heap), YP w h → (K w.params).In h)
    (F : ∀ (w : World) (mg : Str → Option Value) (fa : Addr) (h : Heap), (K w.params).In h → h.Ns mainGlobals mg → mg d.name = some (.ref fa) →
      ∃ fd : FuncData, (∀ (s : Shared) (u : Value), BindsTo s fd ⟨[u], []⟩ [(x, u)]) ∧
        ∀ base : Heap, (K w.params).In base → base.Ns mainGlobals mg → FnOk l.prog w (K w.params) mg base (CX w) k fa fd [x] (sp w))
    (hsp : ∀ (w : World) (H : Hp) (a : Addr) (ns : List Int), ns.length ≤ n → Only H → SqL (K w.params) H a (ns.map V.int) → sp w [.ref a] H (fun v _ => v = .bl true) fun _ _ _ => False)
    (hCX : ∀ (w : World) (H : Hp) (s : Shared) (e : Value) (s' : Shared), CX w [] H s (fun _ _ _ => False) e s' → False) :
    PySem.W.WalkO q loose XP YP l.row.toRowW d [] (fun f vs => PySem.call f vs) := by
  refine Att.attach_call hn hdf fun w s₀ s₁ mg mb fa o pm cd doc a vs ns G Y ho hd hcd hmg hobj hints hlen hg => ?_
  have KX := hY w _ Y
  obtain ⟨fd, hb, hF⟩ := F w mg fa _ KX G.T.g hmg
  exact law_call KX G.T.g G.T.b G.T.builtins G.T.nolimit hg hobj hints (Nat.le_trans hlen hn2) hr hF hb (fun H hO hS => hsp w H a ns hlen hO hS) fun H e s' => hCX w H s₁ e s'
/-- the same where the promise hangs on the written part alone: (sp := My.sp_law), no hole under a binder -/
theorem walk_ofK {l : PySem.W.OpenLaw} {n k : Nat} {q : Program} {loose : List Str} {XP : (Str → Option Value) → Heap → Prop} {YP : World → Heap → Prop} {d : DefRec} {K : Params → PySem.W.Frag} {CX : CXT} {sp : PySem.W.Frag → Sp} {x : Str}
    (hn : l.most = some n) (hn2 : n ≤ sizeLine) (hdf : d.params.defaults = []) (hr : Room k callerA)
    (hY : ∀ (w : World) (h : Heap), YP w h → (K w.params).In h)
    (F : ∀ (w : World) (mg : Str → Option Value) (fa : Addr) (h : Heap), (K w.params).In h → h.Ns mainGlobals mg → mg d.name = some (.ref fa) →
      ∃ fd : FuncData, (∀ (s : Shared) (u : Value), BindsTo s fd ⟨[u], []⟩ [(x, u)]) ∧
        ∀ base : Heap, (K w.params).In base → base.Ns mainGlobals mg → FnOk l.prog w (K w.params) mg base CX k fa fd [x] (sp (K w.params)))
    (hsp : ∀ (K : PySem.W.Frag) (H : Hp) (a : Addr) (ns : List Int), ns.length ≤ n → Only H → SqL K H a (ns.map V.int) → sp K [.ref a] H (fun v _ => v = .bl true) fun _ _ _ => False)
    (hCX : ∀ (H : Hp) (s : Shared) (e : Value) (s' : Shared), CX [] H s (fun _ _ _ => False) e s' → False) :
    PySem.W.WalkO q loose XP YP l.row.toRowW d [] (fun f vs => PySem.call f vs) :=
  walk_of (K := K) (CX := fun _ => CX) (sp := fun w => sp (K w.params)) hn hn2 hdf hr hY F (fun w H a ns h1 h2 h3 => hsp (K w.params) H a ns h1 h2 h3) fun _ H s e s' => hCX H s e s'
end L2

/- THE LAST THEOREM (shape; LID, My.* are yours):
   My.Adr: a structure of the addresses that your layer names (classes, functions); My.Txt K t: a structure (Prop) of the equations over K;
   My.txt_mk : {K} {implicit addresses ..} (e1 : nsIn K mainGlobals "law" = some (some (.ref f))) (e2 : K.lookup f = some ⟨oc, od, .func (fnOf "law" "law" params body scope dV kV doc pm an cdv ct), sl⟩) (e3 : codeIn K cdv "law" = true) .. : ∃ t, My.Txt K t

set_option maxRecDepth 100000 in
set_option maxHeartbeats 0 in
theorem PySem.Challenge.cw_LID_holds : PySem.Challenge.rw_LID.Holds := by
  w_on; o_law; k_head; (case hw => w_witness2)
  k_fill
  refine L2.walk_of (l := PySem.Challenge.rw_LID) (n := 63) (k := 40) (x := "script") (CX := fun w => ..) (sp := fun _ => My.sp_law) rfl (by decide) rfl ⟨rfl, by decide, by decide⟩ (fun w h Y => PySem.W.kIn_of Y) ?F ?S ?C
  case F =>
    intro w mg fa h KX G hmg
    have T : ∃ t, My.Txt (L2.KOf KX) t := by
      dsimp only [L2.KOf]                          -- K must stand as «<heap const> w.params» for k_is
      refine' My.txt_mk ?e1 ?e2 ?e3 ..
      (case e1 => PySem.W.k_is)                    -- in the order: a name -> its address -> its object -> its parts
      (case e2 => PySem.W.k_is)
      ..
    obtain ⟨t, T⟩ := T
    have e0 := hmg.symm.trans (PySem.W.mg_of KX G T.law)
    cases e0                                       -- fa is the law's own address
    exact ⟨_, fun s u => .of_eq rfl, fun base kb nb => My.law_fn T kb nb⟩     -- if «.of_eq rfl» comes too early: refine' ⟨_, ?b, fun base kb nb => My.law_fn T kb nb⟩; exact fun s u => .of_eq rfl
  case S => exact fun w H a ns hl hO hS => ..
  case C => exact ..
(the tactic k_is has no namespace: write k_is) -/

/-! SHORT WORDS over the layer: a def of the text, its body, what a loop and a test want. -/
namespace L2
open PySem PySem.Spec PyProof.Rows

/-! ### the text by places -/
/-- the j-th statement of a class's body -/
def inClass (s : Stmt) (j : Nat) : Stmt := match s with
  | .ClassDef _ _ _ body _ _ _ _ _ _ _ => body.getD j (.Pass ⟨0, 0, 0, 0⟩)
  | _ => .Pass ⟨0, 0, 0, 0⟩
def defArgs (s : Stmt) : Arguments := match s with
  | .FunctionDef _ a _ _ _ _ _ _ _ _ => a
  | _ => { posonlyargs := [], args := [], vararg := none, kwonlyargs := [], kw_defaults := [], kwarg := none, defaults := [] }
def defBody (s : Stmt) : List Stmt := match s with
  | .FunctionDef _ _ b _ _ _ _ _ _ _ => b
  | _ => []
def defScope (s : Stmt) : Scope := match s with
  | .FunctionDef _ _ _ _ _ _ sc _ _ _ => sc
  | _ => { kind := .function, names := [], isGenerator := false, isCoroutine := false }

/-! ### no exception leaves a def -/
abbrev CX0 : CXT := fun _ _ _ _ _ _ => False
abbrev E0 : XK := fun _ _ _ => False
theorem pass0 {X : Cx} : Passes CX0 X E0 := fun _ _ _ _ _ _ _ h => h.elim

/-! ### a def (or method) of the text as it stands behind the top -/
structure Fun (K : PySem.W.Frag) (x qual : Str) (st : Stmt) (f : Addr) (fd : FuncData) : Prop where
  ex : ∃ (oc : Value) (od : Option Addr) (kV doc pm : Value) (an : Option Addr) (cdv ct : Value) (osl : Array (Option Value)),
    fd = PySem.W.fnOf x qual (defArgs st) (defBody st) (defScope st) .none kV doc pm an cdv ct ∧ K.lookup f = some ⟨oc, od, .func fd, osl⟩ ∧ PySem.W.codeIn K cdv qual = true
  kp : PySem.W.keepIn K (.ref f) = true
section
variable {P : Program} {w : World} {K : PySem.W.Frag} {mg : Str → Option Value} {base : Heap}
/-- THE RULE for a def: its body as a term of rules, and the reading of that term -/
theorem Fun.ok {x qual : Str} {st : Stmt} {f : Addr} {fd : FuncData} {N ps : List Str} {k : Nat} {sp : Sp} (F : Fun K x qual st f fd) (S : FnScope N ps (defScope st)) (len : ∀ vs H Q E, sp vs H Q E → vs.length = ps.length)
    (hbody : ∀ (cdv : Value) (A : Around) (outer : List Env) (s : Shared) (H : Hp) (vs : List V) (Q : VK) (E : XK), Room k (A.deeper (envOfC qual (defScope st) s.heap.objs.size f cdv)) → sp vs H Q E →
      ∃ t, PSs (cxOf CX0 P w K mg base N qual (defScope st) f cdv A outer s H E).nox (defBody st) t ∧ t { nx := fun _ H' => Q .non H', rt := Q } (start N vs) H) : FnOk P w K mg base CX0 (k + 1) f fd ps sp := by
  obtain ⟨oc, od, kV, doc, pm, an, cdv, ct, osl, rfl, lk, hcd⟩ := F.ex
  refine fn_of lk hcd S len fun A outer s H vs Q E hr hsp => ?_
  obtain ⟨t, h, q⟩ := hbody cdv A outer s H vs Q E hr hsp
  exact ⟨t, h.nox, q⟩
/-- how its arguments bind (no defaults): h is «fun _ _ _ _ _ _ us hl => match us, hl with | [_, _], _ => rfl», one _ a parameter -/
theorem Fun.binds {x qual : Str} {st : Stmt} {f : Addr} {fd : FuncData} {ps : List Str} (F : Fun K x qual st f fd)
    (h : ∀ (kV doc pm : Value) (an : Option Addr) (cdv ct : Value) (us : List Value), us.length = ps.length → bindArgs (PySem.W.fnOf x qual (defArgs st) (defBody st) (defScope st) .none kV doc pm an cdv ct) ⟨us, []⟩ = pure (ps.zip us)) : Binds K fd ps [] := by
  obtain ⟨oc, od, kV, doc, pm, an, cdv, ct, osl, rfl, lk, hcd⟩ := F.ex
  exact .all (h kV doc pm an cdv ct)
theorem fun_mk {x qual : Str} {st : Stmt} {f : Addr} {oc : Value} {od an : Option Addr} {osl : Array (Option Value)} {kV doc pm cdv ct : Value} (l : K.lookup f = some ⟨oc, od, .func (PySem.W.fnOf x qual (defArgs st) (defBody st) (defScope st) .none kV doc pm an cdv ct), osl⟩)
    (c : PySem.W.codeIn K cdv qual = true) (k : PySem.W.keepIn K (.ref f) = true) : Fun K x qual st f (PySem.W.fnOf x qual (defArgs st) (defBody st) (defScope st) .none kV doc pm an cdv ct) := ⟨⟨oc, od, kV, doc, pm, an, cdv, ct, osl, rfl, l, c⟩, k⟩
end
theorem hu_of {A : Around} {k : Nat} (hr : Room k A) : A.units + 1 < cLine := Nat.lt_of_le_of_lt (Nat.add_le_add_left (by decide : 1 ≤ 64) _) hr.units
theorem small1000 {n : Nat} (h : n ≤ 1000) : n < sizeLine := Nat.lt_of_le_of_lt h (by decide)

/-! ### expressions in short: the name that stands in the i-th slot -/
section
variable {X : Cx}
theorem pv (i : Nat) {x : Str} {pos : Pos} (hN : X.N[i]? = some x := by rfl) (hv : Vis X.env.scope x := by first | exact Or.inl rfl | exact Or.inr (Or.inl rfl) | exact Or.inr (Or.inr rfl)) (hd : (x == ("__debug__" : Str)) = false := by decide)
    (hcd : (x == ("__classdict__" : Str)) = false := by decide) : PE X (.Name x pos) (tVar i) := pe_var hN hv hd hcd
end

/-! ### tests -/
theorem iteF {A B : Prop} (h : B) : if false = true then A else B := by
  rw [if_neg Bool.false_ne_true]
  exact h
theorem iteT {A B : Prop} (h : A) : if true = true then A else B := by
  rw [if_pos rfl]
  exact h
theorem ite2 {c A B : Prop} [Decidable c] (h1 : c → A) (h2 : ¬ c → B) : if c then A else B := by
  by_cases h : c
  · rw [if_pos h]
    exact h1 h
  · rw [if_neg h]
    exact h2 h
theorem iteNS {c A B : Prop} [Decidable c] (hc : c) (h : B) : if (!decide c) = true then A else B := by
  rw [decide_eq_true hc]
  exact iteF h

/-! ### heaps -/
/-- all that was tracked is as it was -/
def Same (H H' : Hp) : Prop := ∀ b o, H b = some o → H' b = some o
theorem Same.refl (H : Hp) : Same H H := fun _ _ h => h
theorem Same.trans {H H1 H2 : Hp} (a : Same H H1) (b : Same H1 H2) : Same H H2 := fun c o h => b c o (a c o h)
theorem Same.free {H H' : Hp} (e : Same H H') {l : Addr} (h : H' l = Option.none) : H l = Option.none := by
  cases q : H l with
  | none => rfl
  | some o =>
    rw [e l o q] at h
    cases h
theorem Same.seq {K : PySem.W.Frag} {H H' : Hp} {a : Addr} {xs : List V} (e : Same H H') (h : SqL K H a xs) : SqL K H' a xs := by
  rcases h with (h | ⟨o, h⟩) | h
  · exact .inl (.inl (e _ _ h))
  · exact .inl (.inr ⟨o, e _ _ h⟩)
  · exact .inr h

end L2

namespace L2
open PySem PySem.Spec PyProof.Rows
section
variable {X : Cx}
/-- len of a dict -/
theorem call_lenD : CallR X (.builtin "len") (fun xs H Q => ∃ a kvs, xs = [V.ref a] ∧ H a = some (.dK kvs) ∧ Q (.int kvs.length) H) := by
  intro pins s σ H xs us Q I r h
  obtain ⟨a, kvs, rfl, ha, q⟩ := h
  obtain ⟨u, rfl, ru⟩ := vals1 r
  cases ru
  exact d_len I (.inl ha) fun t s' I' => ⟨.int kvs.length, H, I', ⟨t, rfl⟩, q⟩
end
/-! ### a dict's pairs: keys that differ -/
section
variable {κ : Type} [DecidableEq κ]
theorem valV_not {kvs : List (κ × V)} {k : κ} (h : valV kvs k = none) : ¬ k ∈ kvs.map (·.1) := by
  intro m
  obtain ⟨p, hp, e⟩ := List.mem_map.mp m
  have q : (kvs.any fun kv => decide (kv.1 = k)) = true := List.any_eq_true.mpr ⟨p, hp, decide_eq_true e⟩
  rw [valV_any, h] at q
  exact absurd q (by simp)
theorem valV_in {kvs : List (κ × V)} {k : κ} {v : V} (h : valV kvs k = some v) : k ∈ kvs.map (·.1) := by
  have q : (kvs.any fun kv => decide (kv.1 = k)) = true := by
    rw [valV_any, h]
    all_goals rfl
  obtain ⟨p, hp, e⟩ := List.any_eq_true.mp q
  exact List.mem_map.mpr ⟨p, hp, of_decide_eq_true e⟩
theorem nd_snoc : ∀ {l : List κ} {k : κ}, l.Nodup → ¬ k ∈ l → (l ++ [k]).Nodup
  | [], k, _, _ => by simp
  | a :: r, k, h, hk => by
    obtain ⟨h1, h2⟩ := List.nodup_cons.mp h
    show (a :: (r ++ [k])).Nodup
    refine List.nodup_cons.mpr ⟨fun m => ?_, nd_snoc h2 fun m => hk (List.mem_cons.mpr (Or.inr m))⟩
    rcases List.mem_append.mp m with q | q
    · exact h1 q
    · exact hk (List.mem_cons.mpr (Or.inl (List.mem_singleton.mp q).symm))
theorem nd_putK {kvs : List (κ × V)} {k : κ} (v : V) (hn : (kvs.map (·.1)).Nodup) (h : valV kvs k = none) : ((putK kvs k v).map (·.1)).Nodup := by
  rw [putK_new v h, List.map_append]
  exact nd_snoc hn (valV_not h)
theorem dropK_pos {p : κ × V} {r : List (κ × V)} {k : κ} (e : p.1 = k) : dropK (p :: r) k = dropK r k := by
  unfold dropK
  rw [List.filter_cons, if_neg (by simp [e])]
theorem dropK_neg {p : κ × V} {r : List (κ × V)} {k : κ} (e : ¬ p.1 = k) : dropK (p :: r) k = p :: dropK r k := by
  unfold dropK
  rw [List.filter_cons, if_pos (by simp [e])]
theorem dropK_no : ∀ {kvs : List (κ × V)} {k : κ}, ¬ k ∈ kvs.map (·.1) → dropK kvs k = kvs
  | [], _, _ => rfl
  | p :: r, k, h => by
    have h' : ¬ k ∈ r.map (·.1) := fun m => by
      obtain ⟨q, hq, e⟩ := List.mem_map.mp m
      exact h (List.mem_map.mpr ⟨q, List.mem_cons.mpr (Or.inr hq), e⟩)
    rw [dropK_neg fun e => h (List.mem_map.mpr ⟨p, List.mem_cons.mpr (Or.inl rfl), e⟩), dropK_no h']
theorem dropK_mem {kvs : List (κ × V)} {k : κ} {p : κ × V} (h : p ∈ dropK kvs k) : p ∈ kvs := (List.mem_filter.mp h).1
theorem nd_dropK : ∀ {kvs : List (κ × V)} {k : κ}, (kvs.map (·.1)).Nodup → ((dropK kvs k).map (·.1)).Nodup
  | [], _, _ => List.nodup_nil
  | p :: r, k, h => by
    have h : (p.1 :: r.map (·.1)).Nodup := h
    obtain ⟨h1, h2⟩ := List.nodup_cons.mp h
    by_cases e : p.1 = k
    · rw [dropK_pos e]
      exact nd_dropK h2
    · rw [dropK_neg e]
      show (p.1 :: (dropK r k).map (·.1)).Nodup
      refine List.nodup_cons.mpr ⟨fun m => h1 ?_, nd_dropK h2⟩
      obtain ⟨q, hq, eq⟩ := List.mem_map.mp m
      exact List.mem_map.mpr ⟨q, dropK_mem hq, eq⟩
theorem dropK_len : ∀ {kvs : List (κ × V)} {k : κ}, (kvs.map (·.1)).Nodup → k ∈ kvs.map (·.1) → (dropK kvs k).length + 1 = kvs.length
  | [], _, _, m => by simp at m
  | p :: r, k, h, m => by
    have h : (p.1 :: r.map (·.1)).Nodup := h
    have m : k = p.1 ∨ k ∈ r.map (·.1) := List.mem_cons.mp m
    obtain ⟨h1, h2⟩ := List.nodup_cons.mp h
    by_cases e : p.1 = k
    · subst e
      rw [dropK_pos rfl, dropK_no h1]
      all_goals rfl
    · have m' : k ∈ r.map (·.1) := m.resolve_left fun z => e z.symm
      have q := dropK_len h2 m'
      rw [dropK_neg e, List.length_cons, List.length_cons]
      omega
end
end L2

set_option linter.all false
namespace Mg
section
variable {α : Type} [DecidableEq α]
/-- how often x stands behind a first place -/
def cnt (rs : List (List α)) (x : α) : Nat := (rs.map fun r => r.tail.count x).sum
/-- the first one of the first row whose first one has f = 0 -/
def pick (f : α → Nat) : List (List α) → Option α
  | [] => none
  | [] :: r => pick f r
  | (x :: _) :: r => if f x = 0 then some x else pick f r
def drop1 (x : α) : List α → List α
  | [] => []
  | y :: r => if y = x then r else y :: r
def runM : Nat → List (List α) → List α × List (List α)
  | 0, rs => ([], rs)
  | n + 1, rs => match pick (cnt rs) rs with
    | none => ([], rs)
    | some x => (x :: (runM n (rs.map (drop1 x))).1, (runM n (rs.map (drop1 x))).2)
def tot (rs : List (List α)) : Nat := (rs.map List.length).sum

theorem cnt_nil (x : α) : cnt [] x = 0 := rfl
theorem cnt_cons (r : List α) (rs : List (List α)) (x : α) : cnt (r :: rs) x = r.tail.count x + cnt rs x := rfl
theorem cnt_append (rs ss : List (List α)) (x : α) : cnt (rs ++ ss) x = cnt rs x + cnt ss x := by
  unfold cnt
  rw [List.map_append, List.sum_append]
theorem cnt_zero {rs : List (List α)} {x : α} : cnt rs x = 0 ↔ ∀ r ∈ rs, x ∉ r.tail := by
  induction rs with
  | nil => simp [cnt_nil]
  | cons r rs ih =>
    rw [cnt_cons]
    constructor
    · intro h q hq
      rcases List.mem_cons.mp hq with rfl | hq
      · exact List.count_eq_zero.mp (by omega)
      · exact ih.mp (by omega) q hq
    · intro h
      have h1 := List.count_eq_zero.mpr (h r List.mem_cons_self)
      have h2 := ih.mpr fun q hq => h q (List.mem_cons_of_mem _ hq)
      omega
theorem pick_mem {f : α → Nat} {x : α} : ∀ {rs : List (List α)}, pick f rs = some x → f x = 0 ∧ ∃ r ∈ rs, ∃ t, r = x :: t
  | [], h => nomatch h
  | [] :: r, h => by
    obtain ⟨h1, q, hq, t, e⟩ := pick_mem (rs := r) h
    exact ⟨h1, q, List.mem_cons_of_mem _ hq, t, e⟩
  | (y :: u) :: r, h => by
    unfold pick at h
    by_cases hy : f y = 0
    · rw [if_pos hy] at h
      cases h
      exact ⟨hy, _, List.mem_cons_self, u, rfl⟩
    · rw [if_neg hy] at h
      obtain ⟨h1, q, hq, t, e⟩ := pick_mem (rs := r) h
      exact ⟨h1, q, List.mem_cons_of_mem _ hq, t, e⟩
theorem tot_cons (r : List α) (rs : List (List α)) : tot (r :: rs) = r.length + tot rs := rfl
theorem drop1_cons (x y : α) (r : List α) : drop1 x (y :: r) = if y = x then r else y :: r := rfl
theorem drop1_le (x : α) (r : List α) : (drop1 x r).length ≤ r.length := by
  cases r with
  | nil => exact Nat.le_refl _
  | cons y r =>
    rw [drop1_cons]
    split
    · exact Nat.le_succ _
    · exact Nat.le_refl _
theorem tot_drop_le (x : α) : ∀ rs : List (List α), tot (rs.map (drop1 x)) ≤ tot rs
  | [] => Nat.le_refl _
  | r :: rs => by
    rw [List.map_cons, tot_cons, tot_cons]
    have := tot_drop_le x rs
    have := drop1_le x r
    omega
theorem tot_drop_lt {x : α} {t : List α} : ∀ {rs : List (List α)}, x :: t ∈ rs → tot (rs.map (drop1 x)) < tot rs
  | r :: rs, h => by
    rw [List.map_cons, tot_cons, tot_cons]
    rcases List.mem_cons.mp h with e | h
    · subst e
      have h1 := tot_drop_le x rs
      have h2 : (drop1 x (x :: t)).length = t.length := by rw [drop1_cons, if_pos rfl]
      rw [h2, List.length_cons]
      omega
    · have := tot_drop_lt h
      have := drop1_le x r
      omega
theorem run_none {n : Nat} {rs : List (List α)} (h : pick (cnt rs) rs = none) : runM n rs = ([], rs) := by
  cases n with
  | zero => rfl
  | succ n => unfold runM; rw [h]
theorem run_some {n : Nat} {rs : List (List α)} {x : α} (h : pick (cnt rs) rs = some x) : runM (n + 1) rs = (x :: (runM n (rs.map (drop1 x))).1, (runM n (rs.map (drop1 x))).2) := by
  rw [runM, h]
/-! ### two rows apart and a third one -/
theorem drop1_self (x : α) (r : List α) : drop1 x (x :: r) = r := by rw [drop1_cons, if_pos rfl]
theorem drop1_not {x : α} {r : List α} (h : x ∉ r) : drop1 x r = r := by
  cases r with
  | nil => rfl
  | cons y r => rw [drop1_cons, if_neg (show ¬ y = x from fun e => h (by rw [e]; exact List.mem_cons_self))]
theorem not_tail {x : α} {r : List α} (h : x ∉ r) : x ∉ r.tail := fun q => h (List.mem_of_mem_tail q)
theorem pick_first {x : α} {t : List α} {rs : List (List α)} {f : α → Nat} (h : f x = 0) : pick f ((x :: t) :: rs) = some x := by unfold pick; rw [if_pos h]
theorem phaseA (t B : List α) (G : List α → List α) (hG : ∀ a A, a ∉ A ++ t → a ∉ B → drop1 a (G (a :: A)) = G A ∧ a ∉ (G (a :: A)).tail) (n : Nat) : ∀ A : List α, (A ++ t).Nodup → (∀ a ∈ A, a ∉ B) →
    runM (A.length + n) [A ++ t, B, G A] = (A ++ (runM n [t, B, G []]).1, (runM n [t, B, G []]).2)
  | [], _, _ => by simp
  | a :: A, hn, hB => by
    have hn' : a ∉ A ++ t ∧ (A ++ t).Nodup := List.nodup_cons.mp hn
    have hb : a ∉ B := hB a List.mem_cons_self
    obtain ⟨g1, g2⟩ := hG a A hn'.1 hb
    have ih := phaseA t B G hG n A hn'.2 fun x hx => hB x (List.mem_cons_of_mem _ hx)
    have hc : cnt [a :: A ++ t, B, G (a :: A)] a = 0 := cnt_zero.mpr fun r hr => by
      simp only [List.mem_cons, List.not_mem_nil, or_false] at hr
      rcases hr with rfl | rfl | rfl
      · exact hn'.1
      · exact not_tail hb
      · exact g2
    have hp : pick (cnt [a :: A ++ t, B, G (a :: A)]) [a :: A ++ t, B, G (a :: A)] = some a := pick_first hc
    have e : (a :: A).length + n = (A.length + n) + 1 := by rw [List.length_cons]; omega
    rw [e, run_some hp]
    have em : [a :: A ++ t, B, G (a :: A)].map (drop1 a) = [A ++ t, B, G A] := by
      rw [List.map_cons, List.map_cons, List.map_cons, List.map_nil, List.cons_append, drop1_self, drop1_not hb, g1]
    rw [em, ih]
    rfl
theorem phaseB (G : List α → List α) (hG : ∀ a B, a ∉ B → drop1 a (G (a :: B)) = G B ∧ a ∉ (G (a :: B)).tail) (h0 : G [] = []) (n : Nat) : ∀ B : List α, B.Nodup →
    runM (B.length + n) [[], B, G B] = (B, [[], [], []])
  | [], _ => by
    rw [h0]
    exact run_none rfl
  | b :: B, hn => by
    have hn' := List.nodup_cons.mp hn
    obtain ⟨g1, g2⟩ := hG b B hn'.1
    have hc : cnt [[], b :: B, G (b :: B)] b = 0 := cnt_zero.mpr fun r hr => by
      simp only [List.mem_cons, List.not_mem_nil, or_false] at hr
      rcases hr with rfl | rfl | rfl
      · simp
      · exact hn'.1
      · exact g2
    have hp : pick (cnt [[], b :: B, G (b :: B)]) [[], b :: B, G (b :: B)] = some b := by
      show pick (cnt [[], b :: B, G (b :: B)]) [b :: B, G (b :: B)] = some b
      exact pick_first hc
    have e : (b :: B).length + n = (B.length + n) + 1 := by rw [List.length_cons]; omega
    rw [e, run_some hp]
    have em : [[], b :: B, G (b :: B)].map (drop1 b) = [[], B, G B] := by
      rw [List.map_cons, List.map_cons, List.map_cons, List.map_nil, drop1_self, g1]
      rfl
    rw [em, phaseB G hG h0 n B hn'.2]
theorem gNil (B : List α) : ∀ a A, a ∉ A → drop1 a ((fun _ : List α => ([] : List α)) (a :: A)) = (fun _ : List α => ([] : List α)) A ∧ a ∉ ((fun _ : List α => ([] : List α)) (a :: A)).tail := fun a A _ => ⟨rfl, by simp⟩
theorem gId : ∀ (a : α) (A : List α), a ∉ A → drop1 a ((fun l : List α => l) (a :: A)) = (fun l : List α => l) A ∧ a ∉ ((fun l : List α => l) (a :: A)).tail := fun a A h => ⟨drop1_self a A, h⟩
theorem run_empty {A B : List α} (hA : A.Nodup) (hB : B.Nodup) (hd : ∀ a ∈ A, a ∉ B) : runM (A.length + B.length) [A, B, []] = (A ++ B, [[], [], []]) := by
  have h := phaseA [] B (fun _ => []) (fun a A h1 h2 => ⟨rfl, by simp⟩) B.length A (by simpa using hA) hd
  have h2 := phaseB (fun _ => []) (gNil B) rfl 0 B hB
  rw [List.append_nil] at h
  rw [Nat.add_zero] at h2
  rw [h, h2]
theorem run_first {A B : List α} (hA : A.Nodup) (hB : B.Nodup) (hd : ∀ a ∈ A, a ∉ B) : runM (A.length + B.length) [A, B, A] = (A ++ B, [[], [], []]) := by
  have h := phaseA [] B (fun l => l) (fun a A h1 h2 => ⟨drop1_self a A, by simpa using h1⟩) B.length A (by simpa using hA) hd
  have h2 := phaseB (fun _ => []) (gNil B) rfl 0 B hB
  rw [List.append_nil] at h
  rw [Nat.add_zero] at h2
  rw [h, h2]
theorem run_second {A B : List α} (hA : A.Nodup) (hB : B.Nodup) (hd : ∀ a ∈ A, a ∉ B) : runM (A.length + B.length) [A, B, B] = (A ++ B, [[], [], []]) := by
  have h := phaseA [] B (fun _ => B) (fun a A h1 h2 => ⟨drop1_not h2, not_tail h2⟩) B.length A (by simpa using hA) hd
  have h2 := phaseB (fun l => l) gId rfl 0 B hB
  rw [List.append_nil] at h
  rw [Nat.add_zero] at h2
  rw [h, h2]
theorem run_both {A B : List α} (hA : A.Nodup) (hB : B.Nodup) (hd : ∀ a ∈ A, a ∉ B) : runM (A.length + B.length) [A, B, A ++ B] = (A ++ B, [[], [], []]) := by
  have h := phaseA [] B (fun l => l ++ B) (fun a A h1 h2 => ⟨drop1_self a (A ++ B), fun q => by
    rcases List.mem_append.mp (show a ∈ A ++ B from q) with z | z
    · exact h1 (List.mem_append_left _ z)
    · exact h2 z⟩) B.length A (by simpa using hA) hd
  have h2 := phaseB (fun l => l) gId rfl 0 B hB
  rw [List.append_nil] at h
  rw [Nat.add_zero] at h2
  have e : (fun l : List α => l ++ B) [] = (fun l : List α => l) B := rfl
  rw [h]
  show (A ++ (runM B.length [[], B, B]).1, (runM B.length [[], B, B]).2) = _
  rw [h2]
theorem run_cross {A B : List α} {z b : α} (hA : (A ++ [z]).Nodup) (hB : (b :: B).Nodup) (hd : ∀ a ∈ A ++ [z], a ∉ b :: B) : runM (A.length + (B.length + 2)) [A ++ [z], b :: B, [b, z]] = (A ++ [b, z] ++ B, [[], [], []]) := by
  have hz : z ∉ b :: B := hd z (by simp)
  have hzb : z ≠ b := fun e => hz (by rw [e]; exact List.mem_cons_self)
  have hzB : z ∉ B := fun q => hz (List.mem_cons_of_mem _ q)
  have hB' := List.nodup_cons.mp hB
  have h := phaseA [z] (b :: B) (fun _ => [b, z]) (fun a A h1 h2 => by
    have n1 : a ≠ b := fun e => h2 (by rw [e]; exact List.mem_cons_self)
    have n2 : a ≠ z := fun e => h1 (by rw [e]; simp)
    exact ⟨drop1_not (by simp [n1, n2]), by simp [n2]⟩) (B.length + 2) A hA fun a ha => hd a (List.mem_append_left _ ha)
  rw [h]
  have c1 : cnt [[z], b :: B, [b, z]] z ≠ 0 := fun q => by
    have := cnt_zero.mp q [b, z] (by simp)
    simp at this
  have c2 : cnt [[z], b :: B, [b, z]] b = 0 := cnt_zero.mpr fun r hr => by
    simp only [List.mem_cons, List.not_mem_nil, or_false] at hr
    rcases hr with rfl | rfl | rfl
    · simp
    · exact hB'.1
    · simp [Ne.symm hzb]
  have p1 : pick (cnt [[z], b :: B, [b, z]]) [[z], b :: B, [b, z]] = some b := by
    show (if cnt [[z], b :: B, [b, z]] z = 0 then some z else pick _ [b :: B, [b, z]]) = some b
    rw [if_neg c1]
    exact pick_first c2
  have m1 : [[z], b :: B, [b, z]].map (drop1 b) = [[z], B, [z]] := by
    rw [List.map_cons, List.map_cons, List.map_cons, List.map_nil, drop1_self, drop1_self, drop1_not (by simp [Ne.symm hzb])]
  have c3 : cnt [[z], B, [z]] z = 0 := cnt_zero.mpr fun r hr => by
    simp only [List.mem_cons, List.not_mem_nil, or_false] at hr
    rcases hr with rfl | rfl | rfl
    · simp
    · exact not_tail hzB
    · simp
  have p2 : pick (cnt [[z], B, [z]]) [[z], B, [z]] = some z := pick_first c3
  have m2 : [[z], B, [z]].map (drop1 z) = [[], B, []] := by
    rw [List.map_cons, List.map_cons, List.map_cons, List.map_nil, drop1_self, drop1_not hzB]
  have h2 := phaseB (fun _ => []) (gNil B) rfl 0 B hB'.2
  rw [Nat.add_zero] at h2
  rw [run_some p1, m1, run_some p2, m2, h2]
  simp
end
end Mg

set_option linter.all false
namespace Mg
section
variable {α : Type} [DecidableEq α]
/-- what is left of the rows -/
def rests (rows : List (List α)) (st : List Nat) : List (List α) := List.zipWith (fun r n => r.drop n) rows st
theorem rests_get {rows : List (List α)} {st : List Nat} {i : Nat} {r : List α} {n : Nat} (h1 : rows[i]? = some r) (h2 : st[i]? = some n) : (rests rows st)[i]? = some (r.drop n) := by
  unfold rests
  rw [List.getElem?_zipWith, h1, h2]
theorem rests_length {rows : List (List α)} {st : List Nat} (h : st.length = rows.length) : (rests rows st).length = rows.length := by
  unfold rests
  rw [List.length_zipWith, h, Nat.min_self]
theorem rests_zero : ∀ rows : List (List α), rests rows (List.replicate rows.length 0) = rows
  | [] => rfl
  | r :: rows => by
    have ih := rests_zero rows
    show (r.drop 0) :: rests rows (List.replicate rows.length 0) = r :: rows
    rw [ih, List.drop_zero]
theorem drop_get {r : List α} {n : Nat} (h : n < r.length) : r.drop n = r[n] :: r.drop (n + 1) := List.drop_eq_getElem_cons h
/-- one turn of the search: the rows ahead give nothing -/
theorem pick_drop0 {f : α → Nat} {rs : List (List α)} {i : Nat} (h : rs[i]? = some []) : pick f (rs.drop i) = pick f (rs.drop (i + 1)) := by
  obtain ⟨hi, e⟩ := List.getElem?_eq_some_iff.mp h
  rw [List.drop_eq_getElem_cons hi, e]
  rfl
theorem pick_drop1 {f : α → Nat} {rs : List (List α)} {i : Nat} {x : α} {t : List α} (h : rs[i]? = some (x :: t)) : pick f (rs.drop i) = if f x = 0 then some x else pick f (rs.drop (i + 1)) := by
  obtain ⟨hi, e⟩ := List.getElem?_eq_some_iff.mp h
  rw [List.drop_eq_getElem_cons hi, e]
  rfl
/-- the counts while the rows are gone through: the first i have been stepped on -/
def half (x : α) (rs : List (List α)) (i : Nat) : List (List α) := (rs.take i).map (drop1 x) ++ rs.drop i
theorem half_zero (x : α) (rs : List (List α)) : half x rs 0 = rs := by unfold half; simp
theorem half_all (x : α) (rs : List (List α)) {i : Nat} (h : rs.length ≤ i) : half x rs i = rs.map (drop1 x) := by
  unfold half
  rw [List.take_of_length_le h, List.drop_eq_nil_of_le h, List.append_nil]
theorem half_split {x : α} {rs : List (List α)} {i : Nat} {r : List α} (h : rs[i]? = some r) : half x rs i = (rs.take i).map (drop1 x) ++ r :: rs.drop (i + 1) ∧ half x rs (i + 1) = (rs.take i).map (drop1 x) ++ drop1 x r :: rs.drop (i + 1) := by
  obtain ⟨hi, e⟩ := List.getElem?_eq_some_iff.mp h
  unfold half
  constructor
  · rw [List.drop_eq_getElem_cons hi, e]
  · rw [List.take_add_one, h, List.map_append]
    simp
theorem cnt_half {x : α} {rs : List (List α)} {i : Nat} {r : List α} (h : rs[i]? = some r) (y : α) : cnt (half x rs (i + 1)) y + r.tail.count y = cnt (half x rs i) y + (drop1 x r).tail.count y := by
  obtain ⟨e1, e2⟩ := half_split (x := x) h
  rw [e1, e2, cnt_append, cnt_append, cnt_cons, cnt_cons]
  omega
theorem set_rests {rows : List (List α)} {st : List Nat} {i n : Nat} {r : List α} (h1 : rows[i]? = some r) (hi : i < st.length) : rests rows (st.set i n) = (rests rows st).set i (r.drop n) := by
  apply List.ext_getElem?
  intro j
  unfold rests
  rw [List.getElem?_zipWith]
  by_cases hj : i = j
  · subst hj
    have hi2 : i < rows.length := (List.getElem?_eq_some_iff.mp h1).1
    rw [List.getElem?_set_self hi, h1, List.getElem?_set_self (by rw [List.length_zipWith]; omega)]
  · rw [List.getElem?_set_ne hj, List.getElem?_set_ne hj, List.getElem?_zipWith]
theorem tot_take_succ {rs : List (List α)} {i : Nat} {r : List α} (h : rs[i]? = some r) : tot (rs.take (i + 1)) = tot (rs.take i) + r.length := by
  unfold tot
  rw [List.take_add_one, h, List.map_append, List.sum_append]
  simp
theorem tot_take_le (rs : List (List α)) (i : Nat) : tot (rs.take i) ≤ tot rs := by
  have e : tot rs = tot (rs.take i) + tot (rs.drop i) := by
    unfold tot
    rw [← List.sum_append, ← List.map_append, List.take_append_drop]
  omega
theorem cnt_take_succ {rs : List (List α)} {i : Nat} {r : List α} (h : rs[i]? = some r) (x : α) : cnt (rs.take (i + 1)) x = cnt (rs.take i) x + r.tail.count x := by
  unfold cnt
  rw [List.take_add_one, h, List.map_append, List.sum_append]
  simp
theorem count_take_succ {r : List α} {j : Nat} {y : α} (h : r[j]? = some y) (x : α) : (r.take (j + 1)).count x = (r.take j).count x + if x = y then 1 else 0 := by
  rw [List.take_add_one, h, List.count_append]
  by_cases e : x = y
  · subst e
    rw [if_pos rfl]
    simp
  · rw [if_neg e]
    have : ¬ y = x := fun z => e z.symm
    simp [this]
theorem drop1_tail_count {x : α} {r : List α} {y : α} : (drop1 x r).tail.count y ≤ r.tail.count y := by
  cases r with
  | nil => exact Nat.le_refl _
  | cons z r =>
    rw [drop1_cons]
    split
    · exact List.Sublist.count_le y (List.tail_sublist r)
    · exact Nat.le_refl _
end
end Mg
namespace Mg
section
variable {α : Type} [DecidableEq α]
theorem pick_congr {f g : α → Nat} (h : ∀ x, f x = 0 ↔ g x = 0) : ∀ rs : List (List α), pick f rs = pick g rs
  | [] => rfl
  | [] :: r => pick_congr h r
  | (x :: t) :: r => by
    unfold pick
    by_cases hx : f x = 0
    · rw [if_pos hx, if_pos ((h x).mp hx)]
    · rw [if_neg hx, if_neg (fun z => hx ((h x).mpr z))]
      exact pick_congr h r
theorem half_set {x : α} {rs : List (List α)} {i : Nat} {r : List α} (h : rs[i]? = some r) : (half x rs i).set i (drop1 x r) = half x rs (i + 1) := by
  obtain ⟨e1, e2⟩ := half_split (x := x) h
  have hi : i < rs.length := (List.getElem?_eq_some_iff.mp h).1
  have hl : ((rs.take i).map (drop1 x)).length = i := by rw [List.length_map, List.length_take]; omega
  rw [e1, e2, List.set_append_right _ _ (by rw [hl]; exact Nat.le_refl _), hl, Nat.sub_self]
  rfl
theorem half_same {x : α} {rs : List (List α)} {i : Nat} {r : List α} (h : rs[i]? = some r) (e : drop1 x r = r) : half x rs (i + 1) = half x rs i := by
  obtain ⟨e1, e2⟩ := half_split (x := x) h
  rw [e1, e2, e]
end
end Mg

set_option linter.all false
namespace Mg
section
variable {α : Type} [DecidableEq α]
/-- what is left behind xs have been taken -/
def after (rs : List (List α)) (xs : List α) : List (List α) := xs.foldl (fun rs x => rs.map (drop1 x)) rs
theorem after_snoc (rs : List (List α)) (xs : List α) (x : α) : after rs (xs ++ [x]) = (after rs xs).map (drop1 x) := by
  unfold after
  rw [List.foldl_append]
  rfl
theorem after_len (rs : List (List α)) : ∀ xs : List α, (after rs xs).length = rs.length := fun xs => by
  unfold after
  induction xs generalizing rs with
  | nil => rfl
  | cons x xs ih => rw [List.foldl_cons, ih, List.length_map]
/-- each one is, of what is left, the one that is due -/
def Good (rs : List (List α)) (xs : List α) : Prop := ∀ i x, xs[i]? = some x → pick (cnt (after rs (xs.take i))) (after rs (xs.take i)) = some x
theorem good_nil (rs : List (List α)) : Good rs [] := fun i x h => by simp at h
theorem good_snoc {rs : List (List α)} {xs : List α} {x : α} (g : Good rs xs) (h : pick (cnt (after rs xs)) (after rs xs) = some x) : Good rs (xs ++ [x]) := fun i y hy => by
  by_cases hi : i < xs.length
  · rw [List.getElem?_append_left hi] at hy
    rw [List.take_append_of_le_length (by omega)]
    exact g i y hy
  · by_cases he : i = xs.length
    · subst he
      rw [List.getElem?_concat_length] at hy
      cases hy
      rw [List.take_append_of_le_length (Nat.le_refl _), List.take_length]
      exact h
    · rw [List.getElem?_eq_none (by rw [List.length_append, List.length_singleton]; omega)] at hy
      cases hy
theorem pick_none {f : α → Nat} : ∀ {rs : List (List α)}, pick f rs = none → ∀ r ∈ rs, ∀ x t, r = x :: t → f x ≠ 0
  | [], _, r, hr, _, _, _ => nomatch hr
  | [] :: rs, h, r, hr, x, t, e => by
    rcases List.mem_cons.mp hr with rfl | hr
    · cases e
    · exact pick_none (rs := rs) h r hr x t e
  | (y :: u) :: rs, h, r, hr, x, t, e => by
    unfold pick at h
    by_cases hy : f y = 0
    · rw [if_pos hy] at h
      cases h
    · rw [if_neg hy] at h
      rcases List.mem_cons.mp hr with rfl | hr
      · cases e
        exact hy
      · exact pick_none (rs := rs) h r hr x t e
/-- the free first ones, row by row -/
def hd1 (f : α → Nat) : List α → List α
  | [] => []
  | x :: _ => if f x = 0 then [x] else []
def heads (f : α → Nat) (rs : List (List α)) : List α := (rs.map (hd1 f)).flatten
theorem heads_succ {f : α → Nat} {rs : List (List α)} {i : Nat} {r : List α} (h : rs[i]? = some r) : heads f (rs.take (i + 1)) = heads f (rs.take i) ++ hd1 f r := by
  unfold heads
  rw [List.take_add_one, h, List.map_append, List.flatten_append]
  simp
theorem hd1_cons (f : α → Nat) (x : α) (t : List α) : hd1 f (x :: t) = if f x = 0 then [x] else [] := rfl
theorem hd1_le (f : α → Nat) (r : List α) : (hd1 f r).length ≤ 1 := by
  cases r with
  | nil => exact Nat.zero_le _
  | cons x t =>
    rw [hd1_cons]
    split
    · exact Nat.le_refl _
    · exact Nat.zero_le _
theorem heads_le (f : α → Nat) : ∀ rs : List (List α), (heads f rs).length ≤ rs.length
  | [] => Nat.le_refl _
  | r :: rs => by
    have h1 := heads_le f rs
    have h2 := hd1_le f r
    show ((hd1 f r) ++ heads f rs).length ≤ _
    rw [List.length_append, List.length_cons]
    omega
theorem pick_heads (f : α → Nat) : ∀ rs : List (List α), pick f rs = (heads f rs)[0]?
  | [] => rfl
  | [] :: rs => by
    show pick f rs = (([] : List α) ++ heads f rs)[0]?
    rw [List.nil_append]
    exact pick_heads f rs
  | (x :: t) :: rs => by
    show _ = ((hd1 f (x :: t)) ++ heads f rs)[0]?
    rw [hd1_cons]
    unfold pick
    by_cases h : f x = 0
    · rw [if_pos h, if_pos h]
      rfl
    · rw [if_neg h, if_neg h, List.nil_append]
      exact pick_heads f rs
theorem filter_drop {x : α} {r : List α} (h : x ∉ r.tail) : r.filter (fun y => decide (¬ y = x)) = drop1 x r := by
  have all : ∀ {t : List α}, x ∉ t → t.filter (fun y => decide (¬ y = x)) = t := fun {t} ht => List.filter_eq_self.mpr fun y hy => decide_eq_true fun e => ht (e ▸ hy)
  cases r with
  | nil => rfl
  | cons y t =>
    rw [List.tail_cons] at h
    rw [drop1_cons, List.filter_cons]
    by_cases e : y = x
    · rw [if_neg (by simp [e]), if_pos e]
      exact all h
    · rw [if_pos (by simp [e]), if_neg e, all h]
theorem cnt_pos {rs : List (List α)} {x : α} : cnt rs x ≠ 0 ↔ ∃ r ∈ rs, x ∈ r.tail := by
  constructor
  · intro h
    by_cases q : ∃ r ∈ rs, x ∈ r.tail
    · exact q
    · exact absurd (cnt_zero.mpr fun r hr hx => q ⟨r, hr, hx⟩) h
  · rintro ⟨r, hr, hx⟩ z
    exact cnt_zero.mp z r hr hx
theorem pick_cnt {rs : List (List α)} {x : α} (h : pick (cnt rs) rs = some x) : ∀ r ∈ rs, x ∉ r.tail := cnt_zero.mp (pick_mem h).1

/-! ### rings -/
variable {β : Type}
/-- a leaning: the row at i begins with a, b stands behind, l is its label -/
def Leans (rs : List (List α)) (ls : List β) (x : α × α × β) : Prop := ∃ (i : Nat) (r : List α), rs[i]? = some (x.1 :: r) ∧ x.2.1 ∈ r ∧ ls[i]? = some x.2.2
structure RingOk (rs : List (List α)) (ls : List β) (ring : List (α × α × β)) : Prop where
  lean : ∀ x ∈ ring, Leans rs ls x
  cyc : ∃ c T, ring.map (·.1) = c :: T ∧ ring.map (·.2.1) = T ++ [c] ∧ (c :: T).Nodup ∧ T ≠ []
/-- the way so far: ns were met, c comes next -/
structure Way (rs : List (List α)) (ls : List β) (path : List (α × α × β)) (ns : List α) (c : α) : Prop where
  lean : ∀ x ∈ path, Leans rs ls x
  fst : path.map (·.1) = (ns ++ [c]).tail
  snd : path.map (·.2.1) = ns
  nd : ns.Nodup
  hd : ∀ x ∈ ns ++ [c], ∃ r ∈ rs, ∃ t, r = x :: t
theorem Way.step {rs : List (List α)} {ls : List β} {path : List (α × α × β)} {ns : List α} {c a : α} {l : β} (w : Way rs ls path ns c) (hc : c ∉ ns) (hl : Leans rs ls (a, c, l)) : Way rs ls (path ++ [(a, c, l)]) (ns ++ [c]) a where
  lean := fun x hx => by
    rcases List.mem_append.mp hx with z | z
    · exact w.lean x z
    · rw [List.mem_singleton.mp z]; exact hl
  fst := by
    rw [List.map_append, w.fst]
    show (ns ++ [c]).tail ++ [a] = _
    cases ns with
    | nil => rfl
    | cons n ns => rfl
  snd := by
    rw [List.map_append, w.snd]
    rfl
  nd := by
    rw [List.nodup_append]
    refine ⟨w.nd, by simp, fun x hx y hy e => ?_⟩
    rw [List.mem_singleton.mp hy] at e
    exact hc (e ▸ hx)
  hd := fun x hx => by
    rcases List.mem_append.mp hx with z | z
    · exact w.hd x z
    · rw [List.mem_singleton.mp z]
      obtain ⟨i, r, h1, _, _⟩ := hl
      exact ⟨a :: r, List.mem_of_getElem? h1, r, rfl⟩
theorem Way.ring {rs : List (List α)} {ls : List β} {path : List (α × α × β)} {ns : List α} {c : α} {j : Nat} (w : Way rs ls path ns c) (hnd : ∀ r ∈ rs, r.Nodup) (hj : ns[j]? = some c) : RingOk rs ls (path.drop j).reverse := by
  obtain ⟨hjl, ej⟩ := List.getElem?_eq_some_iff.mp hj
  have hf : ((path.drop j).reverse).map (·.1) = c :: (ns.drop (j + 1)).reverse := by
    rw [List.map_reverse, List.map_drop, w.fst, List.drop_tail, List.drop_append_of_le_length (by omega), List.reverse_append]
    rfl
  have hs : ((path.drop j).reverse).map (·.2.1) = (ns.drop (j + 1)).reverse ++ [c] := by
    rw [List.map_reverse, List.map_drop, w.snd, List.drop_eq_getElem_cons hjl, ej, List.reverse_cons]
  have hcn : c ∉ ns.drop (j + 1) := fun hm => by
    have nd := w.nd
    rw [← List.take_append_drop j ns, List.drop_eq_getElem_cons hjl, ej, List.nodup_append] at nd
    exact (List.nodup_cons.mp nd.2.1).1 hm
  refine ⟨fun x hx => w.lean x (List.mem_of_mem_drop (List.mem_reverse.mp hx)), c, _, hf, hs, List.nodup_cons.mpr ⟨fun z => hcn (List.mem_reverse.mp z), ?_⟩, fun z => ?_⟩
  · exact List.pairwise_reverse.mpr ((List.Sublist.nodup (List.drop_sublist _ _) w.nd).imp fun h => Ne.symm h)
  · -- one leaning alone: its first one would stand behind itself
    rw [z] at hf hs
    cases hp : (path.drop j).reverse with
    | nil => rw [hp] at hf; cases hf
    | cons x r =>
      rw [hp] at hf hs
      have e1 : x.1 = c := (List.cons.inj hf).1
      have e2 : x.2.1 = c := (List.cons.inj hs).1
      obtain ⟨i, t, h1, h2, _⟩ := w.lean x (List.mem_of_mem_drop (List.mem_reverse.mp (by rw [hp]; exact List.mem_cons_self)))
      rw [e1] at h1
      rw [e2] at h2
      exact (List.nodup_cons.mp (hnd _ (List.mem_of_getElem? h1))).1 h2
theorem nodup_le : ∀ (xs ys : List α), xs.Nodup → (∀ x ∈ xs, x ∈ ys) → xs.length ≤ ys.length
  | [], _, _, _ => Nat.zero_le _
  | x :: xs, ys, h, hs => by
    obtain ⟨h1, h2⟩ := List.nodup_cons.mp h
    have hx := hs x List.mem_cons_self
    have ih := nodup_le xs (ys.erase x) h2 fun y hy => (List.mem_erase_of_ne (fun e => h1 (by rw [← e]; exact hy))).mpr (hs y (List.mem_cons_of_mem _ hy))
    rw [List.length_erase_of_mem hx] at ih
    have : 0 < ys.length := List.length_pos_of_mem hx
    rw [List.length_cons]
    omega
theorem Way.le {rs : List (List α)} {ls : List β} {path : List (α × α × β)} {ns : List α} {c : α} (w : Way rs ls path ns c) : ns.length ≤ rs.length := by
  have h := nodup_le ns ((rs.map fun r => r.head?.toList).flatten) w.nd fun x hx => by
    obtain ⟨r, hr, t, e⟩ := w.hd x (List.mem_append_left _ hx)
    exact List.mem_flatten.mpr ⟨[x], List.mem_map.mpr ⟨r, hr, by rw [e]; rfl⟩, by simp⟩
  have le : ∀ l : List (List α), ((l.map fun r => r.head?.toList).flatten).length ≤ l.length := fun l => by
    induction l with
    | nil => exact Nat.le_refl _
    | cons r l ih =>
      rw [List.map_cons, List.flatten_cons, List.length_append, List.length_cons]
      have : (r.head?.toList).length ≤ 1 := by cases r <;> simp
      omega
  exact Nat.le_trans h (le rs)
theorem Way.lt {rs : List (List α)} {ls : List β} {path : List (α × α × β)} {ns : List α} {c : α} (w : Way rs ls path ns c) (hc : c ∉ ns) (hr : ∃ a l, Leans rs ls (a, c, l)) : ns.length < rs.length := by
  obtain ⟨a, l, hl⟩ := hr
  have := (w.step hc hl).le
  rw [List.length_append, List.length_singleton] at this
  omega
end
end Mg

set_option linter.all false
namespace Mg
section
variable {α : Type} [DecidableEq α] {β : Type}
theorem RingOk.le {rs : List (List α)} {ls : List β} {ring : List (α × α × β)} (h : RingOk rs ls ring) : ring.length ≤ rs.length := by
  obtain ⟨c, T, e1, _, nd, _⟩ := h.cyc
  have hl : ring.length = (c :: T).length := by rw [← e1, List.length_map]
  have h2 := nodup_le (c :: T) ((rs.map fun r => r.head?.toList).flatten) nd fun x hx => by
    rw [← e1] at hx
    obtain ⟨y, hy, rfl⟩ := List.mem_map.mp hx
    obtain ⟨i, r, h1, _, _⟩ := h.lean y hy
    exact List.mem_flatten.mpr ⟨[y.1], List.mem_map.mpr ⟨_, List.mem_of_getElem? h1, rfl⟩, by simp⟩
  have le : ∀ l : List (List α), ((l.map fun r => r.head?.toList).flatten).length ≤ l.length := fun l => by
    induction l with
    | nil => exact Nat.le_refl _
    | cons r l ih =>
      rw [List.map_cons, List.flatten_cons, List.length_append, List.length_cons]
      have : (r.head?.toList).length ≤ 1 := by cases r <;> simp
      omega
  have := le rs
  omega
theorem RingOk.two {rs : List (List α)} {ls : List β} {ring : List (α × α × β)} (h : RingOk rs ls ring) : 2 ≤ ring.length := by
  obtain ⟨c, T, e1, _, _, ne⟩ := h.cyc
  have hl : ring.length = (c :: T).length := by rw [← e1, List.length_map]
  cases T with
  | nil => exact absurd rfl ne
  | cons x T => rw [hl, List.length_cons, List.length_cons]; omega
theorem RingOk.next {rs : List (List α)} {ls : List β} {ring : List (α × α × β)} (h : RingOk rs ls ring) {m : Nat} {x : α × α × β} (hx : ring[m]? = some x) : ∃ y, ring[(m + 1) % ring.length]? = some y ∧ y.1 = x.2.1 := by
  obtain ⟨c, T, e1, e2, _, _⟩ := h.cyc
  have hl : ring.length = T.length + 1 := by rw [← List.length_cons (a := c), ← e1, List.length_map]
  have hm : m < ring.length := (List.getElem?_eq_some_iff.mp hx).1
  have hs : (T ++ [c])[m]? = some x.2.1 := by rw [← e2, List.getElem?_map, hx]; rfl
  have hlt : (m + 1) % ring.length < ring.length := Nat.mod_lt _ (by omega)
  have hf : (c :: T)[(m + 1) % ring.length]? = some (ring[(m + 1) % ring.length]).1 := by rw [← e1, List.getElem?_map, List.getElem?_eq_getElem hlt]; rfl
  refine ⟨_, List.getElem?_eq_getElem hlt, ?_⟩
  have e : (c :: T)[(m + 1) % ring.length]? = (T ++ [c])[m]? := by
    by_cases hm1 : m + 1 = ring.length
    · rw [hm1, Nat.mod_self]
      have : m = T.length := by omega
      subst this
      rw [List.getElem?_concat_length]
      rfl
    · rw [Nat.mod_eq_of_lt (by omega), List.getElem?_cons_succ, List.getElem?_append_left (by omega)]
  rw [e, hs] at hf
  exact (Option.some.inj hf).symm
theorem RingOk.nd {rs : List (List α)} {ls : List β} {ring : List (α × α × β)} (h : RingOk rs ls ring) : (ring.map (·.1)).Nodup := by
  obtain ⟨c, T, e1, _, nd, _⟩ := h.cyc
  rw [e1]
  exact nd
/-- the way that is gone to the end is one alone -/
theorem good_same {rs : List (List α)} : ∀ {xs ys : List α}, Good rs xs → Good rs ys → pick (cnt (after rs xs)) (after rs xs) = none → pick (cnt (after rs ys)) (after rs ys) = none → xs = ys := by
  have pre : ∀ {xs ys : List α} (n : Nat), Good rs xs → Good rs ys → n ≤ xs.length → n ≤ ys.length → xs.take n = ys.take n := by
    intro xs ys n hx hy
    induction n with
    | zero => intro _ _; rfl
    | succ n ih =>
      intro h1 h2
      have e := ih (by omega) (by omega)
      have a := hx n xs[n] (List.getElem?_eq_getElem (by omega))
      have b := hy n ys[n] (List.getElem?_eq_getElem (by omega))
      rw [e, b] at a
      rw [List.take_add_one, List.take_add_one, e, List.getElem?_eq_getElem (show n < xs.length by omega), List.getElem?_eq_getElem (show n < ys.length by omega), Option.some.inj a]
  intro xs ys hx hy sx sy
  have key : ∀ {xs ys : List α}, Good rs xs → Good rs ys → pick (cnt (after rs xs)) (after rs xs) = none → ys.length ≤ xs.length := fun {xs ys} hx hy sx => by
    by_cases h : ys.length ≤ xs.length
    · exact h
    · have e := pre xs.length hx hy (Nat.le_refl _) (by omega)
      rw [List.take_length] at e
      have b := hy xs.length ys[xs.length] (List.getElem?_eq_getElem (by omega))
      rw [← e, sx] at b
      cases b
  have h1 := key hx hy sx
  have h2 := key hy hx sy
  have e := pre xs.length hx hy (Nat.le_refl _) h2
  rw [List.take_length, List.take_of_length_le h1] at e
  exact e
theorem pick_empty {f : α → Nat} : ∀ {rs : List (List α)}, (∀ r ∈ rs, r = []) → pick f rs = none
  | [], _ => rfl
  | r :: rs, h => by
    rw [h r List.mem_cons_self]
    exact pick_empty (rs := rs) fun s hs => h s (List.mem_cons_of_mem _ hs)
end
end Mg

set_option Elab.async false
set_option linter.all false
set_option maxRecDepth 100000
set_option maxHeartbeats 4000000
namespace L2
open PySem PySem.Spec PyProof.Rows

/-! ### an untracked object is taken into the abstract heap; several records turn -/
section
variable {X : Cx} {pins : List (Addr × Obj)} {σ : St} {H : Hp} {s : Shared} {h' : Heap}
theorem Inv.adopt {D : Addr} {o : HO} (I : Inv X pins σ H s) (hn : H D = none) (hL : D ≠ X.env.locals) (h0 : X.s₀.heap.objs.size ≤ D)
    (hc : ∀ x c, X.env.cells.lookup x = some c → c ≠ D) (hp : ∀ p ∈ X.pn ++ pins, p.1 ≠ D) (new : ObjOk X.prog X.w (upd H D o) s.heap D o) : Inv X pins σ (upd H D o) s := by
  have ne : ∀ b u, H b = some u → b ≠ D := fun b u e => ne_of_none e hn
  refine ⟨I.ok, I.os, I.bare, ⟨I.base.keep, I.base.slot, fun b u e n hx => ?_, I.base.there, fun b xs e => ?_, fun b u v e => ?_, fun b ps e => ?_⟩, I.loc, I.cell, ?_, fun x c e => ?_, fun p hp' => ?_, fun b u e => ?_, I.len⟩
  · rw [upd_ne (Nat.ne_of_lt (Nat.lt_of_lt_of_le (Heap.lt_size e) h0))]; exact I.base.free b u e n hx
  · have q := I.base.tups b xs e
    rw [upd_ne (ne _ _ q)]; exact q
  · have q := I.base.frzs b u v e
    rw [upd_ne (ne _ _ q)]; exact q
  · obtain ⟨m, q⟩ := I.base.tbls b ps e
    exact ⟨m, by rw [upd_ne (ne _ _ q)]; exact q⟩
  · rw [upd_ne (Ne.symm hL)]; exact I.free
  · rw [upd_ne (hc x c e)]; exact I.freeC x c e
  · obtain ⟨e, n, r⟩ := I.pin p hp'
    exact ⟨e, by rw [upd_ne (hp p hp')]; exact n, r⟩
  · by_cases hb : b = D
    · subst hb; rw [upd_same] at e; cases e; exact new
    · rw [upd_ne hb] at e
      exact (I.hok b u e).stay (fun _ _ _ q => q) (fun c q => by rw [upd_ne (ne _ _ q)]; exact q) fun c xs q => by rw [upd_ne (ne _ _ q)]; exact q
theorem Inv.turns {t' : Nat} {ch : List Addr} (I : Inv X pins σ H s) (k : ∀ b o, b ∉ ch → s.heap.get? b = some o → h'.get? b = some o) (hf : ∀ b ∈ ch, FpOk X pins H b) :
    Inv X pins σ H { s with heap := h', toks := t' } := by
  have nit : ∀ b u, H b = some u → b ∉ ch := fun b u e z => by rw [(hf b z).1] at e; cases e
  refine I.step (g' := s.gens) (d' := s.drawn) (ch := ch) (fun b hb => ?_) (fun b o _ _ hc e _ => k b o hc e) (fun b o _ _ hc e _ => ⟨o.slots, k b o hc e⟩) (fun _ _ _ _ n => n)
    (fun b o hc e => ⟨o, k b o hc e⟩) (fun _ _ e => e) (fun _ _ _ e => e) (fun b ps e => ⟨#[], by rw [e]; simp⟩) (fun m hm => ?_) (fun b u e => ?_) I.bare
  · obtain ⟨f0, f1, f2, f3, f4, f5⟩ := hf b hb
    exact ⟨f3, f1, f4, f5⟩
  · obtain ⟨o, es, ep, ho, r⟩ := hm
    exact ⟨o, es, ep, k _ o (fun z => (hf _ z).2.1 rfl) ho, r⟩
  · refine (I.hok b u e).stay (fun c v hc q => k c v ?_ q) (fun _ q => q) fun _ _ q => q
    rcases hc with z | z
    · rw [z]; exact nit b u e
    · exact nit c _ z
end

/-! ### the closure of a comprehension -/
theorem closure_go {env : Env} (f : Str × NameKind → List (Str × Addr) → Sem (ForInStep (List (Str × Addr))))
    (hf : ∀ name kind cs, f (name, kind) cs = if kind == .free then (do let a ← cellOf env name; pure (.yield ((name, a) :: cs))) else pure (.yield cs)) :
    ∀ (names : List (Str × NameKind)) (cs : List (Str × Addr)), (∀ n, (n, NameKind.free) ∈ names → ∃ c, env.cells.lookup n = some c) → (∀ x c, cs.lookup x = some c → env.cells.lookup x = some c) →
      ∃ cl, forIn names cs f = pure cl ∧ (∀ x c, cl.lookup x = some c → env.cells.lookup x = some c) ∧ (∀ x, (∃ c, cs.lookup x = some c) ∨ (x, NameKind.free) ∈ names → ∃ c, cl.lookup x = some c)
  | [], cs, _, h => ⟨cs, rfl, h, fun x hx => hx.elim (fun z => z) fun z => nomatch z⟩
  | (n, k) :: r, cs, hn, h => by
    by_cases hk : k = .free
    · subst hk
      obtain ⟨c, hc⟩ := hn n List.mem_cons_self
      obtain ⟨cl, e, h1, h2⟩ := closure_go f hf r ((n, c) :: cs) (fun m hm => hn m (List.mem_cons_of_mem _ hm)) (fun x d hx => by
        by_cases hxn : x = n
        · subst hxn
          rw [List.lookup_cons, beq_self_eq_true] at hx
          cases hx
          exact hc
        · rw [List.lookup_cons, beq_eq_false_iff_ne.mpr hxn] at hx
          exact h x d hx)
      refine ⟨cl, ?_, h1, fun x hx => ?_⟩
      · rw [List.forIn_cons, hf]
        have e1 : cellOf env n = pure c := by unfold cellOf; rw [hc]
        rw [e1]
        exact e
      · rcases hx with ⟨d, hd⟩ | hx
        · refine h2 x (.inl ?_)
          by_cases hxn : x = n
          · subst hxn
            exact ⟨c, by rw [List.lookup_cons, beq_self_eq_true]⟩
          · exact ⟨d, by rw [List.lookup_cons, beq_eq_false_iff_ne.mpr hxn]; exact hd⟩
        · rcases List.mem_cons.mp hx with e2 | hx
          · obtain rfl : x = n := (Prod.mk.inj e2).1
            exact h2 x (.inl ⟨c, by rw [List.lookup_cons, beq_self_eq_true]⟩)
          · exact h2 x (.inr hx)
    · have hkb : (k == NameKind.free) = false := beq_eq_false_iff_ne.mpr hk
      obtain ⟨cl, e, h1, h2⟩ := closure_go f hf r cs (fun m hm => hn m (List.mem_cons_of_mem _ hm)) h
      refine ⟨cl, ?_, h1, fun x hx => h2 x ?_⟩
      · rw [List.forIn_cons, hf, hkb]
        exact e
      · rcases hx with hx | hx
        · exact .inl hx
        · rcases List.mem_cons.mp hx with e2 | hx
          · cases e2
            exact absurd rfl hk
          · exact .inr hx
theorem closure_of {env : Env} {scope : Scope} (hn : ∀ n, (n, NameKind.free) ∈ scope.names → ∃ c, env.cells.lookup n = some c) :
    ∃ cl, closureFor scope env = pure cl ∧ (∀ x c, cl.lookup x = some c → env.cells.lookup x = some c) ∧ ∀ x, (x, NameKind.free) ∈ scope.names → ∃ c, cl.lookup x = some c := by
  obtain ⟨cl, e, h1, h2⟩ := closure_go (env := env) (fun x cs => match x with | (name, kind) => if kind == .free then (do let a ← cellOf env name; pure (.yield ((name, a) :: cs))) else pure (.yield cs)) (fun _ _ _ => rfl) scope.names [] hn (fun x c z => nomatch z)
  refine ⟨cl, ?_, h1, fun x hx => h2 x (.inr hx)⟩
  unfold closureFor
  exact Eq.trans (congrArg (fun t : Sem (List (Str × Addr)) => t >>= fun r => pure r) e) rfl
end L2

set_option Elab.async false
set_option linter.all false
set_option maxRecDepth 100000
set_option maxHeartbeats 4000000
namespace L2
open PySem PySem.Spec PyProof.Rows

/-! ### a list comprehension: one for, at most one if; no exception leaves its block -/
def relS (scope sc : Scope) : Scope :=
  { scope with names := scope.names.map fun (n, k) => if (k == .free && sc.kind == .function && sc.names.lookup n == some .cell) then (n, .cell) else (n, k) }
def compOk (sc scope : Scope) : Bool :=
  decide (scope.kind = .function) && (scope.names.all (fun p => decide (p.2 ≠ .cell)) && (scope.names.all (fun p => decide (p.2 = .local → scope.names.lookup p.1 = some .local)) &&
  scope.names.all (fun p => decide (p.2 = .free → (sc.names.lookup p.1 = some .cell ∨ sc.names.lookup p.1 = some .free)))))
def frOk (N : List Str) (scope : Scope) (fr : List (Str × Nat)) : Bool := fr.all fun p => decide (N[p.2]? = some p.1) && decide (scope.names.lookup p.1 = some .free)
structure CompOk (sc scope : Scope) : Prop where
  kind : scope.kind = .function
  cell : ∀ p ∈ scope.names, p.2 ≠ .cell
  loc : ∀ p ∈ scope.names, p.2 = .local → scope.names.lookup p.1 = some .local
  free : ∀ n, (n, NameKind.free) ∈ scope.names → sc.names.lookup n = some .cell ∨ sc.names.lookup n = some .free
theorem compOk_of {sc scope : Scope} (h : compOk sc scope = true) : CompOk sc scope := by
  unfold compOk at h
  rw [Bool.and_eq_true, Bool.and_eq_true, Bool.and_eq_true, List.all_eq_true, List.all_eq_true, List.all_eq_true] at h
  obtain ⟨h1, h2, h3, h4⟩ := h
  exact ⟨of_decide_eq_true h1, fun p hp => of_decide_eq_true (h2 p hp), fun p hp => of_decide_eq_true (h3 p hp), fun n hn => of_decide_eq_true (h4 (n, .free) hn) rfl⟩
theorem lookup_mem {α : Type} {x : Str} {v : α} : ∀ {l : List (Str × α)}, l.lookup x = some v → (x, v) ∈ l
  | [], h => nomatch h
  | (n, k) :: r, h => by
    rw [List.lookup_cons] at h
    by_cases hx : x = n
    · subst hx
      rw [beq_self_eq_true] at h
      cases h
      exact List.mem_cons_self
    · rw [beq_eq_false_iff_ne.mpr hx] at h
      exact List.mem_cons_of_mem _ (lookup_mem h)
theorem relabel_lookup {env : Env} {x : Str} : ∀ {names : List (Str × NameKind)} {k : NameKind},
    (names.map fun (n, k) => if (k == NameKind.free && env.scope.kind == .function && env.kindOf n == some .cell) then (n, NameKind.cell) else (n, k)).lookup x = some k →
    (k = .cell ∧ ((x, NameKind.free) ∈ names ∨ (x, NameKind.cell) ∈ names)) ∨ (x, k) ∈ names
  | [], _, h => nomatch h
  | (n, j) :: r, k, h => by
    have ih := @relabel_lookup env x r k
    rw [List.map_cons] at h
    by_cases hc : (j == NameKind.free && env.scope.kind == .function && env.kindOf n == some .cell) = true
    · simp only [hc, if_true] at h
      rw [List.lookup_cons] at h
      by_cases hx : x = n
      · subst hx
        rw [beq_self_eq_true] at h
        cases h
        have hj : j = .free := by
          rw [Bool.and_eq_true, Bool.and_eq_true] at hc
          exact beq_iff_eq.mp hc.1.1
        subst hj
        exact .inl ⟨rfl, .inl List.mem_cons_self⟩
      · rw [beq_eq_false_iff_ne.mpr hx] at h
        rcases ih h with ⟨e, z | z⟩ | z
        · exact .inl ⟨e, .inl (List.mem_cons_of_mem _ z)⟩
        · exact .inl ⟨e, .inr (List.mem_cons_of_mem _ z)⟩
        · exact .inr (List.mem_cons_of_mem _ z)
    · simp only [hc] at h
      rw [if_neg Bool.false_ne_true, List.lookup_cons] at h
      by_cases hx : x = n
      · subst hx
        rw [beq_self_eq_true] at h
        cases h
        exact .inr List.mem_cons_self
      · rw [beq_eq_false_iff_ne.mpr hx] at h
        rcases ih h with ⟨e, z | z⟩ | z
        · exact .inl ⟨e, .inl (List.mem_cons_of_mem _ z)⟩
        · exact .inl ⟨e, .inr (List.mem_cons_of_mem _ z)⟩
        · exact .inr (List.mem_cons_of_mem _ z)
theorem relabel_free {env : Env} {x : Str} : ∀ {names : List (Str × NameKind)}, names.lookup x = some .free →
    (names.map fun (n, k) => if (k == NameKind.free && env.scope.kind == .function && env.kindOf n == some .cell) then (n, NameKind.cell) else (n, k)).lookup x = some .cell ∨
    (names.map fun (n, k) => if (k == NameKind.free && env.scope.kind == .function && env.kindOf n == some .cell) then (n, NameKind.cell) else (n, k)).lookup x = some .free
  | [], h => nomatch h
  | (n, j) :: r, h => by
    have ih := @relabel_free env x r
    rw [List.map_cons]
    rw [List.lookup_cons] at h
    by_cases hx : x = n
    · subst hx
      rw [beq_self_eq_true] at h
      cases h
      by_cases hc : (NameKind.free == NameKind.free && env.scope.kind == .function && env.kindOf x == some .cell) = true
      · simp only [hc, if_true]
        rw [List.lookup_cons, beq_self_eq_true]
        exact .inl rfl
      · simp only [hc]
        rw [if_neg Bool.false_ne_true, List.lookup_cons, beq_self_eq_true]
        exact .inr rfl
    · rw [beq_eq_false_iff_ne.mpr hx] at h
      by_cases hc : (j == NameKind.free && env.scope.kind == .function && env.kindOf n == some .cell) = true
      · simp only [hc, if_true]
        rw [List.lookup_cons, beq_eq_false_iff_ne.mpr hx]
        exact ih h
      · simp only [hc]
        rw [if_neg Bool.false_ne_true, List.lookup_cons, beq_eq_false_iff_ne.mpr hx]
        exact ih h
end L2

set_option Elab.async false
set_option linter.all false
set_option maxRecDepth 100000
set_option maxHeartbeats 4000000
namespace L2
open PySem PySem.Spec PyProof.Rows

/-! ### the turns of a comprehension, with the step ahead of the store -/
theorem compLoop_go {prog : Program} {w : World} {A : Around} {R : Result → Shared → Prop} {s : Shared} {elt target iter : Expr} {ifs : List Expr} {scope : Scope} {pos : Pos} {it acc : Value} {env : Env} (I : Nat → Shared → Prop)
    (turn : ∀ n s, I n s → wpAny (model prog w) A (pyNext it) (fun r s₁ => match r with
      | none => R (.ok .next) s₁
      | some v => wpAny (model prog w) A (letOwnedTupleGo target it v) (fun _ s₀ => wpAny (model prog w) A (assign target env v) (fun _ s₂ =>
          wpAny (model prog w) A (forIn ifs true fun c r => if r = true then do let ok ← isTrue c env (eval c env); pure (ForInStep.yield ok) else pure (ForInStep.yield r)) (fun ok s₃ =>
            if ok = true then wpAny (model prog w) A (eval elt env) (fun x s₄ =>
              wpAny (model prog w) A (call (.builtin "list.append") [acc, x]) (fun _ s₅ => ∃ m, m < n ∧ I m s₅) (fun _ _ => False) s₄) (fun _ _ => False) s₃
            else ∃ m, m < n ∧ I m s₃) (fun _ _ => False) s₂) (fun _ _ => False) s₀) (fun _ _ => False) s₁) (fun _ _ => False) s)
    (n : Nat) (h : I n s) : codeAny (model prog w) A (.compLoop (.ListComp elt [⟨target, iter, ifs, 0⟩] scope pos) 0 it acc env) R s := by
  refine codeAny_loop rfl I (fun n s hI => ?_) n h
  show wpAny _ A ((compTurn (.ListComp elt [⟨target, iter, ifs, 0⟩] scope pos) 0 it acc env).onRaise (fun x => do noteFrame x env; theTreesLotGoes x)) _ _ s
  refine wpAny_noted ?_
  rw [compTurn_list]
  refine wpAny_bind (wpAny_standAt (wpAny_bind (wpAny_mono (turn n s hI) (fun r s₁ h₁ => ?_) fun _ _ h' => h'.elim)))
  cases r with
  | none => exact wpAny_pure h₁
  | some v =>
    refine wpAny_bind (wpAny_mono h₁ (fun _ s₀ h₀ => ?_) fun _ _ h' => h'.elim)
    refine wpAny_bind (wpAny_mono h₀ (fun _ s₂ h₂ => wpAny_bind (wpAny_mono h₂ (fun ok s₃ h₃ => ?_) fun _ _ h' => h'.elim)) fun _ _ h' => h'.elim)
    cases ok with
    | false => exact wpAny_pure ⟨rfl, h₃⟩
    | true =>
      exact wpAny_bind (wpAny_bind (wpAny_mono h₃ (fun x s₄ h₄ => wpAny_bind (wpAny_mono h₄ (fun _ s₅ h₅ => wpAny_pure (wpAny_pure ⟨rfl, h₅⟩)) fun _ _ h' => h'.elim)) fun _ _ h' => h'.elim))

/-- the context of a comprehension's block -/
def cxComp (X : Cx) (scope : Scope) (N : List Str) (cl : List (Str × Addr)) (C : Addr) (s : Shared) (H : Hp) (fp : List Addr) (pins : List (Addr × Obj)) : Cx where
  prog := X.prog
  w := X.w
  K := X.K
  mg := X.mg
  base := X.base
  A := X.A
  N := N
  s₀ := s
  H₀ := H
  env := compEnvC scope cl C X.env
  outer := X.stack
  stack := X.stack
  ex := fp
  fn := fun _ => false
  calm := X.calm
  pn := X.pn ++ pins
  xe := fun _ _ => False

/-- the tests of a clause -/
def PTs (Y : Cx) (ifs : List Expr) (tc : TT) : Prop :=
  ∀ (pins : List (Addr × Obj)) (s : Shared) (σ : St) (H : Hp) (Q : Bool → Hp → Prop), Inv Y pins σ H s → tc σ H Q →
    wpAny (model Y.prog Y.w) Y.A (forIn ifs true fun c r => if r = true then do let ok ← isTrue c Y.env (eval c Y.env); pure (ForInStep.yield ok) else pure (ForInStep.yield r)) (TP Y pins σ Q) Y.xe s
def tNoIf : TT := fun _ H Q => Q true H
theorem pts_nil {Y : Cx} : PTs Y [] tNoIf := fun pins s σ H Q I h => wpAny_tests_nil ⟨H, I, h⟩
theorem pts_one {Y : Cx} {c : Expr} {tc : TT} (h : PT Y c tc) : PTs Y [c] tc := fun pins s σ H Q I hw => wpAny_tests_one (h pins s σ H Q I hw)

/-- a target that stores the first n slots alone -/
def OwnG (n : Nat) (g : TG) : Prop := ∀ v σ H (Q Q' : St → Hp → Prop), (∀ σ2 H2, Q σ2 H2 → σ2.length = σ.length → (∀ j, n ≤ j → σ2[j]? = σ[j]?) → Q' σ2 H2) → g v σ H Q → g v σ H Q'
def OwnGs (n : Nat) (g : TGs) : Prop := ∀ v σ H (Q Q' : St → Hp → Prop), (∀ σ2 H2, Q σ2 H2 → σ2.length = σ.length → (∀ j, n ≤ j → σ2[j]? = σ[j]?) → Q' σ2 H2) → g v σ H Q → g v σ H Q'
theorem own_name {n i : Nat} (h : i < n) : OwnG n (gName i) := fun v σ H Q Q' f q => f _ _ q (by simp) fun j hj => List.getElem?_set_ne (by omega)
theorem owns_nil {n : Nat} : OwnGs n gNil := fun v σ H Q Q' f q => ⟨q.1, f _ _ q.2 rfl fun _ _ => rfl⟩
theorem owns_cons {n : Nat} {t : TG} {u : TGs} (h1 : OwnG n t) (h2 : OwnGs n u) : OwnGs n (gCons t u) := fun vs σ H Q Q' f q => by
  obtain ⟨v, r, e, q⟩ := q
  exact ⟨v, r, e, h1 _ _ _ _ _ (fun σ' H' q1 l1 k1 => h2 _ _ _ _ _ (fun σ2 H2 q2 l2 k2 => f σ2 H2 q2 (l2.trans l1) fun j hj => (k2 j hj).trans (k1 j hj)) q1) q⟩
theorem own_tup {K : PySem.W.Frag} {n m : Nat} {t : TGs} (h : OwnGs n t) : OwnG n (gTup K m t) := fun v σ H Q Q' f q => by
  obtain ⟨a, xs, e, hq, hl, q⟩ := q
  exact ⟨a, xs, e, hq, hl, h _ _ _ _ _ f q⟩

structure CompR (Y : Cx) (tg : Expr) (ifs : List Expr) (elt : Expr) (g : TG) (tc : TT) (te : TE) : Prop where
  tg : PG Y tg g
  ts : PTs Y ifs tc
  el : PE Y elt te

/-- the block's names at a turn's start: its own are unset, then the free ones -/
def stC (n : Nat) (fr : List (Str × Nat)) (σ : St) : St := List.replicate n none ++ fr.map fun p => (σ[p.2]?).join
def tTurns (n : Nat) (fr : List (Str × Nat)) (g : TG) (tc : TT) (te : TE) (σ : St) (J : It) (H : Hp) (F : List V → Hp → Prop) : Prop :=
  ∃ W : Nat → Nat → List V → Hp → Prop, (∃ m, W 0 m [] H) ∧ ∀ i m ys H, W i m ys H →
    (J.stop i H ∧ F ys H) ∨ (J.go i H ∧ ∃ Nx : List V → Hp → Prop, (∀ ys' H', Nx ys' H' → ∃ m', m' < m ∧ W (i + 1) m' ys' H') ∧ ∀ x H', J.yld i H x H' → g x (stC n fr σ) H' fun σ2 H2 => tc σ2 H2 fun b H3 =>
      if b = true then te σ2 H3 fun y H4 => ys.length < sizeLine ∧ Nx (ys ++ [y]) H4 else Nx ys H3)
def tComp (n : Nat) (fr : List (Str × Nat)) (wi : TI) (g : TG) (tc : TT) (te : TE) : TE := fun σ H Q => wi σ H fun J H1 => tTurns n fr g tc te σ J H1 fun ys H2 => ∀ p, H2 p = none → Q (.ref p) (upd H2 p (.lst ys))

abbrev lobj (its : List Value) (n : Nat) : Obj := { cls := .type "list", data := .seq its.toArray n }

section
variable {X : Cx} {elt iter tg : Expr} {ifs : List Expr} {scope sc : Scope} {pos : Pos} {own N : List Str} {fr : List (Str × Nat)} {g : TG} {tc : TT} {te : TE} {wi : TI}

theorem comp_cxok {pins : List (Addr × Obj)} {σ : St} {H : Hp} {s : Shared} {cl : List (Str × Addr)} {C : Addr} {fp : List Addr} {N' : List Str} (I : Inv X pins σ H s) (ho : CompOk X.env.scope scope)
    (h1 : ∀ x c, cl.lookup x = some c → X.env.cells.lookup x = some c) (h2 : ∀ x, (x, NameKind.free) ∈ scope.names → ∃ c, cl.lookup x = some c) (hf : ∀ b ∈ fp, FpOk X pins H b) (hlt : ∀ b ∈ fp, b < s.heap.objs.size) (hC : s.heap.objs.size ≤ C) :
    (cxComp X scope N' cl C s H fp pins).Ok where
  mod := I.ok.mod
  kind := ho.kind
  glob := I.ok.glob
  blt := I.ok.blt
  above := hC
  inj := fun x y c e1 e2 => I.ok.inj x y c (h1 x c e1) (h1 y c e2)
  has := fun x hx => by
    have go : ∀ k, (k = .cell ∨ k = .free) → (relabel scope X.env).names.lookup x = some k → ∃ c, cl.lookup x = some c := fun k hk e => by
      rcases relabel_lookup (env := X.env) e with ⟨_, z | z⟩ | z
      · exact h2 x z
      · exact absurd rfl (ho.cell _ z)
      · rcases hk with rfl | rfl
        · exact absurd rfl (ho.cell _ z)
        · exact h2 x z
    rcases hx with hx | hx
    · exact go _ (.inl rfl) hx
    · exact go _ (.inr rfl) hx
  cab := fun x c e => absurd e Bool.false_ne_true
  hd := I.ok.hd
  frames := I.ok.frames
  stk := .inl rfl
  exf := fun b hb => ⟨Nat.ne_of_lt (Nat.lt_of_lt_of_le (hlt b hb) hC), fun x c e => (hf b hb).2.2.2.2.1 x c (h1 x c e)⟩
  bs := I.bs
  bsz := Nat.le_trans I.ok.bsz I.sz
  noex := fun b o e hb => by
    rcases (hf b hb).2.2.2.1 with z | z
    · exact I.ok.noex b o e z
    · exact absurd (Nat.lt_of_lt_of_le (Nat.lt_of_lt_of_le (Heap.lt_size e) I.ok.bsz) z) (Nat.lt_irrefl _)
  exfs := fun b hb z => by
    rcases List.mem_cons.mp (I.stkSub b z) with e | e
    · exact (hf b hb).2.1 e
    · exact (hf b hb).2.2.1 e
  funs := I.stack
  frf := I.stkFree

/-- the block runs; fin: what is known at its end -/
theorem comp_block {pins : List (Addr × Obj)} {σ : St} {H2 : Hp} {s2 : Shared} {cl : List (Str × Addr)} {fp : List Addr} {it : Addr} {tn : Nat → Heap → Prop} {J : It} {F : List V → Hp → Prop} {RR : Value → Addr → Result → Shared → Prop} {E : Value → Shared → Prop}
    (hcalm : X.calm = true) (ho : CompOk X.env.scope scope) (hfr : ∀ p ∈ fr, X.N[p.2]? = some p.1 ∧ scope.names.lookup p.1 = some .free) (hG : OwnG own.length g)
    (hY : ∀ cl C s H fp pins, CompR (cxComp X scope (own ++ fr.map (·.1)) cl C s H fp pins) tg ifs elt g tc te)
    (I2 : Inv X pins σ H2 s2) (T : Turn X.prog X.w X.K tg J fp it tn) (st2 : tn 0 s2.heap) (f2 : ∀ b ∈ fp, FpOk X pins H2 b) (rd : tTurns own.length fr g tc te σ J H2 F)
    (h1 : ∀ x c, cl.lookup x = some c → X.env.cells.lookup x = some c) (h2 : ∀ x, (x, NameKind.free) ∈ scope.names → ∃ c, cl.lookup x = some c)
    (fin : ∀ D C s' H' ys its n' m, Inv X pins σ H' s' → FpOk X pins H' D → X.s₀.heap.objs.size ≤ D → s'.heap.get? D = some (lobj its n') → Vals ys its → ys.length ≤ sizeLine → FpOk X pins H' C → X.s₀.heap.objs.size ≤ C → C ≠ D → s'.heap.Ns C m → F ys H' → RR (.ref D) C (.ok .next) s') :
    wpAny (model X.prog X.w) X.A (newList []) (fun acc s₃ => wpAny (model X.prog X.w) X.A (newFunctionEnv scope X.env.globals cl [] X.env.qual none .none (some X.env)) (fun cenv s₄ =>
      codeAny (model X.prog X.w) X.A (.compStart (.ListComp elt [⟨tg, iter, ifs, 0⟩] scope pos) 0 (.ref it) acc { cenv with scope := relabel scope X.env }) (RR acc cenv.locals) s₄) E s₃) E s2 := by
  refine wpAny_newObj_type (wpAny_newFunctionEnv ho.cell (by intro y hy; simp at hy) (fun h₁ hns₁ hsb₁ => ?_) ho.kind)
  dsimp only at hns₁ hsb₁ ⊢
  generalize hHH : s2.heap.push { cls := .type "list", dict := none, data := .seq ([] : List Value).toArray } = HH at hns₁ hsb₁ ⊢
  have hC : HH.objs.size = s2.heap.objs.size + 1 := by rw [← hHH, Heap.size_push]
  have hDC : s2.heap.objs.size ≠ HH.objs.size := by rw [hC]; exact Nat.ne_of_lt (Nat.lt_succ_self _)
  have hCle : s2.heap.objs.size ≤ HH.objs.size := by rw [hC]; exact Nat.le_succ _
  have below : ∀ b, b < s2.heap.objs.size → b ≠ HH.objs.size := fun b hb => by rw [hC]; exact Nat.ne_of_lt (Nat.lt_succ_of_lt hb)
  have old : ∀ b o, s2.heap.get? b = some o → h₁.get? b = some o := fun b o e => hsb₁.extBut b o (below b (Heap.lt_size e)) (Heap.get?_push_of_some _ (hHH ▸ Heap.get?_push_of_some _ e))
  have hacc : h₁.get? s2.heap.objs.size = some (lobj [] 0) := hsb₁.extBut _ _ hDC (Heap.get?_push_of_some _ (hHH ▸ Heap.get?_push_size _ rfl))
  have hlt : ∀ b ∈ fp, b < s2.heap.objs.size := fun b hb => by
    obtain ⟨o, e, _⟩ := T.obj 0 _ st2 b hb
    exact Heap.lt_size e
  have okY := comp_cxok (N' := own ++ fr.map (·.1)) I2 ho h1 h2 f2 hlt hCle
  have hD0 : H2 s2.heap.objs.size = none := I2.hok.fresh (Nat.le_refl _)
  have hC0 : H2 HH.objs.size = none := I2.hok.fresh hCle
  have R' := hY cl HH.objs.size s2 H2 fp pins
  generalize hYe : cxComp X scope (own ++ fr.map (·.1)) cl HH.objs.size s2 H2 fp pins = Y at okY R'
  -- the cells of the block
  have cellY : ∀ x c, cl.lookup x = some c → ∃ v, h₁.IsCell c v := fun x c e => by
    obtain ⟨v, o, q, d⟩ := I2.cell x c (h1 x c e)
    exact ⟨v, o, old c o q, d⟩
  have pinY : ∀ p ∈ X.pn ++ pins, h₁.get? p.1 = some p.2 ∧ H2 p.1 = none ∧ p.1 ≠ HH.objs.size ∧ p.1 ∉ frs X.stack ∧ ∀ v, p.2.data ≠ .cell v := fun p hp => by
    obtain ⟨e, n, ne, nf, d⟩ := I2.pin p hp
    refine ⟨old _ _ e, n, below _ (Heap.lt_size e), fun z => ?_, d⟩
    rcases List.mem_cons.mp (I2.stkSub _ z) with q | q
    · exact ne q
    · exact nf q
  have I0 : Inv Y [(s2.heap.objs.size, lobj [] 0)] (stC own.length fr σ) H2 { s2 with heap := h₁, toks := s2.toks + ([] : List (Str × Value)).length } := by
    subst hYe
    refine ⟨okY, rfl, I2.bare, Un.kept old, ⟨_, hns₁, fun i x v e1 e2 e3 => ?_⟩, cellY, hC0, fun x c e => I2.freeC x c (h1 x c e), fun p hp => ?_, I2.hok.kept old, ?_⟩
    · -- a slot that is set is a free name's
      have hi : own.length ≤ i := by
        rcases Nat.lt_or_ge i own.length with z | z
        · have q : (stC own.length fr σ)[i]? = some none := by
            unfold stC
            rw [List.getElem?_append_left (by simpa using z), List.getElem?_replicate, if_pos z]
          rw [q] at e2
          cases e2
        · exact z
      have e1' : (fr.map (·.1))[i - own.length]? = some x := by
        have : (own ++ fr.map (·.1))[i]? = some x := e1
        rwa [List.getElem?_append_right hi] at this
      have e2' : (fr.map fun p => (σ[p.2]?).join)[i - own.length]? = some (some v) := by
        unfold stC at e2
        rwa [List.getElem?_append_right (by simpa using hi), List.length_replicate] at e2
      rw [List.getElem?_map] at e1' e2'
      cases hp : fr[i - own.length]? with
      | none => rw [hp] at e1'; cases e1'
      | some p =>
        rw [hp] at e1' e2'
        have ep : p.1 = x := Option.some.inj e1'
        have ev : (σ[p.2]?).join = some v := Option.some.inj e2'
        obtain ⟨hN, hl⟩ := hfr p (List.mem_of_getElem? hp)
        rw [ep] at hN hl
        have hσ : σ[p.2]? = some (some v) := by
          cases q : σ[p.2]? with
          | none => rw [q] at ev; cases ev
          | some y => rw [q] at ev; exact congrArg some ev
        obtain ⟨m, hn, hloc⟩ := I2.loc
        have hk := ho.free x (lookup_mem hl)
        obtain ⟨u, r, l⟩ := hloc p.2 x v hN hσ (by rcases hk with z | z; exact .inr (.inl z); exact .inr (.inr z))
        refine ⟨u, r, ?_⟩
        rcases l with ⟨k, _⟩ | ⟨k, c, ec, hcell⟩
        · rcases hk with z | z
          · have k' : X.env.scope.names.lookup x = some .local := k
            rw [z] at k'; cases k'
          · have k' : X.env.scope.names.lookup x = some .local := k
            rw [z] at k'; cases k'
        · obtain ⟨c', ec'⟩ := h2 x (lookup_mem hl)
          have : c' = c := Option.some.inj ((h1 x c' ec').symm.trans ec)
          subst this
          obtain ⟨o, qo, qd⟩ := hcell
          exact .inr ⟨relabel_free (env := X.env) hl, c', ec', o, old _ _ qo, qd⟩
    · rcases List.mem_append.mp hp with z | z
      · exact pinY p z
      · have ep : p = (s2.heap.objs.size, lobj [] 0) := by simpa using z
        subst ep
        refine ⟨hacc, hD0, hDC, fun z => ?_, fun v z => nomatch z⟩
        rcases List.mem_cons.mp (I2.stkSub _ z) with q | q
        · exact absurd I2.lt (by rw [← q]; exact Nat.lt_irrefl _)
        · exact I2.nofs (Nat.le_refl _) q
    · show (List.replicate own.length none ++ fr.map fun p : Str × Nat => (σ[p.2]?).join).length = (own ++ fr.map (·.1)).length
      simp
  have Yp : Y.prog = X.prog ∧ Y.w = X.w ∧ Y.K = X.K ∧ Y.calm = true ∧ Y.A = X.A ∧ Y.env = compEnvC scope cl HH.objs.size X.env ∧ (Y.xe = fun _ _ => False) := by
    subst hYe
    exact ⟨rfl, rfl, rfl, hcalm, rfl, rfl, rfl⟩
  obtain ⟨y1, y2, y3, y4, y5, y6, y7⟩ := Yp
  have fpY : ∀ {H' : Hp} {its : List Value} {n' : Nat}, (∀ b ∈ fp, H' b = none) → ∀ b ∈ fp, FpOk Y [(s2.heap.objs.size, lobj its n')] H' b := fun {H' its n'} hn b hb => by
    subst hYe
    obtain ⟨f0, f1, f3, f4, f5, f6⟩ := f2 b hb
    refine ⟨hn b hb, below b (hlt b hb), okY.exfs b hb, .inl hb, fun x c e => f5 x c (h1 x c e), fun p hp => ?_⟩
    rcases List.mem_append.mp hp with z | z
    · exact f6 p z
    · have ep : p = (s2.heap.objs.size, lobj its n') := by simpa using z
      subst ep
      exact Nat.ne_of_gt (hlt b hb)
  have hYlen : ∀ {H' : Hp} {s' : Shared} {pl : List (Addr × Obj)} {σ' : St}, Inv Y pl σ' H' s' → σ'.length = (stC own.length fr σ).length → (∀ j, own.length ≤ j → σ'[j]? = (stC own.length fr σ)[j]?) → Inv Y pl (stC own.length fr σ) H' s' := fun I hl hk => by
    refine I.weak hl.symm fun i v e => ?_
    rcases Nat.lt_or_ge i own.length with z | z
    · have q : (stC own.length fr σ)[i]? = some none := by
        unfold stC
        rw [List.getElem?_append_left (by simpa using z), List.getElem?_replicate, if_pos z]
      rw [q] at e
      cases e
    · rw [hk i z]; exact e
  obtain ⟨W, ⟨m0, w0⟩, turn⟩ := rd
  have loop : ∀ s₃ : Shared, s₃ = { s2 with heap := h₁, toks := s2.toks + ([] : List (Str × Value)).length } →
      codeAny (model X.prog X.w) X.A (.compLoop (.ListComp elt [⟨tg, iter, ifs, 0⟩] scope pos) 0 (.ref it) (.ref s2.heap.objs.size) (compEnvC scope cl HH.objs.size X.env)) (RR (.ref s2.heap.objs.size) HH.objs.size) s₃ := by
    rintro s₃ rfl
    refine compLoop_go (fun n s' => ∃ i ys its n' H', Inv Y [(s2.heap.objs.size, lobj its n')] (stC own.length fr σ) H' s' ∧ tn i s'.heap ∧ (∀ b ∈ fp, H' b = none) ∧ Vals ys its ∧ ys.length ≤ sizeLine ∧ W i n ys H') ?_ m0
      ⟨0, [], [], 0, H2, I0, T.keep _ _ _ st2 fun b _ o e => old b o e, fun b hb => (f2 b hb).1, .nil, Nat.zero_le _, w0⟩
    rintro n s3 ⟨i, ys, its, n', H3, I3, st3, fr3, rv, hz, w3⟩
    have pinD := I3.pin (s2.heap.objs.size, lobj its n') (List.mem_append_right _ (by simp))
    rcases turn i n ys H3 w3 with ⟨stop, qn⟩ | ⟨go, Nx, hNx, step⟩
    · have q := T.done Y y1 y2 y3 y4 i _ s3 _ H3 (fun _ _ => False) I3 (fpY fr3) st3 stop
      rw [y5] at q
      refine thn q fun r s4 ⟨hr, I4⟩ => ?_
      subst hr
      have pinD4 := I4.pin (s2.heap.objs.size, lobj its n') (List.mem_append_right _ (by simp))
      obtain ⟨m, hm, _⟩ := I4.loc
      have IX : Inv X pins σ H3 s4 := by
        subst hYe
        exact I2.call' (ch := fp) I4.os I4.base I4.hok I4.bare fun b hb => ⟨(f2 b hb).2.2.2.1, (f2 b hb).2.1, (f2 b hb).2.2.2.2.1, (f2 b hb).2.2.2.2.2⟩
      rw [y6] at hm
      have hCf : H3 HH.objs.size = none := by
        have z := I4.free
        rw [y6] at z
        exact z
      refine fin s2.heap.objs.size HH.objs.size s4 H3 ys its n' m IX (I2.fpOk (Nat.le_refl _) pinD4.2.1) I2.sz pinD4.1 rv hz (I2.fpOk hCle hCf) (Nat.le_trans I2.sz hCle) (Ne.symm hDC) hm qn
    · have q := T.item Y y1 y2 y3 y4 i _ s3 _ H3 (fun _ _ => False) I3 (fpY fr3) st3 go
      rw [y5] at q
      refine thn q fun r s4 ⟨u, hr, h4⟩ => ?_
      subst hr
      refine thn h4 fun _ s5 ⟨x, H5, I5, r5, y5', st5, fr5⟩ => ?_
      have I5' := I5.pinned (fpY fr5) (T.obj _ _ st5)
      have q6 := R'.tg _ s5 _ H5 x u _ I5' r5 (hG _ _ _ _ _ (fun σ2 H2' qq l k => (⟨qq, l, k⟩ : _ ∧ _ ∧ _)) (step x H5 y5'))
      rw [y1, y2, y5, y6, y7] at q6
      refine thn q6 fun _ s6 ⟨σ6, H6, I6, qt, hl6, hk6⟩ => ?_
      have q7 := R'.ts _ s6 _ H6 _ I6 qt
      rw [y1, y2, y5, y6, y7] at q7
      refine thn q7 fun ok s7 ⟨H7, I7, q7⟩ => ?_
      -- a turn's end: the iterator's records and the list are pinned as they were
      have again : ∀ {s8 : Shared} {H8 : Hp} {ys8 : List V} {its8 : List Value} {n8 : Nat}, Inv Y [(s2.heap.objs.size, lobj its8 n8)] σ6 H8 s8 → (∀ b ∈ fp, ∀ o, s5.heap.get? b = some o → s8.heap.get? b = some o) → (∀ b ∈ fp, H8 b = none) → Vals ys8 its8 → ys8.length ≤ sizeLine → Nx ys8 H8 →
          ∃ m, m < n ∧ ∃ i ys its n' H', Inv Y [(s2.heap.objs.size, lobj its n')] (stC own.length fr σ) H' s8 ∧ tn i s8.heap ∧ (∀ b ∈ fp, H' b = none) ∧ Vals ys its ∧ ys.length ≤ sizeLine ∧ W i m ys H' := fun {s8 H8 ys8 its8 n8} I8 kp fr8 rv8 hz8 nx => by
        obtain ⟨m', hm, w8⟩ := hNx ys8 H8 nx
        exact ⟨m', hm, i + 1, ys8, its8, n8, H8, hYlen I8 hl6 hk6, T.keep _ _ _ st5 kp, fr8, rv8, hz8, w8⟩
      cases ok with
      | false =>
        rw [if_neg Bool.false_ne_true] at q7 ⊢
        refine again I7.unpinned (fun b hb o e => (I7.pin (b, o) (List.mem_append_right _ (List.mem_append_right _ (mem_pinsAt hb e)))).1) (fun b hb => ?_) rv hz q7
        obtain ⟨o, e, d⟩ := T.obj _ _ st5 b hb
        exact (I7.pin (b, o) (List.mem_append_right _ (List.mem_append_right _ (mem_pinsAt hb e)))).2.1
      | true =>
        rw [if_pos rfl] at q7 ⊢
        have q8 := R'.el _ s7 _ H7 _ I7 q7
        rw [y1, y2, y5, y6, y7] at q8
        refine thn q8 fun v s8 ⟨yv, H8, I8, r8, hsz, nx⟩ => ?_
        have pin8 := I8.pin (s2.heap.objs.size, lobj its n') (List.mem_append_right _ (List.mem_append_left _ (by simp)))
        refine wpAny_list_append_plain (hsz := by have := rv.length; simp only [List.size_toArray]; omega) ⟨n', pin8.1⟩ fun h9 ⟨n9, e9⟩ sb => ?_
        have Iu := I8.pins_of (pins' := []) (fun p hp => nomatch hp)
        have DF : FpOk Y [] H8 s2.heap.objs.size := by
          subst hYe
          refine ⟨pin8.2.1, hDC, pin8.2.2.2.1, .inr (Nat.le_refl _), fun x c e => ?_, fun p hp => ?_⟩
          · obtain ⟨w', o, qo, _⟩ := I2.cell x c (h1 x c e)
            exact Nat.ne_of_lt (Heap.lt_size qo)
          · have hp' : p ∈ X.pn ++ pins := by
              rw [List.append_nil] at hp
              exact hp
            exact Nat.ne_of_lt (Heap.lt_size (I2.pin p hp').1)
        have I9 : Inv Y [] σ6 H8 { s8 with heap := h9 } := Iu.turns (t' := s8.toks) (ch := [s2.heap.objs.size]) (fun b o hb e => (sb.2 b (by simpa using hb)).trans e) (fun b hb => by
          have e : b = s2.heap.objs.size := by simpa using hb
          subst e
          exact DF)
        have e9' : h9.get? s2.heap.objs.size = some (lobj (its ++ [v]) n9) := by
          rw [e9]
          simp
        have I10 : Inv Y [(s2.heap.objs.size, lobj (its ++ [v]) n9)] σ6 H8 { s8 with heap := h9 } := I9.pins_of fun p hp => by
          have ep : p = (s2.heap.objs.size, lobj (its ++ [v]) n9) := by simpa using hp
          subst ep
          exact ⟨e9', pin8.2.1, pin8.2.2.1, pin8.2.2.2.1, fun w' z => nomatch z⟩
        refine again I10 (fun b hb o e => (sb.2 b (Nat.ne_of_lt (hlt b hb))).trans (I8.pin (b, o) (List.mem_append_right _ (List.mem_append_right _ (mem_pinsAt hb e)))).1) (fun b hb => ?_) (rv.append (.cons r8 .nil)) (by simp; omega) nx
        obtain ⟨o, e, d⟩ := T.obj _ _ st5 b hb
        exact (I8.pin (b, o) (List.mem_append_right _ (List.mem_append_right _ (mem_pinsAt hb e)))).2.1
  exact codeAny_compStart_list (loop _ rfl) (T.self _ 0 _ _ _ (T.keep _ _ _ st2 fun b _ o e => old b o e) (loop _ rfl))

/-- the closure, and what the scopes say -/
theorem comp_setup {pins : List (Addr × Obj)} {σ : St} {H : Hp} {s : Shared} (I : Inv X pins σ H s) (hsc : X.env.scope = sc) (hok : compOk sc scope = true) (hNN : X.N = N) (hfr : frOk N scope fr = true) :
    CompOk X.env.scope scope ∧ (∀ p ∈ fr, X.N[p.2]? = some p.1 ∧ scope.names.lookup p.1 = some .free) ∧
    ∃ cl, closureFor scope X.env = pure cl ∧ (∀ x c, cl.lookup x = some c → X.env.cells.lookup x = some c) ∧ ∀ x, (x, NameKind.free) ∈ scope.names → ∃ c, cl.lookup x = some c := by
  subst hsc hNN
  have ho := compOk_of hok
  refine ⟨ho, fun p hp => ?_, closure_of fun n hn => I.ok.has n (ho.free n hn)⟩
  unfold frOk at hfr
  rw [List.all_eq_true] at hfr
  have q := hfr p hp
  rw [Bool.and_eq_true] at q
  exact ⟨of_decide_eq_true q.1, of_decide_eq_true q.2⟩

/-- [elt for tg in iter if c]: a new list. own: the block's own names, fr: the names that it takes from around with their slots there -/
theorem pe_comp (sc : Scope) (N own : List Str) (fr : List (Str × Nat)) (hcalm : X.calm = true) (hi : PI X tg iter wi) (hG : OwnG own.length g)
    (hY : ∀ cl C s H fp pins, CompR (cxComp X scope (own ++ fr.map (·.1)) cl C s H fp pins) tg ifs elt g tc te)
    (hsc : X.env.scope = sc := by rfl) (hok : compOk sc scope = true := by decide +kernel) (hNN : X.N = N := by rfl) (hfr : frOk N scope fr = true := by decide +kernel)
    (hs : ∀ x, foldedSetIterable iter X.env x = pure x := by intro _; rfl) :
    PE X (.ListComp elt [⟨tg, iter, ifs, 0⟩] scope pos) (tComp own.length fr wi g tc te) := by
  intro pins s σ H Q I h
  obtain ⟨ho, hfr', cl, hcl, c1, c2⟩ := comp_setup I hsc hok hNN hfr
  rw [eval_ListComp]
  refine wpAny_comprehension_free (use := none) rfl hs hcl ho.kind ho.loc (thn (hi pins s σ H _ I h) fun v s1 q1 => thn q1 fun itv s2 q2 => ?_)
  obtain ⟨it, fp, tn, J, H2, e, I2, T, st2, f2, rd⟩ := q2
  subst e
  refine comp_block (RR := fun acc C => compPost (model X.prog X.w) X.A X.xe none (EP X pins σ Q) acc C) hcalm ho hfr' hG hY I2 T st2 f2 rd c1 c2 ?_
  intro D C s' H' ys its n' m I' fD zD eD rv hz fC zC hCD hm hF
  refine ⟨m, hm, fun h' sb => ?_⟩
  have I3 : Inv X pins σ H' { s' with heap := h' } := I'.turns (t' := s'.toks) (ch := [C]) (fun b o hb e => (sb.2 b (by simpa using hb)).trans e) (fun b hb => by
    have e : b = C := by simpa using hb
    subst e
    exact fC)
  exact ⟨.ref D, _, I3.adopt (o := .lst ys) fD.1 fD.2.1 zD fD.2.2.2.2.1 fD.2.2.2.2.2 ⟨hz, its, n', rv, (sb.2 D (Ne.symm hCD)).trans eD⟩, rfl, hF D fD.1⟩

/-- x = [elt for tg in iter if c], stored ahead of the block's names being let go -/
theorem ps_setcomp {i : Nat} {x : Str} {pos' spos : Pos} (sc : Scope) (N own : List Str) (fr : List (Str × Nat)) (hcalm : X.calm = true) (hN : X.N.Nodup) (hx' : X.N[i]? = some x) (hx : X.env.scope.names.lookup x = some .local) (hi : PI X tg iter wi) (hG : OwnG own.length g)
    (hY : ∀ cl C s H fp pins, CompR (cxComp X scope (own ++ fr.map (·.1)) cl C s H fp pins) tg ifs elt g tc te)
    (hsw : swapsWith (.ListComp elt [⟨tg, iter, ifs, 0⟩] scope pos) (some (.Name x pos')) spos.line X.env = pure true := by rfl)
    (hsc : X.env.scope = sc := by rfl) (hok : compOk sc scope = true := by decide +kernel) (hNN : X.N = N := by rfl) (hfr : frOk N scope fr = true := by decide +kernel)
    (hs : ∀ x, foldedSetIterable iter X.env x = pure x := by intro _; rfl) :
    PS X (.Assign [.Name x pos'] (.ListComp elt [⟨tg, iter, ifs, 0⟩] scope pos) spos) (tAsg (tComp own.length fr wi g tc te) (gName i)) := by
  intro pins s σ H D0 I h
  obtain ⟨ho, hfr', cl, hcl, c1, c2⟩ := comp_setup I hsc hok hNN hfr
  rw [exec_Assign_Name_used _ _ _ _ hsw]
  refine wpAny_bind (wpAny_standAt (wpAny_bind ?_))
  show wpAny _ X.A (do let _ ← comprehension (.ListComp elt [⟨tg, iter, ifs, 0⟩] scope pos) scope X.env _ (newList []) false (eval iter X.env) (some (assign (.Name x pos') X.env))) _ _ s
  refine wpAny_bind (wpAny_mono (wpAny_comprehension_free (use := some (assign (.Name x pos') X.env)) (Q := fun _ s' => SP X pins D0 .next s') rfl hs hcl ho.kind ho.loc
    (thn (hi pins s σ H _ I h) fun v s1 q1 => thn q1 fun itv s2 q2 => ?_)) (fun _ s' hq => wpAny_pure (wpAny_pure hq)) fun _ _ e => e)
  obtain ⟨it, fp, tn, J, H2, e, I2, T, st2, f2, rd⟩ := q2
  subst e
  refine comp_block (RR := fun acc C => compPost (model X.prog X.w) X.A X.xe (some (assign (.Name x pos') X.env)) (fun _ s' => SP X pins D0 .next s') acc C) hcalm ho hfr' hG hY I2 T st2 f2 rd c1 c2 ?_
  intro D C s' H' ys its n' m I' fD zD eD rv hz fC zC hCD hm hF
  show wpAny _ X.A (assign (.Name x pos') X.env (.ref D)) _ _ _
  have I3 : Inv X pins σ (upd H' D (.lst ys)) s' := I'.adopt (o := .lst ys) fD.1 fD.2.1 zD fD.2.2.2.2.1 fD.2.2.2.2.2 ⟨hz, its, n', rv, eD⟩
  obtain ⟨oC, es, ep, hoC, dC, rC⟩ := id hm
  have nC : (upd H' D (.lst ys)) C = none := by rw [upd_ne hCD]; exact fC.1
  have I4 : Inv X (pins ++ [(C, oC)]) σ (upd H' D (.lst ys)) s' := I3.pins_of fun p hp => by
    rcases List.mem_append.mp hp with z | z
    · exact I3.pin p (List.mem_append_right _ z)
    · have e : p = (C, oC) := by simpa using z
      subst e
      exact ⟨hoC, nC, fC.2.1, fC.2.2.1, fun v z => by rw [dC] at z; cases z⟩
  refine wpAny_assign_Name (store_ok I4 hN hx' (.inl hx) (v := .ref D) rfl (fun s5 I5 => ?_) (.inr hx))
  have p5 := I5.pin (C, oC) (List.mem_append_right _ (List.mem_append_right _ (by simp)))
  refine ⟨m, ⟨oC, es, ep, p5.1, dC, rC⟩, fun h' sb => ?_⟩
  have I6 : Inv X pins (σ.set i (some (.ref D))) (upd H' D (.lst ys)) { s5 with heap := h' } := I5.unpinned.turns (t' := s5.toks) (ch := [C]) (fun b o hb e => (sb.2 b (by simpa using hb)).trans e) (fun b hb => by
    have e : b = C := by simpa using hb
    subst e
    exact ⟨nC, fC.2⟩)
  exact ⟨_, _, I6, hF D fD.1⟩
end

/-! ### the forms one uses -/
/-- over a list that the block leaves as it is -/
theorem turns_list {K : PySem.W.Frag} {a : Addr} {xs : List V} {n : Nat} {fr : List (Str × Nat)} {g : TG} {tc : TT} {te : TE} {σ : St} {H : Hp} {F : List V → Hp → Prop} (Pv : Nat → List V → Hp → Prop) (h0 : Pv 0 [] H) (hl : ∀ i ys H, i ≤ xs.length → Pv i ys H → SqL K H a xs)
    (hs : ∀ i x ys H, xs[i]? = some x → Pv i ys H → g x (stC n fr σ) H fun σ2 H2 => tc σ2 H2 fun b H3 => if b = true then te σ2 H3 fun y H4 => ys.length < sizeLine ∧ Pv (i + 1) (ys ++ [y]) H4 else Pv (i + 1) ys H3)
    (hd : ∀ ys H, Pv xs.length ys H → F ys H) : tTurns n fr g tc te σ (Itl K a) H F := by
  refine ⟨fun i m ys H => m = xs.length - i ∧ i ≤ xs.length ∧ Pv i ys H, ⟨xs.length, by simp, Nat.zero_le _, h0⟩, ?_⟩
  rintro i m ys H ⟨rfl, hi, p⟩
  have q := hl i ys H hi p
  by_cases hlt : i < xs.length
  · refine .inr ⟨⟨xs, xs[i], q, by simp [hlt]⟩, Pv (i + 1), fun ys' H' p' => ⟨xs.length - (i + 1), by omega, rfl, hlt, p'⟩, fun x H' y => ?_⟩
    obtain ⟨e, y⟩ := y
    subst e
    exact hs i x ys _ (y xs q) p
  · have e : i = xs.length := by omega
    subst e
    exact .inl ⟨⟨xs, q, Nat.le_refl _⟩, hd ys H p⟩
theorem turns_range {lo : Int} {k n : Nat} {fr : List (Str × Nat)} {g : TG} {tc : TT} {te : TE} {σ : St} {H : Hp} {F : List V → Hp → Prop} (Pv : Nat → List V → Hp → Prop) (h0 : Pv 0 [] H)
    (hs : ∀ i ys H, i < k → Pv i ys H → g (.int (lo + i)) (stC n fr σ) H fun σ2 H2 => tc σ2 H2 fun b H3 => if b = true then te σ2 H3 fun y H4 => ys.length < sizeLine ∧ Pv (i + 1) (ys ++ [y]) H4 else Pv (i + 1) ys H3)
    (hd : ∀ ys H, Pv k ys H → F ys H) : tTurns n fr g tc te σ (Itr lo k) H F := by
  refine ⟨fun i m ys H => m = k - i ∧ i ≤ k ∧ Pv i ys H, ⟨k, by simp, Nat.zero_le _, h0⟩, ?_⟩
  rintro i m ys H ⟨rfl, hi, p⟩
  by_cases hlt : i < k
  · refine .inr ⟨hlt, Pv (i + 1), fun ys' H' p' => ⟨k - (i + 1), by omega, rfl, hlt, p'⟩, fun x H' y => ?_⟩
    obtain ⟨e, y⟩ := y
    subst e y
    exact hs i ys _ hlt p
  · have e : i = k := by omega
    subst e
    exact .inl ⟨Nat.le_refl _, hd ys H p⟩
end L2

set_option Elab.async false
set_option linter.all false
set_option maxRecDepth 100000
set_option maxHeartbeats 4000000
namespace L2
open PySem PySem.Spec PyProof.Rows

/-! ### for .. in zip(a, b): two lists, walked abreast -/
def Itz (K : PySem.W.Frag) (a b : Addr) : It :=
  ⟨fun i H => ∃ xs ys x y, SqL K H a xs ∧ SqL K H b ys ∧ xs[i]? = some x ∧ ys[i]? = some y,
   fun i H v H' => ∃ T x y, H T = none ∧ v = .ref T ∧ H' = upd H T (.tup [x, y]) ∧ (∀ xs, SqL K H a xs → xs[i]? = some x) ∧ ∀ ys, SqL K H b ys → ys[i]? = some y,
   fun i H => ∃ xs ys, SqL K H a xs ∧ SqL K H b ys ∧ (xs.length ≤ i ∨ ys.length ≤ i)⟩
theorem ap (n i j : Nat) (h : i ≠ j) : n + i ≠ n + j := fun e => h (Nat.add_left_cancel e)
theorem ap' (n i : Nat) : n ≤ n + i := Nat.le_add_right n i
theorem ne_cls {h : Heap} {a b : Addr} {o u : Obj} (e : h.get? a = some o) (e' : h.get? b = some u) (d : o.cls ≠ u.cls) : a ≠ b := by
  intro z
  subst z
  rw [e] at e'
  cases e'
  exact d rfl
theorem zip_apart {h : Heap} {n a b : Addr} {i : Nat} {f0 : Value} {pa pb : Value} {xs ys : Array Value} (hz : IsZip h (n + 4) (n + 2) (n + 3) f0) (hTO : IsPair h (n + 3) pa pb) (h1 : h.IsListIter n a i) (h2 : h.IsListIter (n + 1) b i) (l1 : h.IsList a xs) (l2 : h.IsList b ys) :
    ZipApart (n + 4) (n + 2) (n + 3) n (n + 1) a b := by
  obtain ⟨o1, e1, c1, _⟩ := l1
  obtain ⟨o2, e2, c2, _⟩ := l2
  obtain ⟨p1, q1, d1, _⟩ := h1
  obtain ⟨p2, q2, d2, _⟩ := h2
  have nz : ∀ {c : Addr} {o : Obj}, h.get? c = some o → o.cls = .type "list" → c ≠ n + 4 ∧ c ≠ n + 3 ∧ c ≠ n ∧ c ≠ n + 1 := fun {c o} e z =>
    ⟨ne_cls e hz (by rw [z]; show Value.type "list" ≠ Value.type "zip"; decide), ne_cls e hTO (by rw [z]; show Value.type "list" ≠ Value.type "tuple"; decide), ne_cls e q1 (by rw [z, d1]; decide), ne_cls e q2 (by rw [z, d2]; decide)⟩
  obtain ⟨a1, a2, a3, a4⟩ := nz e1 c1
  obtain ⟨b1, b2, b3, b4⟩ := nz e2 c2
  exact ⟨ap n 2 4 (by decide), ap n 3 4 (by decide), ap n 0 4 (by decide), ap n 1 4 (by decide), ap n 2 3 (by decide), ap n 2 0 (by decide), ap n 2 1 (by decide), ap n 3 0 (by decide), ap n 3 1 (by decide), ap n 0 1 (by decide), a1, a2, a3, a4, b1, b2, b3, b4⟩
theorem turn_zip {P : Program} {w : World} {K : PySem.W.Frag} {elts : List Expr} {kk : Nat} {tpos : Pos} (n a b : Addr) : Turn P w K (.Tuple elts kk tpos) (Itz K a b) [n + 4, n + 2, n + 3, n, n + 1] (n + 4)
    (fun i h => IsZip h (n + 4) (n + 2) (n + 3) .none ∧ IsPair h (n + 2) (.ref n) (.ref (n + 1)) ∧ (∃ p q, IsPair h (n + 3) p q) ∧ h.IsListIter n a i ∧ h.IsListIter (n + 1) b i) where
  mem := by simp
  obj := fun i h st c hc => by
    obtain ⟨hz, hTI, ⟨p, q, hTO⟩, ⟨o1, e1, c1, d1⟩, ⟨o2, e2, c2, d2⟩⟩ := st
    simp only [List.mem_cons, List.not_mem_nil, or_false] at hc
    rcases hc with rfl | rfl | rfl | rfl | rfl
    · exact ⟨_, hz, fun v z => nomatch z⟩
    · exact ⟨_, hTI, fun v z => nomatch z⟩
    · exact ⟨_, hTO, fun v z => nomatch z⟩
    · exact ⟨_, e1, fun v z => by rw [d1] at z; cases z⟩
    · exact ⟨_, e2, fun v z => by rw [d2] at z; cases z⟩
  keep := fun i h h' st k => by
    obtain ⟨hz, hTI, ⟨p, q, hTO⟩, h1, h2⟩ := st
    exact ⟨k _ (by simp) _ hz, k _ (by simp) _ hTI, ⟨p, q, k _ (by simp) _ hTO⟩, h1.at fun o e => k _ (by simp) o e, h2.at fun o e => k _ (by simp) o e⟩
  item := by
    intro X hP hw hK hc i pins s σ H E I hf st hg
    subst hP hw hK
    obtain ⟨xs, ys, x, y, hq1, hq2, hx, hy⟩ := hg
    obtain ⟨its1, rv1, p1, _⟩ := I.list hq1
    obtain ⟨its2, rv2, p2, _⟩ := I.list hq2
    obtain ⟨u1, hu1, ru1⟩ := rv1.get hx
    obtain ⟨u2, hu2, ru2⟩ := rv2.get hy
    obtain ⟨hz, hTI, ⟨pa, pb, hTO⟩, h1, h2⟩ := st
    have D := zip_apart hz hTO h1 h2 p1.isList p2.isList
    refine wpAny_pyNext_zip_item D hz hTI hTO h1 h2 p1.isList p2.isList (x := u1) (y := u2) (by simpa using hu1) (by simpa using hu2) fun h' a1 a2 a3 a4 a5 a6 k => ?_
    refine ⟨_, rfl, wpAny_letOwnedTupleGo_zip a1 fun h2' hz2 sb => ?_⟩
    have lt : ∀ c ∈ [n + 4, n + 2, n + 3, n, n + 1], c ≠ s.heap.objs.size := fun c hc => by
      simp only [List.mem_cons, List.not_mem_nil, or_false] at hc
      obtain ⟨_, q1, _, _⟩ := id h1
      obtain ⟨_, q2, _, _⟩ := id h2
      rcases hc with rfl | rfl | rfl | rfl | rfl
      · exact Nat.ne_of_lt (Heap.lt_size hz)
      · exact Nat.ne_of_lt (Heap.lt_size hTI)
      · exact Nat.ne_of_lt (Heap.lt_size hTO)
      · exact Nat.ne_of_lt (Heap.lt_size q1)
      · exact Nat.ne_of_lt (Heap.lt_size q2)
    have kk2 : ∀ c o, c ∉ [n + 4, n + 3, n, n + 1] → s.heap.get? c = some o → h2'.get? c = some o := fun c o hc e => by
      simp only [List.mem_cons, List.not_mem_nil, or_false, not_or] at hc
      exact (sb.2 c hc.1).trans (k c o hc.1 hc.2.1 hc.2.2.1 hc.2.2.2 e)
    have I1 : Inv X pins σ H { s with heap := h2' } := I.turns (t' := s.toks) (ch := [n + 4, n + 3, n, n + 1]) kk2 fun c hc => by
      simp only [List.mem_cons, List.not_mem_nil, or_false] at hc
      exact hf c (by simp only [List.mem_cons, List.not_mem_nil, or_false]; rcases hc with z | z | z | z <;> simp [z])
    have fT : FpOk X pins H s.heap.objs.size := I.fpOk (Nat.le_refl _) (I.hok.fresh (Nat.le_refl _))
    have eT : h2'.get? s.heap.objs.size = some { cls := .type "tuple", data := .seq #[u1, u2] } := (sb.2 _ (Ne.symm (lt (n + 4) (by simp)))).trans a5
    refine ⟨.ref s.heap.objs.size, _, I1.adopt (o := .tup [x, y]) fT.1 fT.2.1 I.sz fT.2.2.2.2.1 fT.2.2.2.2.2 ⟨by show 2 ≤ sizeLine; decide, [u1, u2], .cons ru1 (.cons ru2 .nil), ⟨_, eT, rfl, 0, rfl⟩⟩, rfl, ⟨_, x, y, fT.1, rfl, rfl, fun zs hzs => ?_, fun zs hzs => ?_⟩, ?_, fun c hc => ?_⟩
    · rw [I.list_inj hzs hq1]; exact hx
    · rw [I.list_inj hzs hq2]; exact hy
    · refine ⟨hz2, (sb.2 _ (ap n 2 4 (by decide))).trans (k _ _ (ap n 2 4 (by decide)) (ap n 2 3 (by decide)) (ap n 2 0 (by decide)) (ap n 2 1 (by decide)) hTI), ⟨u1, u2, (sb.2 _ (ap n 3 4 (by decide))).trans a2⟩, a3.at fun o e => (sb.2 _ (ap n 0 4 (by decide))).trans e, a4.at fun o e => (sb.2 _ (ap n 1 4 (by decide))).trans e⟩
    · rw [upd_ne (lt c hc)]
      exact (hf c hc).1
  done := by
    intro X hP hw hK hc i pins s σ H E I hf st hg
    subst hP hw hK
    obtain ⟨xs, ys, hq1, hq2, hx⟩ := hg
    obtain ⟨its1, rv1, p1, _⟩ := I.list hq1
    obtain ⟨its2, rv2, p2, _⟩ := I.list hq2
    obtain ⟨hz, hTI, ⟨pa, pb, hTO⟩, h1, h2⟩ := st
    have D := zip_apart hz hTO h1 h2 p1.isList p2.isList
    have l1 := rv1.length
    have l2 := rv2.length
    refine wpAny_pyNext_zip_end (I.ok.hd hc) D hz hTI hTO h1 h2 p1.isList p2.isList (by
      rcases hx with z | z
      · exact .inl (by simp; omega)
      · exact .inr (by simp; omega)) fun h' k => ⟨rfl, ?_⟩
    refine I.turns (t' := s.toks) (ch := [n + 4, n + 3, n, n + 1]) (fun c o hc e => ?_) fun c hc => ?_
    · simp only [List.mem_cons, List.not_mem_nil, or_false, not_or] at hc
      exact k c o hc.1 hc.2.1 hc.2.2.1 hc.2.2.2 e
    · simp only [List.mem_cons, List.not_mem_nil, or_false] at hc
      exact hf c (by simp only [List.mem_cons, List.not_mem_nil, or_false]; rcases hc with z | z | z | z <;> simp [z])
  self := fun _ _ _ _ _ st h => wpAny_pyIter_zip st.1 h

def iZip (K : PySem.W.Frag) (ta : TA) : TI := fun σ H R => ta σ H fun vs H1 => ∃ a b, vs = [.ref a, .ref b] ∧ (∃ xs, SqL K H1 a xs) ∧ (∃ ys, SqL K H1 b ys) ∧ R (Itz K a b) H1
theorem pi_zip {X : Cx} {elts : List Expr} {kk : Nat} {tpos : Pos} {a b : Expr} {ta : TA} {p pos : Pos} (hg : Gl X "zip") (hm : X.mg "zip" = none) (ha : PA X [a, b] ta) (hs : starEach [a, b] X.env = [(false, eval a X.env), (false, eval b X.env)] := by rfl) (hs2 : starEach [b] X.env = [(false, eval b X.env)] := by rfl) :
    PI X (.Tuple elts kk tpos) (.Call (.Name "zip" p) [a, b] [] pos) (iZip X.K ta) := by
  intro pins s σ H R I h
  refine Call_ (ld_blt I hg hm boot_zip (PyProof.Rows.callWith_type1 (thn (ha pos pins s σ H _ I h) fun us s1 ⟨vs, H1, I1, r1, q1⟩ => ?_) (by rw [hs, hs2]) (by rw [hs2]; rfl)))
  obtain ⟨a', b', e, ⟨xs, hq1⟩, ⟨ys, hq2⟩, q⟩ := q1
  subst e
  obtain ⟨u, w', rfl, r, r'⟩ := vals2 r1
  cases r
  cases r'
  obtain ⟨its1, rv1, p1, _⟩ := I1.list hq1
  obtain ⟨its2, rv2, p2, _⟩ := I1.list hq2
  refine call_zip_2 p1.isList p2.isList fun h' z1 z2 z3 z4 z5 z6 k => wpAny_pyIter_zip (s := { s1 with heap := h' }) z1 ?_
  refine ⟨s1.heap.objs.size + 4, [s1.heap.objs.size + 4, s1.heap.objs.size + 2, s1.heap.objs.size + 3, s1.heap.objs.size, s1.heap.objs.size + 1], _, _, H1, rfl, I1.kept (t' := s1.toks) k, turn_zip s1.heap.objs.size a' b', ⟨z1, z2, ⟨_, _, z3⟩, z4, z5⟩, fun c hc => ?_, q⟩
  have hle : s1.heap.objs.size ≤ c := by
    simp only [List.mem_cons, List.not_mem_nil, or_false] at hc
    rcases hc with rfl | rfl | rfl | rfl | rfl
    · exact ap' _ 4
    · exact ap' _ 2
    · exact ap' _ 3
    · exact ap' _ 0
    · exact ap' _ 1
  exact I1.fpOk hle (I1.hok.fresh hle)

/-! ### for i, x in enumerate(xs) -/
def Ite (K : PySem.W.Frag) (a : Addr) : It :=
  ⟨fun i H => ∃ xs x, SqL K H a xs ∧ xs[i]? = some x,
   fun i H v H' => ∃ T x, H T = none ∧ v = .ref T ∧ H' = upd H T (.tup [.int i, x]) ∧ ∀ xs, SqL K H a xs → xs[i]? = some x,
   fun i H => ∃ xs, SqL K H a xs ∧ xs.length ≤ i⟩
theorem turn_enum {P : Program} {w : World} {K : PySem.W.Frag} {elts : List Expr} {kk : Nat} {tpos : Pos} (n a : Addr) : Turn P w K (.Tuple elts kk tpos) (Ite K a) [n + 1, n] (n + 1)
    (fun i h => (∃ old, IsEnum h (n + 1) n i old) ∧ h.IsListIter n a i) where
  mem := by simp
  obj := fun i h st c hc => by
    obtain ⟨⟨old, he⟩, ⟨o1, e1, c1, d1⟩⟩ := st
    simp only [List.mem_cons, List.not_mem_nil, or_false] at hc
    rcases hc with rfl | rfl
    · exact ⟨_, he, fun v z => nomatch z⟩
    · exact ⟨_, e1, fun v z => by rw [d1] at z; cases z⟩
  keep := fun i h h' st k => by
    obtain ⟨⟨old, he⟩, h1⟩ := st
    exact ⟨⟨old, k _ (by simp) _ he⟩, h1.at fun o e => k _ (by simp) o e⟩
  item := by
    intro X hP hw hK hc i pins s σ H E I hf st hg
    subst hP hw hK
    obtain ⟨xs, x, hq, hx⟩ := hg
    obtain ⟨its, rv, p, _⟩ := I.list hq
    obtain ⟨u, hu, ru⟩ := rv.get hx
    obtain ⟨⟨old, he⟩, h1⟩ := st
    refine wpAny_pyNext_enum_item he h1 p.isList (x := u) (by simpa using hu) (ap n 1 0 (by decide)) fun h' a1 a2 a3 a4 k => ?_
    refine ⟨_, rfl, wpAny_letOwnedTupleGo_enum a1 fun h2' he2 sb => ?_⟩
    have lt : ∀ c ∈ [n + 1, n], c ≠ s.heap.objs.size := fun c hc => by
      simp only [List.mem_cons, List.not_mem_nil, or_false] at hc
      obtain ⟨_, q1, _, _⟩ := id h1
      rcases hc with rfl | rfl
      · exact Nat.ne_of_lt (Heap.lt_size he)
      · exact Nat.ne_of_lt (Heap.lt_size q1)
    have I1 : Inv X pins σ H { s with heap := h2', toks := s.toks + 1 } := I.turns (ch := [n + 1, n]) (fun c o hc e => by
      simp only [List.mem_cons, List.not_mem_nil, or_false, not_or] at hc
      exact (sb.2 c hc.1).trans (k c o hc.1 hc.2 e)) hf
    have fT : FpOk X pins H s.heap.objs.size := I.fpOk (Nat.le_refl _) (I.hok.fresh (Nat.le_refl _))
    have eT : h2'.get? s.heap.objs.size = some { cls := .type "tuple", data := .seq #[.int i s.toks, u] } := (sb.2 _ (Ne.symm (lt (n + 1) (by simp)))).trans a3
    refine ⟨.ref s.heap.objs.size, _, I1.adopt (o := .tup [.int i, x]) fT.1 fT.2.1 I.sz fT.2.2.2.2.1 fT.2.2.2.2.2 ⟨by show 2 ≤ sizeLine; decide, [.int i s.toks, u], .cons ⟨_, rfl⟩ (.cons ru .nil), ⟨_, eT, rfl, 0, rfl⟩⟩, rfl, ⟨_, x, fT.1, rfl, rfl, fun zs hzs => ?_⟩, ?_, fun c hc => ?_⟩
    · rw [I.list_inj hzs hq]; exact hx
    · exact ⟨⟨_, he2⟩, a2.at fun o e => (sb.2 _ (ap n 0 1 (by decide))).trans e⟩
    · rw [upd_ne (lt c hc)]
      exact (hf c hc).1
  done := by
    intro X hP hw hK hc i pins s σ H E I hf st hg
    subst hP hw hK
    obtain ⟨xs, hq, hx⟩ := hg
    obtain ⟨its, rv, p, _⟩ := I.list hq
    obtain ⟨⟨old, he⟩, h1⟩ := st
    have l1 := rv.length
    refine wpAny_pyNext_enum_end (I.ok.hd hc) he h1 p.isList (by simp; omega) fun h' k => ⟨rfl, ?_⟩
    exact I.turns (t' := s.toks) (ch := [n]) (fun c o hc e => k c o (by simpa using hc) e) fun c hc => hf c (by simp at hc ⊢; exact .inr hc)
  self := fun A i s Q E st h => by
    obtain ⟨⟨old, he⟩, _⟩ := st
    have hT : s.TypeIs (.ref (n + 1)) "enumerate" := ⟨_, he, rfl⟩
    refine wpAny_pyIter_slot hT F.slot_enumerate_iter (wpAny_call_entry F.slot_enumerate_iter hT F.entry_enumerate_iter ?_ (F.args_enumerate_iter_1 _))
    show wpAny _ _ (ret (.ref (n + 1))) _ _ s
    exact wpAny_pure ⟨_, rfl, "enumerate", _, hT, F.slot_enumerate_next.lookup, h⟩
theorem boot_enum : bootBuiltins "enumerate" = some (.type "enumerate") := by decide +kernel
def iEnum (K : PySem.W.Frag) (ta : TA) : TI := fun σ H R => ta σ H fun vs H1 => ∃ a, vs = [.ref a] ∧ (∃ xs, SqL K H1 a xs) ∧ R (Ite K a) H1
theorem pi_enum {X : Cx} {elts : List Expr} {kk : Nat} {tpos : Pos} {a : Expr} {ta : TA} {p pos : Pos} (hg : Gl X "enumerate") (hm : X.mg "enumerate" = none) (ha : PA X [a] ta) (hs : starEach [a] X.env = [(false, eval a X.env)] := by rfl) :
    PI X (.Tuple elts kk tpos) (.Call (.Name "enumerate" p) [a] [] pos) (iEnum X.K ta) := by
  intro pins s σ H R I h
  refine Call_ (ld_blt I hg hm boot_enum (PyProof.Rows.callWith_type1 (thn (ha pos pins s σ H _ I h) fun us s1 ⟨vs, H1, I1, r1, q1⟩ => ?_) hs rfl))
  obtain ⟨a', e, ⟨xs, hq1⟩, q⟩ := q1
  subst e
  obtain ⟨u, rfl, r⟩ := vals1 r1
  cases r
  obtain ⟨its1, rv1, p1, _⟩ := I1.list hq1
  refine call_enumerate_list p1.isList fun h' z1 z2 z3 k => ?_
  have T : Turn X.prog X.w X.K (.Tuple elts kk tpos) (Ite X.K a') _ _ _ := turn_enum s1.heap.objs.size a'
  refine T.self _ 0 { s1 with heap := h' } _ _ ⟨⟨_, z1⟩, z2⟩ ?_
  refine ⟨s1.heap.objs.size + 1, [s1.heap.objs.size + 1, s1.heap.objs.size], _, _, H1, rfl, I1.kept (t' := s1.toks) k, T, ⟨⟨_, z1⟩, z2⟩, fun c hc => ?_, q⟩
  have hle : s1.heap.objs.size ≤ c := by
    simp only [List.mem_cons, List.not_mem_nil, or_false] at hc
    rcases hc with rfl | rfl
    · exact ap' _ 1
    · exact ap' _ 0
  exact I1.fpOk hle (I1.hok.fresh hle)
end L2

set_option Elab.async false
set_option linter.all false
set_option maxRecDepth 100000
set_option maxHeartbeats 4000000
namespace L2
open PySem PySem.Spec PyProof.Rows

/-! ### inside a built-in: one unit more -/
abbrev Cx.in1 (X : Cx) : Cx := { X with A := X.A.in1 }
theorem Inv.in1 {X : Cx} {pins : List (Addr × Obj)} {σ : St} {H : Hp} {s : Shared} (I : Inv X pins σ H s) : Inv X.in1 pins σ H s :=
  ⟨⟨I.ok.mod, I.ok.kind, I.ok.glob, I.ok.blt, I.ok.above, I.ok.inj, I.ok.has, I.ok.cab, I.ok.hd, I.ok.frames, I.ok.stk, I.ok.exf, I.ok.bs, I.ok.bsz, I.ok.noex, I.ok.exfs, I.ok.funs, I.ok.frf⟩, I.os, I.bare, I.base, I.loc, I.cell, I.free, I.freeC, I.pin, I.hok, I.len⟩
theorem Inv.out1 {X : Cx} {pins : List (Addr × Obj)} {σ : St} {H : Hp} {s : Shared} (I : Inv X.in1 pins σ H s) : Inv X pins σ H s :=
  ⟨⟨I.ok.mod, I.ok.kind, I.ok.glob, I.ok.blt, I.ok.above, I.ok.inj, I.ok.has, I.ok.cab, I.ok.hd, I.ok.frames, I.ok.stk, I.ok.exf, I.ok.bs, I.ok.bsz, I.ok.noex, I.ok.exfs, I.ok.funs, I.ok.frf⟩, I.os, I.bare, I.base, I.loc, I.cell, I.free, I.freeC, I.pin, I.hok, I.len⟩

/-! ### any(xs), all(xs): the truth of the items of a list that is read -/
def TruL (K : PySem.W.Frag) (H : Hp) (ys : List V) (ks : List Bool) : Prop := Paired (fun y k => TruV K y H k) ys ks
theorem paired_get {α β : Type} {F : α → β → Prop} : ∀ {l₁ : List α} {l₂ : List β} {i : Nat} {a : α}, Paired F l₁ l₂ → l₁[i]? = some a → ∃ b, l₂[i]? = some b ∧ F a b
  | _, _, _, _, .nil, e => by simp at e
  | _, _, 0, _, .cons r _, e => by simp at e; subst e; exact ⟨_, rfl, r⟩
  | _, _, i + 1, a, .cons _ t, e => by
    obtain ⟨b, h1, h2⟩ := paired_get (i := i) (a := a) t (by simpa using e)
    exact ⟨b, by simpa using h1, h2⟩
section
variable {X : Cx} {pins : List (Addr × Obj)} {σ : St} {H : Hp} {R : Result → Shared → Prop} {a it : Addr} {ys : List V} {ks : List Bool}
theorem any_loop (hc : X.calm = true) (hq : SqL X.K H a ys) (ht : TruL X.K H ys ks) (hR : ∀ s', Inv X pins σ H s' → R (.ok (.ret (.bool (ks.any id)))) s') : ∀ (k i : Nat) (s : Shared), ys.length - i = k → i ≤ ys.length → (ks.take i).any id = false →
    Inv X pins σ H s → FpOk X pins H it → s.heap.IsListIter it a i → codeAny (model X.prog X.w) X.A (.builtin "any.loop" ⟨[.ref it], []⟩) R s := by
  have hlen : ys.length = ks.length := Paired.length ht
  intro k
  induction k with
  | zero =>
    intro i s hk hi hn I hf st
    have hin : i = ys.length := by omega
    refine codeAny_builtin F.entry_any_loop ?_
    rw [Around.under_plainId F.plain_any_loop _]
    show wpAny _ X.A.in1 (pyNext (.ref it) >>= _) _ _ s
    have T := turn_list (P := X.prog) (w := X.w) (K := X.K) (tg := .Name "x" ⟨0, 0, 0, 0⟩) a it
    refine wpAny_bind (thn (T.done X.in1 rfl rfl rfl hc i pins s σ H _ I.in1 (fun b hb => by
      have e : b = it := by simpa using hb
      subst e
      exact hf) st ⟨ys, hq, by omega⟩) fun r s1 ⟨hr, I1⟩ => ?_)
    subst hr
    refine wpAny_bind (wpAny_rule (wpAny_pure ?_))
    have := hR s1 I1.out1
    rw [← List.take_of_length_le (l := ks) (i := i) (by omega), hn] at this
    exact this
  | succ k ih =>
    intro i s hk hi hn I hf st
    have hlt : i < ys.length := by omega
    have hx : ys[i]? = some ys[i] := List.getElem?_eq_getElem hlt
    obtain ⟨b, hb, htv⟩ := paired_get ht hx
    refine codeAny_builtin F.entry_any_loop ?_
    rw [Around.under_plainId F.plain_any_loop _]
    show wpAny _ X.A.in1 (pyNext (.ref it) >>= _) _ _ s
    obtain ⟨its, rv, p, _⟩ := I.list hq
    obtain ⟨u, hu, ru⟩ := rv.get hx
    refine wpAny_bind (wpAny_pyNext_list_item st p.isList (x := u) (by simpa using hu) fun h' st' sb => ?_)
    have I1 : Inv X pins σ H { s with heap := h' } := I.turns (t' := s.toks) (ch := [it]) (fun c o hc' e => (sb.2 c (by simpa using hc')).trans e) (fun c hc' => by
      have e : c = it := by simpa using hc'
      subst e
      exact hf)
    obtain ⟨oi, ei, ci, di⟩ := id st'
    have I1' : Inv X.in1 (pins ++ [(it, oi)]) σ H { s with heap := h' } := I1.in1.pins_of fun q hq' => by
      rcases List.mem_append.mp hq' with z | z
      · exact I1.pin q (List.mem_append_right _ z)
      · have e : q = (it, oi) := by simpa using z
        subst e
        exact ⟨ei, hf.1, hf.2.1, hf.2.2.1, fun v z => by rw [di] at z; cases z⟩
    refine wpAny_bind (wpAny_holding (wpAny_mono (tru_ok (X := X.in1.nox) _ _ σ H ys[i] u (fun k' H' => k' = b ∧ H' = H) (I1'.wish _) ru ⟨b, htv, rfl, rfl⟩) (fun kb s2 ⟨H2, I2', e1, e2⟩ => ?_) (fun _ _ z => z.elim)))
    subst e1 e2
    have I2 := I2'.unwish
    have st2 : s2.heap.IsListIter it a (i + 1) := ⟨oi, (I2.pin (it, oi) (List.mem_append_right _ (List.mem_append_right _ (by simp)))).1, ci, di⟩
    refine wpAny_bind (wpAny_letGo ?_)
    have hbk : ks[i]? = some kb := hb
    cases kb with
    | false =>
      simp only [Bool.false_eq_true, if_false]
      refine wpAny_pure ⟨plainId_quiet F.plain_any_loop _, ih (i + 1) s2 (by omega) hlt ?_ I2.unpinned.out1 hf st2⟩
      rw [List.take_add_one, hbk, List.any_append, hn]
      rfl
    | true =>
      simp only [if_true]
      refine wpAny_bind (wpAny_rule (wpAny_pure ?_))
      have := hR s2 I2.unpinned.out1
      have e : ks.any id = true := List.any_eq_true.mpr ⟨true, List.mem_of_getElem? hbk, rfl⟩
      rw [e] at this
      exact this
theorem all_loop (hc : X.calm = true) (hq : SqL X.K H a ys) (ht : TruL X.K H ys ks) (hR : ∀ s', Inv X pins σ H s' → R (.ok (.ret (.bool (ks.all id)))) s') : ∀ (k i : Nat) (s : Shared), ys.length - i = k → i ≤ ys.length → (ks.take i).all id = true →
    Inv X pins σ H s → FpOk X pins H it → s.heap.IsListIter it a i → codeAny (model X.prog X.w) X.A (.builtin "all.loop" ⟨[.ref it], []⟩) R s := by
  have hlen : ys.length = ks.length := Paired.length ht
  intro k
  induction k with
  | zero =>
    intro i s hk hi hn I hf st
    have hin : i = ys.length := by omega
    refine codeAny_builtin F.entry_all_loop ?_
    rw [Around.under_plainId F.plain_all_loop _]
    show wpAny _ X.A.in1 (pyNext (.ref it) >>= _) _ _ s
    have T := turn_list (P := X.prog) (w := X.w) (K := X.K) (tg := .Name "x" ⟨0, 0, 0, 0⟩) a it
    refine wpAny_bind (thn (T.done X.in1 rfl rfl rfl hc i pins s σ H _ I.in1 (fun b hb => by
      have e : b = it := by simpa using hb
      subst e
      exact hf) st ⟨ys, hq, by omega⟩) fun r s1 ⟨hr, I1⟩ => ?_)
    subst hr
    refine wpAny_bind (wpAny_rule (wpAny_pure ?_))
    have := hR s1 I1.out1
    rw [← List.take_of_length_le (l := ks) (i := i) (by omega), hn] at this
    exact this
  | succ k ih =>
    intro i s hk hi hn I hf st
    have hlt : i < ys.length := by omega
    have hx : ys[i]? = some ys[i] := List.getElem?_eq_getElem hlt
    obtain ⟨b, hb, htv⟩ := paired_get ht hx
    refine codeAny_builtin F.entry_all_loop ?_
    rw [Around.under_plainId F.plain_all_loop _]
    show wpAny _ X.A.in1 (pyNext (.ref it) >>= _) _ _ s
    obtain ⟨its, rv, p, _⟩ := I.list hq
    obtain ⟨u, hu, ru⟩ := rv.get hx
    refine wpAny_bind (wpAny_pyNext_list_item st p.isList (x := u) (by simpa using hu) fun h' st' sb => ?_)
    have I1 : Inv X pins σ H { s with heap := h' } := I.turns (t' := s.toks) (ch := [it]) (fun c o hc' e => (sb.2 c (by simpa using hc')).trans e) (fun c hc' => by
      have e : c = it := by simpa using hc'
      subst e
      exact hf)
    obtain ⟨oi, ei, ci, di⟩ := id st'
    have I1' : Inv X.in1 (pins ++ [(it, oi)]) σ H { s with heap := h' } := I1.in1.pins_of fun q hq' => by
      rcases List.mem_append.mp hq' with z | z
      · exact I1.pin q (List.mem_append_right _ z)
      · have e : q = (it, oi) := by simpa using z
        subst e
        exact ⟨ei, hf.1, hf.2.1, hf.2.2.1, fun v z => by rw [di] at z; cases z⟩
    refine wpAny_bind (wpAny_holding (wpAny_mono (tru_ok (X := X.in1.nox) _ _ σ H ys[i] u (fun k' H' => k' = b ∧ H' = H) (I1'.wish _) ru ⟨b, htv, rfl, rfl⟩) (fun kb s2 ⟨H2, I2', e1, e2⟩ => ?_) (fun _ _ z => z.elim)))
    subst e1 e2
    have I2 := I2'.unwish
    have st2 : s2.heap.IsListIter it a (i + 1) := ⟨oi, (I2.pin (it, oi) (List.mem_append_right _ (List.mem_append_right _ (by simp)))).1, ci, di⟩
    refine wpAny_bind (wpAny_letGo ?_)
    have hbk : ks[i]? = some kb := hb
    cases kb with
    | true =>
      simp only [if_true]
      refine wpAny_pure ⟨plainId_quiet F.plain_all_loop _, ih (i + 1) s2 (by omega) hlt ?_ I2.unpinned.out1 hf st2⟩
      rw [List.take_add_one, hbk, List.all_append, hn]
      rfl
    | false =>
      simp only [Bool.false_eq_true, if_false]
      refine wpAny_bind (wpAny_rule (wpAny_pure ?_))
      have := hR s2 I2.unpinned.out1
      have e : ks.all id = false := by
        rw [List.all_eq_false]
        exact ⟨false, List.mem_of_getElem? hbk, by simp⟩
      rw [e] at this
      exact this
end
section
variable {X : Cx}
theorem boot_any' : bootBuiltins "any" = some (.builtin "any") := by decide +kernel
theorem boot_all' : bootBuiltins "all" = some (.builtin "all") := by decide +kernel
theorem call_any (hc : X.calm = true) : CallR X (.builtin "any") (fun xs H Q => ∃ p ys ks, xs = [.ref p] ∧ SqL X.K H p ys ∧ TruL X.K H ys ks ∧ Q (.bl (ks.any id)) H) := by
  intro pins s σ H xs us Q I r h
  obtain ⟨p, ys, ks, rfl, hq, ht, q⟩ := h
  obtain ⟨u, rfl, ru⟩ := vals1 r
  cases ru
  refine call_function_tree F.kind_any F.plain_any F.entry_any (F.args_any1 _) ?_
  unfold Builtin.«any»
  refine wpAny_bind (m := oneArg "any" _) (wpAny_pure ?_)
  obtain ⟨its, rv, pl, hz⟩ := I.list hq
  refine wpAny_bind (wpAny_pyIter_list pl.isList ?_)
  refine wpAny_pure ⟨plainId_quiet F.plain_any_loop _, any_loop (it := s.heap.objs.size) hc hq ht ?_ ys.length 0 _ rfl (Nat.zero_le _) rfl (I.kept (t' := s.toks) fun b o e => Heap.get?_push_of_some _ e) (I.fpOk (Nat.le_refl _) (I.hok.fresh (Nat.le_refl _))) ⟨_, Heap.get?_push_size _ rfl, rfl, rfl⟩⟩
  exact fun s' I' => ⟨.bl _, H, I', rfl, q⟩
theorem call_all (hc : X.calm = true) : CallR X (.builtin "all") (fun xs H Q => ∃ p ys ks, xs = [.ref p] ∧ SqL X.K H p ys ∧ TruL X.K H ys ks ∧ Q (.bl (ks.all id)) H) := by
  intro pins s σ H xs us Q I r h
  obtain ⟨p, ys, ks, rfl, hq, ht, q⟩ := h
  obtain ⟨u, rfl, ru⟩ := vals1 r
  cases ru
  refine call_function_tree F.kind_all F.plain_all F.entry_all (F.args_all1 _) ?_
  unfold Builtin.«all»
  refine wpAny_bind (m := oneArg "all" _) (wpAny_pure ?_)
  obtain ⟨its, rv, pl, hz⟩ := I.list hq
  refine wpAny_bind (wpAny_pyIter_list pl.isList ?_)
  refine wpAny_pure ⟨plainId_quiet F.plain_all_loop _, all_loop (it := s.heap.objs.size) hc hq ht ?_ ys.length 0 _ rfl (Nat.zero_le _) rfl (I.kept (t' := s.toks) fun b o e => Heap.get?_push_of_some _ e) (I.fpOk (Nat.le_refl _) (I.hok.fresh (Nat.le_refl _))) ⟨_, Heap.get?_push_size _ rfl, rfl, rfl⟩⟩
  exact fun s' I' => ⟨.bl _, H, I', rfl, q⟩

/-! ### isinstance(x, T), T a built-in type or an own class -/
theorem call_isinst : CallR X (.builtin "isinstance") (fun xs H Q => ∃ x T t b, xs = [x, .ty T] ∧ TyOf X.K H x t ∧ PySem.W.kitOne X.K t (.type T) = some b ∧ Q (.bl b) H) := by
  intro pins s σ H xs us Q I r h
  obtain ⟨x, T, t, b, rfl, ty, e, q⟩ := h
  obtain ⟨u, w', rfl, ru, rw'⟩ := vals2 r
  cases rw'
  exact isinst_ok I ru ty e fun tk => ⟨.bl b, H, I.tok _, rfl, q⟩

/-! ### a text's slice -/
theorem sl_str : SlR X (fun x lo hi H Q => ∃ z, x = .str z ∧ z.length ≤ sizeLine ∧ Q (.str (Txt.slice z lo hi)) H) := by
  intro pins s σ H x v vl vu lo hi sl Q I rx hs pl pu h
  obtain ⟨z, rfl, hz, q⟩ := h
  obtain ⟨t, rfl⟩ := rx
  obtain ⟨o, ho, hc, hd⟩ := hs
  have fin : ∀ (l u : Option (Int × Tok)), vl = partValue l → vu = partValue u → lo = l.map (·.1) → hi = u.map (·.1) → wpAny (model X.prog X.w) X.A (getItem (.str z t) (.ref sl)) (EP X pins σ Q) X.xe s := fun l u e1 e2 e3 e4 => by
    subst e1 e2 e3 e4
    exact wpAny_getItem_str_slice (l := l) (u := u) (st := none) ⟨o, ho, hc, hd⟩ rfl (post_val_or_str ⟨Nat.le_trans (Txt.slice_le z _ _) hz, fun t' k => ⟨.str _, H, I.tok _, ⟨_, rfl⟩, q⟩⟩)
  refine ⟨"str", _, F.slot_str_getitem.lookup, typeIs_str _ _ _, ?_⟩
  cases pl with
  | none =>
    cases pu with
    | none => exact fin none none rfl rfl rfl rfl
    | int j tj => exact fin none (some (j, tj)) rfl rfl rfl rfl
  | int i ti =>
    cases pu with
    | none => exact fin (some (i, ti)) none rfl rfl rfl rfl
    | int j tj => exact fin (some (i, ti)) (some (j, tj)) rfl rfl rfl rfl
end
/-- the codes of a slice -/
def cutN (xs : List Nat) (lo hi : Option Int) : List Nat := (xs.drop (HT.sIx xs.length 0 lo)).take (HT.sIx xs.length xs.length hi - HT.sIx xs.length 0 lo)
end L2

set_option Elab.async false
set_option linter.all false
set_option maxRecDepth 100000
set_option maxHeartbeats 4000000
namespace L2
open PySem PySem.Spec PyProof.Rows
/-! ### the forms one uses: zip, enumerate -/
theorem for_zip {K : PySem.W.Frag} {a b : Addr} {xs ys : List V} {g : TG} {tb : TS} {D : Ends} {σ : St} {H : Hp} (hlen : xs.length = ys.length) (Pv : Nat → St → Hp → Prop) (h0 : Pv 0 σ H) (hl : ∀ i σ H, i ≤ xs.length → Pv i σ H → SqL K H a xs ∧ SqL K H b ys)
    (hs : ∀ i x y σ H T, xs[i]? = some x → ys[i]? = some y → Pv i σ H → H T = none → g (.ref T) σ (upd H T (.tup [x, y])) fun σ2 H2 => tb { D with nx := Pv (i + 1), ct := Pv (i + 1), bk := D.nx } σ2 H2) (hd : ∀ σ H, Pv xs.length σ H → D.nx σ H) :
    ∃ W : Nat → Nat → St → Hp → Prop, (∃ m, W 0 m σ H) ∧ ∀ i m σ H, W i m σ H →
      ((Itz K a b).stop i H ∧ D.nx σ H) ∨ ((Itz K a b).go i H ∧ ∃ N : St → Hp → Prop, (∀ σ' H', N σ' H' → ∃ m', m' < m ∧ W (i + 1) m' σ' H') ∧ ∀ x H', (Itz K a b).yld i H x H' → g x σ H' fun σ2 H2 => tb { D with nx := N, ct := N, bk := D.nx } σ2 H2) := by
  refine ⟨fun i m σ H => m = xs.length - i ∧ i ≤ xs.length ∧ Pv i σ H, ⟨xs.length, by simp, Nat.zero_le _, h0⟩, ?_⟩
  rintro i m σ H ⟨rfl, hi, p⟩
  obtain ⟨q1, q2⟩ := hl i σ H hi p
  by_cases hlt : i < xs.length
  · have hlt2 : i < ys.length := by omega
    refine .inr ⟨⟨xs, ys, xs[i], ys[i], q1, q2, by simp [hlt], by simp [hlt2]⟩, Pv (i + 1), fun σ' H' p' => ⟨xs.length - (i + 1), by omega, rfl, hlt, p'⟩, fun x H' y => ?_⟩
    obtain ⟨T, x', y', hT, rfl, rfl, e1, e2⟩ := y
    exact hs i x' y' σ _ T (e1 xs q1) (e2 ys q2) p hT
  · have e : i = xs.length := by omega
    subst e
    exact .inl ⟨⟨xs, ys, q1, q2, .inl (Nat.le_refl _)⟩, hd σ H p⟩
theorem for_enum {K : PySem.W.Frag} {a : Addr} {xs : List V} {g : TG} {tb : TS} {D : Ends} {σ : St} {H : Hp} (Pv : Nat → St → Hp → Prop) (h0 : Pv 0 σ H) (hl : ∀ i σ H, i ≤ xs.length → Pv i σ H → SqL K H a xs)
    (hs : ∀ i x σ H T, xs[i]? = some x → Pv i σ H → H T = none → g (.ref T) σ (upd H T (.tup [.int i, x])) fun σ2 H2 => tb { D with nx := Pv (i + 1), ct := Pv (i + 1), bk := D.nx } σ2 H2) (hd : ∀ σ H, Pv xs.length σ H → D.nx σ H) :
    ∃ W : Nat → Nat → St → Hp → Prop, (∃ m, W 0 m σ H) ∧ ∀ i m σ H, W i m σ H →
      ((Ite K a).stop i H ∧ D.nx σ H) ∨ ((Ite K a).go i H ∧ ∃ N : St → Hp → Prop, (∀ σ' H', N σ' H' → ∃ m', m' < m ∧ W (i + 1) m' σ' H') ∧ ∀ x H', (Ite K a).yld i H x H' → g x σ H' fun σ2 H2 => tb { D with nx := N, ct := N, bk := D.nx } σ2 H2) := by
  refine ⟨fun i m σ H => m = xs.length - i ∧ i ≤ xs.length ∧ Pv i σ H, ⟨xs.length, by simp, Nat.zero_le _, h0⟩, ?_⟩
  rintro i m σ H ⟨rfl, hi, p⟩
  have q := hl i σ H hi p
  by_cases hlt : i < xs.length
  · refine .inr ⟨⟨xs, xs[i], q, by simp [hlt]⟩, Pv (i + 1), fun σ' H' p' => ⟨xs.length - (i + 1), by omega, rfl, hlt, p'⟩, fun x H' y => ?_⟩
    obtain ⟨T, x', hT, rfl, rfl, e1⟩ := y
    exact hs i x' σ _ T (e1 xs q) p hT
  · have e : i = xs.length := by omega
    subst e
    exact .inl ⟨⟨xs, q, Nat.le_refl _⟩, hd σ H p⟩
theorem turns_zip {K : PySem.W.Frag} {a b : Addr} {xs zs : List V} {n : Nat} {fr : List (Str × Nat)} {g : TG} {tc : TT} {te : TE} {σ : St} {H : Hp} {F : List V → Hp → Prop} (hlen : xs.length = zs.length) (Pv : Nat → List V → Hp → Prop) (h0 : Pv 0 [] H) (hl : ∀ i ys H, i ≤ xs.length → Pv i ys H → SqL K H a xs ∧ SqL K H b zs)
    (hs : ∀ i x z ys H T, xs[i]? = some x → zs[i]? = some z → Pv i ys H → H T = none → g (.ref T) (stC n fr σ) (upd H T (.tup [x, z])) fun σ2 H2 => tc σ2 H2 fun b H3 => if b = true then te σ2 H3 fun y H4 => ys.length < sizeLine ∧ Pv (i + 1) (ys ++ [y]) H4 else Pv (i + 1) ys H3)
    (hd : ∀ ys H, Pv xs.length ys H → F ys H) : tTurns n fr g tc te σ (Itz K a b) H F := by
  refine ⟨fun i m ys H => m = xs.length - i ∧ i ≤ xs.length ∧ Pv i ys H, ⟨xs.length, by simp, Nat.zero_le _, h0⟩, ?_⟩
  rintro i m ys H ⟨rfl, hi, p⟩
  obtain ⟨q1, q2⟩ := hl i ys H hi p
  by_cases hlt : i < xs.length
  · have hlt2 : i < zs.length := by omega
    refine .inr ⟨⟨xs, zs, xs[i], zs[i], q1, q2, by simp [hlt], by simp [hlt2]⟩, Pv (i + 1), fun ys' H' p' => ⟨xs.length - (i + 1), by omega, rfl, hlt, p'⟩, fun x H' y => ?_⟩
    obtain ⟨T, x', y', hT, rfl, rfl, e1, e2⟩ := y
    exact hs i x' y' ys _ T (e1 xs q1) (e2 zs q2) p hT
  · have e : i = xs.length := by omega
    subst e
    exact .inl ⟨⟨xs, zs, q1, q2, .inl (Nat.le_refl _)⟩, hd ys H p⟩
/-! .. without a test -/
theorem turns_list0 {K : PySem.W.Frag} {a : Addr} {xs : List V} {n : Nat} {fr : List (Str × Nat)} {g : TG} {te : TE} {σ : St} {H : Hp} {F : List V → Hp → Prop} (Pv : Nat → List V → Hp → Prop) (h0 : Pv 0 [] H) (hl : ∀ i ys H, i ≤ xs.length → Pv i ys H → SqL K H a xs)
    (hs : ∀ i x ys H, xs[i]? = some x → Pv i ys H → g x (stC n fr σ) H fun σ2 H2 => te σ2 H2 fun y H4 => ys.length < sizeLine ∧ Pv (i + 1) (ys ++ [y]) H4)
    (hd : ∀ ys H, Pv xs.length ys H → F ys H) : tTurns n fr g tNoIf te σ (Itl K a) H F := turns_list Pv h0 hl (fun i x ys H hx p => hs i x ys H hx p) hd
theorem turns_range0 {lo : Int} {k n : Nat} {fr : List (Str × Nat)} {g : TG} {te : TE} {σ : St} {H : Hp} {F : List V → Hp → Prop} (Pv : Nat → List V → Hp → Prop) (h0 : Pv 0 [] H)
    (hs : ∀ i ys H, i < k → Pv i ys H → g (.int (lo + i)) (stC n fr σ) H fun σ2 H2 => te σ2 H2 fun y H4 => ys.length < sizeLine ∧ Pv (i + 1) (ys ++ [y]) H4)
    (hd : ∀ ys H, Pv k ys H → F ys H) : tTurns n fr g tNoIf te σ (Itr lo k) H F := turns_range Pv h0 (fun i ys H hi p => hs i ys H hi p) hd
theorem turns_zip0 {K : PySem.W.Frag} {a b : Addr} {xs zs : List V} {n : Nat} {fr : List (Str × Nat)} {g : TG} {te : TE} {σ : St} {H : Hp} {F : List V → Hp → Prop} (hlen : xs.length = zs.length) (Pv : Nat → List V → Hp → Prop) (h0 : Pv 0 [] H) (hl : ∀ i ys H, i ≤ xs.length → Pv i ys H → SqL K H a xs ∧ SqL K H b zs)
    (hs : ∀ i x z ys H T, xs[i]? = some x → zs[i]? = some z → Pv i ys H → H T = none → g (.ref T) (stC n fr σ) (upd H T (.tup [x, z])) fun σ2 H2 => te σ2 H2 fun y H4 => ys.length < sizeLine ∧ Pv (i + 1) (ys ++ [y]) H4)
    (hd : ∀ ys H, Pv xs.length ys H → F ys H) : tTurns n fr g tNoIf te σ (Itz K a b) H F := turns_zip hlen Pv h0 hl (fun i x z ys H T hx hz p hT => hs i x z ys H T hx hz p hT) hd
end L2

set_option Elab.async false
set_option linter.all false
set_option maxRecDepth 100000
set_option maxHeartbeats 4000000
namespace L2
open PySem PySem.Spec PyProof.Rows

/-! ### an exception's record as it flies: its class, its own dict, its newest traceback entry -/
abbrev frA (l : List Env) : List Addr := l.filterMap (·.frame)
/-- outside S (the frames) and ch all objects are kept; outside ch up to slots -/
structure Flew (S ch : List Addr) (h h' : Heap) : Prop where
  keep : ∀ b o, b ∉ S → b ∉ ch → h.get? b = some o → h'.get? b = some o
  slot : ∀ b o, b ∉ ch → h.get? b = some o → ∃ sl, h'.get? b = some { o with slots := sl }
  size : h.objs.size ≤ h'.objs.size
theorem Flew.trans {S c1 c2 : List Addr} {h h1 h2 : Heap} (a : Flew S c1 h h1) (b : Flew S c2 h1 h2) : Flew S (c1 ++ c2) h h2 where
  keep := fun x o hs hc e => by
    rw [List.mem_append, not_or] at hc
    exact b.keep x o hs hc.2 (a.keep x o hs hc.1 e)
  slot := fun x o hc e => by
    rw [List.mem_append, not_or] at hc
    obtain ⟨s1, e1⟩ := a.slot x o hc.1 e
    obtain ⟨s2, e2⟩ := b.slot x _ hc.2 e1
    exact ⟨s2, e2⟩
  size := Nat.le_trans a.size b.size
theorem Flew.mono {S c1 c2 : List Addr} {h h1 : Heap} (a : Flew S c1 h h1) (k : ∀ b ∈ c1, b ∈ c2) : Flew S c2 h h1 :=
  ⟨fun x o hs hc e => a.keep x o hs (fun z => hc (k x z)) e, fun x o hc e => a.slot x o (fun z => hc (k x z)) e, a.size⟩
structure ExcNew (h : Heap) (e : Addr) (cls : Value) (dx : Option Addr) (oe : Obj) (vs : Array Value) : Prop where
  get : h.get? e = some oe
  cls : oe.cls = cls
  dict : oe.dict = dx
  data : oe.data = .fields vs
  tb : vs[1]? = some .none
structure ExcAt (h : Heap) (e : Addr) (cls : Value) (dx : Option Addr) (T : Addr) (fl : Value) (oe oT : Obj) (vs ts : Array Value) : Prop where
  get : h.get? e = some oe
  cls : oe.cls = cls
  dict : oe.dict = dx
  data : oe.data = .fields vs
  tb : vs[1]? = some (.ref T)
  ne : T ≠ e
  getT : h.get? T = some oT
  dataT : oT.data = .fields ts
  fl : ts[3]? = some fl
theorem dict_mapF (o : Obj) (f : Array Value → Array Value) : (o.mapFields f).dict = o.dict := by
  obtain ⟨c, d, dt, sl⟩ := o
  cases dt <;> rfl
section
variable {M : Model} {A : Around} {E : Value → Shared → Prop} {s : Shared} {base : Heap} {env : Env} {outer : List Env} {L e : Addr} {cls : Value} {dx : Option Addr} {Q : Unit → Shared → Prop}

theorem not_frame (hl : s.heap.FunFrames base (env :: outer)) {b : Addr} {o : Obj} {vs : Array Value} (e1 : s.heap.get? b = some o) (d : o.data = .fields vs) : b ∉ frA (env :: outer) := fun hm => by
  obtain ⟨_, o', ho, hnf⟩ := hl.mem hm
  rw [e1] at ho
  cases ho
  exact hnf vs d

/-- a new traceback entry is laid ahead of the others -/
theorem entryD {oe : Obj} {vs : Array Value} {head : Value} {hn : Bool} (hfr : A.frames = some (env :: outer)) (hl : s.heap.FunFrames base (env :: outer)) (hf : env.frame = some L)
    (he : s.heap.get? e = some oe) (hc : oe.cls = cls) (hx : oe.dict = dx) (hd : oe.data = .fields vs) (hsz : 1 < vs.size)
    (h : ∀ h' T oe' oT vs' ts, s.heap.objs.size ≤ T → Flew (frA (env :: outer)) [e] s.heap h' → ExcAt h' e cls dx T (rawInt L) oe' oT vs' ts → Q () { s with heap := h' }) :
    wpAny M A (do let a ← frameOf env; let pl ← entryPlaceOf L hn; let b ← EntryCells.newEntry head a .none (rawInt L) .none pl; setField (.ref e) 1 b) Q E s := by
  have ne := not_frame hl he hd
  refine wpAny_bind (wpAny_frameOf_fun hfr hl hf fun h1 so => wpAny_bind (wpAny_entryPlaceOf fun pl hpl => ?_))
  unfold EntryCells.newEntry newFields
  refine wpAny_bind (wpAny_newObj_type ?_ (hpl.sizeOk5 _ _ _ _ _))
  have e1 : h1.get? e = some oe := (so.2.1 e ne).trans he
  generalize hto : ({ cls := .type "traceback", dict := none, data := .fields ([head, .ref L, .none, rawInt L, .none] ++ (if pl.isEmpty then List.replicate 6 Value.none else pl)).toArray } : Obj) = tobj
  have hT3 : ∃ ts, tobj.data = .fields ts ∧ ts[3]? = some (rawInt L) ∧ tobj.isFreed = false := by
    subst hto
    exact ⟨_, rfl, by first | (simp; done) | (rcases hpl with rfl | ⟨_, _, _, _, _, _, _, rfl⟩ <;> simp), rfl⟩
  obtain ⟨ts, td, t3, tf⟩ := hT3
  have e2 : (h1.push tobj).get? e = some oe := Heap.get?_push_of_some tobj e1
  have sz1 : h1.objs.size = s.heap.objs.size := so.1
  have nT : h1.objs.size ≠ e := Nat.ne_of_gt (Heap.lt_size e1)
  have d3 := Obj.data_mapFields hd (·.setIfInBounds 1 (Value.ref h1.objs.size))
  refine wpAny_setField e2 hd hsz (h _ h1.objs.size _ tobj _ ts (Nat.le_of_eq sz1.symm) ⟨fun b o hs hc' q => ?_, fun b o hc' q => ?_, ?_⟩ ⟨Heap.get?_update_self _ e2 (Obj.isFreed_of_fields d3), (Obj.cls_mapFields _ _).trans hc, (dict_mapF _ _).trans hx, d3, by simp [hsz], nT, ?_, td, t3⟩)
  · rw [Heap.get?_update_other _ _ (Ne.symm (show b ≠ e by simpa using hc'))]
    exact Heap.get?_push_of_some _ ((so.2.1 b hs).trans q)
  · obtain ⟨sl, q1⟩ := so.2.2 b o q
    refine ⟨sl, ?_⟩
    rw [Heap.get?_update_other _ _ (Ne.symm (show b ≠ e by simpa using hc'))]
    exact Heap.get?_push_of_some _ q1
  · have z := Heap.size_push h1 tobj
    have z2 : ((h1.push tobj).update e (Obj.mapFields (·.setIfInBounds 1 (Value.ref h1.objs.size)))).objs.size = (h1.push tobj).objs.size := (Heap.SameBut.update (a := e) (h1.push tobj) (Obj.mapFields (·.setIfInBounds 1 (Value.ref h1.objs.size)))).1
    exact Nat.le_trans (Nat.le_of_eq sz1.symm) (Nat.le_trans (by rw [z]; exact Nat.le_succ _) (Nat.le_of_eq z2.symm))
  · rw [Heap.get?_update_other _ _ (Ne.symm nT)]
    exact Heap.get?_push_size h1 tf
theorem noteD_first {oe : Obj} {vs : Array Value} (hfr : A.frames = some (env :: outer)) (hl : s.heap.FunFrames base (env :: outer)) (hf : env.frame = some L) (x : ExcNew s.heap e cls dx oe vs)
    (h : ∀ h' T oe' oT vs' ts, s.heap.objs.size ≤ T → Flew (frA (env :: outer)) [e] s.heap h' → ExcAt h' e cls dx T (rawInt L) oe' oT vs' ts → Q () { s with heap := h' }) : wpAny M A (noteFrame (.ref e) env) Q E s := by
  unfold noteFrame
  simp only [hf]
  refine wpAny_bind (wpAny_field x.get x.data x.tb ?_)
  rw [if_neg (by decide)]
  exact entryD hfr hl hf x.get x.cls x.dict x.data (Array.getElem?_eq_some_iff.mp x.tb).1 h
/-- the entry's flight is ended -/
theorem unflyD {T : Addr} {fl : Value} {oe oT : Obj} {vs ts : Array Value} (x : ExcAt s.heap e cls dx T fl oe oT vs ts) (S : List Addr) :
    Flew S [T] s.heap (s.heap.update T (Obj.mapFields (·.setIfInBounds 3 .none))) ∧ ∃ oT' ts', ExcAt (s.heap.update T (Obj.mapFields (·.setIfInBounds 3 .none))) e cls dx T .none oe oT' vs ts' := by
  have hsz : 3 < ts.size := (Array.getElem?_eq_some_iff.mp x.fl).1
  have d3 := Obj.data_mapFields x.dataT (·.setIfInBounds 3 Value.none)
  have oth : ∀ b, b ≠ T → (s.heap.update T (Obj.mapFields (·.setIfInBounds 3 .none))).get? b = s.heap.get? b := fun b hb => Heap.get?_update_other _ _ (Ne.symm hb)
  refine ⟨⟨fun b o _ hc q => (oth b (by simpa using hc)).trans q, fun b o hc q => ⟨o.slots, (oth b (by simpa using hc)).trans q⟩, Nat.le_of_eq (Heap.SameBut.update (a := T) s.heap _).1.symm⟩, _, _, (oth e (Ne.symm x.ne)).trans x.get, x.cls, x.dict, x.data, x.tb, x.ne, Heap.get?_update_self _ x.getT (Obj.isFreed_of_fields d3), d3, by simp [hsz]⟩
theorem flightD {T : Addr} {fl : Value} {oe oT : Obj} {vs ts : Array Value} (x : ExcAt s.heap e cls dx T fl oe oT vs ts) (S : List Addr)
    (h : ∀ h' oT' ts', Flew S [T] s.heap h' → ExcAt h' e cls dx T .none oe oT' vs ts' → Q () { s with heap := h' }) : wpAny M A (setFlight (.ref e) none) Q E s := by
  obtain ⟨k1, oT', ts', k2⟩ := unflyD (s := s) x S
  unfold setFlight
  refine wpAny_bind (wpAny_field x.get x.data x.tb ?_)
  rw [if_pos (show (Value.ref T != Value.none) = true from by simp)]
  exact wpAny_setField x.getT x.dataT (Array.getElem?_eq_some_iff.mp x.fl).1 (h _ _ _ k1 k2)
theorem noteD_next {T : Addr} {oe oT : Obj} {vs ts : Array Value} (hfr : A.frames = some (env :: outer)) (hl : s.heap.FunFrames base (env :: outer)) (hf : env.frame = some L) (x : ExcAt s.heap e cls dx T .none oe oT vs ts)
    (h : ∀ h' T' oe' oT' vs' ts', s.heap.objs.size ≤ T' → Flew (frA (env :: outer)) [e, T] s.heap h' → ExcAt h' e cls dx T' (rawInt L) oe' oT' vs' ts' → Q () { s with heap := h' }) : wpAny M A (noteFrame (.ref e) env) Q E s := by
  unfold noteFrame
  simp only [hf]
  refine wpAny_bind (wpAny_field x.get x.data x.tb ?_)
  rw [if_pos (show (Value.ref T != Value.none) = true from by simp)]
  refine wpAny_bind (wpAny_field x.getT x.dataT x.fl ?_)
  rw [if_neg (show ¬ ((Value.none == rawInt L) = true) from by simp [rawInt])]
  refine wpAny_bind (wpAny_setField x.getT x.dataT (Array.getElem?_eq_some_iff.mp x.fl).1 ?_)
  obtain ⟨k1, oT', ts', k2⟩ := unflyD (s := s) x (frA (env :: outer))
  have nfT := not_frame hl x.getT x.dataT
  have hl2 : (s.heap.update T (Obj.mapFields (·.setIfInBounds 3 .none))).FunFrames base (env :: outer) := hl.of_keeps fun b o q hnf => by
    obtain ⟨sl, q'⟩ := k1.slot b o (fun z => by
      have z' : b = T := by simpa using z
      subst z'
      rw [x.getT] at q
      cases q
      exact hnf ts x.dataT) q
    exact ⟨_, q', rfl⟩
  refine entryD (s := { s with heap := s.heap.update T (Obj.mapFields (·.setIfInBounds 3 .none)) }) hfr hl2 hf k2.get k2.cls k2.dict k2.data (Array.getElem?_eq_some_iff.mp x.tb).1 fun h' T' oe' oT2 vs' ts2 hT' fl at' => ?_
  exact h h' T' oe' oT2 vs' ts2 (Nat.le_trans k1.size hT') ((k1.trans fl).mono (by intro b hb; simp at hb ⊢; rcases hb with z | z <;> simp [z])) at'
/-- an exception leaves a frame -/
theorem leaveD_first {oe : Obj} {vs : Array Value} (hfr : A.frames = some (env :: outer)) (hl : s.heap.FunFrames base (env :: outer)) (hf : env.frame = some L) (x : ExcNew s.heap e cls dx oe vs)
    (h : ∀ h' T oe' oT vs' ts, s.heap.objs.size ≤ T → Flew (frA (env :: outer)) [e] s.heap h' → ExcAt h' e cls dx T .none oe' oT vs' ts → Q () { s with heap := h' }) : wpAny M A (leaving env (.ref e)) Q E s := by
  unfold leaving
  refine wpAny_bind (noteD_first hfr hl hf x fun h1 T oe' oT vs' ts hT fl at' => ?_)
  refine flightD (s := { s with heap := h1 }) at' (frA (env :: outer)) fun h2 oT' ts' fl2 at2 => ?_
  have eT : s.heap.get? T = none := Heap.get?_none_of_le hT
  refine h h2 T oe' oT' vs' ts' hT ⟨fun b o hs hc q => ?_, fun b o hc q => ?_, Nat.le_trans fl.size fl2.size⟩ at2
  · exact fl2.keep b o hs (fun z => by rw [List.mem_singleton.mp z, eT] at q; cases q) (fl.keep b o hs hc q)
  · obtain ⟨s1, q1⟩ := fl.slot b o hc q
    obtain ⟨s2, q2⟩ := fl2.slot b _ (fun z => by rw [List.mem_singleton.mp z, eT] at q; cases q) q1
    exact ⟨s2, q2⟩
theorem leaveD_next {T : Addr} {oe oT : Obj} {vs ts : Array Value} (hfr : A.frames = some (env :: outer)) (hl : s.heap.FunFrames base (env :: outer)) (hf : env.frame = some L) (x : ExcAt s.heap e cls dx T .none oe oT vs ts)
    (h : ∀ h' T' oe' oT' vs' ts', s.heap.objs.size ≤ T' → Flew (frA (env :: outer)) [e, T] s.heap h' → ExcAt h' e cls dx T' .none oe' oT' vs' ts' → Q () { s with heap := h' }) : wpAny M A (leaving env (.ref e)) Q E s := by
  unfold leaving
  refine wpAny_bind (noteD_next hfr hl hf x fun h1 T' oe' oT' vs' ts' hT fl at' => ?_)
  refine flightD (s := { s with heap := h1 }) at' (frA (env :: outer)) fun h2 oT2 ts2 fl2 at2 => ?_
  have eT : s.heap.get? T' = none := Heap.get?_none_of_le hT
  refine h h2 T' oe' oT2 vs' ts2 hT ⟨fun b o hs hc q => ?_, fun b o hc q => ?_, Nat.le_trans fl.size fl2.size⟩ at2
  · exact fl2.keep b o hs (fun z => by rw [List.mem_singleton.mp z, eT] at q; cases q) (fl.keep b o hs hc q)
  · obtain ⟨s1, q1⟩ := fl.slot b o hc q
    obtain ⟨s2, q2⟩ := fl2.slot b _ (fun z => by rw [List.mem_singleton.mp z, eT] at q; cases q) q1
    exact ⟨s2, q2⟩
end
end L2

set_option Elab.async false
set_option linter.all false
set_option maxRecDepth 100000
set_option maxHeartbeats 4000000
namespace L2
open PySem PySem.Spec PyProof.Rows PySem.W
section
variable {prog : Program} {w : World} {A : Around} {R : Result → Shared → Prop} {E : Value → Shared → Prop} {h : Heap} {g : Array GenState} {d : Drawn} {t : Nat} {os : OsState}
variable {nm q : Str} {C N f : Addr} {bs bm bmB : List Value} {hdct : Bool} {sn : List Str} {sub : List Value} {ab : Bool} {col : Option Bool} {dd : Option Addr} {k0 k1 k2 k3 k5 : Option Value} {B Bn newId nid initId inN : String} {bmN : List Value}
/-- what an exception object is at first -/
abbrev excObj (C t : Addr) : Obj := { cls := .ref C, data := .fields #[.ref t, .none, .none, .none, .bool false, .none] }
abbrev tupObj (rest : List Value) : Obj := { cls := .type "tuple", data := .seq rest.toArray }
/-- C(..), C an own exception class with an own __init__ -/
theorem excMake (Fn : ExcBaseFacts Bn newId inN bmN) (hBn : bmB.contains (.type Bn) = true) (F : ExcBaseFacts B nid initId bmB) (T : OwnTail h bmB bm) {rest : List Value}
    (hC : h.get? C = some (excClassObj nm q C N bs bm hdct sn sub ab col dd k0 k1 k2 k3 k5 newId)) (hi : PySem.W.Looks (model prog w) h (typeLookup (.ref C) "__init__") (some (.ref f)))
    (hb : ∀ self, PySem.W.Looks (model prog w) h (bindSpecial (.ref f) self) (.ref f, [self])) (hrest : rest.length ≤ sizeLine)
    (hq : codeAny (model prog w) (A.under (.builtin "type.__call__" ⟨.ref C :: rest, []⟩)) (.call (.ref f) ⟨.ref (h.objs.size + 1) :: rest, []⟩) (PySem.W.InitBack (h.objs.size + 1) R) ⟨(h.push (tupObj rest)).push (excObj C h.objs.size), g, d, t, os⟩) :
    codeAny (model prog w) A (.call (.ref C) ⟨rest, []⟩) R ⟨h, g, d, t, os⟩ := by
  have f1 := tc_lookup
  have f2 := tc_bind (.ref C)
  have hT : (⟨h, g, d, t, os⟩ : Shared).TypeIs (.ref C) "type" := ⟨_, hC, rfl⟩
  refine codeAny_of_tree ?_
  show wpAny _ _ (callAny (.ref C) _) _ _ _
  repeat (any_goals (first | assumption | with_reducible refine wpAny_loadPart_at hC ?_ | wp_step))
  refine ⟨rfl, codeAny_call_builtin_at (Code.quiet_builtin _ (by decide +kernel)) entry_typeCall (wpAny_check_type_call_sub hC ?_)⟩
  repeat (first | with_reducible refine wpAny_loadPart_at hC ?_ | with_reducible refine wpAny_madeBy_exc hC ?_ | wp_step)
  refine codeAny_call_builtin_code (Code.quiet_builtin _ Fn.quiet) (wpAny_check_new_subU Fn hBn T hC (codeAny_exc_new_subU Fn hBn F T hC ?_ hrest))
  show wpAny _ _ _ _ _ _
  have k : ∀ b o, h.get? b = some o → ((h.push (tupObj rest)).push (excObj C h.objs.size)).get? b = some o := fun b o e => Heap.get?_push_of_some _ (Heap.get?_push_of_some _ e)
  have hx : ((h.push (tupObj rest)).push (excObj C h.objs.size)).get? (h.objs.size + 1) = some (excObj C h.objs.size) := by heap_get
  have c1 := k _ _ hC
  have hcC : (Value.ref C :: bm).contains (.ref C) = true := by simp
  have i1 := hi.keeps k
  have b1 := (hb (.ref (h.objs.size + 1))).keeps k
  have t1 : PySem.W.Looks (model prog w) ((h.push (tupObj rest)).push (excObj C h.objs.size)) (typeOf (.ref (h.objs.size + 1))) (.ref C) := (PySem.W.Looks.ld hx).andThen .now
  have t2 : PySem.W.Looks (model prog w) ((h.push (tupObj rest)).push (excObj C h.objs.size)) (isSubtype (.ref C) (.ref C)) true := fun A' Q' E' s' k' q' => by
    obtain ⟨h', g', d', tk', os'⟩ := s'
    refine wpAny_isSubtype_exc (k' _ _ c1) ?_
    rw [hcC]
    exact q'
  show wpAny (model prog w) _ (isInstance (.ref (h.objs.size + 1)) (.ref C) >>= _) _ _ ⟨(h.push (tupObj rest)).push (excObj C h.objs.size), g, d, t, os⟩
  unfold isInstance callSpecial? specialOf
  repeat (first | with_reducible refine wpAny_call ?_ | lk)
  refine codeAny_mono hq fun r s' z => ?_
  rcases r with e | (v | _ | _ | _) <;> first | exact z | exact z.elim | skip
  obtain ⟨rfl, z⟩ := z
  exact wpAny_pure (wpAny_pure z)
end
end L2

set_option Elab.async false
set_option linter.all false
set_option maxRecDepth 100000
set_option maxHeartbeats 4000000
namespace L2
open PySem PySem.Spec PyProof.Rows

/-! ### how an exception lies behind a call -/
structure ExcOut (P : Program) (w : World) (outer : List Env) (H : Hp) (s : Shared) (cls : Value) (dx : Option Addr) (H' : Hp) (x : Addr) (s' : Shared) : Prop where
  os : s'.os = s.os
  bare : AllBare s'.gens
  un : Un (frs outer) [] H H' s.heap s'.heap
  hok : HOk P w H' s'.heap
  hx : H' x = none
  nx : s.heap.objs.size ≤ x
  fly : ∃ T oe oT vs ts, H' T = none ∧ s.heap.objs.size ≤ T ∧ ExcAt s'.heap x cls dx T .none oe oT vs ts
def CXE (P : Program) (w : World) : CXT := fun outer H s E e s' => ∃ x cls dx H', e = .ref x ∧ ExcOut P w outer H s cls dx H' x s' ∧ E cls dx H'

section
variable {X : Cx} {pins : List (Addr × Obj)} {σ : St} {H : Hp} {s : Shared} {h' : Heap} {ch : List Addr}
/-- what a flight leaves of the heap: the tracked objects and the pins as they are -/
theorem Inv.flew {g : Array GenState} (I : Inv X pins σ H s) (fl : Flew (frs X.stack) ch s.heap h') (hc : ∀ b ∈ ch, H b = none) : HOk X.prog X.w H h' := fun a o e =>
  (I.hok a o e).stay (fun b u hb q => fl.keep b u (fun z => by
    rcases hb with rfl | hb
    · rw [I.stkFree b z] at e; cases e
    · rw [I.stkFree b z] at hb; cases hb) (fun z => by
    rcases hb with rfl | hb
    · rw [hc b z] at e; cases e
    · rw [hc b z] at hb; cases hb) q) (fun _ q => q) fun _ _ q => q
theorem Inv.unFlew (I : Inv X pins σ H s) (hx : X.ex = []) (hst : X.stack = X.env :: X.outer) (hfr : X.env.frame = some X.env.locals) (fl : Flew (frs X.stack) ch s.heap h') (hc : ∀ b ∈ ch, X.s₀.heap.objs.size ≤ b) : Un (frs X.outer) [] X.H₀ H X.s₀.heap h' := by
  have old : ∀ {b : Addr} {o : Obj}, X.s₀.heap.get? b = some o → b ∉ ch ∧ b ≠ X.env.locals := fun {b o} e => ⟨fun z => absurd (Nat.lt_of_lt_of_le (Heap.lt_size e) (hc b z)) (Nat.lt_irrefl _), Nat.ne_of_lt (Nat.lt_of_lt_of_le (Heap.lt_size e) I.ok.above)⟩
  have nex : ∀ b : Addr, b ∉ X.ex := fun b z => by rw [hx] at z; cases z
  have nst : ∀ {b : Addr}, b ∉ frs X.outer → b ≠ X.env.locals → b ∉ frs X.stack := fun {b} h1 h2 z => by
    rcases List.mem_cons.mp (I.stkSub b z) with q | q
    · exact h2 q
    · exact h1 q
  refine ⟨fun b o e n hb _ => fl.keep b o (nst hb (old e).2) (old e).1 (I.base.keep b o e n hb (nex b)), fun b o e n hb _ => ?_, fun b o e n _ => I.base.free b o e n (nex b), fun b o e _ => ?_, I.base.tups, I.base.frzs, I.base.tbls⟩
  · obtain ⟨sl, q⟩ := I.base.slot b o e n hb (nex b)
    obtain ⟨sl2, q2⟩ := fl.slot b _ (old e).1 q
    exact ⟨sl2, q2⟩
  · obtain ⟨o', q⟩ := I.base.there b o e (nex b)
    obtain ⟨sl, q2⟩ := fl.slot b o' (old e).1 q
    exact ⟨_, q2⟩
end

/-- an exception that was just made in this body reaches what is wanted of exceptions -/
def Throws (X : Cx) (E : XK) : Prop := ∀ (pins : List (Addr × Obj)) (σ : St) (H : Hp) (s : Shared) (x : Addr) (cls : Value) (dx : Option Addr) (oe : Obj) (vs : Array Value), Inv X pins σ H s → ExcNew s.heap x cls dx oe vs → H x = none → X.s₀.heap.objs.size ≤ x → E cls dx H → X.xe (.ref x) s
section
variable {P : Program} {w : World} {K : PySem.W.Frag} {mg : Str → Option Value} {base : Heap} {N : List Str} {qual : Str} {scope : Scope} {f : Addr} {cd : Value} {A : Around} {outer : List Env} {s₀ : Shared} {H₀ : Hp} {E : XK}
theorem throwE : Throws (cxOf (CXE P w) P w K mg base N qual scope f cd A outer s₀ H₀ E) E := by
  intro pins σ H s x cls dx oe vs I n hx hn hE
  refine leaveD_first I.ok.frames I.stack rfl n fun h' T oe' oT vs' ts hT fl at' => ?_
  have hz : s₀.heap.objs.size ≤ s.heap.objs.size := I.sz
  have hT0 : H T = none := I.hok.fresh hT
  refine ⟨x, cls, dx, H, rfl, ⟨I.os, I.bare, I.unFlew rfl rfl rfl fl (fun b hb => ?_), I.flew (g := s.gens) fl (fun b hb => ?_), hx, hn, T, oe', oT, vs', ts, hT0, Nat.le_trans hz hT, at'⟩, hE⟩
  · rw [List.mem_singleton.mp hb]; exact hn
  · rw [List.mem_singleton.mp hb]; exact hx
/-- an exception of a callee passes through this body -/
theorem passE : Passes (CXE P w) (cxOf (CXE P w) P w K mg base N qual scope f cd A outer s₀ H₀ E) E := by
  intro pins σ H s e s' I ⟨x, cls, dx, H', he, O, hE⟩
  subst he
  obtain ⟨T, oe, oT, vs, ts, hT, zT, a⟩ := O.fly
  have I' := I.call' (ch := []) O.os O.un O.hok O.bare (fun b z => nomatch z)
  have hz : s₀.heap.objs.size ≤ s.heap.objs.size := I.sz
  refine leaveD_next I'.ok.frames I'.stack rfl a fun h' T' oe' oT' vs' ts' hT' fl at' => ?_
  have hT0 : H' T' = none := I'.hok.fresh hT'
  have zz : s₀.heap.objs.size ≤ s'.heap.objs.size := I'.sz
  refine ⟨x, cls, dx, H', rfl, ⟨I'.os, I'.bare, I'.unFlew rfl rfl rfl fl (fun b hb => ?_), I'.flew (g := s.gens) fl (fun b hb => ?_), O.hx, Nat.le_trans hz O.nx, T', oe', oT', vs', ts', hT0, Nat.le_trans zz hT', at'⟩, hE⟩
  · simp only [List.mem_cons, List.not_mem_nil, or_false] at hb
    rcases hb with rfl | rfl
    · exact Nat.le_trans hz O.nx
    · exact Nat.le_trans hz zT
  · simp only [List.mem_cons, List.not_mem_nil, or_false] at hb
    rcases hb with rfl | rfl
    · exact O.hx
    · exact hT
end
/-- THE RULE for a def that may raise: the body in a context whose exceptions are wanted by E -/
theorem Fun.okE {P : Program} {w : World} {K : PySem.W.Frag} {mg : Str → Option Value} {base : Heap} {x qual : Str} {st : Stmt} {f : Addr} {fd : FuncData} {N ps : List Str} {k : Nat} {sp : Sp} (F : Fun K x qual st f fd) (S : FnScope N ps (defScope st)) (len : ∀ vs H Q E, sp vs H Q E → vs.length = ps.length)
    (hbody : ∀ (cdv : Value) (A : Around) (outer : List Env) (s : Shared) (H : Hp) (vs : List V) (Q : VK) (E : XK), Room k (A.deeper (envOfC qual (defScope st) s.heap.objs.size f cdv)) → sp vs H Q E →
      ∃ t, PSs (cxOf (CXE P w) P w K mg base N qual (defScope st) f cdv A outer s H E) (defBody st) t ∧ t { nx := fun _ H' => Q .non H', rt := Q } (start N vs) H) :
    FnOk P w K mg base (CXE P w) (k + 1) f fd ps sp := by
  obtain ⟨oc, od, kV, doc, pm, an, cdv, ct, osl, rfl, lk, hcd⟩ := F.ex
  exact fn_of lk hcd S len fun A outer s H vs Q E hr hsp => hbody cdv A outer s H vs Q E hr hsp
end L2

set_option Elab.async false
set_option linter.all false
set_option maxRecDepth 100000
set_option maxHeartbeats 4000000
namespace L2
open PySem PySem.Spec PyProof.Rows

/-! ### an exception under way within a body: made here, or come from a callee, or come back from a loop -/
def Flies (X : Cx) (h : Heap) (H : Hp) (x : Addr) (cls : Value) (dx : Option Addr) : Prop :=
  (∃ oe vs, ExcNew h x cls dx oe vs) ∨ ∃ T fl oe oT vs ts, FpOk X [] H T ∧ (fl = .none ∨ fl = rawInt X.env.locals) ∧ ExcAt h x cls dx T fl oe oT vs ts
abbrev XS := St → Value → Option Addr → Hp → Prop
/-- the wish about exceptions of a body: the state as it stands, its names too -/
def Wx (X : Cx) (E : XS) (e : Value) (s : Shared) : Prop := ∃ x cls dx H σ, e = .ref x ∧ Inv X [] σ H s ∧ FpOk X [] H x ∧ Flies X s.heap H x cls dx ∧ E σ cls dx H
/-- a body that has a frame of its own -/
structure Own (X : Cx) : Prop where
  ex : X.ex = []
  st : X.stack = X.env :: X.outer
  fr : X.env.frame = some X.env.locals
theorem FpOk.old {X : Cx} {pins : List (Addr × Obj)} {H : Hp} {b : Addr} (f : FpOk X pins H b) (o : X.ex = []) : X.s₀.heap.objs.size ≤ b := by
  rcases f.2.2.2.1 with z | z
  · rw [o] at z; cases z
  · exact z
section
variable {X : Cx} {pins : List (Addr × Obj)} {σ : St} {H : Hp} {s : Shared} {h' : Heap} {ch : List Addr}
theorem Inv.fly (I : Inv X [] σ H s) (fl : Flew (frs X.stack) ch s.heap h') (hf : ∀ b ∈ ch, FpOk X [] H b) : Inv X [] σ H { s with heap := h' } := by
  have nst : ∀ {b : Addr}, b ≠ X.env.locals → b ∉ X.fs → b ∉ frs X.stack := fun {b} h1 h2 z => by
    rcases List.mem_cons.mp (I.stkSub b z) with q | q
    · exact h1 q
    · exact h2 q
  refine I.step (g' := s.gens) (d' := s.drawn) (t' := s.toks) (ch := ch) (fun b hb => ?_) (fun b o h1 h2 hc e _ => fl.keep b o (nst h1 h2) hc e) (fun b o _ _ hc e _ => fl.slot b o hc e) (fun _ _ _ _ n => n)
    (fun b o hc e => ?_) (fun _ _ e => e) (fun _ _ _ e => e) (fun b ps e => ⟨#[], by rw [e]; simp⟩) (fun m hm => ?_) (I.flew (g := s.gens) fl fun b hb => (hf b hb).1) I.bare
  · obtain ⟨f0, f1, f2, f3, f4, f5⟩ := hf b hb
    exact ⟨f3, f1, f4, f5⟩
  · obtain ⟨sl, q⟩ := fl.slot b o hc e
    exact ⟨_, q⟩
  · obtain ⟨o, es, ep, ho, r⟩ := hm
    obtain ⟨sl, q⟩ := fl.slot _ o (fun z => (hf _ z).2.1 rfl) ho
    exact ⟨_, es, ep, q, r⟩
end
section
variable {X : Cx} {σ : St} {H : Hp} {s : Shared} {x : Addr} {cls : Value} {dx : Option Addr} {Q : Unit → Shared → Prop} {E : Value → Shared → Prop} {A : Around}
/-- it is noted in this frame -/
theorem noteX (ow : Own X) (hA : A.frames = some X.stack) (I : Inv X [] σ H s) (fx : FpOk X [] H x) (f : Flies X s.heap H x cls dx)
    (h : ∀ h' T oe oT vs ts, Inv X [] σ H { s with heap := h' } → FpOk X [] H T → ExcAt h' x cls dx T (rawInt X.env.locals) oe oT vs ts → Q () { s with heap := h' }) : wpAny (model X.prog X.w) A (noteFrame (.ref x) X.env) Q E s := by
  have hst := I.stack
  rw [ow.st] at hst hA
  have hone : ∀ b ∈ [x], FpOk X [] H b := fun b hb => by rw [List.mem_singleton.mp hb]; exact fx
  rcases f with ⟨oe, vs, n⟩ | ⟨T, fl, oe, oT, vs, ts, fT, hfl, a⟩
  · refine noteD_first hA hst ow.fr n fun h' T oe' oT vs' ts hT flw at' => ?_
    exact h h' T oe' oT vs' ts (I.fly (by rw [ow.st]; exact flw) hone) (I.fpOk hT (I.hok.fresh hT)) at'
  · rcases hfl with rfl | rfl
    · refine noteD_next hA hst ow.fr a fun h' T' oe' oT' vs' ts' hT flw at' => ?_
      refine h h' T' oe' oT' vs' ts' (I.fly (by rw [ow.st]; exact flw) fun b hb => ?_) (I.fpOk hT (I.hok.fresh hT)) at'
      simp only [List.mem_cons, List.not_mem_nil, or_false] at hb
      rcases hb with rfl | rfl
      · exact fx
      · exact fT
    · unfold noteFrame
      simp only [ow.fr]
      refine wpAny_bind (wpAny_field a.get a.data a.tb ?_)
      rw [if_pos (show (Value.ref T != Value.none) = true from by simp)]
      refine wpAny_bind (wpAny_field a.getT a.dataT a.fl ?_)
      rw [if_pos (show (rawInt X.env.locals == rawInt X.env.locals) = true from by first | (simp; done) | exact beq_self_eq_true _)]
      exact wpAny_pure (h s.heap T oe oT vs ts I fT a)
/-- its flight is set to nothing -/
theorem landX {T : Addr} {fl : Value} {oe oT : Obj} {vs ts : Array Value} (I : Inv X [] σ H s) (fT : FpOk X [] H T) (a : ExcAt s.heap x cls dx T fl oe oT vs ts)
    (h : ∀ h' oT' ts', Inv X [] σ H { s with heap := h' } → ExcAt h' x cls dx T .none oe oT' vs ts' → Q () { s with heap := h' }) : wpAny (model X.prog X.w) A (setFlight (.ref x) none) Q E s :=
  flightD a (frs X.stack) fun h' oT' ts' flw at' => h h' oT' ts' (I.fly flw fun b hb => by rw [List.mem_singleton.mp hb]; exact fT) at'
/-- it comes back from a loop of this body -/
theorem backX {T : Addr} {fl : Value} {oe oT : Obj} {vs ts : Array Value} (ow : Own X) (I : Inv X [] σ H s) (fT : FpOk X [] H T) (a : ExcAt s.heap x cls dx T fl oe oT vs ts)
    (h : ∀ h' oT' ts', Inv X [] σ H { s with heap := h' } → ExcAt h' x cls dx T (rawInt X.env.locals) oe oT' vs ts' → Q () { s with heap := h' }) :
    wpAny (model X.prog X.w) A (do if (← field (.ref x) 1) == .none then unsupported "frame.own-activation:exception-without-traceback"
                                   setFlight (.ref x) X.env.frame) Q E s := by
  refine wpAny_bind (wpAny_field a.get a.data a.tb ?_)
  rw [if_neg (show ¬ ((Value.ref T == Value.none) = true) from by simp)]
  unfold setFlight
  refine wpAny_bind (wpAny_field a.get a.data a.tb ?_)
  rw [if_pos (show (Value.ref T != Value.none) = true from by simp), ow.fr]
  have hsz : 3 < ts.size := (Array.getElem?_eq_some_iff.mp a.fl).1
  have d3 := Obj.data_mapFields a.dataT (·.setIfInBounds 3 (rawInt X.env.locals))
  have oth : ∀ b, b ≠ T → (s.heap.update T (Obj.mapFields (·.setIfInBounds 3 (rawInt X.env.locals)))).get? b = s.heap.get? b := fun b hb => Heap.get?_update_other _ _ (Ne.symm hb)
  refine wpAny_setField a.getT a.dataT hsz (h _ _ _ (I.fly (ch := [T]) ⟨fun b o _ hc q => (oth b (by simpa using hc)).trans q, fun b o hc q => ⟨o.slots, (oth b (by simpa using hc)).trans q⟩, Nat.le_of_eq (Heap.SameBut.update (a := T) s.heap _).1.symm⟩ fun b hb => by rw [List.mem_singleton.mp hb]; exact fT)
    ⟨(oth x (Ne.symm a.ne)).trans a.get, a.cls, a.dict, a.data, a.tb, a.ne, Heap.get?_update_self _ a.getT (Obj.isFreed_of_fields d3), d3, by simp [hsz]⟩)
/-- loops hand it on -/
theorem Wx.passesOwn {EX : XS} (ow : Own X) : PassesOwn (model X.prog X.w) X.A X.env (Wx X EX) := by
  intro e s' ⟨x, cls, dx, H, σ, he, I, fx, f, hE⟩
  subst he
  refine noteX ow I.ok.frames I fx f fun h1 T oe oT vs ts I1 fT a1 => ?_
  refine backX ow I1 fT a1 fun h2 oT' ts' I2 a2 => ?_
  exact ⟨x, cls, dx, H, σ, rfl, I2, fx, .inr ⟨T, _, oe, oT', vs, ts', fT, .inr rfl, a2⟩, hE⟩
end

/-! ### the context of a def that may raise -/
section
variable {P : Program} {w : World} {K : PySem.W.Frag} {mg : Str → Option Value} {base : Heap} {N : List Str} {qual : Str} {scope : Scope} {f : Addr} {cd : Value} {A : Around} {outer : List Env} {s₀ : Shared} {H₀ : Hp} {E : XK}
theorem own_cx {CX : CXT} : Own (cxOf CX P w K mg base N qual scope f cd A outer s₀ H₀ E) := ⟨rfl, rfl, rfl⟩
/-- the wish within reaches the wish at the frame's end -/
theorem Wx.leaves {e : Value} {s : Shared} (h : Wx (cxOf (CXE P w) P w K mg base N qual scope f cd A outer s₀ H₀ E) (fun _ => E) e s) : (cxOf (CXE P w) P w K mg base N qual scope f cd A outer s₀ H₀ E).xe e s := by
  obtain ⟨x, cls, dx, H, σ, he, I, fx, fly, hE⟩ := h
  subst he
  have ow : Own (cxOf (CXE P w) P w K mg base N qual scope f cd A outer s₀ H₀ E) := own_cx
  show wpAny _ _ (leaving _ _) _ _ _
  unfold leaving
  refine wpAny_bind (noteX ow I.ok.frames I fx fly fun h1 T oe oT vs ts I1 fT a1 => ?_)
  refine flightD (s := { s with heap := h1 }) a1 (frs (cxOf (CXE P w) P w K mg base N qual scope f cd A outer s₀ H₀ E).stack) fun h2 oT' ts' flw a2 => ?_
  have hch : ∀ b ∈ [T], FpOk (cxOf (CXE P w) P w K mg base N qual scope f cd A outer s₀ H₀ E) [] H b := fun b hb => by rw [List.mem_singleton.mp hb]; exact fT
  refine ⟨x, cls, dx, H, rfl, ⟨I1.os, I1.bare, I1.unFlew rfl rfl rfl flw (fun b hb => (hch b hb).old rfl), I1.flew (g := s.gens) flw (fun b hb => (hch b hb).1), fx.1, fx.old rfl, T, oe, oT', vs, ts', fT.1, fT.old rfl, a2⟩, hE⟩
end
/-- a body judged with the wish Wx -/
abbrev Cx.thrown (X : Cx) (E : XS) : Cx := X.wish (Wx X E)
theorem Fun.okX {P : Program} {w : World} {K : PySem.W.Frag} {mg : Str → Option Value} {base : Heap} {x qual : Str} {st : Stmt} {f : Addr} {fd : FuncData} {N ps : List Str} {k : Nat} {sp : Sp} (F : Fun K x qual st f fd) (S : FnScope N ps (defScope st)) (len : ∀ vs H Q E, sp vs H Q E → vs.length = ps.length)
    (hbody : ∀ (cdv : Value) (A : Around) (outer : List Env) (s : Shared) (H : Hp) (vs : List V) (Q : VK) (E : XK), Room k (A.deeper (envOfC qual (defScope st) s.heap.objs.size f cdv)) → sp vs H Q E →
      ∃ t, PSs ((cxOf (CXE P w) P w K mg base N qual (defScope st) f cdv A outer s H E).thrown fun _ => E) (defBody st) t ∧ t { nx := fun _ H' => Q .non H', rt := Q } (start N vs) H) :
    FnOk P w K mg base (CXE P w) (k + 1) f fd ps sp := by
  refine F.okE S len fun cdv A outer s H vs Q E hr hsp => ?_
  obtain ⟨t, h, q⟩ := hbody cdv A outer s H vs Q E hr hsp
  refine ⟨t, fun pins s' σ' H' D I hw => ?_, q⟩
  exact wpAny_mono (h pins s' σ' H' D (I.wish _) hw) (fun _ _ z => z.unwish) fun e s2 z => z.leaves
/-- a callee's exception reaches the wish of this body, with its names as they stand -/
theorem Wx.passes {X : Cx} {EX : XS} {pins : List (Addr × Obj)} {σ : St} {H : Hp} {s s' : Shared} {e : Value} (I : Inv X pins σ H s) (h : CXE X.prog X.w X.stack H s (EX σ) e s') : Wx X EX e s' := by
  obtain ⟨x, cls, dx, H', he, O, hE⟩ := h
  obtain ⟨T, oe, oT, vs, ts, hT, zT, a⟩ := O.fly
  have I0 := I.pins_of (pins' := []) (fun p hp => nomatch hp)
  have I' := I0.call' (ch := []) O.os O.un O.hok O.bare (fun b z => nomatch z)
  exact ⟨x, cls, dx, H', σ, he, I', I0.fpOk O.nx O.hx, .inr ⟨T, _, oe, oT, vs, ts, I0.fpOk zT hT, .inl rfl, a⟩, hE⟩
def tCallE (sp : Sp) (dvs : List V) (EX : XS) (t : TA) : TE := fun σ H Q => t σ H fun vs H1 => sp (vs ++ dvs) H1 Q (EX σ)
section
variable {X : Cx} {EX : XS} {k : Nat} {f C : Addr} {fd : FuncData} {ps : List Str} {sp : Sp} {dvs : List V} {ds : List Value} {x m : Str} {p pos apos : Pos} {e o : Expr} {es : List Expr} {ta : TE} {t : TA}
theorem run_fnE {pins : List (Addr × Obj)} {σ : St} {H : Hp} {s : Shared} {Q : VK} {us : List Value} {vs : List V} (F : FnOk X.prog X.w X.K X.mg X.base (CXE X.prog X.w) k f fd ps sp) (hr : Room k X.A) (hb : Binds X.K fd ps ds) (hd : Vals dvs ds)
    (I : Inv (X.thrown EX) pins σ H s) (r : Vals vs us) (h : sp (vs ++ dvs) H Q (EX σ)) : wpAny (model X.prog X.w) X.A (call (.ref f) us) (EP (X.thrown EX) pins σ Q) (Wx X EX) s := by
  have r2 : Vals (vs ++ dvs) (us ++ ds) := r.append hd
  have hl : (us ++ ds).length = ps.length := by rw [← r2.length]; exact F.len _ _ _ _ h
  refine wpAny_call (codeAny_mono (F.run X.A X.stack s H ⟨us, []⟩ (us ++ ds) (vs ++ dvs) Q (EX σ) hr I.env0 (hb s us I.kIn hl) r2 h) fun r s' hq => ?_)
  cases r with
  | error e => exact Wx.passes I.unwish hq
  | ok fl =>
    cases fl with
    | ret u => exact I.after hq
    | next => exact False.elim hq
    | brk => exact False.elim hq
    | cont => exact False.elim hq
/-- f(e, ..), f may raise -/
theorem pe_callE (F : FnOk X.prog X.w X.K X.mg X.base (CXE X.prog X.w) k f fd ps sp) (hr : Room k X.A) (hg : Gl X x) (hm : X.mg x = some (.ref f)) (hk : PySem.W.keepIn X.K (.ref f) = true) (hb : Binds X.K fd ps ds) (hd : Vals dvs ds)
    (ha : PA (X.thrown EX) (e :: es) t) (hdb : (x == ("__debug__" : Str)) = false := by decide) (he : starEach (e :: es) X.env = (false, eval e X.env) :: starEach es X.env := by rfl) (hpl : (backTo pos (starEach es X.env)).any (·.1) = false := by rfl) :
    PE (X.thrown EX) (.Call (.Name x p) (e :: es) [] pos) (tCallE sp dvs EX t) := by
  intro pins s σ H Q I h
  refine wpAny_Call_Name_kw (ld_glob I hg hm ?_ hdb)
  refine PySem.W.callWith_K (h₀ := X.base) I.ok.mod.kin hk (thn (ha pos pins s σ H _ I h) fun us s1 ⟨vs, H1, I1, r, q⟩ => ⟨I1.kIn, ?_⟩) he hpl
  exact run_fnE F hr hb hd I1 r q
end
end L2

set_option Elab.async false
set_option linter.all false
set_option maxRecDepth 100000
set_option maxHeartbeats 4000000
namespace L2
open PySem PySem.Spec PyProof.Rows PySem.W
/-! ### own exception classes under ValueError -/
abbrev vMro : List Value := [.type "ValueError", .type "Exception", .type "BaseException", .type "object"]
abbrev excD (C : Addr) (dx : Option Addr) (t : Addr) : Obj := { cls := .ref C, dict := dx, data := .fields #[.ref t, .none, .none, .none, .bool false, .none] }
/-- a namespace of the written part -/
def keysStr (es : List DictEntry) : Bool := es.all fun e => match e.key with | .str _ _ => true | _ => false
theorem ns_of {K : PySem.W.Frag} {h : Heap} {N : Addr} {oc : Value} {od : Option Addr} {es : Array DictEntry} {ep : Nat} {sl : Array (Option Value)} (X : K.In h) (l : K.lookup N = some ⟨oc, od, .dict es ep, sl⟩) (k : keysStr es.toList = true) : h.Ns N (fun x => nsFind es x) :=
  ⟨_, es, ep, X N _ l, rfl, fun e he => by
    unfold keysStr at k
    rw [List.all_eq_true] at k
    have q := k e (Array.mem_toList_iff.mpr he)
    cases hk : e.key with
    | str n t => exact ⟨n, t, rfl⟩
    | _ => rw [hk] at q; exact absurd q Bool.false_ne_true, fun _ => rfl⟩
/-- what the text says of an own exception class: its object, and its tail of classes -/
structure ExcC (K : PySem.W.Frag) (C : Addr) (bm : List Value) : Prop where
  obj : ∃ nm q N bs hdct sn sub ab col dd k0 k1 k2 k3 k5, K.lookup C = some (excClassObj nm q C N bs bm hdct sn sub ab col dd k0 k1 k2 k3 k5 "ValueError.__new__")
  tail : ∀ h, K.In h → OwnTail h vMro bm
  kp : PySem.W.keepIn K (.ref C) = true
section
variable {prog : Program} {w : World} {A : Around} {R : Result → Shared → Prop} {E : Value → Shared → Prop} {s : Shared} {K : PySem.W.Frag} {C : Addr} {bm : List Value}
theorem initV_bind (self : Value) : bindSpecial (.builtin "ValueError.__init__") self = pure (.builtin "ValueError.__init__", [self]) := PySem.F.excBase_ValueError.init.bind self
/-- C(..) where the class has no __init__ of its own: the object lies at the heap's end but two tuples -/
theorem excMake0 (X : K.In s.heap) (c : ExcC K C bm) (hi : PySem.W.findIn K (.ref C) "__init__" = some (some (.builtin "ValueError.__init__"))) {rest : List Value} (hrest : rest.length ≤ sizeLine) {Q : Value → Shared → Prop}
    (h : ∀ h' t, (∀ b o, s.heap.get? b = some o → h'.get? b = some o) → h'.get? (s.heap.objs.size + 1) = some (excD C none t) → Q (.ref (s.heap.objs.size + 1)) { s with heap := h' }) :
    wpAny (model prog w) A (call (.ref C) rest) Q E s := by
  obtain ⟨nm, q, N, bs, hdct, sn, sub, ab, col, dd, k0, k1, k2, k3, k5, lk⟩ := c.obj
  obtain ⟨hh, g, d, t, os⟩ := s
  have hC := X C _ lk
  have F := PySem.F.excBase_ValueError
  have T := c.tail _ X
  have f1 := tc_lookup
  have f2 := tc_bind (.ref C)
  have hT : (⟨hh, g, d, t, os⟩ : Shared).TypeIs (.ref C) "type" := ⟨_, hC, rfl⟩
  refine wpAny_call (codeAny_of_tree ?_)
  show wpAny _ _ (callAny (.ref C) _) _ _ _
  repeat (any_goals (first | assumption | with_reducible refine wpAny_loadPart_at hC ?_ | wp_step))
  refine ⟨rfl, codeAny_call_builtin_at (Code.quiet_builtin _ (by decide +kernel)) entry_typeCall (wpAny_check_type_call_sub hC ?_)⟩
  repeat (first | with_reducible refine wpAny_loadPart_at hC ?_ | with_reducible refine wpAny_madeBy_exc hC ?_ | wp_step)
  refine codeAny_call_builtin_code (Code.quiet_builtin _ F.quiet) (wpAny_check_new_subU F (by decide +kernel) T hC (codeAny_exc_new_subU F (by decide +kernel) F T hC ?_ hrest))
  show wpAny _ _ _ _ _ _
  have k : ∀ b o, hh.get? b = some o → ((hh.push (tupObj rest)).push (excObj C hh.objs.size)).get? b = some o := fun b o e => Heap.get?_push_of_some _ (Heap.get?_push_of_some _ e)
  have hx : ((hh.push (tupObj rest)).push (excObj C hh.objs.size)).get? (hh.objs.size + 1) = some (excObj C hh.objs.size) := by heap_get
  have c1 := k _ _ hC
  have hcC : (Value.ref C :: bm).contains (.ref C) = true := by simp
  have i1 := (PySem.W.looks_findIn (M := model prog w) X hi).keeps k
  have b1 : PySem.W.Looks (model prog w) ((hh.push (tupObj rest)).push (excObj C hh.objs.size)) (bindSpecial (.builtin "ValueError.__init__") (.ref (hh.objs.size + 1))) (.builtin "ValueError.__init__", [.ref (hh.objs.size + 1)]) := .of_pure (initV_bind _)
  have t1 : PySem.W.Looks (model prog w) ((hh.push (tupObj rest)).push (excObj C hh.objs.size)) (typeOf (.ref (hh.objs.size + 1))) (.ref C) := (PySem.W.Looks.ld hx).andThen .now
  have t2 : PySem.W.Looks (model prog w) ((hh.push (tupObj rest)).push (excObj C hh.objs.size)) (isSubtype (.ref C) (.ref C)) true := fun A' Q' E' s' k' q' => by
    obtain ⟨h', g', d', tk', os'⟩ := s'
    refine wpAny_isSubtype_exc (k' _ _ c1) ?_
    rw [hcC]
    exact q'
  show wpAny (model prog w) _ (isInstance (.ref (hh.objs.size + 1)) (.ref C) >>= _) _ _ ⟨(hh.push (tupObj rest)).push (excObj C hh.objs.size), g, d, t, os⟩
  unfold isInstance callSpecial? specialOf
  repeat (first | with_reducible refine wpAny_call ?_ | lk)
  refine codeAny_call_builtin F.init.plain F.initEntry (wpAny_check_init_subU F (T.keeps k) c1 hx rfl ?_)
  wp_walk
  refine h _ ((hh.push (tupObj rest)).push (excObj C hh.objs.size)).objs.size (fun b o e => ?_) ?_
  · show (Heap.update _ _ _).get? b = _
    rw [Heap.get?_update_other _ _ (Nat.ne_of_gt (Nat.lt_succ_of_lt (Heap.lt_size (h := hh) e)))]
    exact Heap.get?_push_of_some _ (k b o e)
  · show (Heap.update _ _ _).get? _ = _
    rw [Heap.get?_update_self _ (Heap.get?_push_of_some _ hx) rfl]
    rfl
end

/-! ### raise C(..) -/
section
variable {M : Model} {A : Around} {E : Value → Shared → Prop} {s : Shared} {env : Env} {K : PySem.W.Frag} {C : Addr} {bm : List Value}
theorem raiseD {x : Sem Value} {Q : Flow → Shared → Prop} (c : ExcC K C bm) (hbase : bm.contains (.type "BaseException") = true) (hh : A.handled = none)
    (h : wpAny M A x (fun v s₁ => ∃ e dx t, v = .ref e ∧ K.In s₁.heap ∧ s₁.heap.get? e = some (excD C dx t) ∧ E (.ref e) s₁) E s) : wpAny M A (raiseStmt env (some x) none) Q E s := by
  obtain ⟨nm, q, N, bs, hdct, sn, sub, ab, col, dd, k0, k1, k2, k3, k5, lk⟩ := c.obj
  have hcB : (Value.ref C :: bm).contains (.type "BaseException") = true := by rw [List.contains_cons, hbase, Bool.or_true]
  unfold raiseStmt
  refine wpAny_bind (wpAny_mono h (fun v s₁ h₁ => ?_) fun _ _ x => x)
  obtain ⟨e, dx, t, rfl, X, he, hE⟩ := h₁
  have hC := X C _ lk
  obtain ⟨hp, g, d, tk, os⟩ := s₁
  repeat (first | with_reducible refine wpAny_loadPart_at he ?_ | with_reducible refine wpAny_loadPart_at hC ?_ | (with_reducible refine wpAny_isSubtype_exc hC ?_; rw [hcB]) | wp_step)
  exact wpAny_raiseNew_none hh hE
end
section
variable {X : Cx} {EX : XS} {C : Addr} {bm : List Value} {x : Str} {p pos cpos : Pos} {e : Expr} {es : List Expr} {t : TA}
/-- raise C(..), C without an __init__ of its own -/
def tRaise (C : Addr) (EX : XS) (t : TA) : TS := fun _ σ H => t σ H fun vs H1 => vs.length ≤ sizeLine ∧ EX σ (.ref C) none H1
theorem raise_core (c : ExcC X.K C bm) (hbase : bm.contains (.type "BaseException") = true) (hi : PySem.W.findIn X.K (.ref C) "__init__" = some (some (.builtin "ValueError.__init__")))
    {pins : List (Addr × Obj)} {σ : St} {H : Hp} {s : Shared} {us : List Value} (I : Inv X pins σ H s) (hz : us.length ≤ sizeLine) (hE : EX σ (.ref C) none H) :
    wpAny (model X.prog X.w) X.A (call (.ref C) us) (fun v s₁ => ∃ e dx t, v = .ref e ∧ X.K.In s₁.heap ∧ s₁.heap.get? e = some (excD C dx t) ∧ Wx X EX (.ref e) s₁) (Wx X EX) s := by
  refine excMake0 I.kIn c hi hz fun h' t k g => ?_
  have I0 := I.pins_of (pins' := []) (fun p hp => nomatch hp)
  have I1 : Inv X [] σ H { s with heap := h' } := I0.kept (t' := s.toks) k
  have le : s.heap.objs.size ≤ s.heap.objs.size + 1 := Nat.le_succ _
  exact ⟨_, none, t, rfl, I1.kIn, g, _, _, none, H, σ, rfl, I1, I0.fpOk le (I0.hok.fresh le), .inl ⟨_, _, ⟨g, rfl, rfl, rfl, rfl⟩⟩, hE⟩
theorem ps_raise (hcalm : X.calm = true) (c : ExcC X.K C bm) (hbase : bm.contains (.type "BaseException") = true) (hi : PySem.W.findIn X.K (.ref C) "__init__" = some (some (.builtin "ValueError.__init__"))) (hg : Gl X x) (hm : X.mg x = some (.ref C)) (ha : PA (X.thrown EX) (e :: es) t)
    (hdb : (x == ("__debug__" : Str)) = false := by decide) (he : starEach (e :: es) X.env = (false, eval e X.env) :: starEach es X.env := by rfl) (hpl : (backTo cpos (starEach es X.env)).any (·.1) = false := by rfl) :
    PS (X.thrown EX) (.Raise (some (.Call (.Name x p) (e :: es) [] cpos)) none pos) (tRaise C EX t) := by
  intro pins s σ H D I h
  rw [arm_exec_Raise]
  refine wpAny_bind (wpAny_standAt ?_)
  show wpAny _ _ (raiseStmt _ (some (do let v ← eval (.Call (.Name x p) (e :: es) [] cpos) X.env; standAt pos; pure v)) none) _ _ _
  refine raiseD c hbase (I.ok.hd hcalm) (wpAny_bind (thn ?_ fun v s1 z => wpAny_bind (wpAny_standAt (wpAny_pure z))))
  refine wpAny_Call_Name_kw (ld_glob I hg hm ?_ hdb)
  refine PySem.W.callWith_K (h₀ := X.base) I.ok.mod.kin c.kp (thn (ha cpos pins s σ H _ I h) fun us s1 ⟨vs, H1, I1, r, z, hE⟩ => ⟨I1.kIn, ?_⟩) he hpl
  exact raise_core (us := us) c hbase hi I1.unwish (by rw [← r.length]; exact z) hE
theorem ps_raise0 (hcalm : X.calm = true) (c : ExcC X.K C bm) (hbase : bm.contains (.type "BaseException") = true) (hi : PySem.W.findIn X.K (.ref C) "__init__" = some (some (.builtin "ValueError.__init__"))) (hg : Gl X x) (hm : X.mg x = some (.ref C))
    (hdb : (x == ("__debug__" : Str)) = false := by decide) : PS (X.thrown EX) (.Raise (some (.Call (.Name x p) [] [] cpos)) none pos) (tRaise C EX tNil) := by
  intro pins s σ H D I h
  rw [arm_exec_Raise]
  refine wpAny_bind (wpAny_standAt ?_)
  show wpAny _ _ (raiseStmt _ (some (do let v ← eval (.Call (.Name x p) [] [] cpos) X.env; standAt pos; pure v)) none) _ _ _
  refine raiseD c hbase (I.ok.hd hcalm) (wpAny_bind (thn ?_ fun v s1 z => wpAny_bind (wpAny_standAt (wpAny_pure z))))
  refine wpAny_Call_Name_kw (ld_glob I hg hm ?_ hdb)
  exact PySem.W.callWith_K0 I.kIn c.kp (raise_core (us := []) c hbase hi I.unwish (Nat.zero_le _) h.2)
end
end L2

set_option Elab.async false
set_option linter.all false
set_option maxRecDepth 100000
set_option maxHeartbeats 4000000
namespace L2
open PySem PySem.Spec PyProof.Rows
/-! ### try: .. except C: .. -/
/-- the same context with the pins as its own -/
abbrev Cx.pinned (X : Cx) (pins : List (Addr × Obj)) : Cx := { X with pn := pins }
section
variable {X : Cx} {pins : List (Addr × Obj)} {σ : St} {H : Hp} {s : Shared}
theorem Inv.intoPn (I : Inv X pins σ H s) : Inv (X.pinned (X.pn ++ pins)) [] σ H s :=
  ⟨⟨I.ok.mod, I.ok.kind, I.ok.glob, I.ok.blt, I.ok.above, I.ok.inj, I.ok.has, I.ok.cab, I.ok.hd, I.ok.frames, I.ok.stk, I.ok.exf, I.ok.bs, I.ok.bsz, I.ok.noex, I.ok.exfs, I.ok.funs, I.ok.frf⟩, I.os, I.bare, I.base, I.loc, I.cell, I.free, I.freeC, fun p hp => I.pin p (by rw [List.append_nil] at hp; exact hp), I.hok, I.len⟩
theorem Inv.outPn (I : Inv (X.pinned (X.pn ++ pins)) [] σ H s) : Inv X pins σ H s :=
  ⟨⟨I.ok.mod, I.ok.kind, I.ok.glob, I.ok.blt, I.ok.above, I.ok.inj, I.ok.has, I.ok.cab, I.ok.hd, I.ok.frames, I.ok.stk, I.ok.exf, I.ok.bs, I.ok.bsz, I.ok.noex, I.ok.exfs, I.ok.funs, I.ok.frf⟩, I.os, I.bare, I.base, I.loc, I.cell, I.free, I.freeC, fun p hp => I.pin p (by rw [List.append_nil]; exact hp), I.hok, I.len⟩
theorem FpOk.outPn {b : Addr} (f : FpOk (X.pinned (X.pn ++ pins)) [] H b) : FpOk X [] H b :=
  ⟨f.1, f.2.1, f.2.2.1, f.2.2.2.1, f.2.2.2.2.1, fun p hp => f.2.2.2.2.2 p (by rw [List.append_nil] at hp ⊢; exact List.mem_append_left _ hp)⟩
theorem Wx.outPn {EX : XS} {e : Value} (h : Wx (X.pinned (X.pn ++ pins)) EX e s) : Wx X EX e s := by
  obtain ⟨x, cls, dx, H, σ, he, I, fx, f, hE⟩ := h
  refine ⟨x, cls, dx, H, σ, he, I.outPn.pins_of (fun p hp => nomatch hp), fx.outPn, ?_, hE⟩
  rcases f with f | ⟨T, fl, oe, oT, vs, ts, fT, r⟩
  · exact .inl f
  · exact .inr ⟨T, fl, oe, oT, vs, ts, fT.outPn, r⟩
theorem SP.outPn {D : Ends} {f : Flow} (h : SP (X.pinned (X.pn ++ pins)) [] D f s) : SP X pins D f s := by
  cases f with
  | next => obtain ⟨σ', H', I, q⟩ := h; exact ⟨σ', H', I.outPn, q⟩
  | brk => obtain ⟨σ', H', I, q⟩ := h; exact ⟨σ', H', I.outPn, q⟩
  | cont => obtain ⟨σ', H', I, q⟩ := h; exact ⟨σ', H', I.outPn, q⟩
  | ret u => obtain ⟨v, σ', H', I, r, q⟩ := h; exact ⟨v, σ', H', I.outPn, r, q⟩
end
/-- the context of an except suite: the exception at x is handled, its object known -/
def cxSuite (X : Cx) (x : Addr) (oe : Obj) : Cx := { X with A := X.A.mark (some (.ref x)), calm := false, pn := (x, oe) :: X.pn, xe := fun _ _ => False }
section
variable {X : Cx} {σ : St} {H : Hp} {s : Shared} {x : Addr} {oe : Obj}
theorem Inv.suite (I : Inv X [] σ H s) (fx : FpOk X [] H x) (g : s.heap.get? x = some oe) (d : ∀ v, oe.data ≠ .cell v) : Inv (cxSuite X x oe) [] σ H s :=
  ⟨⟨I.ok.mod, I.ok.kind, I.ok.glob, I.ok.blt, I.ok.above, I.ok.inj, I.ok.has, I.ok.cab, fun z => absurd z Bool.false_ne_true, I.ok.frames, I.ok.stk, I.ok.exf, I.ok.bs, I.ok.bsz, I.ok.noex, I.ok.exfs, I.ok.funs, I.ok.frf⟩, I.os, I.bare, I.base, I.loc, I.cell, I.free, I.freeC, fun p hp => by
    rw [List.append_nil] at hp
    rcases List.mem_cons.mp hp with rfl | hp
    · exact ⟨g, fx.1, fx.2.1, fx.2.2.1, d⟩
    · exact I.pin p (by rw [List.append_nil]; exact hp), I.hok, I.len⟩
theorem Inv.unsuite (I : Inv (cxSuite X x oe) [] σ H s) (hd : X.calm = true → X.A.handled = none) (ok : X.Ok) : Inv X [] σ H s :=
  ⟨ok, I.os, I.bare, I.base, I.loc, I.cell, I.free, I.freeC, fun p hp => I.pin p (by rw [List.append_nil] at hp ⊢; exact List.mem_cons_of_mem _ hp), I.hok, I.len⟩
end
/-- the handlers of a try, from an exception that has landed -/
def PH (X : Cx) (hs : List ExceptHandler) (EX : XS) (th : Ends → XS) : Prop :=
  ∀ (σ : St) (H : Hp) (s : Shared) (x : Addr) (cls : Value) (dx : Option Addr) (T : Addr) (oe oT : Obj) (vs ts : Array Value) (D : Ends), Inv X [] σ H s → FpOk X [] H x → FpOk X [] H T → ExcAt s.heap x cls dx T .none oe oT vs ts → th D σ cls dx H →
    wpAny (model X.prog X.w) X.A (handleBy (.ref x) X.env hs) (SP X [] D) (Wx X EX) s
section
variable {X : Cx} {EX : XS} {th : Ends → XS} {hs : List ExceptHandler} {C : Addr} {c : Str} {np pos : Pos} {b₀ : Stmt} {suite : List Stmt} {ts' : Addr → Obj → TS}
theorem ph_nil (ow : Own X) : PH X [] EX (fun _ => EX) := by
  intro σ H s x cls dx T oe oT vs ts D I fx fT a hE
  refine wpAny_handleBy_nil ?_
  unfold PySem.passOn
  refine wpAny_bind (wpAny_field a.get a.data a.tb ?_)
  rw [if_neg (show ¬ ((Value.ref T == Value.none) = true) from by simp)]
  unfold setFlight
  refine wpAny_bind (wpAny_bind (wpAny_field a.get a.data a.tb ?_))
  rw [if_pos (show (Value.ref T != Value.none) = true from by simp), ow.fr]
  have hsz : 3 < ts.size := (Array.getElem?_eq_some_iff.mp a.fl).1
  have d3 := Obj.data_mapFields a.dataT (·.setIfInBounds 3 (rawInt X.env.locals))
  have oth : ∀ b, b ≠ T → (s.heap.update T (Obj.mapFields (·.setIfInBounds 3 (rawInt X.env.locals)))).get? b = s.heap.get? b := fun b hb => Heap.get?_update_other _ _ (Ne.symm hb)
  refine wpAny_setField a.getT a.dataT hsz (wpAny_throw ⟨x, cls, dx, H, σ, rfl, I.fly (ch := [T]) ⟨fun b o _ hc q => (oth b (by simpa using hc)).trans q, fun b o hc q => ⟨o.slots, (oth b (by simpa using hc)).trans q⟩, Nat.le_of_eq (Heap.SameBut.update (a := T) s.heap _).1.symm⟩ (fun b hb => by rw [List.mem_singleton.mp hb]; exact fT), fx,
    .inr ⟨T, rawInt X.env.locals, oe, _, vs, _, fT, .inr rfl, ⟨(oth x (Ne.symm a.ne)).trans a.get, a.cls, a.dict, a.data, a.tb, a.ne, Heap.get?_update_self _ a.getT (Obj.isFreed_of_fields d3), d3, by simp [hsz]⟩⟩, hE⟩)
/-- except C: suite (no exception leaves the suite) -/
theorem ph_cons (hcls : Gl X c) (hm : X.mg c = some (.ref C)) (hsu : ∀ x oe, PSs (cxSuite X x oe) (b₀ :: suite) (ts' x oe)) (hr : PH X hs EX th) (hdb : (c == ("__debug__" : Str)) = false := by decide) :
    PH X (.ExceptHandler (some (.Name c np)) none (b₀ :: suite) pos :: hs) EX (fun D σ cls dx H => ∃ b, PySem.W.exmOne X.K cls (.ref C) = some b ∧ if b = true then ∀ x oe, H x = none → oe.cls = cls → oe.dict = dx → ts' x oe D σ H else th D σ cls dx H) := by
  intro σ H s x cls dx T oe oT vs ts D I fx fT a h
  obtain ⟨b, hb, h⟩ := h
  have dn : ∀ v, oe.data ≠ .cell v := fun v z => by rw [a.data] at z; cases z
  have IS := I.suite fx a.get dn
  have mk : (X.A.mark (some (.ref x))) = (cxSuite X x oe).A := rfl
  refine wpAny_handleBy_cons (codeAny_handlers_test ?_) (by intro q; cases q)
  refine ld_glob (X := cxSuite X x oe) IS hcls hm ?_ hdb
  have lt : PySem.W.Looks (model X.prog X.w) s.heap (typeOf (.ref x)) cls := by
    have q : PySem.W.Looks (model X.prog X.w) s.heap (typeOf (.ref x)) oe.cls := (PySem.W.Looks.ld a.get).andThen .now
    rw [a.cls] at q
    exact q
  obtain ⟨hh, g, d, tk, os⟩ := s
  refine (PySem.W.exm_one I.kIn lt hb).at ?_
  cases b with
  | false =>
    rw [if_neg Bool.false_ne_true] at h
    exact hr σ H _ x cls dx T oe oT vs ts D I fx fT a h
  | true =>
    rw [if_pos rfl] at h
    refine codeAny_handlers_suite ?_
    refine landX (A := X.A.mark (some (.ref x))) I fT a fun h1 oT1 ts1 I1 a1 => ?_
    have I2 := I1.suite fx a1.get dn
    refine wpAny_mono (hsu x oe [] _ σ H D I2 (h x oe fx.1 a.cls a.dict)) (fun f s2 q => ?_) (fun _ _ z => z.elim)
    cases f with
    | next => obtain ⟨σ', H', J, q⟩ := q; exact ⟨σ', H', J.unsuite I.ok.hd I.ok, q⟩
    | brk => obtain ⟨σ', H', J, q⟩ := q; exact ⟨σ', H', J.unsuite I.ok.hd I.ok, q⟩
    | cont => obtain ⟨σ', H', J, q⟩ := q; exact ⟨σ', H', J.unsuite I.ok.hd I.ok, q⟩
    | ret u => obtain ⟨v, σ', H', J, r, q⟩ := q; exact ⟨v, σ', H', J.unsuite I.ok.hd I.ok, r, q⟩
end
/-- try: body except ..: .. (no else, no finally) -/
def tTry (tb : XS → TS) (th : Ends → XS) : TS := fun D σ H => tb (fun σ' cls dx H' => th D σ' cls dx H') D σ H
theorem ps_try {X : Cx} {W : Value → Shared → Prop} {EX : XS} {body : List Stmt} {h₀ : ExceptHandler} {hs : List ExceptHandler} {pos : Pos} {tb : XS → TS} {th : Ends → XS} (ow : Own X) (hW : ∀ e s, Wx X EX e s → W e s)
    (hb : ∀ pn EX1, PSs ((X.pinned pn).thrown EX1) body (tb EX1)) (hh : ∀ pn, PH (X.pinned pn) (h₀ :: hs) EX th) : PS (X.wish W) (.Try body (h₀ :: hs) [] [] pos) (tTry tb th) := by
  intro pins s σ H D I h
  have Ip := I.unwish.intoPn
  have owp : Own (X.pinned (X.pn ++ pins)) := ⟨ow.ex, ow.st, ow.fr⟩
  refine wpAny_Try_except (wpAny_mono (hb (X.pn ++ pins) _ [] s σ H D (Ip.wish _) h) (fun f s1 q => ?_) fun e s1 z => ?_)
  · have q' := q.unwish.outPn
    cases f with
    | next =>
      obtain ⟨σ', H', J, q⟩ := q'
      exact wpAny_execs_nil ⟨σ', H', J.wish _, q⟩
    | brk => obtain ⟨σ', H', J, q⟩ := q'; exact ⟨σ', H', J.wish _, q⟩
    | cont => obtain ⟨σ', H', J, q⟩ := q'; exact ⟨σ', H', J.wish _, q⟩
    | ret u => obtain ⟨v, σ', H', J, r, q⟩ := q'; exact ⟨v, σ', H', J.wish _, r, q⟩
  · obtain ⟨x, cls, dx, H1, σ1, he, I1, fx, fly, hE⟩ := z
    subst he
    refine noteX (X := X.pinned (X.pn ++ pins)) owp I1.ok.frames I1 fx fly fun h1 T oe oT vs ts I2 fT a1 => ?_
    refine landX (X := X.pinned (X.pn ++ pins)) (A := X.A) I2 fT a1 fun h2 oT2 ts2 I3 a2 => ?_
    refine wpAny_mono (hh (X.pn ++ pins) σ1 H1 _ x cls dx T oe oT2 vs ts2 D I3 fx fT a2 hE) (fun f s2 q => ?_) fun e s2 z => hW e s2 z.outPn
    have q' := q.outPn
    cases f with
    | next => obtain ⟨σ', H', J, q⟩ := q'; exact ⟨σ', H', J.wish _, q⟩
    | brk => obtain ⟨σ', H', J, q⟩ := q'; exact ⟨σ', H', J.wish _, q⟩
    | cont => obtain ⟨σ', H', J, q⟩ := q'; exact ⟨σ', H', J.wish _, q⟩
    | ret u => obtain ⟨v, σ', H', J, r, q⟩ := q'; exact ⟨v, σ', H', J.wish _, r, q⟩
end L2

set_option Elab.async false
set_option linter.all false
set_option maxRecDepth 100000
set_option maxHeartbeats 4000000
namespace L2
open PySem PySem.Spec PyProof.Rows PySem.W
/-! ### an object leaves the abstract heap -/
def rem (H : Hp) (x : Addr) : Hp := fun b => if b = x then none else H b
theorem rem_ne {H : Hp} {x b : Addr} (h : b ≠ x) : rem H x b = H b := if_neg h
theorem rem_same {H : Hp} {x : Addr} : rem H x x = none := if_pos rfl
theorem rem_none {H : Hp} {x b : Addr} (h : H b = none) : rem H x b = none := by
  unfold rem
  split
  · rfl
  · exact h
theorem Inv.drop {X : Cx} {pins : List (Addr × Obj)} {σ : St} {H : Hp} {s : Shared} {x : Addr} {φ : Heap → Prop} (I : Inv X pins σ H s) (hx : H x = some (.ext φ)) : Inv X pins σ (rem H x) s := by
  have ne : ∀ b o, H b = some o → (∀ ψ, o ≠ .ext ψ) → b ≠ x := fun b o e n z => by
    subst z
    rw [hx] at e
    exact n φ (Option.some.inj e).symm
  have ne' : ∀ {b o}, H b = some o → (∀ ψ, o ≠ .ext ψ) → rem H x b = some o := fun {b o} e n => by rw [rem_ne (ne b o e n)]; exact e
  refine ⟨I.ok, I.os, I.bare, ⟨I.base.keep, I.base.slot, fun b u e n hx' => rem_none (I.base.free b u e n hx'), I.base.there, fun b xs e => ne' (I.base.tups b xs e) (fun ψ z => nomatch z), fun b u v e => ne' (I.base.frzs b u v e) (fun ψ z => nomatch z), fun b ps e => ?_⟩, I.loc, I.cell, rem_none I.free, fun y c e => rem_none (I.freeC y c e), fun p hp => ?_, fun b u e => ?_, I.len⟩
  · obtain ⟨m, q⟩ := I.base.tbls b ps e
    exact ⟨m, ne' q (fun ψ z => nomatch z)⟩
  · obtain ⟨e, n, r⟩ := I.pin p hp
    exact ⟨e, rem_none n, r⟩
  · by_cases hb : b = x
    · subst hb
      rw [rem_same] at e
      cases e
    · rw [rem_ne hb] at e
      exact (I.hok b u e).stay (fun _ _ _ q => q) (fun c q => ne' q (fun ψ z => nomatch z)) fun c xs q => ne' q (fun ψ z => nomatch z)

/-! ### exceptions in the abstract heap -/
/-- as it is made -/
def ExN (x C : Addr) (dx : Option Addr) (t : Addr) : HO := .ext fun h => h.get? x = some (excD C dx t)
/-- as it is caught -/
def ExO (x C : Addr) (dx : Option Addr) : HO := .ext fun h => ∃ oe vs, h.get? x = some oe ∧ oe.cls = .ref C ∧ oe.dict = dx ∧ oe.data = .fields vs
theorem exN_ok {P : Program} {w : World} {H : Hp} {h : Heap} {x C : Addr} {dx : Option Addr} {t : Addr} (e : h.get? x = some (excD C dx t)) : ObjOk P w H h x (ExN x C dx t) := ⟨e, ⟨_, e⟩, fun h1 h2 a k => k _ a⟩
theorem exO_ok {P : Program} {w : World} {H : Hp} {h : Heap} {x C : Addr} {dx : Option Addr} {oe : Obj} {vs : Array Value} (e : h.get? x = some oe) (c : oe.cls = .ref C) (d : oe.dict = dx) (f : oe.data = .fields vs) : ObjOk P w H h x (ExO x C dx) :=
  ⟨⟨oe, vs, e, c, d, f⟩, ⟨_, e⟩, fun h1 h2 ⟨o, v, a, r⟩ k => ⟨o, v, k _ a, r⟩⟩
theorem exN_at {P : Program} {w : World} {H : Hp} {h : Heap} {x C : Addr} {dx : Option Addr} {t : Addr} (hok : HOk P w H h) (e : H x = some (ExN x C dx t)) : h.get? x = some (excD C dx t) := (hok x _ e).1
theorem exO_at {P : Program} {w : World} {H : Hp} {h : Heap} {x C : Addr} {dx : Option Addr} (hok : HOk P w H h) (e : H x = some (ExO x C dx)) : ∃ oe vs, h.get? x = some oe ∧ oe.cls = .ref C ∧ oe.dict = dx ∧ oe.data = .fields vs := (hok x _ e).1

/-! ### self.f = v in an exception's own __init__, its dict not yet there -/
theorem refuse_own {h : Heap} {self : Value} {l : List Value} (T : OwnTail h vMro l) : refuseLoop self "__setattr__" l = pure () := by
  induction T with
  | base => exact PySem.F.store_ValueError.passes self
  | own _ _ _ _ ih => rw [refuseLoop_ref]; exact ih
section
variable {prog : Program} {w : World} {A : Around} {E : Value → Shared → Prop} {s : Shared} {K : PySem.W.Frag} {C x t : Addr} {bm : List Value} {name : Str} {v : Value}
theorem set_exc {Q : Unit → Shared → Prop} (X : K.In s.heap) (c : ExcC K C bm) (hs : findIn K (.ref C) "__setattr__" = some (some (.builtin "object.__setattr__"))) (ht : takerIn K C name = some none) (hh : hasDictIn K C = true)
    (hx : s.heap.get? x = some (excD C none t))
    (h : ∀ h1 h2 h3, (∀ b o, s.heap.get? b = some o → h1.get? b = some o) → h1.Ns1 s.heap.objs.size (fun _ => none) → Heap.SameBut x h1 h2 → h2.get? x = some (excD C (some s.heap.objs.size) t) →
      Heap.SameBut s.heap.objs.size h2 h3 → h3.Ns1 s.heap.objs.size (fun y => if y = name then some v else none) → Q () { s with heap := h3, toks := s.toks + 2 }) :
    wpAny (model prog w) A (setAttr (.ref x) name v) Q E s := by
  have I : InstAt s.heap x (excD C none t) C none := ⟨hx, rfl, rfl, trivial⟩
  obtain ⟨nm, q, N, bs, hdct, sn, sub, ab, col, dd, k0, k1, k2, k3, k5, lk⟩ := c.obj
  have hC := X C _ lk
  have T := c.tail _ X
  refine set_plain X I hs ?_
  have SF := PySem.F.store_object
  obtain ⟨cd, hc, hd⟩ := any_some hh
  have hcm : cd.mro = .ref C :: bm := by
    unfold clsIn at hc
    rw [lk] at hc
    cases hc
    rfl
  have ne : cd.mro.isEmpty = false := by rw [hcm]; rfl
  have hob : cd.mro.contains (.type "object") = true := by rw [hcm, List.contains_cons, T.hasType (X := "object") (b := true) (by decide +kernel), Bool.or_true]
  have sb : Looks (model prog w) s.heap (isInstance (.ref x) (.type "object")) true := I.type.andThen (looks_mroIn X (by unfold mroIn; rw [hc, Option.bind_some, if_neg (by rw [ne]; decide), hob]))
  refine codeAny_call_builtin SF.slot.plain SF.entry (@check_slot (model prog w) _ _ { s with toks := s.toks + 1 } "object.__setattr__" "object" "__setattr__" (.ref x) [.str name s.toks, v] [] _ SF.kind SF.split sb (SF.args (.ref x) (.str name s.toks) v) ?_)
  obtain ⟨attr, ha, hr⟩ := Option.bind_eq_some_iff.mp ht
  have hm : Looks (model prog w) s.heap (mroOf (.ref C)) cd.mro := (looks_clsIn X hc).andThen .now
  have L3 : Looks (model prog w) s.heap (Builtin.ObjectAttr.storeTaker? attr) none := by
    cases attr with
    | none => exact .now
    | some a =>
      obtain ⟨b, hb, hb2⟩ := Option.map_eq_some_iff.mp hr
      refine (looks_takesIn X hb).andThen ?_
      cases b with
      | false => exact .now
      | true => cases hb2
  rw [osa_eq, refuse_eq]
  refine wpAny_bind (wpAny_bind (I.type.here (s := { s with toks := s.toks + 1 }) (wpAny_bind (hm.here (s := { s with toks := s.toks + 1 }) ?_))))
  rw [hcm, refuseLoop_ref, refuse_own T]
  refine wpAny_pure (wpAny_bind (I.type.here (s := { s with toks := s.toks + 1 }) (wpAny_bind ((looks_findIn X ha).here (s := { s with toks := s.toks + 1 }) (wpAny_bind (L3.here (s := { s with toks := s.toks + 1 }) ?_))))))
  show wpAny _ _ (Builtin.ObjectAttr.storeInOwnDict (.ref x) (.ref C) (.str name s.toks) name v _) _ _ _
  have hx₁ : (s.heap.push { cls := .type "dict", data := .dict #[] }).get? x = some (excD C none t) := Heap.get?_push_of_some _ hx
  have hxs : x ≠ s.heap.objs.size := Nat.ne_of_lt (Heap.lt_size hx)
  refine wpAny_bind (wpAny_pure (wpAny_bind (wpAny_bind (wpAny_loadPart hx (wpAny_bind ((looks_clsIn X hc).here (s := { s with toks := s.toks + 1 }) ?_))))))
  rw [hd, if_neg (by decide)]
  show wpAny _ _ (do
    let d ← alloc { cls := Value.type "dict", data := Data.dict #[] }
    update x fun o => { cls := o.cls, dict := some d, data := o.data, slots := o.slots }
    dictMade (Value.ref C) x d) _ _ _
  generalize hob1 : ({ cls := Value.type "dict", data := Data.dict #[] } : Obj) = dob at hx₁
  have g1 : (s.heap.push dob).get? s.heap.objs.size = some dob := Heap.get?_push_size _ (by subst hob1; rfl)
  refine wpAny_bind (wpAny_alloc' (wpAny_bind (wpAny_update' hx₁ (wpAny_pure ?_))))
  have n1 : (s.heap.push dob).Ns1 s.heap.objs.size (fun _ => none) := Heap.Ns1.of_empty ⟨dob, #[], _, g1, by subst hob1; rfl, fun e he => absurd he (by simp), fun _ => rfl⟩
  have sb2 := Heap.SameBut.update (a := x) (s.heap.push dob) (fun o => { cls := o.cls, dict := some s.heap.objs.size, data := o.data, slots := o.slots })
  have g2 := Heap.get?_update_self (fun o => { cls := o.cls, dict := some s.heap.objs.size, data := o.data, slots := o.slots }) hx₁ rfl
  show wpAny _ _ (Builtin.ObjectAttr.storeInDict s.heap.objs.size (.str name s.toks) name v) _ _ _
  unfold Builtin.ObjectAttr.storeInDict Builtin.ObjectAttr.newKeyGuard
  refine wpAny_bind (wpAny_pure (wpAny_bind (wpAny_nsSet1 (n1.sameBut sb2 (Ne.symm hxs)) fun h' hn' hs' => ?_)))
  obtain ⟨oD, esD, epD, hoD, hdD, hcD⟩ := hn'.count (Within.cons name v Within.nil)
  refine wpAny_bind (wpAny_lookBehind hoD (by rw [hdD]; exact pastItsLine_dict (Nat.le_trans hcD (by rw [List.length_cons, List.length_nil, sizeLine_eq]; omega))) ?_)
  exact wpAny_pure (h _ _ h' (fun b o e => Heap.get?_push_of_some _ e) n1 sb2 g2 hs' hn')
end
end L2

set_option Elab.async false
set_option linter.all false
set_option maxRecDepth 100000
set_option maxHeartbeats 4000000
namespace L2
open PySem PySem.Spec PyProof.Rows PySem.W
/-- what the text says of an attribute of an own exception class -/
structure XFld (K : PySem.W.Frag) (C : Addr) (f : Str) : Prop where
  sa : findIn K (.ref C) "__setattr__" = some (some (.builtin "object.__setattr__"))
  na : findIn K (.ref C) f = some none
  hd : hasDictIn K C = true
  ga : findIn K (.ref C) "__getattribute__" = some (some (.builtin "BaseException.__getattribute__"))
  gn : findIn K (.ref C) "__getattr__" = some none
  be : mroIn K C (.type "BaseException") = some true
section
variable {prog : Program} {w : World} {A : Around} {E : Value → Shared → Prop} {s : Shared} {K : PySem.W.Frag} {C x : Addr} {name : Str} {v : Value} {ox od : Obj} {expr : Bool}
theorem get_exc {Q : Value → Shared → Prop} (X : K.In s.heap) (F : XFld K C name) (I : InstAt s.heap x ox C (some od)) (hv : lookIn name od = some (some v)) (hh : handedIn v = true) (h : Q v { s with toks := s.toks + 1 }) :
    wpAny (model prog w) A (getAttr (.ref x) name expr) Q E s := by
  obtain ⟨hp, g, d, t, os⟩ := s
  have L0 := I.type (M := model prog w)
  have L1 := looks_findIn (M := model prog w) X F.ga
  have L2 := looks_findIn (M := model prog w) X F.gn
  have FB := PySem.F.attr_ValueError
  have f3 := FB.ga.bind (.ref x)
  have L4 := looks_find (M := model prog w) X I (findObj_own F.hd F.na rfl hv)
  have sb : Looks (model prog w) hp (isInstance (.ref x) (.type "BaseException")) true := L0.andThen (looks_mroIn X F.be)
  have hx0 : (expr && onTheHeap (Value.builtin "BaseException.__getattribute__")) = false := by cases expr <;> rfl
  have hx2 : (Value.builtin "BaseException.__getattribute__" == Value.builtin "object.__getattribute__") = false := by decide +kernel
  have hx1 : (onTheHeap (Value.ref C) && Value.builtin "BaseException.__getattribute__" == Value.builtin "object.__getattribute__") = false := by rw [hx2]; rfl
  unfold getAttr getAttrBy
  refine wpAny_bind (wpAny_mkText (wpAny_holding (wpAny_bind (L0.at (wpAny_bind (L1.at ?_))))))
  dsimp only
  rw [hx1, if_neg (by decide)]
  unfold getAttrByItsOwn
  refine wpAny_bind (L2.at (wpAny_bind (wpAny_attempt (wpAny_holding ?_))))
  unfold callGetattribute
  rw [hx0, if_neg (by decide)]
  unfold boundAndCalled
  rw [f3]
  refine wpAny_bind (wpAny_pure (wpAny_call ?_))
  refine codeAny_call_builtin FB.ga.plain PySem.F.entry_bexc_ga (@check_slot (model prog w) _ _ ⟨hp, g, d, t + 1, os⟩ "BaseException.__getattribute__" "BaseException" "__getattribute__" (.ref x) [.str name t] [] _ (by decide +kernel) (by decide +kernel) sb (PySem.F.args_bexc_ga _ _) ?_)
  refine wpAny_bind (wpAny_pure (wpAny_bind (wpAny_pure (wpAny_bind (L0.at (wpAny_bind (L4.at (wpAny_pure ?_))))))))
  show wpAny _ _ (handedOut v) _ _ _
  rw [handedOut_of hh]
  exact wpAny_pure h
end

/-! ### the rules: error.f, self.f = v, isinstance(error, C) -/
def tXFld (K : PySem.W.Frag) (ta : TE) (f : Str) : TE := fun σ H Q => ta σ H fun xv H1 => ∃ x C D fs v, xv = .ref x ∧ H1 x = some (ExO x C (some D)) ∧ H1 D = some (.xd fs) ∧ XFld K C f ∧ fs.lookup f = some v ∧ Q v H1
def sXFld (K : PySem.W.Frag) (ta tv : TE) (f : Str) : TS := fun D σ H => tv σ H fun y H1 => ta σ H1 fun xv H2 => ∃ x C bm t, xv = .ref x ∧ H2 x = some (ExN x C none t) ∧ ExcC K C bm ∧ XFld K C f ∧
  ∀ dx, H2 dx = none → dx ≠ x → D.nx σ (upd (upd H2 x (ExN x C (some dx) t)) dx (.xd [(f, y)]))
section
variable {X : Cx} {o e value : Expr} {f : Str} {pos pos' : Pos} {ta tv : TE}
theorem pe_xfld (he : PE X e ta) (hb : attributeBase e f X.env (eval e X.env) = eval e X.env := by rfl) : PE X (.Attribute e f pos) (tXFld X.K ta f) := by
  intro pins s σ H Q I h
  refine attr_of hb (thn (he pins s σ H _ I h) fun u s1 ⟨xv, H1, I1, rx, x, C, D, fs, v, ex, ea, ed, F, l, q⟩ => ?_)
  subst ex
  obtain rfl : u = Value.ref x := rx
  obtain ⟨oe, vs, g, gc, gd, gf⟩ := exO_at I1.hok ea
  obtain ⟨mA, n, r⟩ := (show ObjOk X.prog X.w H1 s1.heap D (.xd fs) from I1.hok D _ ed)
  obtain ⟨od, ho, hl⟩ := lookIn_ns n
  obtain ⟨u, hu, ru⟩ := RelO.some_of (v := v) (o := mA f) (by rw [← l]; exact r f)
  have J : InstAt s1.heap x oe C (some od) := ⟨g, gc, by unfold notCls; rw [gf], by rw [gd]; exact ho⟩
  exact get_exc I1.kIn F J (by rw [hl, hu]) (handed_of ru) ⟨v, H1, I1.tok _, ru, q⟩
theorem ps_xfld (ha : PE X o ta) (hv : PE X value tv) (hs : swapsWith value (some (.Attribute o f pos')) pos.line X.env = pure false := by rfl) : PS X (.Assign [.Attribute o f pos'] value pos) (sXFld X.K ta tv f) := by
  intro pins s σ H D I h
  refine plainObj_wpAny_Assign_Attribute (thn (hv pins s σ H _ I h) fun u s1 ⟨y, H1, I1, ry, q⟩ => thn (ha pins s1 σ H1 _ I1 q) fun ov s2 ⟨xv, H2, I2, rx, x, C, bm, t, ex, ea, c, F, q2⟩ => ?_) hs
  subst ex
  obtain rfl : ov = Value.ref x := rx
  have g := exN_at I2.hok ea
  have hxs : x ≠ s2.heap.objs.size := Nat.ne_of_lt (Heap.lt_size g)
  refine set_exc I2.kIn c F.sa (NoAttr.taker F.na) F.hd g fun h1 h2 h3 k1 n1 sb2 g2 sb3 n3 => ?_
  have k3 : ∀ b u, b ≠ x → s2.heap.get? b = some u → h3.get? b = some u := fun b u hb z => (sb3.2 b (Nat.ne_of_lt (Heap.lt_size z))).trans ((sb2.2 b hb).trans (k1 b u z))
  have g3 : h3.get? x = some (excD C (some s2.heap.objs.size) t) := (sb3.2 x hxs).trans g2
  have J2 : Inv X pins σ (upd H2 x (ExN x C (some s2.heap.objs.size) t)) { s2 with heap := h3, toks := s2.toks + 2 } :=
    I2.write (x := x) (e := x) (h' := h3) (by rw [ea]; exact True.intro) (.inl rfl) k3 ⟨_, g3⟩ (exN_ok g3)
  have fD : FpOk X pins H2 s2.heap.objs.size := I2.fpOk (Nat.le_refl _) (I2.hok.fresh (Nat.le_refl _))
  have J3 := J2.adopt (D := s2.heap.objs.size) (o := .xd [(f, y)]) (by rw [upd_ne (Ne.symm hxs)]; exact fD.1) fD.2.1 I2.sz fD.2.2.2.2.1 fD.2.2.2.2.2
    ⟨_, n3, fun g' => by
      by_cases hg : g' = f
      · subst hg
        show RelO (List.lookup g' [(g', y)]) (if g' = g' then some u else none)
        rw [List.lookup_cons, beq_self_eq_true, if_pos rfl]
        exact ry
      · show RelO (List.lookup g' [(f, y)]) (if g' = f then some u else none)
        rw [List.lookup_cons, beq_eq_false_iff_ne.mpr hg, if_neg hg]
        exact True.intro⟩
  exact ⟨σ, _, J3, q2 _ (I2.hok.fresh (Nat.le_refl _)) (Ne.symm hxs)⟩
/-- isinstance(error, C), where it is so -/
theorem kit_yes {K : PySem.W.Frag} {x t c : Value} {H : Heap → Prop} (ty : ∀ (M : Model) (h : Heap), K.In h → H h → Looks M h (typeOf x) t) (e : kitOne K t c = some true) : Answers (fun s => K.In s.heap ∧ H s.heap) x c true := by
  intro dep tk prog w A R s hs
  obtain ⟨h0, g, d, tt, os⟩ := s
  obtain ⟨⟨X, p⟩, hq⟩ := hs
  have LT := ty (model prog w) h0 X p
  unfold kitOne at e
  unfold Builtin.«isinstance.nested»
  refine wpAny_bind (LT.at ?_)
  by_cases q : (t == c) = true
  · rw [if_pos q]
    first
      | ((repeat lk); exact hq tt)
      | exact wpAny_bind (wpAny_rule (hq tt))
      | exact wpAny_bind (wpAny_rule (wpAny_pure (hq tt)))
  · rw [if_neg q] at e
    rw [if_neg q]
    obtain ⟨hty, his, hsub⟩ := kit_cls (M := model prog w) X e
    have LI : Looks (model prog w) h0 (isInstance x c) true := LT.andThen hsub
    refine wpAny_bind (hty.at ?_)
    rw [if_pos (by decide)]
    k_delta "plainIsInstance"
    refine wpAny_bind (wpAny_bind (his.at ?_))
    simp only [Bool.not_true, Bool.false_eq_true, if_false]
    refine wpAny_bind (LI.at ?_)
    first
        | exact wpAny_pure (wpAny_pure (hq tt))
        | (simp only [if_true]; first | exact wpAny_pure (wpAny_pure (hq tt)) | exact wpAny_pure (hq tt) | exact wpAny_bind (wpAny_pure (wpAny_pure (hq tt))))
def clsV : Value → Option V
  | .ref a => some (.ref a)
  | .type n => some (.ty n)
  | _ => none
theorem call_isinstX : CallR X (.builtin "isinstance") (fun xs H Q => ∃ x C dx c cv, xs = [.ref x, cv] ∧ clsV c = some cv ∧ H x = some (ExO x C dx) ∧ kitOne X.K (.ref C) c = some true ∧ Q (.bl true) H) := by
  intro pins s σ H xs us Q I r h
  obtain ⟨x, C, dx, c, cv, rfl, hc, hx, e, q⟩ := h
  obtain ⟨u, w', rfl, ru, rw'⟩ := vals2 r
  cases (show u = Value.ref x from ru)
  have hw : w' = c := by
    cases c <;> try cases hc
    · exact rw'
    · exact rw'
  subst hw
  exact call_isinstance (S := fun _ R s => (X.K.In s.heap ∧ ∃ oe, s.heap.get? x = some oe ∧ oe.cls = .ref C) ∧ ∀ tk, R (.ok (.ret (.bool true))) { s with toks := tk })
    (fun prog w A R s hs => isinstance_outer (kit_yes (H := fun h => ∃ oe, h.get? x = some oe ∧ oe.cls = .ref C) (fun M h _ ⟨oe, g, gc⟩ => gc ▸ (Looks.ld g).andThen .now) e 0 _ prog w A R s hs) (by intro z; cases z))
    ⟨⟨I.kIn, (by obtain ⟨oe, vs, g, gc, _⟩ := exO_at I.hok hx; exact ⟨oe, g, gc⟩)⟩, fun tk => ⟨.bl true, H, I.tok _, rfl, q⟩⟩
end
end L2

set_option Elab.async false
set_option linter.all false
set_option maxRecDepth 100000
set_option maxHeartbeats 4000000
namespace L2
open PySem PySem.Spec PyProof.Rows PySem.W
/-! ### raise C(..), C with an __init__ of its own -/
section
variable {X : Cx} {EX : XS} {C f : Addr} {bm : List Value} {fd : FuncData} {ps : List Str} {sp : Sp} {k : Nat} {x : Str} {p pos cpos : Pos} {e : Expr} {es : List Expr} {t : TA}
def noX : XK := fun _ _ _ => False
/-- what is asked ahead of raise C(vs), where the state is H -/
def MakeX (C : Addr) (sp : Sp) (EX : XS) (σ : St) (vs : List V) (H : Hp) : Prop := vs.length ≤ sizeLine ∧
  ∀ x tt, H x = none → sp (.ref x :: vs) (upd H x (ExN x C none tt)) (fun v H2 => v = .non ∧ ∃ dx, H2 x = some (ExN x C dx tt) ∧ EX σ (.ref C) dx (rem H2 x)) noX
theorem run_makeX (c : ExcC X.K C bm) (hi : PySem.W.findIn X.K (.ref C) "__init__" = some (some (.ref f))) (hfn : PySem.W.isFn X.K (.ref f) = true) (F : FnOk X.prog X.w X.K X.mg X.base CX0 k f fd ps sp) (hr : Room (k + 1) X.A) (hb : Binds X.K fd ps [])
    {pins : List (Addr × Obj)} {σ : St} {H : Hp} {s : Shared} {us : List Value} {vs : List V} (I : Inv X pins σ H s) (r : Vals vs us) (h : MakeX C sp EX σ vs H) :
    wpAny (model X.prog X.w) X.A (call (.ref C) us) (fun v s₁ => ∃ e dx t, v = .ref e ∧ X.K.In s₁.heap ∧ s₁.heap.get? e = some (excD C dx t) ∧ Wx X EX (.ref e) s₁) (Wx X EX) s := by
  obtain ⟨hz, h⟩ := h
  obtain ⟨nm, q, N, bs, hdct, sn, sub, ab, col, dd, k0, k1, k2, k3, k5, lk⟩ := c.obj
  have I0 := I.pins_of (pins' := []) (fun p hp => nomatch hp)
  have fx : FpOk X [] H (s.heap.objs.size + 1) := I0.fpOk (Nat.le_succ _) (I0.hok.fresh (Nat.le_succ _))
  have hq := h (s.heap.objs.size + 1) s.heap.objs.size fx.1
  have k0' : ∀ b o, s.heap.get? b = some o → ((s.heap.push (tupObj us)).push (excObj C s.heap.objs.size)).get? b = some o := fun b o e => Heap.get?_push_of_some _ (Heap.get?_push_of_some _ e)
  have gx : ((s.heap.push (tupObj us)).push (excObj C s.heap.objs.size)).get? (s.heap.objs.size + 1) = some (excD C none s.heap.objs.size) := by
    have := Heap.get?_push_size (s.heap.push (tupObj us)) (o := excObj C s.heap.objs.size) rfl
    rwa [Heap.size_push] at this
  have I1 : Inv X [] σ H { s with heap := (s.heap.push (tupObj us)).push (excObj C s.heap.objs.size), toks := s.toks } := I0.kept k0'
  have I2 := I1.adopt (D := s.heap.objs.size + 1) (o := ExN (s.heap.objs.size + 1) C none s.heap.objs.size) fx.1 fx.2.1 (Nat.le_trans I.sz (Nat.le_succ _)) fx.2.2.2.2.1 fx.2.2.2.2.2 (exN_ok gx)
  have r2 : Vals (V.ref (s.heap.objs.size + 1) :: vs) (Value.ref (s.heap.objs.size + 1) :: us) := .cons rfl r
  have hl : (Value.ref (s.heap.objs.size + 1) :: us ++ []).length = ps.length := by
    have e := r2.length
    rw [F.len _ _ _ _ hq] at e
    rw [List.append_nil]
    exact e.symm
  have hbb := hb _ (Value.ref (s.heap.objs.size + 1) :: us) I2.kIn hl
  rw [List.append_nil] at hbb
  obtain ⟨hh, g, d, tk, os⟩ := s
  refine wpAny_call (excMake PySem.F.excBase_ValueError (by decide +kernel) PySem.F.excBase_ValueError (c.tail _ I.kIn) (I.kIn C _ lk) (PySem.W.looks_findIn I.kIn hi) (fun self => PySem.W.bind_fn I.kIn self (beq_iff_eq.mp hfn)) (by rw [← r.length]; exact hz) ?_)
  refine codeAny_mono (F.run _ X.stack _ _ ⟨Value.ref (hh.objs.size + 1) :: us, []⟩ (Value.ref (hh.objs.size + 1) :: us) _ _ noX (hr.make C us []) (I2.env0.make C us []) hbb r2 hq) fun r s' hq' => ?_
  cases r with
  | error e => exact False.elim hq'
  | ok fl =>
    cases fl with
    | ret u =>
      obtain ⟨v, H', I3, rv, ev, dx, ex, q3⟩ := I2.after hq'
      subst ev
      have g3 := exN_at I3.hok ex
      have I4 := I3.drop ex
      refine ⟨rv, _, dx, _, rfl, I4.kIn, g3, _, _, dx, _, σ, rfl, I4, ⟨rem_same, fx.2⟩, .inl ⟨_, _, ⟨g3, rfl, rfl, rfl, rfl⟩⟩, q3⟩
    | next => exact False.elim hq'
    | brk => exact False.elim hq'
    | cont => exact False.elim hq'
def tRaiseI (C : Addr) (sp : Sp) (EX : XS) (t : TA) : TS := fun _ σ H => t σ H fun vs H1 => MakeX C sp EX σ vs H1
theorem ps_raiseI (hcalm : X.calm = true) (c : ExcC X.K C bm) (hbase : bm.contains (.type "BaseException") = true) (hi : PySem.W.findIn X.K (.ref C) "__init__" = some (some (.ref f))) (hfn : PySem.W.isFn X.K (.ref f) = true) (F : FnOk X.prog X.w X.K X.mg X.base CX0 k f fd ps sp) (hr : Room (k + 1) X.A) (hb : Binds X.K fd ps [])
    (hg : Gl X x) (hm : X.mg x = some (.ref C)) (ha : PA (X.thrown EX) (e :: es) t)
    (hdb : (x == ("__debug__" : Str)) = false := by decide) (he : starEach (e :: es) X.env = (false, eval e X.env) :: starEach es X.env := by rfl) (hpl : (backTo cpos (starEach es X.env)).any (·.1) = false := by rfl) :
    PS (X.thrown EX) (.Raise (some (.Call (.Name x p) (e :: es) [] cpos)) none pos) (tRaiseI C sp EX t) := by
  intro pins s σ H D I h
  rw [arm_exec_Raise]
  refine wpAny_bind (wpAny_standAt ?_)
  show wpAny _ _ (raiseStmt _ (some (do let v ← eval (.Call (.Name x p) (e :: es) [] cpos) X.env; standAt pos; pure v)) none) _ _ _
  refine raiseD c hbase (I.ok.hd hcalm) (wpAny_bind (thn ?_ fun v s1 z => wpAny_bind (wpAny_standAt (wpAny_pure z))))
  refine wpAny_Call_Name_kw (ld_glob I hg hm ?_ hdb)
  refine PySem.W.callWith_K (h₀ := X.base) I.ok.mod.kin c.kp (thn (ha cpos pins s σ H _ I h) fun us s1 ⟨vs, H1, I1, r, q⟩ => ⟨I1.kIn, ?_⟩) he hpl
  exact run_makeX c hi hfn F hr hb I1.unwish r q
end
end L2

set_option Elab.async false
set_option linter.all false
set_option maxRecDepth 100000
set_option maxHeartbeats 4000000
namespace L2
open PySem PySem.Spec PyProof.Rows PySem.W
/-! ### except C as n: the name is stored, and goes behind the suite -/
section
variable {X : Cx} {pins : List (Addr × Obj)} {σ : St} {H : Hp} {s : Shared} {M : Model} {A : Around} {E : Value → Shared → Prop}
/-- what is changed is the frame's map at one name -/
theorem Inv.unname {i : Nat} {n : Str} {m : Str → Option Value} {v : Option Value} {h' : Heap} {t' : Nat} (I : Inv X pins σ H s) (hN : X.N.Nodup) (hi : X.N[i]? = some n) (hm : s.heap.Ns X.env.locals m) (hn' : h'.Ns X.env.locals (fun x => if x = n then v else m x)) (hs : Heap.SameBut X.env.locals s.heap h') :
    Inv X pins (σ.set i none) H { s with heap := h', toks := t' } := by
  obtain ⟨m0, hm0, hl⟩ := id I.loc
  have em : m0 = m := by
    obtain ⟨o1, es1, ep1, g1, d1, _, f1⟩ := hm0
    obtain ⟨o2, es2, ep2, g2, d2, _, f2⟩ := hm
    rw [g1] at g2
    cases g2
    rw [d1] at d2
    cases d2
    funext y
    rw [← f1 y, ← f2 y]
  subst em
  have hiσ : i < σ.length := by rw [I.len]; exact (List.getElem?_eq_some_iff.mp hi).1
  have cne := I.cne
  obtain ⟨oL, _, _, hoL, _⟩ := id hm
  have ab : ∀ {b o}, X.s₀.heap.get? b = some o → b ≠ X.env.locals := fun {b o} e => Nat.ne_of_lt (Nat.lt_of_lt_of_le (Heap.lt_size e) I.ok.above)
  refine ⟨I.ok, I.os, I.bare, ⟨fun b o e n' hb hx => (hs.2 b (ab e)).trans (I.base.keep b o e n' hb hx), fun b o e n' hb hx => ?_, I.base.free, fun b o e hx => ?_, I.base.tups, I.base.frzs, I.base.tbls⟩, ⟨_, hn', fun j y v' e1 e2 e3 => ?_⟩, fun y c e => ?_, I.free, I.freeC, fun p hp => ?_, fun b ob e => ?_, by simpa using I.len⟩
  · obtain ⟨sl, e1⟩ := I.base.slot b o e n' hb hx
    exact ⟨sl, (hs.2 b (ab e)).trans e1⟩
  · obtain ⟨o', e1⟩ := I.base.there b o e hx
    exact ⟨o', (hs.2 b (ab e)).trans e1⟩
  · by_cases hj : j = i
    · subst hj
      rw [List.getElem?_set_self hiσ] at e2
      cases e2
    · rw [List.getElem?_set_ne (Ne.symm hj)] at e2
      obtain ⟨u', r', q⟩ := hl j y v' e1 e2 e3
      refine ⟨u', r', ?_⟩
      rcases q with ⟨k, e⟩ | ⟨k, c, e, z⟩
      · refine .inl ⟨k, ?_⟩
        have ne : y ≠ n := fun e => hj (nodup_ix hN e1 (e ▸ hi))
        show (if y = n then v else m0 y) = some u'
        rw [if_neg ne]
        exact e
      · exact .inr ⟨k, c, e, z.sameBut hs (cne y c e)⟩
  · obtain ⟨w', z⟩ := I.cell y c e
    exact ⟨w', z.sameBut hs (cne y c e)⟩
  · obtain ⟨e, n', ne, nf, d⟩ := I.pin p hp
    exact ⟨(hs.2 p.1 ne).trans e, n', ne, nf, d⟩
  · refine (I.hok b ob e).stay (fun c w' hc q => (hs.2 c ?_).trans q) (fun _ q => q) fun _ _ q => q
    rintro rfl
    rcases hc with rfl | hc
    · rw [I.free] at e; cases e
    · rw [I.free] at hc; cases hc
theorem unbind_ok {i : Nat} {n : Str} {pos : Pos} {Q : Unit → Shared → Prop} (I : Inv X pins σ H s) (hN : X.N.Nodup) (hi : X.N[i]? = some n) (hl : X.env.scope.names.lookup n = some .local)
    (h : ∀ s', Inv X pins (σ.set i none) H s' → Q () s') : wpAny M A (do bindName X.env n .none; unbindBehindTheSuite X.env n pos) Q E s := by
  have hk : X.env.kindOf n = some .local := hl
  have hp : (X.env.scope.kind == .class || (X.env.scope.kind == .module && X.env.locals != X.env.globals)) = false := by rw [I.ok.kind]; rfl
  obtain ⟨m, hm, _⟩ := id I.loc
  refine wpAny_bind (wpAny_bindName (wpAny_storeName_local hk hm (fun h₁ hn₁ hs₁ => ?_) hp))
  unfold unbindBehindTheSuite
  refine wpAny_onRaise ?_
  unfold unbindName
  refine wpAny_bind (wpAny_point (wpAny_bind ?_))
  unfold deleteName
  simp only [hk, hp]
  rw [if_neg (by decide)]
  refine wpAny_bind (wpAny_nsDel_keeps hn₁ fun h₂ v hn₂ hs₂ => ?_)
  simp only [if_true, Option.isSome_some, Bool.not_true, Bool.false_eq_true, if_false]
  refine wpAny_pure (wpAny_point (h _ (I.unname hN hi hm (v := v) (h' := h₂) ?_ (hs₁.trans hs₂))))
  have e : (fun x => if x = n then v else (if x = n then some Value.none else m x)) = fun x => if x = n then v else m x := by
    funext y
    by_cases hy : y = n
    · rw [if_pos hy, if_pos hy]
    · rw [if_neg hy, if_neg hy, if_neg hy]
  rw [← e]
  exact hn₂
end
def unb (i : Nat) (D : Ends) : Ends := { nx := fun σ H => D.nx (σ.set i none) H, bk := fun σ H => D.bk (σ.set i none) H, ct := fun σ H => D.ct (σ.set i none) H, rt := D.rt }
/-- the context of an except suite that has a name for the exception -/
def cxCaught (X : Cx) (x : Addr) : Cx := { X with A := X.A.mark (some (.ref x)), calm := false, xe := fun _ _ => False }
section
variable {X : Cx} {σ : St} {H : Hp} {s : Shared} {x : Addr}
theorem Inv.caught (I : Inv X [] σ H s) : Inv (cxCaught X x) [] σ H s :=
  ⟨⟨I.ok.mod, I.ok.kind, I.ok.glob, I.ok.blt, I.ok.above, I.ok.inj, I.ok.has, I.ok.cab, fun z => absurd z Bool.false_ne_true, I.ok.frames, I.ok.stk, I.ok.exf, I.ok.bs, I.ok.bsz, I.ok.noex, I.ok.exfs, I.ok.funs, I.ok.frf⟩, I.os, I.bare, I.base, I.loc, I.cell, I.free, I.freeC, I.pin, I.hok, I.len⟩
theorem Inv.uncaught (I : Inv (cxCaught X x) [] σ H s) (ok : X.Ok) : Inv X [] σ H s := ⟨ok, I.os, I.bare, I.base, I.loc, I.cell, I.free, I.freeC, I.pin, I.hok, I.len⟩
end
section
variable {X : Cx} {EX : XS} {th : Ends → XS} {hs : List ExceptHandler} {C : Addr} {c n : Str} {i : Nat} {np pos : Pos} {b₀ : Stmt} {suite : List Stmt} {tsu : TS}
theorem ph_as (ow : Own X) (hN : X.N.Nodup) (hi : X.N[i]? = some n) (hl : X.env.scope.names.lookup n = some .local) (hcls : Gl X c) (hm : X.mg c = some (.ref C)) (hsu : ∀ x, PSs (cxCaught X x) (b₀ :: suite) tsu) (hr : PH X hs EX th) (hdb : (c == ("__debug__" : Str)) = false := by decide) :
    PH X (.ExceptHandler (some (.Name c np)) (some n) (b₀ :: suite) pos :: hs) EX (fun D σ cls dx H => ∃ b, PySem.W.exmOne X.K cls (.ref C) = some b ∧ if b = true then ∃ C', cls = .ref C' ∧ ∀ x, H x = none → tsu (unb i D) (σ.set i (some (.ref x))) (upd H x (ExO x C' dx)) else th D σ cls dx H) := by
  intro σ H s x cls dx T oe oT vs ts D I fx fT a h
  obtain ⟨b, hb, h⟩ := h
  have dn : ∀ v, oe.data ≠ .cell v := fun v z => by rw [a.data] at z; cases z
  refine wpAny_handleBy_cons (codeAny_handlers_test ?_) (by intro q; cases q)
  refine ld_glob (X := cxCaught X x) I.caught hcls hm ?_ hdb
  have lt : PySem.W.Looks (model X.prog X.w) s.heap (typeOf (.ref x)) cls := by
    have q : PySem.W.Looks (model X.prog X.w) s.heap (typeOf (.ref x)) oe.cls := (PySem.W.Looks.ld a.get).andThen .now
    rw [a.cls] at q
    exact q
  obtain ⟨hh, g, d, tk, os⟩ := s
  refine (PySem.W.exm_one I.kIn lt hb).at ?_
  cases b with
  | false =>
    rw [if_neg Bool.false_ne_true] at h
    exact hr σ H _ x cls dx T oe oT vs ts D I fx fT a h
  | true =>
    rw [if_pos rfl] at h
    obtain ⟨C', rfl, h⟩ := h
    refine codeAny_handlers_suite_as ?_
    refine landX (A := X.A.mark (some (.ref x))) I fT a fun h1 oT1 ts1 I1 a1 => ?_
    have I2 := I1.adopt (D := x) (o := ExO x C' dx) fx.1 fx.2.1 (fx.old ow.ex) fx.2.2.2.2.1 fx.2.2.2.2.2 (exO_ok a1.get a1.cls a1.dict a1.data)
    refine store_ok (X := cxCaught X x) (v := .ref x) I2.caught hN hi (.inl hl) rfl (fun s3 I3 => ?_) (.inr hl)
    refine wpAny_mono (hsu x [] _ _ _ _ I3 (h x fx.1)) (fun f s4 q => ?_) (fun _ _ z => z.elim)
    cases f with
    | next =>
      obtain ⟨σ', H', J, q⟩ := q
      exact unbind_ok (J.uncaught I.ok) hN hi hl fun s5 I5 => ⟨_, H', I5, q⟩
    | brk =>
      obtain ⟨σ', H', J, q⟩ := q
      exact unbind_ok (J.uncaught I.ok) hN hi hl fun s5 I5 => ⟨_, H', I5, q⟩
    | cont =>
      obtain ⟨σ', H', J, q⟩ := q
      exact unbind_ok (J.uncaught I.ok) hN hi hl fun s5 I5 => ⟨_, H', I5, q⟩
    | ret u =>
      obtain ⟨v, σ', H', J, r, q⟩ := q
      exact unbind_ok (J.uncaught I.ok) hN hi hl fun s5 I5 => ⟨v, _, H', I5, r, q⟩
end
end L2

set_option Elab.async false
set_option linter.all false
set_option maxRecDepth 100000
set_option maxHeartbeats 4000000
namespace L2
open PySem PySem.Spec PyProof.Rows PyProof.V PySem.SeqAt
/-! ### == and != of lists and tuples: what the abstract heap holds, as data -/
mutual
inductive DV (K : PySem.W.Frag) (H : Hp) : V → PyData → Prop
  | non : DV K H .non .none
  | bl (b : Bool) : DV K H (.bl b) (.bool b)
  | int (i : Int) : DV K H (.int i) (.int i)
  | str (x : Str) : DV K H (.str x) (.str x)
  | lst {a : Addr} {xs : List V} {ds : List PyData} : SqL K H a xs → DVs K H xs ds → DV K H (.ref a) (.list ds)
  | tup {a : Addr} {xs : List V} {ds : List PyData} : SqT K H a xs → DVs K H xs ds → DV K H (.ref a) (.tuple ds)
inductive DVs (K : PySem.W.Frag) (H : Hp) : List V → List PyData → Prop
  | nil : DVs K H [] []
  | cons {x : V} {xs : List V} {d : PyData} {ds : List PyData} : DV K H x d → DVs K H xs ds → DVs K H (x :: xs) (d :: ds)
end
section
variable {X : Cx} {pins : List (Addr × Obj)} {σ : St} {H : Hp} {s : Shared}
mutual
theorem DV.reads (I : Inv X pins σ H s) : ∀ {v : V} {d : PyData} {u : Value}, DV X.K H v d → RelV v u → ∃ as, Reads s.heap u d as
  | _, _, _, .non, r => by cases r; exact ⟨_, .none⟩
  | _, _, _, .bl b, r => by cases r; exact ⟨_, .bool b⟩
  | _, _, _, .int i, r => by obtain ⟨t, rfl⟩ := r; exact ⟨_, .int i t⟩
  | _, _, _, .str x, r => by obtain ⟨t, rfl⟩ := r; exact ⟨_, .str x t⟩
  | _, _, _, .lst hq ds, r => by
    cases r
    obtain ⟨its, rv, p, _⟩ := I.list hq
    obtain ⟨as, ra⟩ := DVs.reads I ds rv
    obtain ⟨o, ho, hc, n, hd⟩ := p.isList
    exact ⟨_, Reads.list ho hc hd (by simpa using ra)⟩
  | _, _, _, .tup hq ds, r => by
    cases r
    obtain ⟨its, rv, p, _⟩ := I.tuple hq
    obtain ⟨as, ra⟩ := DVs.reads I ds rv
    obtain ⟨o, ho, hc, n, hd⟩ := p
    exact ⟨_, Reads.tuple ho hc hd (by simpa using ra)⟩
theorem DVs.reads (I : Inv X pins σ H s) : ∀ {vs : List V} {ds : List PyData} {us : List Value}, DVs X.K H vs ds → Vals vs us → ∃ as, ReadsAll s.heap us ds as
  | _, _, _, .nil, r => by cases r; exact ⟨_, .nil⟩
  | _, _, _, .cons d ds, r => by
    cases r with
    | cons r1 r2 =>
      obtain ⟨as, ra⟩ := DV.reads I d r1
      obtain ⟨bs, rb⟩ := DVs.reads I ds r2
      exact ⟨_, .cons ra rb⟩
end
end
def rDat (K : PySem.W.Frag) (neg : Bool) : R2 := fun x y H Q => ∃ d e, DV K H x d ∧ DV K H y e ∧ shaped d = true ∧ shaped e = true ∧ noMix d e = true ∧ Q (.bl (if neg then !same d e else same d e)) H
theorem op_eqD {X : Cx} (hu : X.A.units + 64 < cLine) : OpR X (compareOp .Eq) (rDat X.K false) := by
  intro pins s σ H x y v u Q I rx ry h
  obtain ⟨d, e, hd, he, sd, se, hm, q⟩ := h
  obtain ⟨as, ra⟩ := hd.reads I rx
  obtain ⟨bs, rb⟩ := he.reads I ry
  exact eq_dataH_same ra rb sd se hu hm ⟨.bl _, H, I, rfl, q⟩
theorem op_neD {X : Cx} (hu : X.A.units + 64 < cLine) : OpR X (compareOp .NotEq) (rDat X.K true) := by
  intro pins s σ H x y v u Q I rx ry h
  obtain ⟨d, e, hd, he, sd, se, hm, q⟩ := h
  obtain ⟨as, ra⟩ := hd.reads I rx
  obtain ⟨bs, rb⟩ := he.reads I ry
  exact ne_dataH_same ra rb sd se hu hm ⟨.bl _, H, I, rfl, q⟩
/-! data that is compared with its like -/
mutual
def plainD : PyData → Bool
  | .none | .bool _ | .int _ => true
  | .str x => PyData.strOk x
  | .list xs | .tuple xs => plainDs xs
  | .dict _ => false
def plainDs : List PyData → Bool
  | [] => true
  | x :: xs => plainD x && plainDs xs
end
mutual
theorem same_self : ∀ d : PyData, plainD d = true → same d d = true ∧ noMix d d = true ∧ d.canLay0 = true
  | .none, _ => by simp [same, noMix, PyData.canLay0]
  | .bool b, _ => by simp [same, noMix, PyData.canLay0]
  | .int b, _ => by simp [same, noMix, PyData.canLay0]
  | .str b, h => by simp only [plainD] at h; simp [same, noMix, PyData.canLay0, h]
  | .list xs, h => by
    simp only [plainD] at h
    obtain ⟨a, b, c⟩ := sames_self xs h
    simp [same, noMix, PyData.canLay0, a, b, c]
  | .tuple xs, h => by
    simp only [plainD] at h
    obtain ⟨a, b, c⟩ := sames_self xs h
    simp [same, noMix, PyData.canLay0, a, b, c]
  | .dict xs, h => by simp [plainD] at h
theorem sames_self : ∀ ds : List PyData, plainDs ds = true → sameAll ds ds = true ∧ noMixAll ds ds = true ∧ PyData.canLayAll0 ds = true
  | [], _ => by simp [sameAll, noMixAll, PyData.canLayAll0]
  | x :: xs, h => by
    simp only [plainDs, Bool.and_eq_true] at h
    obtain ⟨a, b, c⟩ := same_self x h.1
    obtain ⟨a', b', c'⟩ := sames_self xs h.2
    simp [sameAll, noMixAll, PyData.canLayAll0, a, b, c, a', b', c']
end
theorem shaped_of {d : PyData} (h : plainD d = true) (hd : d.depth ≤ 64) : shaped d = true := by
  show (d.canLay0 && decide (d.depth ≤ 64)) = true
  rw [(same_self d h).2.2, decide_eq_true hd]
  rfl

/-! ### xs.index(x), where it is there -/
def rIndex (K : PySem.W.Frag) : V → List V → Hp → VK → Prop := fun x vs H Q => ∃ l xs y j, x = .ref l ∧ vs = [y] ∧ SqL K H l xs ∧ flatV y = true ∧ xs.all flatV = true ∧ (∃ z, xs[j]? = some z ∧ eqV z y = true) ∧ (∀ m z, m < j → xs[m]? = some z → eqV z y = false) ∧ Q (.int (j : Nat)) H
theorem mt_index {X : Cx} : MtR X "list.index" (rIndex X.K) := by
  intro pins s σ H x vs v us Q I rx rv h
  obtain ⟨l, xs, y, j, rfl, rfl, hq, fy, fs, ⟨z, hz, ez⟩, hno, q⟩ := h
  cases rx
  obtain ⟨u, rfl, ru⟩ := vals1 rv
  obtain ⟨its, r, pl, hsz⟩ := I.list hq
  have hlen := r.length
  obtain ⟨o, n, e, c, hd, dt⟩ := id pl
  have hj : j < xs.length := (List.getElem?_eq_some_iff.mp hz).1
  have e' : s.heap.get? l = some { cls := .type "list", dict := o.dict, data := .seq its.toArray n, slots := o.slots } := by
    rw [e]
    obtain ⟨oc, od, oda, osl⟩ := o
    simp only at c dt
    subst c dt
    rfl
  have val : ∀ (m : Nat) (hm : m < its.toArray.size), ∃ w, xs[m]? = some w ∧ eqU y its.toArray[m] = eqV w y := fun m hm => by
    have hm' : m < xs.length := by rw [List.size_toArray] at hm; omega
    obtain ⟨w2, hw2, rw2⟩ := r.get (List.getElem?_eq_getElem hm')
    have hw3 : its.toArray[m] = w2 := by
      have := (List.getElem?_eq_some_iff.mp hw2).2
      simpa using this
    rw [hw3]
    exact ⟨_, List.getElem?_eq_getElem hm', eqU_of rw2 (List.all_eq_true.mp fs _ (List.getElem_mem hm'))⟩
  have hjs : j < its.toArray.size := by rw [List.size_toArray]; omega
  refine call_meets PySem.F.slot_list_index ⟨_, e, c⟩ PySem.F.entry_list_index (PySem.F.args_list_index_2 _ _) (PySem.SeqAt.list_indexAt l its.toArray n o.dict o.slots u (eqU y) j hjs ?_ ?_ ?_) ⟨e', fun w hw => mem_eqAt ru fy r fs w (by simpa using hw), ⟨.int j, H, I.tok _, ⟨_, rfl⟩, q⟩⟩
  · have := line63
    omega
  · obtain ⟨w, hw, ew⟩ := val j hjs
    rw [hz] at hw
    cases hw
    rw [ew]
    exact ez
  · intro m hm hmj
    obtain ⟨w, hw, ew⟩ := val m hm
    rw [ew]
    exact hno m w hmj hw
end L2

set_option Elab.async false
set_option linter.all false
set_option maxRecDepth 100000
set_option maxHeartbeats 4000000
namespace L2
open PySem PySem.Spec PyProof.Rows
/-! ### list(reversed(xs)) -/
def RevO (z : Nat) (it a : Addr) (n : Int) : HO := .ext fun h => h.IsRevIter it a n ∧ z ≤ it
theorem revO_ok {P : Program} {w : World} {H : Hp} {h : Heap} {z : Nat} {it a : Addr} {n : Int} (e : h.IsRevIter it a n) (hz : z ≤ it) : ObjOk P w H h it (RevO z it a n) := ⟨⟨e, hz⟩, let ⟨o, g, _⟩ := e; ⟨o, g⟩, fun h1 h2 ⟨a, b⟩ k => ⟨a.at k, b⟩⟩
/-- an object that was laid in this body is taken out of the abstract heap: it may turn -/
theorem Inv.fpOf {X : Cx} {pins : List (Addr × Obj)} {σ : St} {H : Hp} {s : Shared} {x : Addr} {φ : Heap → Prop} (I : Inv X pins σ H s) (hx : H x = some (.ext φ)) (hz : X.s₀.heap.objs.size ≤ x) : FpOk X pins (rem H x) x := by
  have no : ∀ {b}, H b = none → x ≠ b := fun {b} h e => by subst e; rw [hx] at h; cases h
  refine ⟨rem_same, no I.free, fun hb => ?_, .inr hz, fun y c e => Ne.symm (no (I.freeC y c e)), fun p hp => Ne.symm (no (I.pin p hp).2.1)⟩
  obtain ⟨_, o, ho, _⟩ := I.ok.funs.mem hb
  exact no (I.base.free x o ho (I.ok.frf x hb) fun z => I.ok.exfs x z hb) rfl
theorem rem_upd {H : Hp} {x : Addr} {o : HO} (h : H x = none) : rem (upd H x o) x = H := by
  funext b
  by_cases e : b = x
  · subst e
    rw [rem_same, h]
  · rw [rem_ne e, upd_ne e]
section
variable {prog : Program} {w : World} {A : Around} {E : Value → Shared → Prop} {s : Shared}
theorem lri_nolen : typeLookup (.type "list_reverseiterator") "__len__" = pure none := by rw [typeLookup_type, builtinLookup_eq_fast]; kernel_rfl
theorem lri_hint : typeLookup (.type "list_reverseiterator") "__length_hint__" = pure (some (.builtin "list_reverseiterator.__length_hint__")) := by rw [typeLookup_type, builtinLookup_eq_fast]; kernel_rfl
theorem list_of_rev {Q : Value → Shared → Prop} {it l : Addr} {items : Array Value} (hh : A.handled = none) (hit : s.heap.IsRevIter it l ((items.size : Int) - 1)) (hl : s.heap.IsList l items) (hne : l ≠ it) (hn : items.size ≤ sizeLine)
    (hQ : ∀ s' acc' c', Moved (s.heap.objs.size :: [it]) (fun a b => b = a) { s with heap := s.heap.push { cls := .type "list", data := .seq #[] } } s' →
      s'.heap.get? s.heap.objs.size = some { cls := .type "list", dict := none, data := .seq acc' c', slots := #[] } → ItemsOf (fun i v => items[items.size - 1 - i]? = some v) acc' items.size → Q (.ref s.heap.objs.size) s') :
    wpAny (model prog w) A (call (.type "list") [.ref it]) Q E s := by
  have hiL : it < s.heap.objs.size := let ⟨_, g, _⟩ := hit; Heap.lt_size g
  have hlL : l < s.heap.objs.size := let ⟨_, g, _⟩ := hl; Heap.lt_size g
  have hSf : s.heap.objs.size ∉ [it, l] := by
    simp only [List.mem_cons, List.not_mem_nil, or_false, not_or]
    exact ⟨Nat.ne_of_gt hiL, Nat.ne_of_gt hlL⟩
  have hSI : s.heap.objs.size ≠ it := Nat.ne_of_gt hiL
  refine callType_codes (Q₁ := fun obj s₁ => obj = .ref s.heap.objs.size ∧ s₁ = { s with heap := s.heap.push { cls := .type "list", data := .seq #[] } }) PySem.F.called_list (PySem.F.typeCall_list_1 _) PySem.F.entry_list_init (code_list_new _ ⟨rfl, rfl⟩) ?_
  rintro obj s₁ ⟨rfl, rfl⟩
  have hS : (s.heap.push { cls := .type "list", data := .seq #[] }).get? s.heap.objs.size = some { cls := .type "list", data := .seq #[] } := Heap.get?_push_size _ rfl
  refine ⟨⟨_, hS, rfl⟩, PySem.F.args_list_init_2 _ _, ?_⟩
  have hit1 := hit.at (h' := s.heap.push { cls := .type "list", data := .seq #[] }) fun o e => Heap.get?_push_of_some _ e
  have hl1 := hl.push { cls := .type "list", data := .seq #[] }
  generalize hnew : s.heap.push { cls := .type "list", data := .seq #[] } = hp0 at hS hit1 hl1 hQ ⊢
  show wpAny _ A.in1.in1 (Builtin.List.listItems (.ref s.heap.objs.size) >>= fun old => Builtin.List.listUpdate (.ref s.heap.objs.size) (fun _ => #[]) >>= fun _ => letGo old.toList.reverse >>= fun _ => Builtin.List.listExtendWith (.ref s.heap.objs.size) (.ref it) .none) _ _ _
  refine wpAny_bind (wpAny_bind (wpAny_seqItems hS rfl (wpAny_pure ?_)))
  refine wpAny_bind (m := Builtin.List.listUpdate (.ref s.heap.objs.size) (fun _ => #[])) (show wpAny _ _ (updateSeq s.heap.objs.size (fun _ => #[])) _ _ _ from wpAny_updateSeq hS rfl (wpAny_bind (wpAny_letGo ?_)))
  have hS2 := Heap.get?_update_self (Obj.mapSeq (fun _ => (#[] : Array Value))) hS rfl
  have oth : ∀ b o, b ≠ s.heap.objs.size → hp0.get? b = some o → (hp0.update s.heap.objs.size (Obj.mapSeq (fun _ => (#[] : Array Value)))).get? b = some o := fun b o hb e => (Heap.get?_update_other _ _ (Ne.symm hb)).trans e
  have hit2 := hit1.at (h' := hp0.update s.heap.objs.size (Obj.mapSeq (fun _ => (#[] : Array Value)))) fun o e => oth it o (Ne.symm hSI) e
  have hl2 := hl1.at (h' := hp0.update s.heap.objs.size (Obj.mapSeq (fun _ => (#[] : Array Value)))) fun o e => oth l o (Nat.ne_of_lt hlL) e
  generalize hup : hp0.update s.heap.objs.size (Obj.mapSeq (fun _ => (#[] : Array Value))) = hp1 at hS2 oth hit2 hl2 ⊢
  have hT : (⟨hp1, s.gens, s.drawn, s.toks, s.os⟩ : Shared).TypeIs (.ref it) "list_reverseiterator" := hit2.typeIs
  unfold Builtin.List.listExtendWith
  refine wpAny_bind (wpAny_typeOf hT ?_)
  have h1 : Builtin.List.listSameRef (.ref s.heap.objs.size) (.ref it) = false := by simp [Builtin.List.listSameRef, hSI]
  have h2 : (Value.type "list_reverseiterator" == Value.type "list") = false := by decide
  have h3 : (Value.type "list_reverseiterator" == Value.type "tuple") = false := by decide
  simp only [h1, h2, h3, Bool.or_false, Bool.false_eq_true, if_false]
  refine wpAny_bind (wpAny_pyIter_revIter hit2 (wpAny_bind (wpAny_holding ?_)))
  have q1 := lri_nolen
  have q2 := lri_hint
  have q3 : splitId "list_reverseiterator.__length_hint__" = some ("list_reverseiterator", "__length_hint__") := by decide +kernel
  have q4 : isSubtype (.type "list_reverseiterator") (.type "list_reverseiterator") = pure true := by rw [isSubtype_type]; kernel_rfl
  unfold Builtin.List.listLengthHint
  refine wpAny_bind (wpAny_specialOf hT lri_nolen ?_)
  show wpAny _ _ (specialOf (Value.ref it) (Str.ofString "__length_hint__") >>= _) _ _ _
  refine wpAny_bind (wpAny_specialOf hT lri_hint ?_)
  simp only [q3]
  refine wpAny_bind (wpAny_isInstance hT q4 ?_)
  simp only [Bool.not_true, Bool.false_eq_true, if_false]
  rw [if_pos (by decide +kernel), if_neg (by decide +kernel)]
  refine wpAny_pure ?_
  rw [if_neg (by decide +kernel)]
  have hW := (Walks.listRev (prog := prog) (w := w) (A := A.in1.in1) (by simpa using hh) it l hne items).toS
  refine wpAny_pure ⟨plainId_quiet PySem.F.plain_extend_loop _, codeAny_extend_loopS hW hn _ hSf .none items.size 0 _ _ _ rfl (Nat.zero_le _) ⟨Nat.zero_le _, by simpa using hit2, hl2⟩ hS2 (ItemsOf.nil _) fun s' acc' c' hm hS' hacc => ⟨rfl, ?_⟩⟩
  refine hQ s' acc' c' ?_ hS' hacc
  have m0 : Moved [s.heap.objs.size, it] (fun a b => b = a) (⟨hp0, s.gens, s.drawn, s.toks, s.os⟩ : Shared) ⟨hp1, s.gens, s.drawn, s.toks, s.os⟩ := ⟨fun b o hb e => oth b o (fun h => hb (by rw [h]; exact List.mem_cons_self)) e, rfl, rfl, rfl, Nat.le_refl _⟩
  exact Moved.trans hW.gtrans m0 hm
end
section
variable {X : Cx}
theorem boot_reversed : bootBuiltins "reversed" = some (.type "reversed") := by decide +kernel
theorem call_reversed : CallR X (.type "reversed") (fun xs H Q => ∃ a ys, xs = [.ref a] ∧ SqL X.K H a ys ∧ ∀ it, H it = none → Q (.ref it) (upd H it (RevO X.s₀.heap.objs.size it a ((ys.length : Int) - 1)))) := by
  intro pins s σ H xs us Q I r h
  obtain ⟨a, ys, rfl, hq, q⟩ := h
  obtain ⟨u, rfl, ru⟩ := vals1 r
  cases ru
  obtain ⟨its, rv, p, _⟩ := I.list hq
  refine call_reversed_list p.isList ?_
  have hlen := rv.length
  refine ⟨.ref s.heap.objs.size, _, I.laid (t' := s.toks) (o := RevO X.s₀.heap.objs.size s.heap.objs.size a ((ys.length : Int) - 1)) (fun b o e => Heap.get?_push_of_some _ e) (Nat.le_refl _) (revO_ok ⟨_, Heap.get?_push_size _ rfl, rfl, ?_⟩ I.sz), rfl, q _ (I.hok.fresh (Nat.le_refl _))⟩
  show Data.fields #[.ref a, rawInt _] = _
  rw [List.size_toArray, hlen]
theorem call_list_rev (hc : X.calm = true) : CallR X (.type "list") (fun xs H Q => ∃ it a ys, xs = [.ref it] ∧ H it = some (RevO X.s₀.heap.objs.size it a ((ys.length : Int) - 1)) ∧ SqL X.K H a ys ∧ ∀ l, H l = none → Q (.ref l) (upd (rem H it) l (.lst ys.reverse))) := by
  intro pins s σ H xs us Q I r h
  obtain ⟨it, a, ys, rfl, hi, hq, q⟩ := h
  obtain ⟨u, rfl, ru⟩ := vals1 r
  cases ru
  obtain ⟨its, rv, p, hz⟩ := I.list hq
  have hlen := rv.length
  obtain ⟨hit0, hzi⟩ := (I.hok it _ hi).1
  have hit : s.heap.IsRevIter it a ((its.toArray.size : Int) - 1) := by
    rw [List.size_toArray, ← hlen]
    exact hit0
  have hne : a ≠ it := fun e => by
    subst e
    obtain ⟨o, g, c, _⟩ := hit
    obtain ⟨o', g', c', _⟩ := p.isList
    rw [g] at g'
    cases g'
    rw [c] at c'
    exact absurd c' (by decide)
  refine list_of_rev (I.ok.hd hc) hit p.isList hne (by rw [List.size_toArray]; omega) fun s' acc' c' hm hS hacc => ?_
  obtain ⟨h', g', d', t', os'⟩ := s'
  obtain rfl : os' = s.os := hm.os
  obtain rfl : d' = s.drawn := hm.drawn
  obtain rfl : g' = s.gens := hm.gens
  have k : ∀ b u, b ∉ [it] → s.heap.get? b = some u → h'.get? b = some u := fun b u hb e => hm.heap b u (by
    simp only [List.mem_cons, List.not_mem_nil, or_false, not_or] at hb ⊢
    exact ⟨Nat.ne_of_lt (Heap.lt_size e), hb⟩) (Heap.get?_push_of_some _ e)
  have I0 := I.drop hi
  have f0 := I.fpOf hi hzi
  have J1 : Inv X pins σ (rem H it) { s with heap := h', toks := t' } := I0.turns (ch := [it]) k fun b hb => by
    rw [List.mem_singleton.mp hb]
    exact f0
  have fD : FpOk X pins H s.heap.objs.size := I.fpOk (Nat.le_refl _) (I.hok.fresh (Nat.le_refl _))
  have ea : acc'.toList = its.reverse := by
    obtain ⟨hs1, hs2⟩ := hacc
    rw [List.size_toArray] at hs1 hs2
    refine List.ext_getElem (by rw [List.length_reverse]; simpa using hs1) fun j h1 h2 => ?_
    rw [List.length_reverse] at h2
    have e1 := hs2 j acc'.toList[j] (by rw [← Array.getElem?_toList, List.getElem?_eq_getElem h1])
    rw [List.getElem_reverse]
    have e2 : its[its.length - 1 - j]? = some acc'.toList[j] := by simpa using e1
    exact (List.getElem?_eq_some_iff.mp e2).2.symm
  have rv' : Vals ys.reverse acc'.toList := by
    rw [ea]
    exact rv.reverse
  have J2 := J1.adopt (D := s.heap.objs.size) (o := .lst ys.reverse) (rem_none fD.1) fD.2.1 I.sz fD.2.2.2.2.1 fD.2.2.2.2.2 ⟨by rw [List.length_reverse]; exact hz, acc'.toList, c', rv', by simpa using hS⟩
  exact ⟨.ref s.heap.objs.size, _, J2, rfl, q _ fD.1⟩
end
/-! ### xs[::-1] -/
def tRevS (K : PySem.W.Frag) (te : TE) (ts : TO) : TE := fun σ H Q => te σ H fun x H1 => ts σ H1 fun k H2 => k = some (-1) ∧ ∃ a xs, x = .ref a ∧ SqL K H2 a xs ∧ ∀ p, H2 p = none → Q (.ref p) (upd H2 p (.lst xs.reverse))
theorem pe_revS {X : Cx} {e st : Expr} {te : TE} {ts : TO} {pos p2 : Pos} (he : PE X e te) (hs : PO X (some st) ts) : PE X (.Subscript e (.Slice none none (some st) p2) pos) (tRevS X.K te ts) := by
  intro pins s σ H Q I h
  refine Subscript_ (thn (he pins s σ H _ I h) fun v s1 ⟨x, H1, I1, r1, q1⟩ => ?_)
  refine wpAny_Slice ?_
  rw [evalPart_none]
  refine wpAny_pure (wpAny_pure ?_)
  refine thn (hs pins s1 σ H1 _ I1 q1) fun vs s3 ⟨k, H3, I3, pk, ek, a, xs, ex, hq, q⟩ => ?_
  subst ek ex
  cases r1
  have I4 : Inv X pins σ H3 { s3 with heap := s3.heap.push { cls := .type "slice", data := .fields #[.none, .none, vs] } } := I3.kept (t' := s3.toks) fun b ob q => Heap.get?_push_of_some _ q
  obtain ⟨its, r, ht, hz⟩ := I4.list hq
  have hlen := r.length
  show wpAny (model X.prog X.w) X.A (subscriptTail e (.Slice none none (some st) p2) (.ref a) (.ref s3.heap.objs.size)) (EP X pins σ Q) X.xe _
  refine tail_any (ops := [.ref a, .ref s3.heap.objs.size]) ht.isList.typeIs slot_list_getitem.lookup ?_ (by with_unfolding_all rfl)
  refine wpAny_getItem_list_slice ht.isList (Heap.IsSliceOf.new ..) .none .none pk (by decide) ?_ (by rw [List.size_toArray] <;> omega)
  rw [PySem.W.krv_pick]
  refine ⟨.ref (s3.heap.push { cls := .type "slice", data := .fields #[.none, .none, vs] }).objs.size, _, I4.laid (t' := s3.toks) (o := .lst xs.reverse) (fun b ob q => Heap.get?_push_of_some _ q) (Nat.le_refl _) ?_, rfl, q _ (I4.hok.fresh (Nat.le_refl _))⟩
  exact ⟨by rw [List.length_reverse]; exact hz, its.reverse, 0, r.reverse, Heap.get?_push_size _ rfl⟩
end L2

set_option Elab.async false
set_option linter.all false
set_option maxRecDepth 100000
set_option maxHeartbeats 4000000
namespace L2
open PySem PySem.Spec PyProof.Rows
/-! ### set(xs) of a list of texts that differ, len of it -/
def SetSO (P : Program) (w : World) (a : Addr) (n : Nat) : HO := .ext fun h => ∃ S, h.SetOf (PySem.strKind P w) a S n
theorem setOf_at {P : Program} {w : World} {h h' : Heap} {a : Addr} {S : Str → Bool} {n : Nat} (e : h.SetOf (PySem.strKind P w) a S n) (k : ∀ o, h.get? a = some o → h'.get? a = some o) : h'.SetOf (PySem.strKind P w) a S n := by
  obtain ⟨o, es, ep, t, g, r⟩ := e
  exact ⟨o, es, ep, t, k o g, r⟩
section
variable {prog : Program} {w : World} {A : Around} {R : Result → Shared → Prop} {I : Addr} {fp wr : List Addr} {G : Array GenState → Array GenState → Prop} {n : Nat} {P : Nat → Value → Prop} {St : Nat → Shared → Prop}
/-- the texts are put in, one by one -/
theorem set_fill (W : WalksS prog w A.in1 I fp wr G n P St) (S : Addr) (hS : S ∉ fp) (val : Nat → Str) (hval : ∀ i v, P i v → ∃ t, v = .str (val i) t) (hinj : ∀ i j, i < n → j < n → val i = val j → i = j) (hb : n + 1 < scanBound) :
    ∀ (k i : Nat) (s : Shared), n - i = k → i ≤ n → St i s → (∃ f : Str → Bool, s.heap.SetOf (PySem.strKind prog w) S f i ∧ ∀ x, f x = true → ∃ j, j < i ∧ x = val j) →
      (∀ s', Moved (S :: wr) G s s' → (∃ f : Str → Bool, s'.heap.SetOf (PySem.strKind prog w) S f n) → R (.ok (.ret .none)) s') →
      codeAny (model prog w) A (.builtin "set.update.loop" ⟨[.ref S, .ref I], []⟩) R s := by
  have hw : S ∉ wr := fun h => hS (W.sub _ h)
  have up : ∀ b ∈ wr, b ∈ S :: wr := fun b hb => List.mem_cons_of_mem _ hb
  intro k
  induction k with
  | zero =>
    intro i s hk hi st ⟨f, hf, _⟩ hR
    obtain rfl : i = n := by omega
    refine codeAny_builtin PyProof.Rows.F.entry_set_update_loop ?_
    rw [Around.under_plainId PyProof.Rows.F.plain_set_update_loop _]
    refine wpAny_bind (m := pyNext (.ref I)) (W.done s _ _ st fun s' hm => wpAny_pure (hR s' (hm.mono up) ⟨f, setOf_at hf fun o e => hm.heap S o hw e⟩))
  | succ k ih =>
    intro i s hk hi st ⟨f, hf, hfv⟩ hR
    have hlt : i < n := by omega
    refine codeAny_builtin PyProof.Rows.F.entry_set_update_loop ?_
    rw [Around.under_plainId PyProof.Rows.F.plain_set_update_loop _]
    refine wpAny_bind (m := pyNext (.ref I)) (W.item i s _ _ hlt st fun v s' hP st' hm => ?_)
    obtain ⟨t, rfl⟩ := hval i v hP
    have hf' := setOf_at (h' := s'.heap) hf fun o e => hm.heap S o hw e
    refine wpAny_bind (m := holding [Value.str (val i) t] (setAdd S (.str (val i) t))) (wpAny_holding ?_)
    unfold setAdd
    refine wpAny_holding (wpAny_bind ((PySem.strKind prog w).pyHash (k := val i) (PySem.strKind_is _ _ _ _) ?_))
    have hno : f (val i) = false := by
      cases e : f (val i) with
      | false => rfl
      | true =>
        obtain ⟨j, hj, ej⟩ := hfv _ e
        have := hinj i j hlt (by omega) ej
        omega
    refine wpAny_setAddHashed_of (knd := PySem.strKind prog w) (s := { s' with toks := s'.toks + 1 }) (PySem.strKind_is _ _ _ _) rfl hf' (by omega) fun h' sb h2 => ?_
    rw [hno, if_neg Bool.false_ne_true] at h2
    refine wpAny_pure ⟨plainId_quiet PyProof.Rows.F.plain_set_update_loop _, ih (i + 1) _ (by omega) hlt (W.frame _ s' _ _ st' (Nat.le_succ _) fun b hb o e => (sb.2 b (fun h => hS (h ▸ hb))).trans e) ⟨_, h2, fun x hx => ?_⟩ fun s2 m2 f2 => hR s2 ?_ f2⟩
    · rw [Bool.or_eq_true] at hx
      rcases hx with z | z
      · obtain ⟨j, hj, e⟩ := hfv x z
        exact ⟨j, by omega, e⟩
      · exact ⟨i, by omega, of_decide_eq_true z⟩
    · exact Moved.trans W.gtrans ((hm.mono up).then_heap (Nat.le_succ _) fun b o hb e => (sb.2 b (fun h => hb (by rw [h]; exact List.mem_cons_self))).trans e) m2
end
section
variable {prog : Program} {w : World} {A : Around} {E : Value → Shared → Prop} {s : Shared}
abbrev setEmpty (led : Bool) : Obj := { cls := .type "set", dict := none, data := .set #[] 0 (.fresh 0 0 led) }
theorem set_of_texts {l : Addr} {items : Array Value} {xs : List Str} {Q : Value → Shared → Prop} (hh : A.handled = none) (hl : s.heap.IsList l items) (hi : ∀ (i : Nat) (v : Value), items[i]? = some v → ∃ (x : Str) (t : Tok), xs[i]? = some x ∧ v = Value.str x t) (hlen : items.size = xs.length) (hnd : xs.Nodup) (hb : xs.length + 1 < scanBound)
    (h : ∀ h' tk, (∃ f : Str → Bool, h'.SetOf (PySem.strKind prog w) s.heap.objs.size f xs.length) → (∀ b o, s.heap.get? b = some o → h'.get? b = some o) → Q (.ref s.heap.objs.size) { s with heap := h', toks := tk }) :
    wpAny (model prog w) A (call (.type "set") [.ref l]) Q E s := by
  have hlS : l < s.heap.objs.size := let ⟨_, g, _⟩ := hl; Heap.lt_size g
  obtain ⟨c, tl, hmro⟩ := PySem.F.called_set.mro
  have hmade := PySem.F.called_set.made
  have hsub := PySem.F.called_set.sub
  refine wpAny_call (codeAny_of_tree (show wpAny _ _ (callAny (.type "set") _) _ _ _ from wpAny_pure ⟨Code.quiet_builtin _ (by decide +kernel), codeAny_builtin PySem.F.entry_type_call ?_⟩))
  rw [Around.under_plain (weight_type_call_type "set" [.ref l] []) rfl]
  have h1 := PySem.F.called_set.notType
  have h2 := PySem.F.called_set.canCreate
  have hct := PySem.F.typeCall_set_1 (.ref l)
  repeat (any_goals (first | assumption | wp_step))
  refine codeAny_mono (code_set_new_1 (.ref l) (E := E) (Q₁ := fun obj s₁ => ∃ led : Bool, obj = .ref s.heap.objs.size ∧ s₁ = { s with heap := s.heap.push (setEmpty led) }) fun led => ⟨led, rfl, rfl⟩) fun r s₁ hr => ?_
  rcases r with e | (obj | _ | _ | _) <;> first | exact hr | exact hr.elim | skip
  obtain ⟨led, rfl, rfl⟩ := hr
  have hS : (s.heap.push (setEmpty led)).get? s.heap.objs.size = some (setEmpty led) := Heap.get?_push_size _ rfl
  have hT : Shared.TypeIs { s with heap := s.heap.push (setEmpty led) } (.ref s.heap.objs.size) "set" := ⟨_, hS, rfl⟩
  have hli := PySem.F.called_set.init.lookup
  have hbi := PySem.F.called_set.init.bind (.ref s.heap.objs.size)
  repeat (any_goals (first | assumption | wp_step))
  refine codeAny_mono (codeAny_call_builtin (R := wants (fun r s₂ => r = .none ∧ ∃ h' tk, s₂ = { s with heap := h', toks := tk } ∧ (∃ f : Str → Bool, h'.SetOf (PySem.strKind prog w) s.heap.objs.size f xs.length) ∧ (∀ b o, s.heap.get? b = some o → h'.get? b = some o)) E) PySem.F.called_set.init.plain PySem.F.entry_set_init (check_set_init_1 hT ?_)) fun r₂ s₂ hr₂ => ?_
  · have hl1 : (s.heap.push (setEmpty led)).IsList l items := hl.push _
    obtain ⟨⟨ocls, odict, odata, oslots⟩, hol, hcl, nl, hdl⟩ := id hl1
    simp only at hcl hdl
    subst hcl hdl
    have hsls := PySem.F.sub_list_set
    have hslf := PySem.F.sub_list_frozenset
    have hne : (Value.type "list" == Value.type "dict") = false := by decide
    unfold Builtin.«set.__init__» noKeywords Builtin.Frozenset.updateFrom
    generalize hPI : pyIter = PI
    wp_walk
    subst hPI
    refine wpAny_pyIter_list hl1 (wpAny_bind (wpAny_runValue ?_))
    have sz : (s.heap.push (setEmpty led)).objs.size = s.heap.objs.size + 1 := Heap.size_push _ _
    have hneI : l ≠ (s.heap.push (setEmpty led)).objs.size := by rw [sz]; exact Nat.ne_of_lt (Nat.lt_succ_of_lt hlS)
    refine set_fill ((Walks.list (A := A.in1.in1.in1) (by simpa using hh) _ l hneI items).toS) s.heap.objs.size ?_ (fun i => xs.getD i (Str.ofString "")) ?_ ?_ (by omega) (items.size - 0) 0 _ (by omega) (Nat.zero_le _) ⟨⟨_, Heap.get?_push_size _ rfl, rfl, rfl⟩, hl1.push _⟩ ⟨fun _ => false, ?_, fun x hx => absurd hx Bool.false_ne_true⟩ ?_
    · simp only [List.mem_cons, List.not_mem_nil, or_false, not_or, sz]
      exact ⟨Nat.ne_of_lt (Nat.lt_succ_self _), Nat.ne_of_gt hlS⟩
    · intro i v hv
      obtain ⟨x, t, hx, e⟩ := hi i v hv
      exact ⟨t, by rw [e, List.getD_eq_getElem?_getD, hx]; rfl⟩
    · intro i j hi' hj' e
      rw [hlen] at hi' hj'
      rw [List.getD_eq_getElem?_getD, List.getD_eq_getElem?_getD, List.getElem?_eq_getElem hi', List.getElem?_eq_getElem hj'] at e
      exact (List.getElem_inj hnd).mp e
    · exact (setObjOf_fresh (knd := PySem.strKind prog w) led).setOf (Heap.get?_push_of_some _ hS) (by unfold scanBound; omega)
    · rintro ⟨h', g', d', tk', os'⟩ hm ⟨f, hf⟩
      obtain rfl : g' = s.gens := hm.gens
      obtain rfl : d' = s.drawn := hm.drawn
      obtain rfl : os' = s.os := hm.os
      refine wpAny_pure (wpAny_pure ⟨rfl, h', tk', rfl, ⟨f, hlen ▸ hf⟩, fun b o e => hm.heap b o ?_ (Heap.get?_push_of_some _ (Heap.get?_push_of_some _ e))⟩)
      simp only [List.mem_cons, List.not_mem_nil, or_false, not_or, sz]
      exact ⟨Nat.ne_of_lt (Heap.lt_size e), Nat.ne_of_lt (Nat.lt_succ_of_lt (Heap.lt_size e))⟩
  · rcases r₂ with e | (obj | _ | _ | _) <;> first | exact hr₂ | exact hr₂.elim | skip
    obtain ⟨rfl, h', tk, rfl, hf, hk⟩ := hr₂
    repeat (any_goals (first | assumption | wp_step))
    exact h _ _ hf hk
end
section
variable {X : Cx}
theorem boot_set' : bootBuiltins "set" = some (.type "set") := by decide +kernel
theorem call_set_texts (hc : X.calm = true) : CallR X (.type "set") (fun ys H Q => ∃ (a : Addr) (xs : List Str), ys = [.ref a] ∧ SqL X.K H a (xs.map V.str) ∧ xs.Nodup ∧ xs.length + 1 < scanBound ∧ ∀ p, H p = none → Q (.ref p) (upd H p (SetSO X.prog X.w p xs.length))) := by
  intro pins s σ H ys us Q I r h
  obtain ⟨a, xs, rfl, hq, hnd, hb, q⟩ := h
  obtain ⟨u, rfl, ru⟩ := vals1 r
  cases ru
  obtain ⟨its, rv, p, hz⟩ := I.list hq
  have hlen := rv.length
  rw [List.length_map] at hlen
  refine set_of_texts (xs := xs) (I.ok.hd hc) p.isList (fun i v hv => ?_) (by rw [List.size_toArray]; exact hlen.symm) hnd hb fun h' tk ⟨f, hf⟩ k => ?_
  · have hv' : its[i]? = some v := by simpa using hv
    have hil : i < xs.length := by rw [hlen]; exact (List.getElem?_eq_some_iff.mp hv').1
    obtain ⟨v2, e2, r2⟩ := rv.get (i := i) (x := .str xs[i]) (by rw [List.getElem?_map, List.getElem?_eq_getElem hil] <;> rfl)
    rw [hv'] at e2
    cases e2
    obtain ⟨t, e⟩ := r2
    exact ⟨xs[i], t, List.getElem?_eq_getElem hil, e⟩
  · obtain ⟨o, es, ep, t, g, rr⟩ := id hf
    exact ⟨.ref s.heap.objs.size, _, I.laid (t' := tk) (o := SetSO X.prog X.w s.heap.objs.size xs.length) k (Nat.le_refl _) ⟨⟨f, hf⟩, ⟨o, g⟩, fun h1 h2 ⟨f1, e1⟩ k1 => ⟨f1, setOf_at e1 k1⟩⟩, rfl, q _ (I.hok.fresh (Nat.le_refl _))⟩
theorem call_len_setS : CallR X (.builtin "len") (fun ys H Q => ∃ a n, ys = [.ref a] ∧ H a = some (SetSO X.prog X.w a n) ∧ Q (.int (n : Nat)) H) := by
  intro pins s σ H ys us Q I r h
  obtain ⟨a, n, rfl, ha, q⟩ := h
  obtain ⟨u, rfl, ru⟩ := vals1 r
  cases ru
  obtain ⟨f, o, es, ep, t, g, hex, hd, _, _, hb, hf, hn⟩ := (I.hok a _ ha).1
  subst hn
  exact call_len_set g hex hd hf (by unfold scanBound at hb; omega) ⟨.int (es.size : Nat), H, I.tok _, ⟨_, rfl⟩, q⟩
end
end L2

set_option Elab.async false
set_option linter.all false
set_option maxRecDepth 100000
set_option maxHeartbeats 4000000
namespace L2
open PySem PySem.Spec PyProof.Rows
/-! ### the rules once more, with the text's part by name: for the blocks of comprehensions, whose contexts are bound -/
section
variable {X : Cx} {K : PySem.W.Frag} {a e : Expr} {ta te : TE}
def tTru (K : PySem.W.Frag) (ta : TE) : TT := fun σ H Q => ta σ H fun x H' => ∃ k, TruV K x H' k ∧ Q k H'
theorem pt_tru (ha : PE X a ta) (hK : X.K = K := by rfl) (he : ∀ whole, isTrue a X.env whole = (do let v ← whole; standAt a.pos; holding [v] (truthy v)) := by intro _; rfl) : PT X a (tTru K ta) := by
  subst hK
  exact pt_truth ha he
def rListOf (K : PySem.W.Frag) : List V → Hp → VK → Prop := fun xs H Q => ∃ p ys, xs = [.ref p] ∧ (SqL K H p ys ∨ SqT K H p ys) ∧ ∀ l, H l = none → Q (.ref l) (upd H l (.lst ys))
theorem call_listK (hK : X.K = K := by rfl) : CallR X (.type "list") (rListOf K) := by
  subst hK
  exact call_list_of
def rLen (K : PySem.W.Frag) : List V → Hp → VK → Prop := fun xs H Q => ∃ p ys, xs = [.ref p] ∧ (SqL K H p ys ∨ SqT K H p ys) ∧ Q (.int ys.length) H
theorem call_lenK (hK : X.K = K := by rfl) : CallR X (.builtin "len") (rLen K) := by
  subst hK
  exact call_len_seq
def rIsi (K : PySem.W.Frag) : List V → Hp → VK → Prop := fun xs H Q => ∃ x T t b, xs = [x, .ty T] ∧ TyOf K H x t ∧ PySem.W.kitOne K t (.type T) = some b ∧ Q (.bl b) H
theorem call_isiK (hK : X.K = K := by rfl) : CallR X (.builtin "isinstance") (rIsi K) := by
  subst hK
  exact call_isinst
theorem pi_listK {tg l : Expr} {tl : TE} (hl : PE X l tl) (hK : X.K = K := by rfl) : PI X tg l (iList K tl) := by
  subst hK
  exact pi_list hl
theorem op_inK (hK : X.K = K := by rfl) : OpR X (compareOp .In) (rIn K false) := by
  subst hK
  exact op_in_seq
theorem ix_listK (hK : X.K = K := by rfl) : IxR X (rIxL K) := by
  subst hK
  exact ix_list
theorem ix_tupK (hK : X.K = K := by rfl) : IxR X (rIxT K) := by
  subst hK
  exact ix_tup
theorem sl_listK (hK : X.K = K := by rfl) : SlR X (rSlL K) := by
  subst hK
  exact sl_list
def rIsiX (K : PySem.W.Frag) : List V → Hp → VK → Prop := fun xs H Q => ∃ x C dx c cv, xs = [.ref x, cv] ∧ clsV c = some cv ∧ H x = some (ExO x C dx) ∧ PySem.W.kitOne K (.ref C) c = some true ∧ Q (.bl true) H
theorem call_isiXK (hK : X.K = K := by rfl) : CallR X (.builtin "isinstance") (rIsiX K) := by
  subst hK
  exact call_isinstX
theorem pe_xfldK {f : Str} {pos : Pos} (he : PE X e ta) (hK : X.K = K := by rfl) (hb : attributeBase e f X.env (eval e X.env) = eval e X.env := by rfl) : PE X (.Attribute e f pos) (tXFld K ta f) := by
  subst hK
  exact pe_xfld he hb
def noXS : XS := fun _ _ _ _ => False
theorem noWx {X : Cx} {e : Value} {s : Shared} (h : Wx X noXS e s) : False := by
  obtain ⟨_, _, _, _, _, _, _, _, _, z⟩ := h
  exact z
def thAs (K : PySem.W.Frag) (C : Addr) (i : Nat) (tsu : TS) (th : Ends → XS) : Ends → XS := fun D σ cls dx H => ∃ b, PySem.W.exmOne K cls (.ref C) = some b ∧ if b = true then ∃ C', cls = .ref C' ∧ ∀ x, H x = none → tsu (unb i D) (σ.set i (some (.ref x))) (upd H x (ExO x C' dx)) else th D σ cls dx H
theorem ph_asK {EX : XS} {th : Ends → XS} {hs : List ExceptHandler} {C : Addr} {c n : Str} {i : Nat} {np pos : Pos} {b₀ : Stmt} {suite : List Stmt} {tsu : TS} (ow : Own X) (hN : X.N.Nodup) (hi : X.N[i]? = some n) (hl : X.env.scope.names.lookup n = some .local) (hcls : Gl X c) (hm : X.mg c = some (.ref C)) (hsu : ∀ x, PSs (cxCaught X x) (b₀ :: suite) tsu) (hr : PH X hs EX th)
    (hK : X.K = K := by rfl) (hdb : (c == ("__debug__" : Str)) = false := by decide) : PH X (.ExceptHandler (some (.Name c np)) (some n) (b₀ :: suite) pos :: hs) EX (thAs K C i tsu th) := by
  subst hK
  exact ph_as ow hN hi hl hcls hm hsu hr hdb
end
end L2

set_option Elab.async false
set_option linter.all false
set_option maxRecDepth 100000
set_option maxHeartbeats 4000000
namespace K3
open PySem L2 Mg
def top (i : Nat) : Stmt := PySem.Challenge.pw_elderline_k03_whole_row_or_ring.main.body.getD i (.Pass ⟨0, 0, 0, 0⟩)
abbrev sMerged : Stmt := top 4
abbrev sCounts : Stmt := top 5
abbrev sFree : Stmt := top 6
abbrev sTake : Stmt := top 7
abbrev sCell : Stmt := top 12
abbrev sName : Stmt := top 13
abbrev sRing : Stmt := top 8
abbrev sFirst : Stmt := top 9
abbrev sLean : Stmt := top 10
abbrev sRowBy : Stmt := top 14
abbrev sTexts : Stmt := top 15
abbrev sBehind : Stmt := top 16
abbrev sRowR : Stmt := top 17
abbrev sRingR : Stmt := top 18
abbrev sAsked : Stmt := top 19
abbrev sLaw : Stmt := top 20
/-- names of Python's own that the text leaves as they are -/
structure Txt (mg : Str → Option Value) : Prop where
  len : mg "len" = none
  zip : mg "zip" = none
  enum : mg "enumerate" = none
  any : mg "any" = none
  range : mg "range" = none
  isi : mg "isinstance" = none
  list : mg "list" = none
  str : mg "str" = none
  all : mg "all" = none
  rev : mg "reversed" = none
  set : mg "set" = none
  tup : mg "tuple" = none
  vErr : mg "ValueError" = none

/-! ### rows of texts in the heap -/
def sVs (r : List Str) : List V := r.map V.str
theorem sVs_len (r : List Str) : (sVs r).length = r.length := List.length_map _
theorem sVs_get {r : List Str} {i : Nat} {v : V} (h : (sVs r)[i]? = some v) : ∃ x, r[i]? = some x ∧ v = .str x := by
  unfold sVs at h
  rw [List.getElem?_map] at h
  cases e : r[i]? with
  | none => rw [e] at h; cases h
  | some x => rw [e] at h; exact ⟨x, rfl, (Option.some.inj h).symm⟩
theorem sVs_at {r : List Str} {i : Nat} {x : Str} (h : r[i]? = some x) : (sVs r)[i]? = some (.str x) := by
  unfold sVs
  rw [List.getElem?_map, h] <;> rfl
structure RowsAt (H : Hp) (ra : Addr) (as : List Addr) (rows : List (List Str)) : Prop where
  lst : H ra = some (.lst (as.map V.ref))
  len : as.length = rows.length
  row : ∀ (i : Nat) (a : Addr) (r : List Str), as[i]? = some a → rows[i]? = some r → H a = some (.lst (sVs r))
theorem RowsAt.same {H H' : Hp} {ra : Addr} {as : List Addr} {rows : List (List Str)} (R : RowsAt H ra as rows) (h : Same H H') : RowsAt H' ra as rows := ⟨h _ _ R.lst, R.len, fun i a r h1 h2 => h _ _ (R.row i a r h1 h2)⟩
theorem refs_get {as : List Addr} {i : Nat} {v : V} (h : (as.map V.ref)[i]? = some v) : ∃ a, as[i]? = some a ∧ v = .ref a := by
  rw [List.getElem?_map] at h
  cases e : as[i]? with
  | none => rw [e] at h; cases h
  | some x => rw [e] at h; exact ⟨x, rfl, (Option.some.inj h).symm⟩
theorem RowsAt.get {H : Hp} {ra : Addr} {as : List Addr} {rows : List (List Str)} (R : RowsAt H ra as rows) {i : Nat} {a : Addr} (h : as[i]? = some a) : ∃ r, rows[i]? = some r ∧ H a = some (.lst (sVs r)) := by
  have hi : i < rows.length := by rw [← R.len]; exact (List.getElem?_eq_some_iff.mp h).1
  exact ⟨rows[i], List.getElem?_eq_getElem hi, R.row i a _ h (List.getElem?_eq_getElem hi)⟩
def iVs (st : List Nat) : List V := st.map fun n : Nat => V.int (n : Int)
theorem iVs_len (st : List Nat) : (iVs st).length = st.length := List.length_map _
theorem iVs_get {st : List Nat} {i : Nat} {v : V} (h : (iVs st)[i]? = some v) : ∃ n : Nat, st[i]? = some n ∧ v = .int n := by
  unfold iVs at h
  rw [List.getElem?_map] at h
  cases e : st[i]? with
  | none => rw [e] at h; cases h
  | some x => rw [e] at h; exact ⟨x, rfl, (Option.some.inj h).symm⟩
theorem iVs_at {st : List Nat} {i n : Nat} (h : st[i]? = some n) : (iVs st)[i]? = some (.int n) := by
  unfold iVs
  rw [List.getElem?_map, h] <;> rfl
/-- the dict counts f -/
def Beh (kvs : List (Key × V)) (f : Str → Nat) : Prop := ∀ x : Str, (valV kvs (Sum.inr x : Key)).getD (V.int 0) = V.int (f x)
theorem Beh.put {kvs : List (Key × V)} {f g : Str → Nat} {x : Str} {n : Int} (h : Beh kvs f) (hx : n = (g x : Int)) (hg : ∀ y, ¬ y = x → g y = f y) : Beh (putK kvs (Sum.inr x : Key) (.int n)) g := fun y => by
  rw [valV_put]
  by_cases e : y = x
  · subst e
    rw [if_pos rfl, hx]
    all_goals rfl
  · rw [if_neg (fun z : (Sum.inr y : Key) = Sum.inr x => e (Sum.inr.inj z)), h y, hg y e]
theorem Beh.pos {kvs : List (Key × V)} {f : Str → Nat} {x : Str} (h : Beh kvs f) (hx : 0 < f x) : valV kvs (Sum.inr x : Key) = some (.int (f x)) := by
  have q := h x
  cases e : valV kvs (Sum.inr x : Key) with
  | none =>
    rw [e] at q
    have q' : (0 : Int) = (f x : Int) := V.int.inj q
    omega
  | some v =>
    rw [e] at q
    exact congrArg some q
theorem len_put {kvs : List (Key × V)} {k : Key} {u v : V} (h : valV kvs k = some u) : (putK kvs k v).length = kvs.length := by
  unfold putK
  rw [valV_any, h, if_pos (show (some u).isSome = true from rfl), List.length_map]
theorem same_new {H : Hp} {p : Addr} (h : H p = none) (o : HO) : Same H (upd H p o) := fun b u q => by rw [upd_ne (ne_of_none q h)]; exact q
theorem cut1 (xs : List V) : cutV xs (some 1) none = xs.tail := by
  unfold cutV
  rw [HT.sIx_none]
  have e : HT.sIx xs.length 0 (some 1) = min 1 xs.length := HT.sIx_nat xs.length 0 1
  rw [e]
  cases xs with
  | nil => rfl
  | cons x r =>
    have e2 : min 1 (x :: r).length = 1 := by rw [List.length_cons]; omega
    rw [e2]
    simp
theorem cutFrom (xs : List V) (n : Nat) (h : n ≤ xs.length) : cutV xs (some (n : Int)) none = xs.drop n := by
  unfold cutV
  rw [HT.sIx_none, HT.sIx_nat, Nat.min_eq_left h]
  rw [List.take_of_length_le (by rw [List.length_drop]; omega)]

/-! ### what the defs promise -/
/-- counts_behind: a new dict with the counts -/
def spCounts : Sp := fun vs H Q _ => ∃ (ra : Addr) (as : List Addr) (rows : List (List Str)), vs = [.ref ra] ∧ RowsAt H ra as rows ∧ tot rows ≤ 1000000 ∧
  ∀ (d : Addr) (kvs : List (Key × V)) (H' : Hp), H d = none → Same H H' → H' d = some (.dK kvs) → Beh kvs (cnt rows) → kvs.length ≤ tot rows → Q (.ref d) H'
structure StAt (H : Hp) (rows : List (List Str)) (sa ba : Addr) (st : List Nat) (kvs : List (Key × V)) : Prop where
  lst : H sa = some (.lst (iVs st))
  len : st.length = rows.length
  dic : H ba = some (.dK kvs)
/-- free_name: the first one of the first row whose first one stands behind in none -/
def nameV : Option Str → V
  | some x => .str x
  | none => .non
def spFree : Sp := fun vs H Q _ => ∃ (ra sa ba : Addr) (as : List Addr) (rows : List (List Str)) (st : List Nat) (kvs : List (Key × V)) (g : Str → Nat), vs = [.ref ra, .ref sa, .ref ba] ∧ RowsAt H ra as rows ∧ StAt H rows sa ba st kvs ∧ Beh kvs g ∧
  ∀ H', Same H H' → Q (nameV (pick g (rests rows st))) H'
/-- take_out: the starts move on where the name stands first, the counts follow -/
def spTake : Sp := fun vs H Q _ => ∃ (x : Str) (ra sa ba : Addr) (as : List Addr) (rows : List (List Str)) (st : List Nat) (kvs : List (Key × V)), vs = [.str x, .ref ra, .ref sa, .ref ba] ∧ RowsAt H ra as rows ∧ StAt H rows sa ba st kvs ∧
  (∀ (i : Nat) (r : List Str) (n : Nat), rows[i]? = some r → st[i]? = some n → n ≤ r.length) ∧ Beh kvs (cnt (rests rows st)) ∧ kvs.length ≤ 1000000 ∧ sa ≠ ra ∧ (∀ a ∈ as, a ≠ sa) ∧
  ∀ (st' : List Nat) (kvs' : List (Key × V)) (H' : Hp), StAt H' rows sa ba st' kvs' → rests rows st' = (rests rows st).map (drop1 x) → (∀ (i : Nat) (r : List Str) (n : Nat), rows[i]? = some r → st'[i]? = some n → n ≤ r.length) →
    Beh kvs' (cnt (rests rows st')) → kvs'.length = kvs.length → (∀ b o, H b = some o → b ≠ sa → b ≠ ba → H' b = some o) → Q .non H'

section
variable {P : Program} {w : World} {K : PySem.W.Frag} {mg : Str → Option Value} {base : Heap} {f : Addr} {fd : FuncData}
theorem scCounts : FnScope ["rows", "behind", "row", "name"] ["rows"] (defScope sCounts) := ⟨rfl, rfl, rfl, by decide +kernel, rfl, by decide +kernel, by decide +kernel⟩
theorem ok_counts (F : Fun K "counts_behind" "counts_behind" sCounts f fd) (T : Txt mg) : FnOk P w K mg base CX0 1 f fd ["rows"] spCounts := by
  refine F.ok scCounts (fun vs H Q E h => ?_) (fun cdv A outer s H vs Q E hr h => ?_)
  · obtain ⟨ra, as, rows, rfl, _⟩ := h
    rfl
  obtain ⟨ra, as, rows, rfl, R, ht, q⟩ := h
  have hu := hu_of hr
  refine ⟨_, pss_cons (ps_set (i := 1) scCounts.nd rfl (Or.inl rfl) pe_dnewK)
    (pss_cons (ps_for PassesOwn.never rfl (pi_list (pv 0)) (pg_name (i := 2) scCounts.nd rfl (Or.inl rfl))
      (pss_one (ps_for PassesOwn.never rfl (pi_list (pe_slice sl_list (pv 2) (po_some pe_int) po_none)) (pg_name (i := 3) scCounts.nd rfl (Or.inl rfl))
        (pss_one (ps_dput hu (pv 1) (pv 3) (pe_op op_add (pe_dget2 hu (pv 1) (pv 3) pe_int ⟨rfl, rfl, rfl, rfl⟩) pe_int) rfl)))))
    (pss_one (ps_ret (pv 1)))), ?_⟩
  intro d hd
  have s0 : Same H (upd H d (.dK [])) := same_new hd _
  refine ⟨_, rfl, ra, rfl, ⟨_, SqL.of (s0 _ _ R.lst)⟩, for_list (K := K) (a := ra) (xs := as.map V.ref) (fun i σ H2 => ∃ (kvs : List (Key × V)) (v3 v4 : Option V), σ = [some (.ref ra), some (.ref d), v3, v4] ∧ Same H H2 ∧ H2 d = some (.dK kvs) ∧ Beh kvs (cnt (rows.take i)) ∧ kvs.length ≤ tot (rows.take i))
    ⟨[], none, none, rfl, s0, upd_same, fun x => rfl, Nat.zero_le _⟩ (fun i σ H2 _ ⟨_, _, _, _, s2, _⟩ => SqL.of (s2 _ _ R.lst)) ?_ ?_⟩
  · rintro i y σ H2 hi ⟨kvs, v3, v4, rfl, s2, hd2, B, hl⟩
    obtain ⟨a, ha, rfl⟩ := refs_get hi
    obtain ⟨r, hr', er⟩ := R.get ha
    refine ⟨_, rfl, _, rfl, a, _, rfl, SqL.of (s2 _ _ er), fun p hp => ?_⟩
    rw [cut1]
    have npd : p ≠ d := fun e => by rw [e] at hp; rw [hd2] at hp; cases hp
    refine ⟨p, rfl, ⟨_, SqL.of upd_same⟩, for_list (K := K) (a := p) (xs := (sVs r).tail) (fun j σ H3 => ∃ (kvs : List (Key × V)) (v4 : Option V), σ = [some (.ref ra), some (.ref d), some (.ref a), v4] ∧ Same H H3 ∧ H3 p = some (.lst (sVs r).tail) ∧ H3 d = some (.dK kvs) ∧ Beh kvs (fun x => cnt (rows.take i) x + (r.tail.take j).count x) ∧ kvs.length ≤ tot (rows.take i) + j)
      ⟨kvs, v4, rfl, s2.trans (same_new hp _), upd_same, by rw [upd_ne (Ne.symm npd)]; exact hd2, fun x => by rw [B x]; simp, Nat.le_add_right_of_le hl⟩ (fun j σ H3 _ ⟨_, _, _, _, e, _⟩ => SqL.of e) ?_ ?_⟩
    · rintro j y σ H3 hj ⟨kvs, v4, rfl, s3, ep, ed, B, hl⟩
      have hj' : (sVs r.tail)[j]? = some y := by
        unfold sVs at hj ⊢
        rw [List.map_tail]
        exact hj
      obtain ⟨x, hx, rfl⟩ := sVs_get hj'
      refine ⟨_, rfl, d, rfl, .inl ⟨kvs, .inl ed⟩, _, rfl, _, DGet.k (k := Sum.inr x) ed, _, _, B x, rfl, _, rfl, _, rfl, d, _, rfl, DPut.k (k := Sum.inr x) ed (Nat.lt_of_le_of_lt hl ?_), ?_⟩
      · have h1 := tot_take_le rows (i + 1)
        rw [tot_take_succ hr'] at h1
        have h2 : j < r.tail.length := (List.getElem?_eq_some_iff.mp hx).1
        rw [List.length_tail] at h2
        rw [sizeLine_eq]
        omega
      · refine ⟨_, _, rfl, fun b o e => ?_, by rw [upd_ne npd]; exact ep, upd_same, B.put ?_ fun z hz => ?_, Nat.le_trans (length_putK _ _ _) (by omega)⟩
        · rw [upd_ne (ne_of_none e hd)]; exact s3 b o e
        · show ((cnt (rows.take i) x + (r.tail.take j).count x : Nat) : Int) + 1 = ((cnt (rows.take i) x + (r.tail.take (j + 1)).count x : Nat) : Int)
          rw [count_take_succ hx, if_pos rfl]
          omega
        · show cnt (rows.take i) z + (r.tail.take (j + 1)).count z = cnt (rows.take i) z + (r.tail.take j).count z
          rw [count_take_succ hx, if_neg hz]
          omega
    · rintro σ H3 ⟨kvs, v4, rfl, s3, ep, ed, B, hl⟩
      have hlen : (sVs r).tail.length = r.tail.length := by unfold sVs; rw [← List.map_tail, List.length_map]
      rw [hlen] at B hl
      refine ⟨kvs, _, _, rfl, s3, ed, fun x => ?_, ?_⟩
      · rw [B x, cnt_take_succ hr', List.take_of_length_le (Nat.le_refl _)]
      · rw [tot_take_succ hr']
        rw [List.length_tail] at hl
        omega
  · rintro σ H2 ⟨kvs, v3, v4, rfl, s2, hd2, B, hl⟩
    have hlen : (as.map V.ref).length = rows.length := by rw [List.length_map, R.len]
    rw [hlen, List.take_of_length_le (Nat.le_refl _)] at B hl
    exact ⟨_, rfl, q d kvs H2 hd s2 hd2 B hl⟩
end
end K3

set_option Elab.async false
set_option linter.all false
set_option maxRecDepth 100000
set_option maxHeartbeats 4000000
namespace K3
open PySem L2 Mg
theorem nat_at {r : List Str} {n : Nat} (h : n < r.length) : atI (sVs r) (n : Int) = some (.str r[n]) := atI_nat (sVs_at (List.getElem?_eq_getElem h))
section
variable {P : Program} {w : World} {K : PySem.W.Frag} {mg : Str → Option Value} {base : Heap} {f : Addr} {fd : FuncData}
theorem scFree : FnScope ["rows", "starts", "behind", "row", "start"] ["rows", "starts", "behind"] (defScope sFree) := ⟨rfl, rfl, rfl, by decide +kernel, rfl, by decide +kernel, by decide +kernel⟩
theorem ok_free (F : Fun K "free_name" "free_name" sFree f fd) (T : Txt mg) : FnOk P w K mg base CX0 1 f fd ["rows", "starts", "behind"] spFree := by
  refine F.ok scFree (fun vs H Q E h => ?_) (fun cdv A outer s H vs Q E hr h => ?_)
  · obtain ⟨ra, sa, ba, as, rows, st, kvs, g, rfl, _⟩ := h
    rfl
  obtain ⟨ra, sa, ba, as, rows, st, kvs, g, rfl, R, S, B, q⟩ := h
  have hu := hu_of hr
  refine ⟨_, pss_cons (ps_for PassesOwn.never rfl (pi_zip rfl T.zip (pa_cons (pv 0) (pa_cons (pv 1) pa_nil))) (pg_tup rfl (pgs_cons (pg_name (i := 3) scFree.nd rfl (Or.inl rfl)) (pgs_cons (pg_name (i := 4) scFree.nd rfl (Or.inl rfl)) pgs_nil)))
      (pss_one (ps_if (PW.pt (pw_and (pt_cmpR op_lt (pv 4) (pe_callB call_len_seq rfl T.len PySem.boot_len (pa_cons (pv 3) pa_nil)) (nomark _)) (pw_and1 (pt_cmpR op_eq (pe_dget2 hu (pv 2) (pe_ix ix_list (pv 3) (pv 4) (fun _ _ => rfl)) pe_int ⟨rfl, rfl, rfl, rfl⟩) pe_int (nomark _)))))
        (pss_one (ps_ret (pe_ix ix_list (pv 3) (pv 4) (fun _ _ => rfl)))) pss_nil)))
    (pss_one (ps_ret pe_non)), ?_⟩
  refine ⟨_, rfl, _, rfl, ra, sa, rfl, ⟨_, SqL.of R.lst⟩, ⟨_, SqL.of S.lst⟩, for_zip (K := K) (a := ra) (b := sa) (xs := as.map V.ref) (ys := iVs st) (by rw [List.length_map, iVs_len, S.len, R.len])
    (fun i σ H2 => ∃ v3 v4 : Option V, σ = [some (.ref ra), some (.ref sa), some (.ref ba), v3, v4] ∧ Same H H2 ∧ pick g (rests rows st) = pick g ((rests rows st).drop i)) ⟨none, none, rfl, Same.refl _, rfl⟩
    (fun i σ H2 _ ⟨_, _, _, s2, _⟩ => ⟨SqL.of (s2 _ _ R.lst), SqL.of (s2 _ _ S.lst)⟩) ?_ ?_⟩
  · rintro i x y σ H2 Tp hx hy ⟨v3, v4, rfl, s2, hp⟩ hT
    obtain ⟨a, ha, rfl⟩ := refs_get hx
    obtain ⟨n, hn, rfl⟩ := iVs_get hy
    obtain ⟨r, hr', er⟩ := R.get ha
    have s3 : Same H (upd H2 Tp (.tup [.ref a, .int n])) := s2.trans (same_new hT _)
    have hrs := rests_get hr' hn
    refine ⟨Tp, _, rfl, SqT.of upd_same, rfl, _, _, rfl, _, _, rfl, rfl, ?_⟩
    refine ⟨_, rfl, _, rfl, a, _, rfl, .inl (SqL.of (s3 _ _ er)), _, _, rfl, rfl, _, rfl, ?_⟩
    refine ite2 (fun c => ?_) (fun c => ?_)
    · have c' : (n : Int) < ((sVs r).length : Int) := of_decide_eq_true c
      rw [sVs_len] at c'
      have c2 : n < r.length := by omega
      refine ⟨_, rfl, ba, rfl, .inl ⟨kvs, .inl (s3 _ _ S.dic)⟩, _, rfl, _, rfl, a, _, _, _, rfl, rfl, SqL.of (s3 _ _ er), nat_at c2, _, DGet.k (k := Sum.inr r[n]) (s3 _ _ S.dic), ?_⟩
      rw [B r[n]]
      refine ⟨rfl, _, rfl, ?_⟩
      have hd : pick g ((rests rows st).drop i) = if g r[n] = 0 then some r[n] else pick g ((rests rows st).drop (i + 1)) := by
        rw [drop_get c2] at hrs
        exact pick_drop1 hrs
      refine ite2 (fun c3 => ?_) (fun c3 => ?_)
      · have c4 : V.int (g r[n] : Int) = V.int 0 := of_decide_eq_true c3
        have c5 : g r[n] = 0 := by
          have := V.int.inj c4
          omega
        refine ⟨_, rfl, _, rfl, a, _, _, _, rfl, rfl, SqL.of (s3 _ _ er), nat_at c2, ?_⟩
        have qq := q _ s3
        rw [hp, hd, if_pos c5] at qq
        exact qq
      · have c4 : ¬ V.int (g r[n] : Int) = V.int 0 := of_decide_eq_false (Bool.eq_false_iff.mpr c3)
        have c5 : ¬ g r[n] = 0 := fun z => c4 (by rw [z] <;> rfl)
        rw [if_neg c5] at hd
        exact ⟨_, _, rfl, s3, hp.trans hd⟩
    · have c' : ¬ (n : Int) < ((sVs r).length : Int) := of_decide_eq_false (Bool.eq_false_iff.mpr c)
      rw [sVs_len] at c'
      refine iteF ?_
      have hd : pick g ((rests rows st).drop i) = pick g ((rests rows st).drop (i + 1)) := by
        rw [List.drop_eq_nil_of_le (by omega)] at hrs
        exact pick_drop0 hrs
      exact ⟨_, _, rfl, s3, hp.trans hd⟩
  · rintro σ H2 ⟨v3, v4, rfl, s2, hp⟩
    have qq := q H2 s2
    rw [hp, List.drop_eq_nil_of_le (by rw [rests_length S.len, List.length_map, R.len]; exact Nat.le_refl _)] at qq
    exact qq

theorem scTake : FnScope ["name", "rows", "starts", "behind", "index", "row", "start"] ["name", "rows", "starts", "behind"] (defScope sTake) := ⟨rfl, rfl, rfl, by decide +kernel, rfl, by decide +kernel, by decide +kernel⟩
theorem ok_take (F : Fun K "take_out" "take_out" sTake f fd) (T : Txt mg) : FnOk P w K mg base CX0 1 f fd ["name", "rows", "starts", "behind"] spTake := by
  refine F.ok scTake (fun vs H Q E h => ?_) (fun cdv A outer s H vs Q E hr h => ?_)
  · obtain ⟨x, ra, sa, ba, as, rows, st, kvs, rfl, _⟩ := h
    rfl
  obtain ⟨x, ra, sa, ba, as, rows, st, kvs, rfl, R, S, hb, B, hk, nsr, nsa, q⟩ := h
  have hu := hu_of hr
  refine ⟨_, pss_one (ps_for PassesOwn.never rfl (pi_enum rfl T.enum (pa_cons (pv 1) pa_nil)) (pg_tup rfl (pgs_cons (pg_name (i := 4) scTake.nd rfl (Or.inl rfl)) (pgs_cons (pg_name (i := 5) scTake.nd rfl (Or.inl rfl)) pgs_nil)))
    (pss_cons (ps_set (i := 6) scTake.nd rfl (Or.inl rfl) (pe_ix ix_list (pv 2) (pv 4) (fun _ _ => rfl)))
    (pss_one (ps_if (PW.pt (pw_and (pt_cmpR op_lt (pv 6) (pe_callB call_len_seq rfl T.len PySem.boot_len (pa_cons (pv 5) pa_nil)) (nomark _)) (pw_and1 (pt_cmpR op_eq (pe_ix ix_list (pv 5) (pv 6) (fun _ _ => rfl)) (pv 0) (nomark _)))))
      (pss_cons (ps_asg (pe_op op_add (pv 6) pe_int) (pg_sub (pv 2) (pv 4) set_list))
      (pss_one (ps_if (pt_cmpR op_lt (pe_op op_add (pv 6) pe_int) (pe_callB call_len_seq rfl T.len PySem.boot_len (pa_cons (pv 5) pa_nil)) (nomark _))
        (pss_one (ps_dput hu (pv 3) (pe_ix ix_list (pv 5) (pe_op op_add (pv 6) pe_int) (fun _ _ => rfl)) (pe_op op_sub (pe_dget hu (pv 3) (pe_ix ix_list (pv 5) (pe_op op_add (pv 6) pe_int) (fun _ _ => rfl)) (fun _ _ => rfl)) pe_int) rfl)) pss_nil))) pss_nil)))), ?_⟩
  have hba : ba ≠ sa := ne_of S.dic S.lst (by intro z; cases z)
  have hra : ra ≠ ba := ne_of R.lst S.dic (by intro z; cases z)
  have naa : ∀ (i : Nat) (a : Addr), as[i]? = some a → a ≠ sa ∧ a ≠ ba := fun i a ha => ⟨nsa a (List.mem_of_getElem? ha), by
    obtain ⟨r, _, er⟩ := R.get ha
    exact ne_of er S.dic (by intro z; cases z)⟩
  refine ⟨_, rfl, ra, rfl, ⟨_, SqL.of R.lst⟩, for_enum (K := K) (a := ra) (xs := as.map V.ref)
    (fun i σ H2 => ∃ (v4 v5 v6 : Option V) (st2 : List Nat) (kvs2 : List (Key × V)), σ = [some (.str x), some (.ref ra), some (.ref sa), some (.ref ba), v4, v5, v6] ∧ (∀ b o, H b = some o → b ≠ sa → b ≠ ba → H2 b = some o) ∧ StAt H2 rows sa ba st2 kvs2 ∧
      rests rows st2 = half x (rests rows st) i ∧ (∀ (j : Nat) (r : List Str) (n : Nat), rows[j]? = some r → st2[j]? = some n → n ≤ r.length) ∧ Beh kvs2 (cnt (rests rows st2)) ∧ kvs2.length = kvs.length ∧ ∀ j, i ≤ j → st2[j]? = st[j]?)
    ⟨none, none, none, st, kvs, rfl, fun b o e _ _ => e, S, (half_zero _ _).symm, hb, B, rfl, fun _ _ => rfl⟩
    (fun i σ H2 _ ⟨_, _, _, _, _, _, k, _⟩ => SqL.of (k _ _ R.lst (Ne.symm nsr) hra)) ?_ ?_⟩
  · rintro i y σ H2 Tp hx ⟨v4, v5, v6, st2, kvs2, rfl, k2, S2, h2, hb2, B2, hl2, hst⟩ hT
    obtain ⟨a, ha, rfl⟩ := refs_get hx
    obtain ⟨r, hr', er⟩ := R.get ha
    obtain ⟨na1, na2⟩ := naa i a ha
    have hi : i < st2.length := by rw [S2.len]; exact (List.getElem?_eq_some_iff.mp hr').1
    obtain ⟨n, hn⟩ : ∃ n, st2[i]? = some n := ⟨st2[i], List.getElem?_eq_getElem hi⟩
    have hn0 : st[i]? = some n := by rw [← hst i (Nat.le_refl _)]; exact hn
    have hle : n ≤ r.length := hb2 i r n hr' hn
    have hrs := rests_get hr' hn0
    have hrs2 := rests_get hr' hn
    have eT : ∀ b o, H2 b = some o → (upd H2 Tp (.tup [.int i, .ref a])) b = some o := fun b o e => same_new hT _ b o e
    have ea : (upd H2 Tp (.tup [.int i, .ref a])) a = some (.lst (sVs r)) := eT _ _ (k2 _ _ er na1 na2)
    have es : (upd H2 Tp (.tup [.int i, .ref a])) sa = some (.lst (iVs st2)) := eT _ _ S2.lst
    have ed : (upd H2 Tp (.tup [.int i, .ref a])) ba = some (.dK kvs2) := eT _ _ S2.dic
    have k3 : ∀ b o, H b = some o → b ≠ sa → b ≠ ba → (upd H2 Tp (.tup [.int i, .ref a])) b = some o := fun b o e n1 n2 => eT _ _ (k2 b o e n1 n2)
    have hil : ixN (iVs st2).length (i : Int) = some i := by
      unfold ixN
      rw [iVs_len, if_pos (by omega), if_pos (by omega)]
      simp
    refine ⟨Tp, _, rfl, SqT.of upd_same, rfl, _, _, rfl, _, _, rfl, rfl, ?_⟩
    refine ⟨_, rfl, _, rfl, sa, _, _, _, rfl, rfl, SqL.of es, atI_nat (iVs_at hn), ?_⟩
    refine ⟨_, rfl, _, rfl, a, _, rfl, .inl (SqL.of ea), _, _, rfl, rfl, _, rfl, ?_⟩
    have stay : drop1 x (r.drop n) = r.drop n → StAt (upd H2 Tp (.tup [.int i, .ref a])) rows sa ba st2 kvs2 ∧ rests rows st2 = half x (rests rows st) (i + 1) := fun e => ⟨⟨es, S2.len, ed⟩, by rw [h2, half_same hrs e]⟩
    refine ite2 (fun c => ?_) (fun c => ?_)
    · have c' : (n : Int) < ((sVs r).length : Int) := of_decide_eq_true c
      rw [sVs_len] at c'
      have c2 : n < r.length := by omega
      refine ⟨_, rfl, _, rfl, a, _, _, _, rfl, rfl, SqL.of ea, nat_at c2, _, rfl, rfl, _, rfl, ?_⟩
      refine ite2 (fun c3 => ?_) (fun c3 => ?_)
      · have c4 : V.str r[n] = V.str x := of_decide_eq_true c3
        have c5 : r[n] = x := V.str.inj c4
        have hdr : drop1 x (r.drop n) = r.drop (n + 1) := by rw [drop_get c2, c5, drop1_self]
        -- starts[index] = start + 1
        refine ⟨_, rfl, _, _, rfl, rfl, _, rfl, _, rfl, sa, _, _, _, rfl, rfl, es, hil, ?_⟩
        have e1 : (iVs st2).set i (.int ((n : Int) + 1)) = iVs (st2.set i (n + 1)) := by
          unfold iVs
          rw [List.map_set]
          rfl
        rw [e1]
        have hnew : rests rows (st2.set i (n + 1)) = half x (rests rows st) (i + 1) := by
          rw [set_rests hr' hi, h2, ← hdr, half_set hrs]
        have eT4 : ∀ b o, b ≠ sa → (upd H2 Tp (.tup [.int i, .ref a])) b = some o → (upd (upd H2 Tp (.tup [.int i, .ref a])) sa (.lst (iVs (st2.set i (n + 1))))) b = some o := fun b o hne e => by rw [upd_ne hne]; exact e
        have hb3 : ∀ (j : Nat) (r' : List Str) (m : Nat), rows[j]? = some r' → (st2.set i (n + 1))[j]? = some m → m ≤ r'.length := fun j r' m h1 h3 => by
          by_cases hj : i = j
          · subst hj
            rw [List.getElem?_set_self hi] at h3
            cases h3
            rw [hr'] at h1
            cases h1
            omega
          · rw [List.getElem?_set_ne hj] at h3
            exact hb2 j r' m h1 h3
        have hst3 : ∀ j, i + 1 ≤ j → (st2.set i (n + 1))[j]? = st[j]? := fun j hj => by rw [List.getElem?_set_ne (by omega)]; exact hst j (by omega)
        have hc := cnt_half (x := x) hrs
        rw [hdr] at hc
        refine ⟨_, rfl, _, _, rfl, rfl, _, rfl, a, _, rfl, .inl (SqL.of (eT4 _ _ na1 ea)), _, _, rfl, rfl, _, rfl, ?_⟩
        refine ite2 (fun c6 => ?_) (fun c6 => ?_)
        · have c7 : (n : Int) + 1 < ((sVs r).length : Int) := of_decide_eq_true c6
          rw [sVs_len] at c7
          have c8 : n + 1 < r.length := by omega
          have e2 : ((n : Int) + 1) = ((n + 1 : Nat) : Int) := by omega
          have hat : atI (sVs r) ((n : Int) + 1) = some (.str r[n + 1]) := by rw [e2]; exact nat_at c8
          have ht1 : (r.drop n).tail = r[n + 1] :: r.drop (n + 2) := by rw [drop_get c2, List.tail_cons, drop_get c8]
          have ht2 : (r.drop (n + 1)).tail = r.drop (n + 2) := by rw [drop_get c8, List.tail_cons]
          rw [ht1, ht2] at hc
          have hpos : 0 < cnt (rests rows st2) r[n + 1] := by
            have := hc r[n + 1]
            rw [List.count_cons_self] at this
            rw [h2]
            omega
          have hv := B2.pos hpos
          refine ⟨_, rfl, _, rfl, _, rfl, _, _, rfl, rfl, a, _, _, _, rfl, rfl, SqL.of (eT4 _ _ na1 ea), hat, ba, .int (cnt (rests rows st2) r[n + 1]), rfl, ?_, _, _, rfl, rfl, _, rfl, _, rfl, _, rfl, _, _, rfl, rfl, a, _, _, _, rfl, rfl, SqL.of (eT4 _ _ na1 ea), hat, ba, _, rfl, DPut.k (k := Sum.inr r[n + 1]) (eT4 _ _ hba ed) (by rw [hl2, sizeLine_eq]; omega), ?_⟩
          · exact hv ▸ DGet.k (k := Sum.inr r[n + 1]) (eT4 _ _ hba ed)
          · refine ⟨_, _, _, st2.set i (n + 1), _, rfl, fun b o e n1 n2 => by rw [upd_ne n2]; exact eT4 _ _ n1 (k3 b o e n1 n2), ⟨by rw [upd_ne (Ne.symm hba), upd_same], by rw [List.length_set]; exact S2.len, upd_same⟩, hnew, hb3, B2.put ?_ fun z hz => ?_, (len_put hv).trans hl2, hst3⟩
            · have := hc r[n + 1]
              rw [List.count_cons_self] at this
              rw [hnew, h2]
              omega
            · have := hc z
              rw [List.count_cons_of_ne (fun e => hz e.symm)] at this
              rw [hnew, h2]
              omega
        · have c7 : ¬ (n : Int) + 1 < ((sVs r).length : Int) := of_decide_eq_false (Bool.eq_false_iff.mpr c6)
          rw [sVs_len] at c7
          have hd0 : r.drop (n + 1) = [] := List.drop_eq_nil_of_le (by omega)
          have ht1 : (r.drop n).tail = [] := by rw [drop_get c2, List.tail_cons, hd0]
          rw [ht1, hd0] at hc
          refine ⟨_, _, _, st2.set i (n + 1), kvs2, rfl, fun b o e n1 n2 => eT4 _ _ n1 (k3 b o e n1 n2), ⟨upd_same, by rw [List.length_set]; exact S2.len, eT4 _ _ hba ed⟩, hnew, hb3, fun z => ?_, hl2, hst3⟩
          rw [B2 z, hnew, h2]
          have := hc z
          simp only [List.tail_nil, List.count_nil, Nat.add_zero] at this
          rw [this]
      · have c4 : ¬ V.str r[n] = V.str x := of_decide_eq_false (Bool.eq_false_iff.mpr c3)
        have c5 : ¬ r[n] = x := fun z => c4 (by rw [z])
        obtain ⟨z1, z2⟩ := stay (by rw [drop_get c2, drop1_cons, if_neg c5])
        exact ⟨_, _, _, st2, kvs2, rfl, k3, z1, z2, hb2, B2, hl2, fun j hj => hst j (by omega)⟩
    · have c' : ¬ (n : Int) < ((sVs r).length : Int) := of_decide_eq_false (Bool.eq_false_iff.mpr c)
      rw [sVs_len] at c'
      refine iteF ?_
      obtain ⟨z1, z2⟩ := stay (by rw [List.drop_eq_nil_of_le (by omega)] <;> rfl)
      exact ⟨_, _, _, st2, kvs2, rfl, k3, z1, z2, hb2, B2, hl2, fun j hj => hst j (by omega)⟩
  · rintro σ H2 ⟨v4, v5, v6, st2, kvs2, rfl, k2, S2, h2, hb2, B2, hl2, hst⟩
    rw [half_all _ _ (by rw [rests_length S.len, List.length_map, R.len]; exact Nat.le_refl _)] at h2
    exact q st2 kvs2 H2 S2 h2 hb2 B2 hl2 k2
end
end K3

set_option Elab.async false
set_option linter.all false
set_option maxRecDepth 100000
set_option maxHeartbeats 4000000
namespace K3
open PySem L2 Mg
/-! ### rings -/
abbrev Ln := Str × Str × Str
def lnV (x : Ln) : List V := [.str x.1, .str x.2.1, .str x.2.2]
/-- a list of leanings -/
structure LeanAt (H : Hp) (p : Addr) (ts : List Addr) (ring : List Ln) : Prop where
  lst : H p = some (.lst (ts.map V.ref))
  len : ts.length = ring.length
  at_ : ∀ (m : Nat) (t : Addr) (x : Ln), ts[m]? = some t → ring[m]? = some x → H t = some (.tup (lnV x))
theorem LeanAt.same {H H' : Hp} {p : Addr} {ts : List Addr} {ring : List Ln} (R : LeanAt H p ts ring) (h : Same H H') : LeanAt H' p ts ring := ⟨h _ _ R.lst, R.len, fun i a r h1 h2 => h _ _ (R.at_ i a r h1 h2)⟩
def spFirst : Sp := fun vs H Q _ => ∃ (ra : Addr) (as : List Addr) (rs : List (List Str)), vs = [.ref ra] ∧ RowsAt H ra as rs ∧ rs.length ≤ 1000 ∧ (∃ r ∈ rs, r ≠ []) ∧
  ∀ (x : Str) (r t : List Str) (H' : Hp), r ∈ rs → r = x :: t → Same H H' → Q (.str x) H'
def spLean : Sp := fun vs H Q _ => ∃ (x : Str) (ra la : Addr) (as : List Addr) (rs : List (List Str)) (ls : List Str), vs = [.str x, .ref ra, .ref la] ∧ RowsAt H ra as rs ∧ H la = some (.lst (sVs ls)) ∧ ls.length = rs.length ∧ rs.length ≤ 1000 ∧ (∃ r ∈ rs, x ∈ r.tail) ∧
  ∀ (t : Addr) (a l : Str) (H' : Hp), Same H H' → H' t = some (.tup (lnV (a, x, l))) → Leans rs ls (a, x, l) → Q (.ref t) H'
def spRing : Sp := fun vs H Q _ => ∃ (ra la : Addr) (as : List Addr) (rs : List (List Str)) (ls : List Str), vs = [.ref ra, .ref la] ∧ RowsAt H ra as rs ∧ H la = some (.lst (sVs ls)) ∧ ls.length = rs.length ∧ rs.length ≤ 1000 ∧ (∃ r ∈ rs, r ≠ []) ∧ (∀ r ∈ rs, r.Nodup) ∧
  (∀ r ∈ rs, ∀ x t, r = x :: t → cnt rs x ≠ 0) ∧ ∀ (p : Addr) (ts : List Addr) (ring : List Ln) (H' : Hp), Same H H' → LeanAt H' p ts ring → RingOk rs ls ring → Q (.ref p) H'
section
variable {P : Program} {w : World} {K : PySem.W.Frag} {mg : Str → Option Value} {base : Heap} {f fF fL : Addr} {fd dF dL : FuncData}
theorem ndr1 : (["rest"] : List Str).Nodup := by decide +kernel
theorem scFirst : FnScope ["rests"] ["rests"] (defScope sFirst) := ⟨rfl, rfl, rfl, by decide +kernel, rfl, by decide +kernel, by decide +kernel⟩
theorem ok_first (F : Fun K "first_name" "first_name" sFirst f fd) (T : Txt mg) : FnOk P w K mg base CX0 1 f fd ["rests"] spFirst := by
  refine F.ok scFirst (fun vs H Q E h => ?_) (fun cdv A outer s H vs Q E hr h => ?_)
  · obtain ⟨ra, as, rs, rfl, _⟩ := h
    rfl
  obtain ⟨ra, as, rs, rfl, R, hn, ⟨r0, hr0, ne0⟩, q⟩ := h
  refine ⟨_, pss_one (ps_ret (pe_ix (r := rIxL K) ix_list (pe_comp (defScope sFirst) ["rests"] ["rest"] [] rfl (pi_list (pv 0)) (own_name (i := 0) (by decide)) (fun _ _ _ _ _ _ => ⟨pg_name (i := 0) ndr1 rfl (Or.inl rfl), pts_one (pt_tru (K := K) (pv 0)), pe_ix (r := rIxL K) ix_list (pv 0) pe_int (fun _ _ => rfl)⟩)) pe_int (fun _ _ => rfl))), ?_⟩
  refine ⟨_, rfl, ra, rfl, ⟨_, SqL.of R.lst⟩, turns_list (K := K) (a := ra) (xs := as.map V.ref) (fun i ys H2 => H2 = H ∧ ∃ zs : List Str, ys = sVs zs ∧ zs.length ≤ i ∧ (∀ z ∈ zs, ∃ r ∈ rs, ∃ t, r = z :: t) ∧ ((∃ r ∈ rs.take i, r ≠ []) → zs ≠ []))
    ⟨rfl, [], rfl, Nat.le_refl _, (fun z hz => nomatch hz), fun ⟨r, hr', _⟩ => by simp at hr'⟩ (fun i ys H2 _ h => by rw [h.1]; exact SqL.of R.lst) ?_ ?_⟩
  · rintro i y ys H2 hi ⟨rfl, zs, rfl, hz, hz2, hz3⟩
    obtain ⟨a, ha, rfl⟩ := refs_get hi
    obtain ⟨r, hr', er⟩ := R.get ha
    have hil : i < rs.length := (List.getElem?_eq_some_iff.mp hr').1
    have htk : rs.take (i + 1) = rs.take i ++ [r] := by rw [List.take_add_one, hr']; rfl
    refine ⟨_, rfl, _, .inl ⟨_, SqL.of er, rfl⟩, ?_⟩
    cases hrr : r with
    | nil =>
      refine iteF ⟨rfl, zs, rfl, by omega, hz2, ?_⟩
      rw [htk]
      rintro ⟨r', hr2, ne⟩
      rcases List.mem_append.mp hr2 with z | z
      · exact hz3 ⟨r', z, ne⟩
      · rw [List.mem_singleton.mp z] at ne
        exact absurd hrr ne
    | cons x t =>
      rw [hrr] at er
      refine iteT ?_
      refine ⟨_, rfl, a, _, _, _, rfl, rfl, SqL.of er, atI_nat (j := 0) rfl, ?_⟩
      refine ⟨by rw [sVs_len, sizeLine_eq]; omega, rfl, zs ++ [x], by unfold sVs; rw [List.map_append]; rfl, by rw [List.length_append, List.length_singleton]; omega, fun z hz' => ?_, fun _ e => ?_⟩
      · rcases List.mem_append.mp hz' with z1 | z1
        · exact hz2 z z1
        · rw [List.mem_singleton.mp z1]
          exact ⟨r, List.mem_of_getElem? hr', t, hrr⟩
      · exact absurd e (by simp)
  · rintro ys H2 ⟨rfl, zs, rfl, hz, hz2, hz3⟩ p hp
    have hlen : (as.map V.ref).length = rs.length := by rw [List.length_map, R.len]
    rw [hlen, List.take_of_length_le (Nat.le_refl _)] at hz3
    cases zs with
    | nil => exact absurd rfl (hz3 ⟨r0, hr0, ne0⟩)
    | cons x zs =>
      obtain ⟨r, hr', t, e⟩ := hz2 x List.mem_cons_self
      exact ⟨p, _, _, _, rfl, rfl, SqL.of upd_same, atI_nat (j := 0) rfl, q x r t _ hr' e (same_new hp _)⟩

theorem ndl : (["rest", "label", "name"] : List Str).Nodup := by decide +kernel
theorem scLean : FnScope ["name", "rests", "labels"] ["name", "rests", "labels"] (defScope sLean) := ⟨rfl, rfl, rfl, by decide +kernel, rfl, by decide +kernel, by decide +kernel⟩
theorem ok_lean (F : Fun K "leaning_against" "leaning_against" sLean f fd) (T : Txt mg) : FnOk P w K mg base CX0 1 f fd ["name", "rests", "labels"] spLean := by
  refine F.ok scLean (fun vs H Q E h => ?_) (fun cdv A outer s H vs Q E hr h => ?_)
  · obtain ⟨x, ra, la, as, rs, ls, rfl, _⟩ := h
    rfl
  obtain ⟨x, ra, la, as, rs, ls, rfl, R, el, hll, hn, ⟨r0, hr0, hx0⟩, q⟩ := h
  refine ⟨_, pss_one (ps_ret (pe_ix (r := rIxL K) ix_list (pe_comp (defScope sLean) ["name", "rests", "labels"] ["rest", "label"] [("name", 0)] rfl (pi_zip rfl T.zip (pa_cons (pv 1) (pa_cons (pv 2) pa_nil)))
      (own_tup (K := K) (owns_cons (own_name (i := 0) (by decide)) (owns_cons (own_name (i := 1) (by decide)) owns_nil)))
      (fun _ _ _ _ _ _ => ⟨pg_tup (n := 2) rfl (pgs_cons (pg_name (i := 0) ndl rfl (Or.inl rfl)) (pgs_cons (pg_name (i := 1) ndl rfl (Or.inl rfl)) pgs_nil)),
        pts_one (pt_cmpR (r := rIn K false) op_in_seq (pv 2) (pe_slice (r := rSlL K) sl_list (pv 0) (po_some pe_int) po_none) rfl),
        pe_tup (pa_cons (pe_ix (r := rIxL K) ix_list (pv 0) pe_int (fun _ _ => rfl)) (pa_cons (pv 2) (pa_cons (pv 1) pa_nil)))⟩)) pe_int (fun _ _ => rfl))), ?_⟩
  have inC : ∀ (y : Str) (zs : List Str), inV (.str y) (sVs zs) = decide (y ∈ zs) := fun y zs => by
    unfold inV sVs
    rw [List.any_map]
    by_cases hy : y ∈ zs
    · rw [decide_eq_true hy, List.any_eq_true]
      exact ⟨y, hy, by show (y == y) = true; exact beq_self_eq_true y⟩
    · rw [decide_eq_false hy, List.any_eq_false]
      intro z hz e
      have e' : (z == y) = true := e
      exact hy (beq_iff_eq.mp e' ▸ hz)
  have flat : ∀ zs : List Str, (sVs zs).all flatV = true := fun zs => by
    unfold sVs
    rw [List.all_map, List.all_eq_true]
    intro z _
    rfl
  refine ⟨_, rfl, _, rfl, ra, la, rfl, ⟨_, SqL.of R.lst⟩, ⟨_, SqL.of el⟩, turns_zip (K := K) (a := ra) (b := la) (xs := as.map V.ref) (zs := sVs ls) (by rw [List.length_map, sVs_len, R.len, hll])
    (fun i ys H2 => Same H H2 ∧ ∃ ts : List Addr, ys = ts.map V.ref ∧ ts.length ≤ i ∧ (∀ t ∈ ts, ∃ a l, Leans rs ls (a, x, l) ∧ H2 t = some (.tup (lnV (a, x, l)))) ∧ ((∃ r ∈ rs.take i, x ∈ r.tail) → ts ≠ []))
    ⟨Same.refl _, [], rfl, Nat.le_refl _, (fun z hz => nomatch hz), fun ⟨r, hr', _⟩ => by simp at hr'⟩ (fun i ys H2 _ h => ⟨SqL.of (h.1 _ _ R.lst), SqL.of (h.1 _ _ el)⟩) ?_ ?_⟩
  · rintro i y z ys H2 Tp hi hz ⟨s2, ts, rfl, hts, ht2, ht3⟩ hT
    obtain ⟨a, ha, rfl⟩ := refs_get hi
    obtain ⟨l, hl, rfl⟩ := sVs_get hz
    obtain ⟨r, hr', er⟩ := R.get ha
    have hil : i < rs.length := (List.getElem?_eq_some_iff.mp hr').1
    have htk : rs.take (i + 1) = rs.take i ++ [r] := by rw [List.take_add_one, hr']; rfl
    have s3 : Same H2 (upd H2 Tp (.tup [.ref a, .str l])) := same_new hT _
    have er3 := s3 _ _ (s2 _ _ er)
    refine ⟨Tp, _, rfl, SqT.of upd_same, rfl, _, _, rfl, _, _, rfl, rfl, ?_⟩
    refine ⟨_, rfl, _, rfl, _, rfl, a, _, rfl, SqL.of er3, fun p hp => ?_⟩
    rw [cut1]
    have etl : (sVs r).tail = sVs r.tail := by unfold sVs; rw [List.map_tail]
    rw [etl]
    have s4 := s3.trans (same_new hp (.lst (sVs r.tail)))
    refine ⟨p, _, rfl, .inl (SqL.of upd_same), rfl, flat _, _, rfl, ?_⟩
    rw [if_neg Bool.false_ne_true, inC]
    refine ite2 (fun c => ?_) (fun c => ?_)
    · have c' : x ∈ r.tail := of_decide_eq_true c
      cases hrr : r with
      | nil => rw [hrr] at c'; cases c'
      | cons b t =>
        rw [hrr] at c' er3
        have er4 := same_new hp (.lst (sVs r.tail)) _ _ er3
        rw [← hrr]
        refine ⟨_, rfl, a, _, _, _, rfl, rfl, SqL.of er4, atI_nat (j := 0) rfl, _, rfl, _, rfl, (by show 3 ≤ sizeLine; decide), fun tp htp => ?_⟩
        have s5 := s4.trans (same_new htp (.tup (lnV (b, x, l))))
        refine ⟨by rw [List.length_map, sizeLine_eq]; omega, s2.trans s5, ts ++ [tp], by rw [List.map_append]; rfl, by rw [List.length_append, List.length_singleton]; omega, fun t' ht' => ?_, fun _ e => absurd e (by simp)⟩
        rcases List.mem_append.mp ht' with z1 | z1
        · obtain ⟨a', l', h1, h2⟩ := ht2 t' z1
          exact ⟨a', l', h1, s5 _ _ h2⟩
        · rw [List.mem_singleton.mp z1]
          exact ⟨b, l, ⟨i, t, by rw [hr', hrr], c', hl⟩, upd_same⟩
    · have c' : ¬ x ∈ r.tail := of_decide_eq_false (Bool.eq_false_iff.mpr c)
      refine ⟨s2.trans s4, ts, rfl, by omega, fun t' ht' => ?_, ?_⟩
      · obtain ⟨a', l', h1, h2⟩ := ht2 t' ht'
        exact ⟨a', l', h1, s4 _ _ h2⟩
      · rw [htk]
        rintro ⟨r', hr2, hx⟩
        rcases List.mem_append.mp hr2 with z1 | z1
        · exact ht3 ⟨r', z1, hx⟩
        · rw [List.mem_singleton.mp z1] at hx
          exact absurd hx c'
  · rintro ys H2 ⟨s2, ts, rfl, hts, ht2, ht3⟩ p hp
    have hlen : (as.map V.ref).length = rs.length := by rw [List.length_map, R.len]
    rw [hlen, List.take_of_length_le (Nat.le_refl _)] at ht3
    cases ts with
    | nil => exact absurd rfl (ht3 ⟨r0, hr0, hx0⟩)
    | cons t ts =>
      obtain ⟨a, l, h1, h2⟩ := ht2 t List.mem_cons_self
      have s3 := same_new (H := H2) hp (.lst ((t :: ts).map V.ref))
      exact ⟨p, _, _, _, rfl, rfl, SqL.of upd_same, atI_nat (j := 0) rfl, q t a l _ (s2.trans s3) (s3 _ _ h2) h1⟩
end
end K3

set_option Elab.async false
set_option linter.all false
set_option maxRecDepth 100000
set_option maxHeartbeats 4000000
namespace K3
open PySem L2 Mg
section
variable {P : Program} {w : World} {K : PySem.W.Frag} {mg : Str → Option Value} {base : Heap} {f fF fL : Addr} {fd dF dL : FuncData}
structure MetAt (kvs : List (Key × V)) (ns : List Str) : Prop where
  at_ : ∀ (i : Nat) (x : Str), ns[i]? = some x → valV kvs (Sum.inr x : Key) = some (.int (i : Nat))
  no : ∀ x : Str, x ∉ ns → valV kvs (Sum.inr x : Key) = none
  len : kvs.length ≤ ns.length
theorem MetAt.put {kvs : List (Key × V)} {ns : List Str} {c : Str} (m : MetAt kvs ns) (hc : c ∉ ns) : MetAt (putK kvs (Sum.inr c : Key) (.int (ns.length : Nat))) (ns ++ [c]) where
  at_ := fun i x hx => by
    rw [valV_put]
    by_cases hi : i < ns.length
    · rw [List.getElem?_append_left hi] at hx
      have : x ≠ c := fun e => hc (e ▸ List.mem_of_getElem? hx)
      rw [if_neg (fun z : (Sum.inr x : Key) = Sum.inr c => this (Sum.inr.inj z))]
      exact m.at_ i x hx
    · have hil : i < (ns ++ [c]).length := (List.getElem?_eq_some_iff.mp hx).1
      rw [List.length_append, List.length_singleton] at hil
      obtain rfl : i = ns.length := by omega
      rw [List.getElem?_concat_length] at hx
      cases hx
      rw [if_pos rfl]
  no := fun x hx => by
    rw [List.mem_append, not_or] at hx
    rw [valV_put, if_neg (fun z : (Sum.inr x : Key) = Sum.inr c => hx.2 (by rw [Sum.inr.inj z]; simp))]
    exact m.no x hx.1
  len := by
    have := length_putK kvs (Sum.inr c : Key) (.int (ns.length : Nat))
    have h2 := m.len
    rw [List.length_append, List.length_singleton]
    omega
theorem scRing : FnScope ["rests", "labels", "met", "path", "name"] ["rests", "labels"] (defScope sRing) := ⟨rfl, rfl, rfl, by decide +kernel, rfl, by decide +kernel, by decide +kernel⟩
theorem LeanAt.snoc {H : Hp} {p t : Addr} {ts : List Addr} {path : List Ln} {x : Ln} (L : LeanAt H p ts path) (ht : H t = some (.tup (lnV x))) : LeanAt (upd H p (.lst ((ts ++ [t]).map V.ref))) p (ts ++ [t]) (path ++ [x]) where
  lst := upd_same
  len := by rw [List.length_append, List.length_append, L.len]; rfl
  at_ := fun m a y ha hy => by
    have np : ∀ {a : Addr} {zs : List V}, H a = some (.tup zs) → a ≠ p := fun {a zs} e z => by rw [z, L.lst] at e; cases e
    by_cases hm : m < ts.length
    · rw [List.getElem?_append_left hm] at ha
      rw [List.getElem?_append_left (by rw [← L.len]; exact hm)] at hy
      have e := L.at_ m a y ha hy
      rw [upd_ne (np e)]
      exact e
    · have hml : m < (ts ++ [t]).length := (List.getElem?_eq_some_iff.mp ha).1
      rw [List.length_append, List.length_singleton] at hml
      obtain rfl : m = ts.length := by omega
      rw [List.getElem?_concat_length] at ha
      rw [L.len, List.getElem?_concat_length] at hy
      cases ha
      cases hy
      rw [upd_ne (np ht)]
      exact ht
theorem ok_ring (F : Fun K "ring_of" "ring_of" sRing f fd) (T : Txt mg) (FF : Fun K "first_name" "first_name" sFirst fF dF) (bF : Binds K dF ["rests"] []) (mF : mg "first_name" = some (.ref fF))
    (FL : Fun K "leaning_against" "leaning_against" sLean fL dL) (bL : Binds K dL ["name", "rests", "labels"] []) (mL : mg "leaning_against" = some (.ref fL)) : FnOk P w K mg base CX0 2 f fd ["rests", "labels"] spRing := by
  have GF : FnOk P w K mg base CX0 1 fF dF ["rests"] spFirst := ok_first FF T
  have GL : FnOk P w K mg base CX0 1 fL dL ["name", "rests", "labels"] spLean := ok_lean FL T
  refine F.ok scRing (fun vs H Q E h => ?_) (fun cdv A outer s H vs Q E hr h => ?_)
  · obtain ⟨ra, la, as, rs, ls, rfl, _⟩ := h
    rfl
  obtain ⟨ra, la, as, rs, ls, rfl, R, el, hll, hn, hne, hnd, hcn, q⟩ := h
  have hu := hu_of hr
  refine ⟨_, pss_cons (ps_set (i := 2) scRing.nd rfl (Or.inl rfl) pe_dnewK)
    (pss_cons (ps_set (i := 3) scRing.nd rfl (Or.inl rfl) (pe_lst pa_nil))
    (pss_cons (ps_set (i := 4) scRing.nd rfl (Or.inl rfl) (pe_call GF hr rfl mF FF.kp bF .nil pass0 (pa_cons (pv 0) pa_nil)))
    (pss_cons (ps_while PassesOwn.never (pt_cmp (pc_dnotin hu (pv 4) (pv 2)))
      (pss_cons (ps_dput hu (pv 2) (pv 4) (pe_callB call_len_seq rfl T.len PySem.boot_len (pa_cons (pv 3) pa_nil)) rfl)
      (pss_cons (ps_expr (pe_bm PySem.F.plainAttrs_list PySem.F.slot_list_append PySem.F.type_list_append mt_append (pv 3) (pa_cons (pe_call GL hr rfl mL FL.kp bL .nil pass0 (pa_cons (pv 4) (pa_cons (pv 0) (pa_cons (pv 1) pa_nil)))) pa_nil)))
      (pss_one (ps_set (i := 4) scRing.nd rfl (Or.inl rfl) (pe_ix ix_tup (pe_ix ix_list (pv 3) (pe_un un_neg pe_int) (fun _ _ => rfl)) pe_int (fun _ _ => rfl)))))))
    (pss_one (ps_ret (pe_callTy (call_list_rev rfl) rfl T.list PyProof.Rows.boot_list (pa_cons (pe_callTy call_reversed rfl T.rev boot_reversed (pa_cons (pe_slice sl_list (pv 3) (po_some (pe_dget hu (pv 2) (pv 4) (fun _ _ => rfl))) po_none) pa_nil)) pa_nil))))))), ?_⟩
  intro d hd
  have s1 : Same H (upd H d (.dK [])) := same_new hd _
  refine ⟨(by show 0 ≤ sizeLine; decide), fun pa hpa => ?_⟩
  have s2 : Same H (upd (upd H d (.dK [])) pa (.lst [])) := s1.trans (same_new hpa _)
  have npd : pa ≠ d := fun e => by rw [e, upd_same] at hpa; cases hpa
  have hpa0 : H pa = none := s1.free hpa
  refine ⟨_, rfl, ra, as, rs, rfl, R.same s2, hn, hne, fun c0 r0 t0 H3 hr0 er0 s3 => ?_⟩
  refine ⟨fun m σ H5 => ∃ (path : List Ln) (ns : List Str) (c : Str) (kvs : List (Key × V)) (ts : List Addr), σ = [some (.ref ra), some (.ref la), some (.ref d), some (.ref pa), some (.str c)] ∧ Same H H5 ∧ H5 d = some (.dK kvs) ∧ MetAt kvs ns ∧ LeanAt H5 pa ts path ∧ Way rs ls path ns c ∧ m = rs.length - ns.length,
    ⟨_, [], [], c0, [], [], rfl, s2.trans s3, s3 _ _ (by rw [upd_ne (Ne.symm npd)]; exact upd_same), ⟨fun i x h => (by simp at h), fun x _ => rfl, Nat.le_refl _⟩, ⟨s3 _ _ upd_same, rfl, fun m t x h => (by simp at h)⟩,
      ⟨(fun x hx => nomatch hx), rfl, rfl, List.nodup_nil, fun x hx => ⟨r0, hr0, t0, by rw [List.mem_singleton.mp hx]; exact er0⟩⟩, rfl⟩, ?_⟩
  rintro m σ H5 ⟨path, ns, c, kvs, ts, rfl, s5, ed, M, L, W, rfl⟩
  have hpl : path.length = ns.length := by rw [← W.snd, List.length_map]
  refine ⟨_, rfl, _, rfl, d, _, rfl, DGet.k (k := Sum.inr c) ed, _, rfl, ?_⟩
  by_cases hc : c ∈ ns
  · obtain ⟨j, hj⟩ := List.getElem?_of_mem hc
    have hv := M.at_ j c hj
    have hjl : j < ns.length := (List.getElem?_eq_some_iff.mp hj).1
    rw [hv]
    refine iteF ?_
    -- return list(reversed(path[met[name]:]))
    refine ⟨_, rfl, _, rfl, _, rfl, d, .int (j : Nat), rfl, hv ▸ DGet.k (k := Sum.inr c) ed, _, rfl, pa, _, rfl, SqL.of L.lst, fun p1 hp1 => ?_⟩
    have hcut : cutV (ts.map V.ref) (some ((j : Nat) : Int)) none = (ts.drop j).map V.ref := by
      rw [cutFrom _ _ (by rw [List.length_map, L.len, hpl]; omega), List.map_drop]
    rw [hcut]
    have s6 := same_new (H := H5) hp1 (.lst ((ts.drop j).map V.ref))
    refine ⟨p1, _, rfl, SqL.of upd_same, fun it hit => ?_⟩
    have n1 : p1 ≠ it := fun e => by rw [e, upd_same] at hit; cases hit
    refine ⟨it, p1, (ts.drop j).map V.ref, rfl, upd_same, SqL.of (by rw [upd_ne n1]; exact upd_same), fun l hl => ?_⟩
    rw [rem_upd hit]
    have hl' : (upd H5 p1 (.lst ((ts.drop j).map V.ref))) l = none := by
      by_cases e : l = it
      · rw [e]; exact hit
      · rw [upd_ne e] at hl; exact hl
    have s7 := s6.trans (same_new hl' (.lst ((ts.drop j).map V.ref).reverse))
    refine q l (ts.drop j).reverse (path.drop j).reverse _ (s5.trans s7) ⟨?_, ?_, fun m t x h1 h2 => ?_⟩ (W.ring hnd hj)
    · rw [upd_same, List.map_reverse]
    · rw [List.length_reverse, List.length_reverse, List.length_drop, List.length_drop, L.len]
    · have hm : m < (ts.drop j).length := by
        have := (List.getElem?_eq_some_iff.mp h1).1
        rwa [List.length_reverse] at this
      have hm2 : m < (path.drop j).length := by rw [List.length_drop, ← L.len, ← List.length_drop]; exact hm
      rw [List.getElem?_reverse hm, List.getElem?_drop] at h1
      rw [List.getElem?_reverse hm2, List.getElem?_drop, List.length_drop, ← L.len, ← List.length_drop] at h2
      exact s7 _ _ (L.at_ _ t x h1 h2)
  · rw [M.no c hc]
    refine iteT ?_
    obtain ⟨r1, hr1, t1, e1⟩ := W.hd c (by simp)
    have hbe : ∃ r ∈ rs, c ∈ r.tail := cnt_pos.mp (hcn r1 hr1 c t1 e1)
    refine ⟨fun σ' H' => ∃ m', m' < rs.length - ns.length ∧ ∃ (path : List Ln) (ns : List Str) (c : Str) (kvs : List (Key × V)) (ts : List Addr), σ' = [some (.ref ra), some (.ref la), some (.ref d), some (.ref pa), some (.str c)] ∧ Same H H' ∧ H' d = some (.dK kvs) ∧ MetAt kvs ns ∧ LeanAt H' pa ts path ∧ Way rs ls path ns c ∧ m' = rs.length - ns.length, fun σ' H' h => h, ?_⟩
    have hle := W.le
    have hkl := M.len
    -- met[name] = len(path)
    refine ⟨_, rfl, pa, _, rfl, .inl (SqL.of L.lst), _, rfl, _, rfl, d, _, rfl, DPut.k (k := Sum.inr c) ed (by rw [sizeLine_eq]; omega), ?_⟩
    have etl : (((ts.map V.ref).length : Nat) : Int) = ((ns.length : Nat) : Int) := by rw [List.length_map, L.len, hpl]
    rw [etl]
    have M2 := M.put hc
    have k6 : ∀ b o, b ≠ d → H5 b = some o → (upd H5 d (.dK (putK kvs (Sum.inr c : Key) (.int (ns.length : Nat))))) b = some o := fun b o hb e => by rw [upd_ne hb]; exact e
    have s6 : Same H (upd H5 d (.dK (putK kvs (Sum.inr c : Key) (.int (ns.length : Nat))))) := fun b o e => k6 b o (ne_of_none e hd) (s5 b o e)
    have L6 : LeanAt (upd H5 d (.dK (putK kvs (Sum.inr c : Key) (.int (ns.length : Nat))))) pa ts path := ⟨k6 _ _ npd L.lst, L.len, fun m t x h1 h2 => k6 _ _ (fun e => by have := L.at_ m t x h1 h2; rw [e, ed] at this; cases this) (L.at_ m t x h1 h2)⟩
    have ed6 := upd_same (H := H5) (a := d) (o := .dK (putK kvs (Sum.inr c : Key) (.int (ns.length : Nat))))
    generalize upd H5 d (.dK (putK kvs (Sum.inr c : Key) (.int (ns.length : Nat)))) = H6 at *
    -- path.append(leaning_against(name, rests, labels))
    refine ⟨_, rfl, .inl ⟨rfl, _, SqL.of L6.lst⟩, _, rfl, _, rfl, _, rfl, c, ra, la, as, rs, ls, rfl, R.same s6, s6 _ _ el, hll, hn, hbe, fun t a l H7 s7 et hl => ?_⟩
    have L7 := L6.same s7
    refine ⟨pa, _, _, rfl, rfl, L7.lst, by rw [List.length_map, L.len, hpl, sizeLine_eq]; omega, ?_⟩
    have em : ts.map V.ref ++ [V.ref t] = (ts ++ [t]).map V.ref := by rw [List.map_append]; rfl
    rw [em]
    have L8 := L7.snoc et
    have s8 : Same H (upd H7 pa (.lst ((ts ++ [t]).map V.ref))) := fun b o e => by rw [upd_ne (ne_of_none e hpa0)]; exact s7 _ _ (s6 b o e)
    have ed8 : (upd H7 pa (.lst ((ts ++ [t]).map V.ref))) d = some (.dK (putK kvs (Sum.inr c : Key) (.int (ns.length : Nat)))) := by rw [upd_ne (Ne.symm npd)]; exact s7 _ _ ed6
    -- name = path[-1][0]
    have lx : (upd H7 pa (.lst ((ts ++ [t]).map V.ref))) pa = some (.lst (ts.map V.ref ++ [V.ref t])) := by rw [L8.lst, ← em]
    have et8 : (upd H7 pa (.lst ((ts ++ [t]).map V.ref))) t = some (.tup (lnV (a, c, l))) := L8.at_ ts.length t _ (List.getElem?_concat_length) (by rw [L.len]; exact List.getElem?_concat_length)
    refine ⟨_, rfl, _, rfl, pa, _, _, _, rfl, rfl, SqL.of lx, atI_last _ _, t, _, _, _, rfl, rfl, SqT.of et8, atI_nat (j := 0) rfl, ?_⟩
    have W2 := W.step hc hl
    have hlt := W.lt hc ⟨a, l, hl⟩
    refine ⟨_, ?_, path ++ [(a, c, l)], ns ++ [c], a, _, ts ++ [t], rfl, s8, ed8, M2, L8, W2, rfl⟩
    rw [List.length_append, List.length_singleton]
    omega
end
end K3

set_option Elab.async false
set_option linter.all false
set_option maxRecDepth 100000
set_option maxHeartbeats 4000000
namespace K3
open PySem L2 Mg
/-! ### AtOdds -/
def inner (i j : Nat) : Stmt := match top i with
  | .ClassDef (body := b) .. => b.getD j (.Pass ⟨0, 0, 0, 0⟩)
  | _ => .Pass ⟨0, 0, 0, 0⟩
abbrev sInit : Stmt := inner 2 0
def spInit (K : PySem.W.Frag) : Sp := fun vs H Q _ => ∃ (x C : Addr) (bm : List Value) (t : Addr) (v : V), vs = [.ref x, v] ∧ H x = some (ExN x C none t) ∧ ExcC K C bm ∧ XFld K C "ring" ∧
  ∀ dx, H dx = none → dx ≠ x → Q .non (upd (upd H x (ExN x C (some dx) t)) dx (.xd [("ring", v)]))
/-- rows that are ends of rows -/
structure Ends (rows rs : List (List Str)) : Prop where
  len : rs.length = rows.length
  suf : ∀ (i : Nat) (r s : List Str), rows[i]? = some r → rs[i]? = some s → ∃ a, r = a ++ s
def spMerged (C : Addr) : Sp := fun vs H Q E => ∃ (ra la : Addr) (as : List Addr) (rows : List (List Str)) (ls : List Str), vs = [.ref ra, .ref la] ∧ RowsAt H ra as rows ∧ H la = some (.lst (sVs ls)) ∧ ls.length = rows.length ∧ tot rows ≤ 1000 ∧ rows.length ≤ 1000 ∧ (∀ r ∈ rows, r.Nodup) ∧
  (∀ (p : Addr) (found : List Str) (H' : Hp), H p = none → Same H H' → H' p = some (.lst (sVs found)) → Good rows found → (∀ r ∈ after rows found, r = []) → found.length ≤ 1000 → Q (.ref p) H') ∧
  ∀ (dx p : Addr) (ts : List Addr) (ring : List Ln) (rs : List (List Str)) (joined : List Str) (H' : Hp), Same H H' → H' dx = some (.xd [("ring", .ref p)]) → LeanAt H' p ts ring → Ends rows rs → RingOk rs ls ring → Good rows joined → pick (cnt (after rows joined)) (after rows joined) = none → (∃ r ∈ after rows joined, r ≠ []) → E (.ref C) (some dx) H'
theorem truL_rows {K : PySem.W.Frag} {H : Hp} {ps : List Addr} {rs : List (List Str)} {ra : Addr} (R : RowsAt H ra ps rs) : TruL K H (ps.map V.ref) (rs.map fun r => !r.isEmpty) := by
  have go : ∀ (ps : List Addr) (rs : List (List Str)), ps.length = rs.length → (∀ (i : Nat) (a : Addr) (r : List Str), ps[i]? = some a → rs[i]? = some r → H a = some (.lst (sVs r))) → TruL K H (ps.map V.ref) (rs.map fun r => !r.isEmpty) := by
    intro ps
    induction ps with
    | nil =>
      intro rs hl _
      cases rs with
      | nil => exact .nil
      | cons _ _ => cases hl
    | cons p ps ih =>
      intro rs hl h
      cases rs with
      | nil => cases hl
      | cons r rs =>
        refine .cons (.inl ⟨_, SqL.of (h 0 p r rfl rfl), ?_⟩) (ih rs (by simpa using hl) fun i a s h1 h2 => h (i + 1) a s h1 h2)
        cases r <;> rfl
  exact go ps rs R.len R.row
section
variable {P : Program} {w : World} {K : PySem.W.Frag} {mg : Str → Option Value} {base : Heap} {f fC fF fT fR fI C : Addr} {fd dC dF dT dR dI : FuncData} {bm : List Value}
theorem scInit : FnScope ["self", "ring"] ["self", "ring"] (defScope sInit) := ⟨rfl, rfl, rfl, by decide +kernel, rfl, by decide +kernel, by decide +kernel⟩
theorem ok_init (F : Fun K "__init__" "AtOdds.__init__" sInit f fd) : FnOk P w K mg base CX0 1 f fd ["self", "ring"] (spInit K) := by
  refine F.ok scInit (fun vs H Q E h => ?_) (fun cdv A outer s H vs Q E hr h => ?_)
  · obtain ⟨x, C, bm, t, v, rfl, _⟩ := h
    rfl
  obtain ⟨x, C, bm, t, v, rfl, hx, c, F', q⟩ := h
  exact ⟨_, pss_one (ps_xfld (pv 0) (pv 1)), _, rfl, _, rfl, x, C, bm, t, rfl, hx, c, F', q⟩
theorem rem_two {H : Hp} {x dx : Addr} {o o' u : HO} (hx : H x = none) (hd : dx ≠ x) : rem (upd (upd (upd H x o) x o') dx u) x = upd H dx u := by
  funext b
  by_cases e : b = x
  · subst e
    rw [rem_same, upd_ne (Ne.symm hd), hx]
  · rw [rem_ne e]
    by_cases e2 : b = dx
    · subst e2
      rw [upd_same, upd_same]
    · rw [upd_ne e2, upd_ne e2, upd_ne e, upd_ne e]
abbrev nMerged : List Str := ["rows", "labels", "starts", "behind", "joined", "name", "rests"]
theorem nd1 : (["row"] : List Str).Nodup := by decide +kernel
theorem nd2 : (["row", "start"] : List Str).Nodup := by decide +kernel
theorem iVs_zero (n : Nat) : (List.replicate n (V.int 0)) = iVs (List.replicate n 0) := by
  unfold iVs
  rw [List.map_replicate]
  rfl
theorem scMerged : FnScope ["rows", "labels", "starts", "behind", "joined", "name", "rests"] ["rows", "labels"] (defScope sMerged) := ⟨rfl, rfl, rfl, by decide +kernel, rfl, by decide +kernel, by decide +kernel⟩
theorem ok_merged (F : Fun K "merged" "merged" sMerged f fd) (T : Txt mg) (FC : Fun K "counts_behind" "counts_behind" sCounts fC dC) (bC : Binds K dC ["rows"] []) (mC : mg "counts_behind" = some (.ref fC))
    (FF : Fun K "free_name" "free_name" sFree fF dF) (bF : Binds K dF ["rows", "starts", "behind"] []) (mF : mg "free_name" = some (.ref fF))
    (FT : Fun K "take_out" "take_out" sTake fT dT) (bT : Binds K dT ["name", "rows", "starts", "behind"] []) (mT : mg "take_out" = some (.ref fT))
    (GR : FnOk P w K mg base CX0 2 fR dR ["rests", "labels"] spRing) (kR : PySem.W.keepIn K (.ref fR) = true) (bR : Binds K dR ["rests", "labels"] []) (mR : mg "ring_of" = some (.ref fR))
    (FI : Fun K "__init__" "AtOdds.__init__" sInit fI dI) (bI : Binds K dI ["self", "ring"] []) (mI : mg "AtOdds" = some (.ref C)) (hc : ExcC K C bm) (hf : XFld K C "ring") (hbase : bm.contains (.type "BaseException") = true)
    (hi : PySem.W.findIn K (.ref C) "__init__" = some (some (.ref fI))) (hfn : PySem.W.isFn K (.ref fI) = true) : FnOk P w K mg base (CXE P w) 3 f fd ["rows", "labels"] (spMerged C) := by
  have GC : FnOk P w K mg base CX0 1 fC dC ["rows"] spCounts := ok_counts FC T
  have GF : FnOk P w K mg base CX0 1 fF dF ["rows", "starts", "behind"] spFree := ok_free FF T
  have GT : FnOk P w K mg base CX0 1 fT dT ["name", "rows", "starts", "behind"] spTake := ok_take FT T
  have GI : FnOk P w K mg base CX0 1 fI dI ["self", "ring"] (spInit K) := ok_init FI
  refine F.okX scMerged (fun vs H Q E h => ?_) (fun cdv A outer s H vs Q E hr h => ?_)
  · obtain ⟨ra, la, as, rows, ls, rfl, _⟩ := h
    rfl
  obtain ⟨ra, la, as, rows, ls, rfl, R, el, hll, ht, hrl, hnd, q, qE⟩ := h
  have hr1 := hr.mono (j := 1) (by decide)
  refine ⟨_, pss_cons (ps_setcomp (i := 2) (defScope sMerged) nMerged ["row"] [] rfl scMerged.nd rfl rfl (pi_list (pv 0)) (own_name (i := 0) (by decide)) (fun _ _ _ _ _ _ => ⟨pg_name (i := 0) nd1 rfl (Or.inl rfl), pts_nil, pe_int⟩))
    (pss_cons (ps_set (i := 3) scMerged.nd rfl (Or.inl rfl) (pe_call GC hr1 rfl mC FC.kp bC .nil pass0 (pa_cons (pv 0) pa_nil)))
    (pss_cons (ps_set (i := 4) scMerged.nd rfl (Or.inl rfl) (pe_lst pa_nil))
    (pss_cons (ps_set (i := 5) scMerged.nd rfl (Or.inl rfl) (pe_call GF hr1 rfl mF FF.kp bF .nil pass0 (pa_cons (pv 0) (pa_cons (pv 2) (pa_cons (pv 3) pa_nil)))))
    (pss_cons (ps_while (Wx.passesOwn own_cx) (pt_cmp (pc_notN (pv 5)))
      (pss_cons (ps_expr (pe_bm PySem.F.plainAttrs_list PySem.F.slot_list_append PySem.F.type_list_append mt_append (pv 4) (pa_cons (pv 5) pa_nil)))
      (pss_cons (ps_expr (pe_call GT hr1 rfl mT FT.kp bT .nil pass0 (pa_cons (pv 5) (pa_cons (pv 0) (pa_cons (pv 2) (pa_cons (pv 3) pa_nil))))))
      (pss_one (ps_set (i := 5) scMerged.nd rfl (Or.inl rfl) (pe_call GF hr1 rfl mF FF.kp bF .nil pass0 (pa_cons (pv 0) (pa_cons (pv 2) (pa_cons (pv 3) pa_nil)))))))))
    (pss_cons (ps_setcomp (i := 6) (defScope sMerged) nMerged ["row", "start"] [] rfl scMerged.nd rfl rfl (pi_zip rfl T.zip (pa_cons (pv 0) (pa_cons (pv 2) pa_nil))) (own_tup (K := K) (owns_cons (own_name (i := 0) (by decide)) (owns_cons (own_name (i := 1) (by decide)) owns_nil)))
      (fun _ _ _ _ _ _ => ⟨pg_tup (n := 2) rfl (pgs_cons (pg_name (i := 0) nd2 rfl (Or.inl rfl)) (pgs_cons (pg_name (i := 1) nd2 rfl (Or.inl rfl)) pgs_nil)), pts_nil, pe_slice (r := rSlL K) sl_list (pv 0) (po_some (pv 1)) po_none⟩))
    (pss_cons (ps_if (pt_val (pe_callB (call_any rfl) rfl T.any boot_any' (pa_cons (pv 6) pa_nil)))
      (pss_one (ps_raiseI rfl hc hbase hi hfn GI hr bI rfl mI (pa_cons (pe_call GR hr rfl mR kR bR .nil pass0 (pa_cons (pv 6) (pa_cons (pv 1) pa_nil))) pa_nil))) pss_nil)
    (pss_one (ps_ret (pv 4))))))))), ?_⟩
  -- starts = [0 for row in rows]
  refine ⟨_, rfl, ra, rfl, ⟨_, SqL.of R.lst⟩, turns_list0 (K := K) (a := ra) (xs := as.map V.ref) (fun i ys H2 => H2 = H ∧ ys = List.replicate i (V.int 0)) ⟨rfl, rfl⟩ (fun i ys H2 _ h => by rw [h.1]; exact SqL.of R.lst) ?_ ?_⟩
  · rintro i y ys H2 hi ⟨rfl, rfl⟩
    refine ⟨?_, rfl, ?_⟩
    · have hi' := (List.getElem?_eq_some_iff.mp hi).1
      rw [List.length_map, R.len] at hi'
      rw [List.length_replicate, sizeLine_eq]
      omega
    · exact List.replicate_succ'.symm
  rintro ys H2 ⟨rfl, rfl⟩ sa hsa
  rw [List.length_map, R.len, iVs_zero]
  have s1 : Same H2 (upd H2 sa (.lst (iVs (List.replicate rows.length 0)))) := same_new hsa _
  -- behind = counts_behind(rows)
  refine ⟨_, rfl, ra, as, rows, rfl, R.same s1, by omega, fun ba kvs H3 hba s2 eb B hl => ?_⟩
  -- joined = []
  refine ⟨(by show 0 ≤ sizeLine; decide), fun ja hja => ?_⟩
  have s3 : Same H3 (upd H3 ja (.lst [])) := same_new hja _
  have hsa3 : H3 sa = some (.lst (iVs (List.replicate rows.length 0))) := s2 _ _ upd_same
  have n_sj : sa ≠ ja := ne_of_none hsa3 hja
  have n_bj : ba ≠ ja := ne_of_none eb hja
  have n_sb : sa ≠ ba := ne_of hsa3 eb (by intro z; cases z)
  have st0 : StAt (upd H3 ja (.lst [])) rows sa ba (List.replicate rows.length 0) kvs := ⟨s3 _ _ hsa3, List.length_replicate, s3 _ _ eb⟩
  have sH : Same H2 (upd H3 ja (.lst [])) := s1.trans (s2.trans s3)
  have hba2 : H2 ba = none := s1.free hba
  have hja2 : H2 ja = none := s1.free (s2.free hja)
  have nsr : sa ≠ ra := Ne.symm (ne_of_none R.lst hsa)
  have nsa : ∀ a ∈ as, a ≠ sa := fun a ha => by
    obtain ⟨i, hi⟩ := List.getElem?_of_mem ha
    obtain ⟨r, _, er⟩ := R.get hi
    exact ne_of_none er hsa
  -- name = free_name(rows, starts, behind)
  refine ⟨_, rfl, _, rfl, _, rfl, ra, sa, ba, as, rows, _, kvs, cnt rows, rfl, R.same sH, st0, B, fun H4 s4 => ?_⟩
  rw [rests_zero]
  have hb0 : ∀ (i : Nat) (r : List Str) (m : Nat), rows[i]? = some r → (List.replicate rows.length 0)[i]? = some m → m ≤ r.length := fun i r m _ h2 => by
    rw [List.getElem?_replicate] at h2
    split at h2
    · cases h2; exact Nat.zero_le _
    · cases h2
  -- while name is not None
  refine ⟨fun m σ H5 => ∃ (joined : List Str) (st : List Nat) (kvs : List (Key × V)) (v6 : Option V), σ = [some (.ref ra), some (.ref la), some (.ref sa), some (.ref ba), some (.ref ja), some (nameV (pick (cnt (rests rows st)) (rests rows st))), v6] ∧
      Same H2 H5 ∧ H5 ja = some (.lst (sVs joined)) ∧ StAt H5 rows sa ba st kvs ∧ (∀ (i : Nat) (r : List Str) (m : Nat), rows[i]? = some r → st[i]? = some m → m ≤ r.length) ∧ Beh kvs (cnt (rests rows st)) ∧ kvs.length ≤ 1000 ∧
      (rests rows st = after rows joined ∧ Good rows joined) ∧ m = tot (rests rows st) ∧ joined.length + tot (rests rows st) ≤ tot rows,
    ⟨_, [], List.replicate rows.length 0, kvs, none, by rw [rests_zero]; rfl, sH.trans s4, s4 _ _ upd_same, ⟨s4 _ _ st0.lst, st0.len, s4 _ _ st0.dic⟩, hb0, by rw [rests_zero]; exact B, by omega, by rw [rests_zero]; exact ⟨rfl, good_nil _⟩, rfl, by rw [rests_zero]; simp⟩, ?_⟩
  rintro m σ H5 ⟨joined, st, kvs, v6, rfl, s5, ej, S, hb, B, hl, ⟨e1, e2⟩, rfl, hj⟩
  refine ⟨_, rfl, _, rfl, ?_⟩
  cases hp : pick (cnt (rests rows st)) (rests rows st) with
  | some x =>
    refine iteT ?_
    obtain ⟨hx0, r0, hr0, t0, er0⟩ := pick_mem hp
    have hlt : tot ((rests rows st).map (drop1 x)) < tot (rests rows st) := tot_drop_lt (by rw [← er0]; exact hr0)
    refine ⟨fun σ' H' => ∃ m', m' < tot (rests rows st) ∧ ∃ (joined : List Str) (st : List Nat) (kvs : List (Key × V)) (v6 : Option V), σ' = [some (.ref ra), some (.ref la), some (.ref sa), some (.ref ba), some (.ref ja), some (nameV (pick (cnt (rests rows st)) (rests rows st))), v6] ∧
      Same H2 H' ∧ H' ja = some (.lst (sVs joined)) ∧ StAt H' rows sa ba st kvs ∧ (∀ (i : Nat) (r : List Str) (m : Nat), rows[i]? = some r → st[i]? = some m → m ≤ r.length) ∧ Beh kvs (cnt (rests rows st)) ∧ kvs.length ≤ 1000 ∧
      (rests rows st = after rows joined ∧ Good rows joined) ∧ m' = tot (rests rows st) ∧ joined.length + tot (rests rows st) ≤ tot rows, fun σ' H' h => h, ?_⟩
    -- joined.append(name)
    refine ⟨_, rfl, .inl ⟨rfl, _, SqL.of ej⟩, _, rfl, ja, _, _, rfl, rfl, ej, by rw [sVs_len, sizeLine_eq]; omega, ?_⟩
    have ejx : sVs joined ++ [V.str x] = sVs (joined ++ [x]) := by unfold sVs; rw [List.map_append]; rfl
    have hup : ∀ b o, b ≠ ja → H5 b = some o → (upd H5 ja (.lst (sVs joined ++ [V.str x]))) b = some o := fun b o hne e => by rw [upd_ne hne]; exact e
    have s6 : Same H2 (upd H5 ja (.lst (sVs joined ++ [V.str x]))) := fun b o e => hup b o (ne_of_none e hja2) (s5 b o e)
    -- take_out(name, rows, starts, behind)
    refine ⟨_, rfl, _, rfl, _, rfl, _, rfl, x, ra, sa, ba, as, rows, st, kvs, rfl, R.same s6, ⟨hup _ _ n_sj S.lst, S.len, hup _ _ n_bj S.dic⟩, hb, B, by omega, nsr, nsa, fun st' kvs' H6 S6 h6 hb6 B6 hl6 k6 => ?_⟩
    have s7 : Same H2 H6 := fun b o e => k6 b o (s6 b o e) (ne_of_none e hsa) (ne_of_none e hba2)
    -- name = free_name(rows, starts, behind)
    refine ⟨_, rfl, _, rfl, _, rfl, ra, sa, ba, as, rows, st', kvs', _, rfl, R.same s7, S6, B6, fun H7 s8 => ?_⟩
    refine ⟨_, ?_, joined ++ [x], st', kvs', v6, rfl, s7.trans s8, s8 _ _ ?_, ⟨s8 _ _ S6.lst, S6.len, s8 _ _ S6.dic⟩, hb6, B6, by omega, ⟨?_, ?_⟩, rfl, ?_⟩
    · rw [h6]; exact hlt
    · rw [← ejx]
      exact k6 _ _ upd_same (Ne.symm n_sj) (Ne.symm n_bj)
    · rw [h6, e1, after_snoc]
    · rw [e1] at hp
      exact good_snoc e2 hp
    · rw [h6, List.length_append, List.length_singleton]; omega
  | none =>
    refine iteF ?_
    -- rests = [row[start:] for row, start in zip(rows, starts)]
    have R5 := R.same s5
    have hrl2 : (rests rows st).length = rows.length := rests_length S.len
    refine ⟨_, rfl, _, rfl, ra, sa, rfl, ⟨_, SqL.of R5.lst⟩, ⟨_, SqL.of S.lst⟩, turns_zip0 (K := K) (a := ra) (b := sa) (xs := as.map V.ref) (zs := iVs st) (by rw [List.length_map, iVs_len, S.len, R.len])
      (fun i ys H6 => Same H5 H6 ∧ ∃ ps : List Addr, ys = ps.map V.ref ∧ ps.length = i ∧ ∀ (j : Nat) (p : Addr) (r : List Str), ps[j]? = some p → (rests rows st)[j]? = some r → H6 p = some (.lst (sVs r))) ⟨Same.refl _, [], rfl, rfl, fun j p r h => by simp at h⟩ (fun i ys H6 _ h => ⟨SqL.of (h.1 _ _ R5.lst), SqL.of (h.1 _ _ S.lst)⟩) ?_ ?_⟩
    · rintro i y z ys H6 Tp hy hz ⟨s6, ps, rfl, hps, hpl⟩ hT
      obtain ⟨a, ha, rfl⟩ := refs_get hy
      obtain ⟨j, hj', rfl⟩ := iVs_get hz
      obtain ⟨r, hr', er⟩ := R5.get ha
      have s9 : Same H5 (upd H6 Tp (.tup [.ref a, .int j])) := s6.trans (same_new hT _)
      refine ⟨Tp, _, rfl, SqT.of upd_same, rfl, _, _, rfl, _, _, rfl, rfl, ?_⟩
      refine ⟨_, rfl, _, rfl, _, rfl, a, _, rfl, SqL.of (s9 _ _ er), fun p hp' => ?_⟩
      have hc' : cutV (sVs r) (some (j : Int)) none = sVs (r.drop j) := by
        rw [cutFrom _ _ (by rw [sVs_len]; exact hb i r j hr' hj')]
        unfold sVs
        rw [← List.map_drop]
      rw [hc']
      refine ⟨?_, s9.trans (same_new hp' _), ps ++ [p], by rw [List.map_append]; rfl, by rw [List.length_append, hps]; rfl, fun j' p' r' hp2 hr2 => ?_⟩
      · have := (List.getElem?_eq_some_iff.mp hr').1
        rw [List.length_map, hps, sizeLine_eq]
        omega
      · by_cases hj2 : j' < ps.length
        · rw [List.getElem?_append_left hj2] at hp2
          have e := same_new hT (.tup [.ref a, .int j]) _ _ (hpl j' p' r' hp2 hr2)
          exact same_new hp' _ _ _ e
        · have hjl : j' < (ps ++ [p]).length := (List.getElem?_eq_some_iff.mp hp2).1
          rw [List.length_append, List.length_singleton] at hjl
          obtain rfl : j' = ps.length := by omega
          rw [List.getElem?_concat_length] at hp2
          cases hp2
          rw [hps, rests_get hr' hj'] at hr2
          cases hr2
          exact upd_same
    · rintro ys H6 ⟨s6, ps, rfl, hps, hpl⟩ qa hqa
      -- if any(rests)
      have s9 := same_new (H := H6) hqa (.lst (ps.map V.ref))
      have Rq : RowsAt (upd H6 qa (.lst (ps.map V.ref))) qa ps (rests rows st) := ⟨upd_same, by rw [hps, List.length_map, R.len, hrl2], fun i a r h1 h2 => s9 _ _ (hpl i a r h1 h2)⟩
      refine ⟨_, rfl, qa, _, _, rfl, SqL.of upd_same, truL_rows Rq, _, rfl, ?_⟩
      have sAll : Same H2 (upd H6 qa (.lst (ps.map V.ref))) := s5.trans (s6.trans s9)
      refine ite2 (fun c => ?_) (fun c => ?_)
      · -- raise AtOdds(ring_of(rests, labels))
        obtain ⟨k, hk, ek⟩ := List.any_eq_true.mp c
        obtain ⟨r1, hr1', er1⟩ := List.mem_map.mp hk
        have hsuf : Ends rows (rests rows st) := ⟨hrl2, fun i r s h1 h2 => by
          have hil : i < st.length := by rw [S.len]; exact (List.getElem?_eq_some_iff.mp h1).1
          rw [rests_get h1 (List.getElem?_eq_getElem hil)] at h2
          cases h2
          exact ⟨r.take st[i], (List.take_append_drop _ _).symm⟩⟩
        have hne1 : r1 ≠ [] := fun e => by rw [e] at er1; rw [← er1] at ek; cases ek
        refine ⟨_, rfl, _, rfl, qa, la, ps, rests rows st, ls, rfl, Rq, sAll _ _ el, by rw [hll, hrl2], by omega, ⟨r1, hr1', hne1⟩, fun r hr' => ?_, fun r hr' x t e => pick_none hp r hr' x t e, fun p ts ring H7 s10 L hring => ?_⟩
        · obtain ⟨i, hi'⟩ := List.getElem?_of_mem hr'
          have hil : i < rows.length := by rw [← hrl2]; exact (List.getElem?_eq_some_iff.mp hi').1
          obtain ⟨a, ea⟩ := hsuf.suf i _ _ (List.getElem?_eq_getElem hil) hi'
          have := hnd _ (List.getElem_mem hil)
          rw [ea, List.nodup_append] at this
          exact this.2.1
        · refine ⟨by show 1 ≤ sizeLine; decide, fun x tt hx => ⟨x, C, bm, tt, .ref p, rfl, upd_same, hc, hf, fun dx hdx hne => ⟨rfl, some dx, by rw [upd_ne (Ne.symm hne), upd_same], ?_⟩⟩⟩
          rw [rem_two hx hne]
          have hdx' : H7 dx = none := by rw [upd_ne hne] at hdx; exact hdx
          have s11 := same_new hdx' (.xd [("ring", .ref p)])
          exact qE dx p ts ring (rests rows st) joined _ (sAll.trans (s10.trans s11)) upd_same (L.same s11) hsuf hring e2 (by rw [← e1]; exact hp) ⟨r1, by rw [← e1]; exact hr1', hne1⟩
      · -- return joined
        refine ⟨_, rfl, q ja joined _ hja2 sAll (s9 _ _ (s6 _ _ ej)) e2 (fun r hr' => ?_) (by omega)⟩
        rw [← e1] at hr'
        cases r with
        | nil => rfl
        | cons x t => exact absurd (List.any_eq_true.mpr ⟨true, List.mem_map.mpr ⟨_, hr', rfl⟩, rfl⟩) c
end
end K3

set_option Elab.async false
set_option linter.all false
set_option maxRecDepth 100000
set_option maxHeartbeats 4000000
namespace K3
open PySem L2 Mg
/-! ### the law's own helpers -/
def spCell (K : PySem.W.Frag) : Sp := fun vs H Q _ => ∃ (a : Addr) (ns : List Int) (k : Nat), vs = [.ref a, .int (k : Int)] ∧ SqL K H a (ns.map V.int) ∧ Q (.int (ns.getD k 0)) H
def letters : Str := "abcdefghijklmnopqrstuvwxyz"
def fill (c : Int) : Str := Txt.slice (letters ++ letters) (some (c % 26)) (some (c % 26 + c / 26 % 19))
def place (c : Int) : Int := c / 494 % (((fill c).length : Int) + 1)
def sign (k : Int) : Str := ⟨#[97 + k.toNat]⟩
def nameBy (k c : Int) : Str := Txt.slice (fill c) none (some (place c)) ++ sign (k / 26 % 26) ++ sign (k % 26) ++ Txt.slice (fill c) (some (place c)) none
def spName : Sp := fun vs H Q _ => ∃ k c : Int, vs = [.int k, .int c] ∧ Q (.str (nameBy k c)) H
theorem letters_len : letters.length = 26 := by decide +kernel
theorem letters_cps : letters.cps.toList = (List.range 26).map (97 + ·) := by decide +kernel
theorem letter_at {i : Int} (h0 : 0 ≤ i) (h1 : i < 26) : atI letters.cps.toList i = some (97 + i.toNat) := by
  obtain ⟨n, rfl⟩ := Int.eq_ofNat_of_zero_le h0
  refine atI_nat ?_
  rw [letters_cps, List.getElem?_map, List.getElem?_range (by omega)]
  simp
theorem len_app (a b : Str) : (a ++ b).length = a.length + b.length := by
  show (a.cps ++ b.cps).size = _
  rw [Array.size_append]
  rfl
theorem fill_len (c : Int) : (fill c).length ≤ 52 := by
  have h := Txt.slice_le (letters ++ letters) (some (c % 26)) (some (c % 26 + c / 26 % 19))
  rw [len_app, letters_len] at h
  exact h
theorem sl52 : (52 : Nat) ≤ sizeLine := by rw [sizeLine_eq]; decide
theorem app_list (a b : Str) : (a ++ b).cps.toList = a.cps.toList ++ b.cps.toList := by
  show (a.cps ++ b.cps).toList = _
  rw [Array.toList_append]
theorem name_inj {k j c : Int} (h0 : 0 ≤ k) (h1 : k < 676) (h2 : 0 ≤ j) (h3 : j < 676) (h : nameBy k c = nameBy j c) : k = j := by
  have e := congrArg (fun x : Str => x.cps.toList) h
  simp only [nameBy, app_list, sign] at e
  rw [List.append_assoc, List.append_assoc, List.append_assoc, List.append_assoc] at e
  have e2 := List.append_cancel_left e
  have e3 : (97 + (k / 26 % 26).toNat) = (97 + (j / 26 % 26).toNat) ∧ (97 + (k % 26).toNat) = (97 + (j % 26).toNat) := by
    simpa using e2
  omega
section
variable {P : Program} {w : World} {K : PySem.W.Frag} {mg : Str → Option Value} {base : Heap} {f : Addr} {fd : FuncData}
theorem scCell : FnScope ["_law_script", "_law_k"] ["_law_script", "_law_k"] (defScope sCell) := ⟨rfl, rfl, rfl, by decide +kernel, rfl, by decide +kernel, by decide +kernel⟩
theorem ok_cell (F : Fun K "_law_cell_at" "_law_cell_at" sCell f fd) (T : Txt mg) : FnOk P w K mg base CX0 1 f fd ["_law_script", "_law_k"] (spCell K) := by
  refine F.ok scCell (fun vs H Q E h => ?_) (fun cdv A outer s H vs Q E hr h => ?_)
  · obtain ⟨a, ns, k, rfl, _⟩ := h
    rfl
  obtain ⟨a, ns, k, rfl, S, q⟩ := h
  refine ⟨_, pss_cons (ps_if (pt_cmpR op_lt (pv 1) (pe_callB call_len_seq rfl T.len PySem.boot_len (pa_cons (pv 0) pa_nil)) (nomark _)) (pss_one (ps_ret (pe_ix ix_list (pv 0) (pv 1) (fun _ _ => rfl)))) pss_nil) (pss_one (ps_ret pe_int)), ?_⟩
  refine ⟨_, rfl, _, rfl, a, _, rfl, .inl S, _, _, rfl, rfl, _, rfl, ?_⟩
  refine ite2 (fun c => ?_) (fun c => ?_)
  · have c' : (k : Int) < ((ns.map V.int).length : Int) := of_decide_eq_true c
    rw [List.length_map] at c'
    have c2 : k < ns.length := by omega
    refine ⟨_, rfl, _, rfl, a, _, _, _, rfl, rfl, S, atI_nat (v := .int ns[k]) (by rw [List.getElem?_map, List.getElem?_eq_getElem c2] <;> rfl), ?_⟩
    have e : ns.getD k 0 = ns[k] := by rw [List.getD_eq_getElem?_getD, List.getElem?_eq_getElem c2]; rfl
    rw [e] at q
    exact q
  · have c' : ¬ (k : Int) < ((ns.map V.int).length : Int) := of_decide_eq_false (Bool.eq_false_iff.mpr c)
    rw [List.length_map] at c'
    have e : ns.getD k 0 = 0 := by rw [List.getD_eq_getElem?_getD, List.getElem?_eq_none (by omega)]; rfl
    rw [e] at q
    exact q

theorem scName : FnScope ["_law_k", "_law_cell", "_law_letters", "_law_fill", "_law_place"] ["_law_k", "_law_cell"] (defScope sName) := ⟨rfl, rfl, rfl, by decide +kernel, rfl, by decide +kernel, by decide +kernel⟩
theorem ok_name (F : Fun K "_law_name_by" "_law_name_by" sName f fd) (T : Txt mg) : FnOk P w K mg base CX0 1 f fd ["_law_k", "_law_cell"] spName := by
  refine F.ok scName (fun vs H Q E h => ?_) (fun cdv A outer s H vs Q E hr h => ?_)
  · obtain ⟨k, c, rfl, _⟩ := h
    rfl
  obtain ⟨k, c, rfl, q⟩ := h
  refine ⟨_, pss_cons (ps_set (i := 2) scName.nd rfl (Or.inl rfl) pe_str)
    (pss_cons (ps_set (i := 3) scName.nd rfl (Or.inl rfl) (pe_slice sl_str (pe_op op_add_str (pv 2) (pv 2)) (po_some (pe_op op_mod (pv 1) pe_int)) (po_some (pe_op op_add (pe_op op_mod (pv 1) pe_int) (pe_op op_mod (pe_op op_fdiv (pv 1) pe_int) pe_int)))))
    (pss_cons (ps_set (i := 4) scName.nd rfl (Or.inl rfl) (pe_op op_mod (pe_op op_fdiv (pv 1) pe_int) (pe_op op_add (pe_callB call_len_str rfl T.len PySem.boot_len (pa_cons (pv 3) pa_nil)) pe_int)))
    (pss_one (ps_ret (pe_op op_add_str (pe_op op_add_str (pe_op op_add_str (pe_slice sl_str (pv 3) po_none (po_some (pv 4))) (pe_ix ix_str (pv 2) (pe_op op_mod (pe_op op_fdiv (pv 0) pe_int) pe_int) (fun _ _ => rfl))) (pe_ix ix_str (pv 2) (pe_op op_mod (pv 0) pe_int) (fun _ _ => rfl))) (pe_slice sl_str (pv 3) (po_some (pv 4)) po_none)))))), ?_⟩
  have ll := letters_len
  have l52 := sl52
  have fl := fill_len c
  have lz : letters.length ≤ sizeLine := by omega
  refine ⟨_, rfl, _, rfl, letters, letters, rfl, rfl, by omega, ?_⟩
  refine ⟨_, rfl, _, _, rfl, rfl, (by show (0 : Int) < 26; decide), _, rfl, ?_⟩
  refine ⟨_, rfl, _, _, rfl, rfl, (by show (0 : Int) < 26; decide), _, rfl, _, _, rfl, rfl, ⟨by decide, by decide⟩, _, _, rfl, rfl, (by show (0 : Int) < 19; decide), _, _, rfl, rfl, _, rfl, ?_⟩
  refine ⟨_, rfl, by rw [len_app]; omega, ?_⟩
  refine ⟨_, rfl, _, _, rfl, rfl, ⟨by decide, by decide⟩, _, rfl, fill c, rfl, by omega, _, _, rfl, rfl, _, _, rfl, rfl, (by show (0 : Int) < ((fill c).length : Int) + 1; omega), ?_⟩
  have z1 : (Txt.slice (fill c) none (some (place c))).length ≤ 52 := Nat.le_trans (Txt.slice_le _ _ _) fl
  have z2 : (Txt.slice (fill c) (some (place c)) none).length ≤ 52 := Nat.le_trans (Txt.slice_le _ _ _) fl
  have zs : ∀ i : Int, (sign i).length = 1 := fun i => rfl
  have zl : (200 : Nat) ≤ sizeLine := by rw [sizeLine_eq]; decide
  refine ⟨_, rfl, _, rfl, _, rfl, fill c, rfl, by omega, ?_⟩
  refine ⟨_, rfl, _, rfl, _, _, rfl, rfl, ⟨by decide, by decide⟩, _, _, rfl, rfl, (by show (0 : Int) < 26; decide), letters, _, _, rfl, rfl, lz, letter_at (Int.emod_nonneg _ (by decide)) (Int.emod_lt_of_pos _ (by decide)), ?_⟩
  refine ⟨_, sign (k / 26 % 26), rfl, rfl, by rw [zs]; exact Nat.le_trans (Nat.add_le_add_right z1 1) (by omega), ?_⟩
  refine ⟨_, rfl, _, rfl, _, _, rfl, rfl, (by show (0 : Int) < 26; decide), letters, _, _, rfl, rfl, lz, letter_at (Int.emod_nonneg _ (by decide)) (Int.emod_lt_of_pos _ (by decide)), ?_⟩
  have z1' : (Txt.slice (fill c) none (some (c / 494 % (((fill c).length : Int) + 1)))).length ≤ 52 := z1
  have z2' : (Txt.slice (fill c) (some (c / 494 % (((fill c).length : Int) + 1))) none).length ≤ 52 := z2
  refine ⟨_, sign (k % 26), rfl, rfl, by rw [len_app, zs, zs]; omega, ?_⟩
  refine ⟨_, rfl, _, rfl, _, rfl, fill c, rfl, by omega, ?_⟩
  refine ⟨_, _, rfl, rfl, by rw [len_app, len_app, zs, zs]; omega, ?_⟩
  exact q

theorem kit_self (K : PySem.W.Frag) (n : String) : PySem.W.kitOne K (.type n) (.type n) = some true := by
  unfold PySem.W.kitOne
  exact if_pos (by simp)
end
end K3

set_option Elab.async false
set_option linter.all false
set_option maxRecDepth 100000
set_option maxHeartbeats 4000000
namespace K3
open PySem L2 Mg
theorem inC (y : Str) (zs : List Str) : inV (.str y) (sVs zs) = decide (y ∈ zs) := by
  unfold inV sVs
  rw [List.any_map]
  by_cases hy : y ∈ zs
  · rw [decide_eq_true hy, List.any_eq_true]
    exact ⟨y, hy, by show (y == y) = true; exact beq_self_eq_true y⟩
  · rw [decide_eq_false hy, List.any_eq_false]
    intro z hz e
    have e' : (z == y) = true := e
    exact hy (beq_iff_eq.mp e' ▸ hz)
theorem flatS (zs : List Str) : (sVs zs).all flatV = true := by
  unfold sVs
  rw [List.all_map, List.all_eq_true]
  intro z _
  rfl
theorem tailS (r : List Str) : (sVs r).tail = sVs r.tail := by unfold sVs; rw [List.map_tail]
theorem truL_bools {K : PySem.W.Frag} {H : Hp} : ∀ ks : List Bool, TruL K H (ks.map V.bl) ks
  | [] => .nil
  | k :: ks => .cons rfl (truL_bools ks)
def spTexts : Sp := fun vs H Q _ => ∃ (a : Addr) (xs : List Str), vs = [.ref a] ∧ H a = some (.lst (sVs xs)) ∧ xs.length ≤ 1000 ∧ ∀ H', Same H H' → Q (.bl true) H'
def spBehind : Sp := fun vs H Q _ => ∃ (ra : Addr) (as : List Addr) (rs : List (List Str)) (x : Str), vs = [.ref ra, .str x] ∧ RowsAt H ra as rs ∧ rs.length ≤ 1000 ∧ ∀ H', Same H H' → Q (.bl (decide (cnt rs x ≠ 0))) H'
section
variable {P : Program} {w : World} {K : PySem.W.Frag} {mg : Str → Option Value} {base : Heap} {f fB fT : Addr} {fd dB dT : FuncData}
theorem ndo1 : (["_law_one"] : List Str).Nodup := by decide +kernel
theorem scTexts : FnScope ["_law_found"] ["_law_found"] (defScope sTexts) := ⟨rfl, rfl, rfl, by decide +kernel, rfl, by decide +kernel, by decide +kernel⟩
theorem ok_texts (F : Fun K "_law_texts" "_law_texts" sTexts f fd) (T : Txt mg) : FnOk P w K mg base CX0 1 f fd ["_law_found"] spTexts := by
  refine F.ok scTexts (fun vs H Q E h => ?_) (fun cdv A outer s H vs Q E hr h => ?_)
  · obtain ⟨a, xs, rfl, _⟩ := h
    rfl
  obtain ⟨a, xs, rfl, ea, hx, q⟩ := h
  refine ⟨_, pss_one (ps_ret (pe_and (pe_callB call_isinst rfl T.isi PyProof.Rows.boot_isinstance (pa_cons (pv 0) (pa_cons (pe_bltn (v := .ty "list") rfl T.list PyProof.Rows.boot_list rfl) pa_nil)))
    (pe_one (pe_callB (call_all rfl) rfl T.all boot_all' (pa_cons (pe_comp (defScope sTexts) ["_law_found"] ["_law_one"] [] rfl (pi_list (pv 0)) (own_name (i := 0) (by decide)) (fun _ _ _ _ _ _ => ⟨pg_name (i := 0) ndo1 rfl (Or.inl rfl), pts_nil,
      pe_callB (call_isiK (K := K)) rfl T.isi PyProof.Rows.boot_isinstance (pa_cons (pv 0) (pa_cons (pe_bltn (v := .ty "str") rfl T.str PyProof.Rows.boot_str rfl) pa_nil))⟩)) pa_nil))))), ?_⟩
  refine ⟨_, rfl, _, _, _, _, rfl, .lst ea, kit_self K "list", _, rfl, iteT ?_⟩
  refine ⟨_, rfl, a, rfl, ⟨_, SqL.of ea⟩, turns_list0 (K := K) (a := a) (xs := sVs xs) (fun i ys H2 => H2 = H ∧ ys = (List.replicate i true).map V.bl) ⟨rfl, rfl⟩ (fun i ys H2 _ h => by rw [h.1]; exact SqL.of ea) ?_ ?_⟩
  · rintro i y ys H2 hi ⟨rfl, rfl⟩
    have hil := (List.getElem?_eq_some_iff.mp hi).1
    rw [sVs_len] at hil
    obtain ⟨x, hx', rfl⟩ := sVs_get hi
    refine ⟨_, rfl, _, _, _, _, rfl, .str _, kit_self K "str", ?_, rfl, ?_⟩
    · rw [List.length_map, List.length_replicate, sizeLine_eq]
      omega
    · rw [List.replicate_succ', List.map_append]
      rfl
  · rintro ys H2 ⟨rfl, rfl⟩ p hp
    refine ⟨p, _, _, rfl, SqL.of upd_same, truL_bools _, ?_⟩
    have e : (List.replicate (sVs xs).length true).all id = true := by
      rw [List.all_eq_true]
      intro k hk
      exact (List.mem_replicate.mp hk).2
    rw [e]
    exact q _ (same_new hp _)
theorem ndb : (["_law_row", "_law_name"] : List Str).Nodup := by decide +kernel
theorem scBehind : FnScope ["_law_rows", "_law_name"] ["_law_rows", "_law_name"] (defScope sBehind) := ⟨rfl, rfl, rfl, by decide +kernel, rfl, by decide +kernel, by decide +kernel⟩
theorem any_cnt (rs : List (List Str)) (x : Str) : (rs.map fun r => decide (x ∈ r.tail)).any id = decide (cnt rs x ≠ 0) := by
  by_cases h : cnt rs x = 0
  · rw [decide_eq_false (by simp [h]), List.any_eq_false]
    intro k hk
    obtain ⟨r, hr, e⟩ := List.mem_map.mp hk
    rw [← e]
    have := cnt_zero.mp h r hr
    simp [this]
  · rw [decide_eq_true h, List.any_eq_true]
    obtain ⟨r, hr, hx⟩ := cnt_pos.mp h
    exact ⟨true, List.mem_map.mpr ⟨r, hr, decide_eq_true hx⟩, rfl⟩
theorem ok_behind (F : Fun K "_law_behind" "_law_behind" sBehind f fd) (T : Txt mg) : FnOk P w K mg base CX0 1 f fd ["_law_rows", "_law_name"] spBehind := by
  refine F.ok scBehind (fun vs H Q E h => ?_) (fun cdv A outer s H vs Q E hr h => ?_)
  · obtain ⟨ra, as, rs, x, rfl, _⟩ := h
    rfl
  obtain ⟨ra, as, rs, x, rfl, R, hn, q⟩ := h
  refine ⟨_, pss_one (ps_ret (pe_callB (call_any rfl) rfl T.any boot_any' (pa_cons (pe_comp (defScope sBehind) ["_law_rows", "_law_name"] ["_law_row"] [("_law_name", 1)] rfl (pi_list (pv 0)) (own_name (i := 0) (by decide)) (fun _ _ _ _ _ _ => ⟨pg_name (i := 0) ndb rfl (Or.inl rfl), pts_nil,
      pe_cmpR (op_inK (K := K)) (pv 1) (pe_slice (sl_listK (K := K)) (pv 0) (po_some pe_int) po_none) rfl⟩)) pa_nil))), ?_⟩
  refine ⟨_, rfl, ra, rfl, ⟨_, SqL.of R.lst⟩, turns_list0 (K := K) (a := ra) (xs := as.map V.ref) (fun i ys H2 => Same H H2 ∧ ys = ((rs.take i).map fun r => decide (x ∈ r.tail)).map V.bl) ⟨Same.refl _, rfl⟩ (fun i ys H2 _ h => SqL.of (h.1 _ _ R.lst)) ?_ ?_⟩
  · rintro i y ys H2 hi ⟨s2, rfl⟩
    obtain ⟨a, ha, rfl⟩ := refs_get hi
    obtain ⟨r, hr', er⟩ := R.get ha
    have hil : i < rs.length := (List.getElem?_eq_some_iff.mp hr').1
    refine ⟨_, rfl, _, rfl, _, rfl, a, _, rfl, SqL.of (s2 _ _ er), fun p hp => ?_⟩
    rw [cut1, tailS]
    refine ⟨p, _, rfl, .inl (SqL.of upd_same), rfl, flatS _, ?_, s2.trans (same_new hp _), ?_⟩
    · rw [List.length_map, List.length_map, List.length_take, sizeLine_eq]
      omega
    · rw [List.take_add_one, hr', inC, List.map_append, List.map_append]
      rfl
  · rintro ys H2 ⟨s2, rfl⟩ p hp
    have hlen : (as.map V.ref).length = rs.length := by rw [List.length_map, R.len]
    rw [hlen, List.take_of_length_le (Nat.le_refl _)]
    refine ⟨p, _, _, rfl, SqL.of upd_same, truL_bools _, ?_⟩
    rw [any_cnt]
    exact q _ (s2.trans (same_new hp _))
end
end K3

set_option Elab.async false
set_option linter.all false
set_option maxRecDepth 100000
set_option maxHeartbeats 4000000
namespace K3
open PySem L2 Mg
def spRowR : Sp := fun vs H Q _ => ∃ (ra fa : Addr) (as : List Addr) (rows : List (List Str)) (found : List Str), vs = [.ref ra, .ref fa] ∧ RowsAt H ra as rows ∧ H fa = some (.lst (sVs found)) ∧ Good rows found ∧ (∀ r ∈ after rows found, r = []) ∧ found.length ≤ 1000 ∧ rows.length ≤ 1000 ∧ (∀ r ∈ rows, r.length ≤ 1000) ∧
  ∀ H', Same H H' → Q (.bl true) H'
theorem after_le {rows : List (List Str)} (h : ∀ r ∈ rows, r.length ≤ 1000) : ∀ xs : List Str, ∀ r ∈ after rows xs, r.length ≤ 1000 := fun xs => by
  unfold after
  induction xs generalizing rows with
  | nil => exact h
  | cons x xs ih =>
    rw [List.foldl_cons]
    refine ih fun r hr => ?_
    obtain ⟨s, hs, e⟩ := List.mem_map.mp hr
    rw [← e]
    exact Nat.le_trans (drop1_le x s) (h s hs)
section
variable {P : Program} {w : World} {K : PySem.W.Frag} {mg : Str → Option Value} {base : Heap} {f fB fT : Addr} {fd dB dT : FuncData}
abbrev nRowR : List Str := ["_law_rows", "_law_found", "_law_left", "_law_name", "_law_heads"]
theorem ndq1 : (["_law_row"] : List Str).Nodup := by decide +kernel
theorem ndq2 : (["_law_row", "_law_left"] : List Str).Nodup := by decide +kernel
theorem ndq3 : (["_law_row", "_law_name"] : List Str).Nodup := by decide +kernel
theorem ndq4 : (["_law_one", "_law_name"] : List Str).Nodup := by decide +kernel
theorem scRowR : FnScope ["_law_rows", "_law_found", "_law_left", "_law_name", "_law_heads"] ["_law_rows", "_law_found"] (defScope sRowR) := ⟨rfl, rfl, rfl, by decide +kernel, rfl, by decide +kernel, by decide +kernel⟩
theorem ok_rowR (F : Fun K "_law_row_right" "_law_row_right" sRowR f fd) (T : Txt mg) (FT : Fun K "_law_texts" "_law_texts" sTexts fT dT) (bT : Binds K dT ["_law_found"] []) (mT : mg "_law_texts" = some (.ref fT))
    (FB : Fun K "_law_behind" "_law_behind" sBehind fB dB) (bB : Binds K dB ["_law_rows", "_law_name"] []) (mB : mg "_law_behind" = some (.ref fB)) : FnOk P w K mg base CX0 2 f fd ["_law_rows", "_law_found"] spRowR := by
  have GT : FnOk P w K mg base CX0 1 fT dT ["_law_found"] spTexts := ok_texts FT T
  have GB : FnOk P w K mg base CX0 1 fB dB ["_law_rows", "_law_name"] spBehind := ok_behind FB T
  refine F.ok scRowR (fun vs H Q E h => ?_) (fun cdv A outer s H vs Q E hr h => ?_)
  · obtain ⟨ra, fa, as, rows, found, rfl, _⟩ := h
    rfl
  obtain ⟨ra, fa, as, rows, found, rfl, R, ef, hg, hend, hfl, hrl, hrw, q⟩ := h
  refine ⟨_, pss_cons (ps_if (pt_not (pt_val (pe_call GT hr rfl mT FT.kp bT .nil pass0 (pa_cons (pv 1) pa_nil)))) pss_never pss_nil)
    (pss_cons (ps_set (i := 2) scRowR.nd rfl (Or.inr rfl) (pe_comp (defScope sRowR) nRowR ["_law_row"] [] rfl (pi_list (pv 0)) (own_name (i := 0) (by decide)) (fun _ _ _ _ _ _ => ⟨pg_name (i := 0) ndq1 rfl (Or.inl rfl), pts_nil, pe_callTy (call_listK (K := K)) rfl T.list PyProof.Rows.boot_list (pa_cons (pv 0) pa_nil)⟩)))
    (pss_cons (ps_for PassesOwn.never rfl (pi_list (pv 1)) (pg_name (i := 3) scRowR.nd rfl (Or.inr rfl))
      (pss_cons (ps_setcomp (i := 4) (defScope sRowR) nRowR ["_law_row"] [("_law_left", 2)] rfl scRowR.nd rfl rfl (pi_list (pv 2)) (own_name (i := 0) (by decide)) (fun _ _ _ _ _ _ => ⟨pg_name (i := 0) ndq2 rfl (Or.inl rfl),
          pts_one (PW.pt (pw_and (pt_tru (K := K) (pv 0)) (pw_and1 (pt_not (pt_val (pe_call GB hr rfl mB FB.kp bB .nil pass0 (pa_cons (pv 1) (pa_cons (pe_ix (ix_listK (K := K)) (pv 0) pe_int (fun _ _ => rfl)) pa_nil)))))))),
          pe_ix (ix_listK (K := K)) (pv 0) pe_int (fun _ _ => rfl)⟩))
      (pss_cons (ps_if (PW.pt (pw_or (pt_not (pt_tru (K := K) (pv 4))) (pw_or1 (pt_cmpR op_ne (pe_ix ix_list (pv 4) pe_int (fun _ _ => rfl)) (pv 3) (nomark _))))) pss_never pss_nil)
      (pss_one (ps_set (i := 2) scRowR.nd rfl (Or.inr rfl) (pe_comp (defScope sRowR) nRowR ["_law_row"] [("_law_name", 3)] rfl (pi_list (pv 2)) (own_name (i := 0) (by decide)) (fun _ _ _ _ _ _ => ⟨pg_name (i := 0) ndq3 rfl (Or.inl rfl), pts_nil,
          pe_comp _ ["_law_row", "_law_name"] ["_law_one"] [("_law_name", 1)] rfl (pi_listK (K := K) (pv 0)) (own_name (i := 0) (by decide)) (fun _ _ _ _ _ _ => ⟨pg_name (i := 0) ndq4 rfl (Or.inl rfl), pts_one (pt_cmpR op_ne (pv 0) (pv 1) (nomark _)), pv 0⟩) (hok := rfl)⟩)))))))
    (pss_one (ps_ret (pe_not (pe_callB (call_any rfl) rfl T.any boot_any' (pa_cons (pe_comp (defScope sRowR) nRowR ["_law_row"] [] rfl (pi_list (pv 2)) (own_name (i := 0) (by decide)) (fun _ _ _ _ _ _ => ⟨pg_name (i := 0) ndq1 rfl (Or.inl rfl), pts_nil, pe_cmpR op_gt (pe_callB (call_lenK (K := K)) rfl T.len PySem.boot_len (pa_cons (pv 0) pa_nil)) pe_int (nomark _)⟩)) pa_nil))))))), ?_⟩
  -- if not _law_texts(found)
  refine ⟨_, rfl, fa, found, rfl, ef, hfl, fun H1 s1 => ⟨_, rfl, iteF ?_⟩⟩
  have R1 := R.same s1
  -- left = [list(row) for row in rows]
  refine ⟨_, rfl, ra, rfl, ⟨_, SqL.of R1.lst⟩, turns_list0 (K := K) (a := ra) (xs := as.map V.ref) (fun i ys H2 => Same H1 H2 ∧ ∃ ps : List Addr, ys = ps.map V.ref ∧ ps.length = i ∧ ∀ (j : Nat) (p : Addr) (r : List Str), ps[j]? = some p → rows[j]? = some r → H2 p = some (.lst (sVs r)))
    ⟨Same.refl _, [], rfl, rfl, fun j p r h => by simp at h⟩ (fun i ys H2 _ h => SqL.of (h.1 _ _ R1.lst)) ?_ ?_⟩
  · rintro i y ys H2 hi ⟨s2, ps, rfl, hps, hpl⟩
    obtain ⟨a, ha, rfl⟩ := refs_get hi
    obtain ⟨r, hr', er⟩ := R1.get ha
    have hil : i < rows.length := (List.getElem?_eq_some_iff.mp hr').1
    refine ⟨_, rfl, a, _, rfl, .inl (SqL.of (s2 _ _ er)), fun p hp => ?_⟩
    have s3 := same_new hp (.lst (sVs r))
    refine ⟨by rw [List.length_map, hps, sizeLine_eq]; omega, s2.trans s3, ps ++ [p], by rw [List.map_append]; rfl, by rw [List.length_append, hps]; rfl, fun j p' r' h1 h2 => ?_⟩
    by_cases hj : j < ps.length
    · rw [List.getElem?_append_left hj] at h1
      exact s3 _ _ (hpl j p' r' h1 h2)
    · have hjl : j < (ps ++ [p]).length := (List.getElem?_eq_some_iff.mp h1).1
      rw [List.length_append, List.length_singleton] at hjl
      obtain rfl : j = ps.length := by omega
      rw [List.getElem?_concat_length] at h1
      cases h1
      rw [hps, hr'] at h2
      cases h2
      exact upd_same
  rintro ys H2 ⟨s2, ps, rfl, hps, hpl⟩ la hla
  rw [List.length_map, R.len] at hps
  have s3 := same_new hla (.lst (ps.map V.ref))
  have R3 : RowsAt (upd H2 la (.lst (ps.map V.ref))) la ps rows := ⟨upd_same, hps, fun i a r h1 h2 => s3 _ _ (hpl i a r h1 h2)⟩
  have sA := s1.trans (s2.trans s3)
  -- for name in found
  refine ⟨_, rfl, fa, rfl, ⟨_, SqL.of (sA _ _ ef)⟩, for_list (K := K) (a := fa) (xs := sVs found) (fun i σ H4 => ∃ (la : Addr) (ps : List Addr) (v3 v4 : Option V), σ = [some (.ref ra), some (.ref fa), some (.ref la), v3, v4] ∧ Same H H4 ∧ RowsAt H4 la ps (after rows (found.take i)))
    ⟨la, ps, none, none, rfl, sA, R3⟩ (fun i σ H4 _ ⟨_, _, _, _, _, s4, _⟩ => SqL.of (s4 _ _ ef)) ?_ ?_⟩
  · rintro i y σ H4 hi ⟨la, ps, v3, v4, rfl, s4, R4⟩
    obtain ⟨x, hx, rfl⟩ := sVs_get hi
    have hpick := hg i x hx
    have hlen := after_len rows (found.take i)
    have hle := after_le hrw (found.take i)
    have htk : after rows (found.take (i + 1)) = (after rows (found.take i)).map (drop1 x) := by
      rw [List.take_add_one, hx]
      exact after_snoc _ _ _
    rw [htk]
    generalize after rows (found.take i) = rs at *
    have hxt := pick_cnt hpick
    -- heads = [row[0] for row in left if row and not _law_behind(left, row[0])]
    refine ⟨_, rfl, la, rfl, ⟨_, SqL.of R4.lst⟩, turns_list (K := K) (a := la) (xs := ps.map V.ref) (fun j ys H5 => Same H4 H5 ∧ ys = sVs (heads (cnt rs) (rs.take j))) ⟨Same.refl _, rfl⟩ (fun j ys H5 _ h => SqL.of (h.1 _ _ R4.lst)) ?_ ?_⟩
    · rintro j y ys H5 hj ⟨s5, rfl⟩
      obtain ⟨a, ha, rfl⟩ := refs_get hj
      obtain ⟨r, hr', er⟩ := R4.get ha
      have hjl : j < rs.length := (List.getElem?_eq_some_iff.mp hr').1
      have er5 := s5 _ _ er
      have hsz : (heads (cnt rs) (rs.take j)).length < sizeLine := by
        have := heads_le (cnt rs) (rs.take j)
        rw [List.length_take] at this
        rw [sizeLine_eq]
        omega
      refine ⟨_, rfl, _, .inl ⟨_, SqL.of er5, rfl⟩, ?_⟩
      rw [heads_succ hr']
      cases hrr : r with
      | nil =>
        refine iteF (iteF ⟨s5, ?_⟩)
        show _ = sVs (_ ++ [])
        rw [List.append_nil]
      | cons z t =>
        rw [hrr] at er5
        refine iteT ?_
        refine ⟨_, rfl, _, rfl, a, _, _, _, rfl, rfl, SqL.of er5, atI_nat (j := 0) rfl, la, ps, rs, z, rfl, R4.same s5, by omega, fun H6 s6 => ⟨_, rfl, ?_⟩⟩
        rw [hd1_cons]
        by_cases hc : cnt rs z = 0
        · rw [decide_eq_false (by simp [hc]), if_pos hc]
          refine iteT ⟨_, rfl, a, _, _, _, rfl, rfl, SqL.of (s6 _ _ er5), atI_nat (j := 0) rfl, by rw [sVs_len]; exact hsz, s5.trans s6, ?_⟩
          unfold sVs
          rw [List.map_append]
          rfl
        · rw [decide_eq_true hc, if_neg hc]
          refine iteF ⟨s5.trans s6, ?_⟩
          rw [List.append_nil]
    · rintro ys H5 ⟨s5, rfl⟩ ha hha
      have hlp : (ps.map V.ref).length = rs.length := by rw [List.length_map, R4.len]
      rw [hlp, List.take_of_length_le (Nat.le_refl _)]
      have s6 := same_new hha (.lst (sVs (heads (cnt rs) rs)))
      rw [pick_heads] at hpick
      cases hh : heads (cnt rs) rs with
      | nil => rw [hh] at hpick; cases hpick
      | cons x' t =>
        rw [hh] at hpick
        obtain rfl : x' = x := Option.some.inj hpick
        rw [hh] at s6
        -- if not heads or heads[0] != name
        refine ⟨_, rfl, _, .inl ⟨_, SqL.of upd_same, rfl⟩, iteF ?_⟩
        refine ⟨_, rfl, ha, _, _, _, rfl, rfl, SqL.of upd_same, atI_nat (j := 0) rfl, _, rfl, rfl, _, rfl, iteNS rfl ?_⟩
        -- left = [[one for one in row if one != name] for row in left]
        have s7 := s5.trans s6
        have R7 := R4.same s7
        generalize upd H5 ha (.lst (sVs (x' :: t))) = H7 at *
        refine ⟨_, rfl, la, rfl, ⟨_, SqL.of R7.lst⟩, turns_list0 (K := K) (a := la) (xs := ps.map V.ref) (fun j ys H8 => Same H7 H8 ∧ ∃ qs : List Addr, ys = qs.map V.ref ∧ qs.length = j ∧ ∀ (k : Nat) (p : Addr) (r : List Str), qs[k]? = some p → (rs.map (drop1 x'))[k]? = some r → H8 p = some (.lst (sVs r)))
          ⟨Same.refl _, [], rfl, rfl, fun j p r h => by simp at h⟩ (fun j ys H8 _ h => SqL.of (h.1 _ _ R7.lst)) ?_ ?_⟩
        · rintro j y ys H8 hj ⟨s8, qs, rfl, hqs, hql⟩
          obtain ⟨a, ha', rfl⟩ := refs_get hj
          obtain ⟨r, hr', er⟩ := R7.get ha'
          have hjl : j < rs.length := (List.getElem?_eq_some_iff.mp hr').1
          have er8 := s8 _ _ er
          have hrle := hle r (List.mem_of_getElem? hr')
          refine ⟨_, rfl, a, rfl, ⟨_, SqL.of er8⟩, turns_list (K := K) (a := a) (xs := sVs r) (fun k zs H9 => H9 = H8 ∧ zs = sVs ((r.take k).filter fun y => decide (¬ y = x'))) ⟨rfl, rfl⟩ (fun k zs H9 _ h => by rw [h.1]; exact SqL.of er8) ?_ ?_⟩
          · rintro k y zs H9 hk ⟨rfl, rfl⟩
            obtain ⟨z, hz, rfl⟩ := sVs_get hk
            have hkl : k < r.length := (List.getElem?_eq_some_iff.mp hz).1
            have hfl2 : ((r.take k).filter fun y => decide (¬ y = x')).length < sizeLine := by
              have := List.length_filter_le (fun y => decide (¬ y = x')) (r.take k)
              rw [List.length_take] at this
              rw [sizeLine_eq]
              omega
            have ets : (r.take (k + 1)).filter (fun y => decide (¬ y = x')) = (r.take k).filter (fun y => decide (¬ y = x')) ++ [z].filter (fun y => decide (¬ y = x')) := by
              rw [List.take_add_one, hz, List.filter_append]
              rfl
            rw [ets]
            refine ⟨_, rfl, _, rfl, rfl, _, rfl, ?_⟩
            by_cases hzx : z = x'
            · subst hzx
              refine iteNS rfl ⟨rfl, ?_⟩
              simp
            · have e1 : (!decide (V.str z = V.str x')) = true := by
                simp [hzx]
              rw [e1]
              refine iteT ⟨_, rfl, by rw [sVs_len]; exact hfl2, rfl, ?_⟩
              unfold sVs
              rw [List.map_append]
              simp [hzx]
          · rintro zs H9 ⟨rfl, rfl⟩ p hp
            have s9 := same_new hp (.lst (sVs ((r.take (sVs r).length).filter fun y => decide (¬ y = x'))))
            refine ⟨by rw [List.length_map, hqs, sizeLine_eq]; omega, s8.trans s9, qs ++ [p], by rw [List.map_append]; rfl, by rw [List.length_append, hqs]; rfl, fun k p' r' h1 h2 => ?_⟩
            by_cases hk : k < qs.length
            · rw [List.getElem?_append_left hk] at h1
              exact s9 _ _ (hql k p' r' h1 h2)
            · have hkl : k < (qs ++ [p]).length := (List.getElem?_eq_some_iff.mp h1).1
              rw [List.length_append, List.length_singleton] at hkl
              obtain rfl : k = qs.length := by omega
              rw [List.getElem?_concat_length] at h1
              cases h1
              rw [hqs, List.getElem?_map, hr'] at h2
              cases h2
              rw [upd_same, sVs_len, List.take_of_length_le (Nat.le_refl _), filter_drop (hxt r (List.mem_of_getElem? hr'))]
        · rintro ys H8 ⟨s8, qs, rfl, hqs, hql⟩ lb hlb
          have s9 := same_new hlb (.lst (qs.map V.ref))
          exact ⟨lb, qs, _, _, rfl, s4.trans (s7.trans (s8.trans s9)), upd_same, by rw [hqs, List.length_map, List.length_map, R4.len], fun k p r h1 h2 => s9 _ _ (hql k p r h1 h2)⟩
  · rintro σ H4 ⟨la, ps, v3, v4, rfl, s4, R4⟩
    rw [sVs_len, List.take_of_length_le (Nat.le_refl _)] at R4
    have hlen := after_len rows found
    refine ⟨_, rfl, la, rfl, ⟨_, SqL.of R4.lst⟩, turns_list0 (K := K) (a := la) (xs := ps.map V.ref) (fun j ys H5 => H5 = H4 ∧ ys = (List.replicate j false).map V.bl) ⟨rfl, rfl⟩ (fun j ys H5 _ h => by rw [h.1]; exact SqL.of R4.lst) ?_ ?_⟩
    · rintro j y ys H5 hj ⟨rfl, rfl⟩
      obtain ⟨a, ha, rfl⟩ := refs_get hj
      obtain ⟨r, hr', er⟩ := R4.get ha
      have hjl : j < (after rows found).length := (List.getElem?_eq_some_iff.mp hr').1
      have hr0 := hend r (List.mem_of_getElem? hr')
      subst hr0
      refine ⟨_, rfl, a, _, rfl, .inl (SqL.of er), _, _, rfl, rfl, ?_, rfl, ?_⟩
      · rw [List.length_map, List.length_replicate, sizeLine_eq]
        omega
      · rw [List.replicate_succ', List.map_append]
        rfl
    · rintro ys H5 ⟨rfl, rfl⟩ p hp
      refine ⟨p, _, _, rfl, SqL.of upd_same, truL_bools _, ?_⟩
      have e : (List.replicate (ps.map V.ref).length false).any id = false := by
        rw [List.any_eq_false]
        intro k hk
        rw [(List.mem_replicate.mp hk).2]
        exact Bool.false_ne_true
      rw [e]
      exact ⟨_, rfl, q _ (s4.trans (same_new hp _))⟩
end
end K3

set_option Elab.async false
set_option linter.all false
set_option maxRecDepth 100000
set_option maxHeartbeats 4000000
namespace K3
open PySem L2 Mg
def spRingR : Sp := fun vs H Q _ => ∃ (ra la pa : Addr) (as ts : List Addr) (rows rs : List (List Str)) (ls : List Str) (ring : List Ln), vs = [.ref ra, .ref la, .ref pa] ∧ RowsAt H ra as rows ∧ H la = some (.lst (sVs ls)) ∧ ls.length = rows.length ∧ ls.Nodup ∧ rows.length ≤ 1000 ∧ (∀ r ∈ rows, r.Nodup) ∧
  LeanAt H pa ts ring ∧ Ends rows rs ∧ RingOk rs ls ring ∧ ∀ H', Same H H' → Q (.bl true) H'
theorem boot_tuple' : bootBuiltins "tuple" = some (.type "tuple") := by decide +kernel
theorem eqS (y z : Str) : eqV (.str y) (.str z) = decide (y = z) := by
  show (y == z) = decide (y = z)
  by_cases h : y = z
  · subst h; simp
  · simp [h]
/-- where a text stands first -/
theorem ix_at {zs : List Str} {j : Nat} {y : Str} (hnd : zs.Nodup) (h : zs[j]? = some y) : (∃ z, (sVs zs)[j]? = some z ∧ eqV z (.str y) = true) ∧ ∀ m z, m < j → (sVs zs)[m]? = some z → eqV z (.str y) = false := by
  refine ⟨⟨_, sVs_at h, by rw [eqS, decide_eq_true rfl]⟩, fun m z hm hz => ?_⟩
  obtain ⟨u, hu, rfl⟩ := sVs_get hz
  rw [eqS, decide_eq_false]
  rintro rfl
  obtain ⟨h1, e1⟩ := List.getElem?_eq_some_iff.mp hu
  obtain ⟨h2, e2⟩ := List.getElem?_eq_some_iff.mp h
  have := (List.getElem_inj hnd).mp (e1.trans e2.symm)
  omega
section
variable {P : Program} {w : World} {K : PySem.W.Frag} {mg : Str → Option Value} {base : Heap} {f fT : Addr} {fd dT : FuncData}
abbrev nRingR : List Str := ["_law_rows", "_law_labels", "_law_ring", "_law_k", "_law_leaning", "_law_row"]
theorem ndg1 : (["_law_leaning"] : List Str).Nodup := by decide +kernel
theorem scRingR : FnScope ["_law_rows", "_law_labels", "_law_ring", "_law_k", "_law_leaning", "_law_row"] ["_law_rows", "_law_labels", "_law_ring"] (defScope sRingR) := ⟨rfl, rfl, rfl, by decide +kernel, rfl, by decide +kernel, by decide +kernel⟩
theorem ok_ringR (F : Fun K "_law_ring_right" "_law_ring_right" sRingR f fd) (T : Txt mg) (FT : Fun K "_law_texts" "_law_texts" sTexts fT dT) (bT : Binds K dT ["_law_found"] []) (mT : mg "_law_texts" = some (.ref fT)) : FnOk P w K mg base CX0 2 f fd ["_law_rows", "_law_labels", "_law_ring"] spRingR := by
  have GT : FnOk P w K mg base CX0 1 fT dT ["_law_found"] spTexts := ok_texts FT T
  refine F.ok scRingR (fun vs H Q E h => ?_) (fun cdv A outer s H vs Q E hr h => ?_)
  · obtain ⟨ra, la, pa, as, ts, rows, rs, ls, ring, rfl, _⟩ := h
    rfl
  obtain ⟨ra, la, pa, as, ts, rows, rs, ls, ring, rfl, R, el, hll, hlnd, hrl, hnd, L, hE, hring, q⟩ := h
  refine ⟨_, pss_cons (ps_if (PW.pt (pw_or (pt_not (pt_val (pe_callB call_isinst rfl T.isi PyProof.Rows.boot_isinstance (pa_cons (pv 2) (pa_cons (pe_bltn (v := .ty "list") rfl T.list PyProof.Rows.boot_list rfl) pa_nil)))))
      (pw_or1 (pt_cmpR op_lt (pe_callB call_len_seq rfl T.len PySem.boot_len (pa_cons (pv 2) pa_nil)) pe_int (nomark _))))) pss_never pss_nil)
    (pss_cons (ps_for PassesOwn.never rfl (pi_range1 rfl T.range (pa_cons (pe_callB call_len_seq rfl T.len PySem.boot_len (pa_cons (pv 2) pa_nil)) pa_nil)) (pg_name (i := 3) scRingR.nd rfl (Or.inl rfl))
      (pss_cons (ps_set (i := 4) scRingR.nd rfl (Or.inl rfl) (pe_ix ix_list (pv 2) (pv 3) (fun _ _ => rfl)))
      (pss_cons (ps_if (PW.pt (pw_or (pt_not (pt_val (pe_callB call_isinst rfl T.isi PyProof.Rows.boot_isinstance (pa_cons (pv 4) (pa_cons (pe_bltn (v := .ty "tuple") rfl T.tup boot_tuple' rfl) pa_nil)))))
          (pw_or (pt_cmpR op_ne (pe_callB call_len_seq rfl T.len PySem.boot_len (pa_cons (pv 4) pa_nil)) pe_int (nomark _))
          (pw_or1 (pt_not (pt_val (pe_call GT hr rfl mT FT.kp bT .nil pass0 (pa_cons (pe_callTy call_list_of rfl T.list PyProof.Rows.boot_list (pa_cons (pv 4) pa_nil)) pa_nil)))))))) pss_never pss_nil)
      (pss_cons (ps_if (PW.pt (pw_or (pt_cmpR op_notIn_seq (pe_ix ix_tup (pv 4) pe_int (fun _ _ => rfl)) (pv 1) rfl)
          (pw_or1 (pt_cmpR op_ne (pe_ix ix_tup (pv 4) pe_int (fun _ _ => rfl)) (pe_ix ix_tup (pe_ix ix_list (pv 2) (pe_op op_mod (pe_op op_add (pv 3) pe_int) (pe_callB call_len_seq rfl T.len PySem.boot_len (pa_cons (pv 2) pa_nil))) (fun _ _ => rfl)) pe_int (fun _ _ => rfl)) (nomark _))))) pss_never pss_nil)
      (pss_cons (ps_set (i := 5) scRingR.nd rfl (Or.inl rfl) (pe_ix ix_list (pv 0) (pe_bm PySem.F.plainAttrs_list PySem.F.slot_list_index PySem.F.type_list_index mt_index (pv 1) (pa_cons (pe_ix ix_tup (pv 4) pe_int (fun _ _ => rfl)) pa_nil)) (fun _ _ => rfl)))
      (pss_one (ps_if (PW.pt (pw_or (pt_cmpR op_notIn_seq (pe_ix ix_tup (pv 4) pe_int (fun _ _ => rfl)) (pv 5) rfl)
          (pw_or1 (pt_cmpR op_notIn_seq (pe_ix ix_tup (pv 4) pe_int (fun _ _ => rfl)) (pe_slice sl_list (pv 5) (po_some (pe_op op_add (pe_bm PySem.F.plainAttrs_list PySem.F.slot_list_index PySem.F.type_list_index mt_index (pv 5) (pa_cons (pe_ix ix_tup (pv 4) pe_int (fun _ _ => rfl)) pa_nil)) pe_int)) po_none) rfl)))) pss_never pss_nil)))))))
    (pss_one (ps_ret (pe_cmpR op_eq (pe_callB call_len_setS rfl T.len PySem.boot_len (pa_cons (pe_callTy (call_set_texts rfl) rfl T.set boot_set' (pa_cons (pe_comp (defScope sRingR) nRingR ["_law_leaning"] [] rfl (pi_list (pv 2)) (own_name (i := 0) (by decide)) (fun _ _ _ _ _ _ => ⟨pg_name (i := 0) ndg1 rfl (Or.inl rfl), pts_nil, pe_ix (ix_tupK (K := K)) (pv 0) pe_int (fun _ _ => rfl)⟩)) pa_nil)) pa_nil))
      (pe_callB call_len_seq rfl T.len PySem.boot_len (pa_cons (pv 2) pa_nil)) (nomark _))))), ?_⟩
  have h2 := hring.two
  have hle := hring.le
  have hel := hE.len
  have htl := L.len
  -- if not isinstance(ring, list) or len(ring) < 2
  refine ⟨_, rfl, _, _, _, _, rfl, .lst L.lst, kit_self K "list", _, rfl, iteF ?_⟩
  refine ⟨_, rfl, pa, _, rfl, .inl (SqL.of L.lst), _, _, rfl, rfl, _, rfl, ite2 (fun c => ?_) (fun _ => ?_)⟩
  · have c' : (((ts.map V.ref).length : Nat) : Int) < 2 := of_decide_eq_true c
    rw [List.length_map] at c'
    exact absurd c' (by omega)
  -- for k in range(len(ring))
  have hlen : (((ts.map V.ref).length : Nat) : Int) = ((ring.length : Nat) : Int) := by rw [List.length_map, htl]
  refine ⟨_, rfl, pa, _, rfl, .inl (SqL.of L.lst), _, rfl, by omega, by omega, for_range (n := (((ts.map V.ref).length : Nat) : Int).toNat) (fun i σ H2 => ∃ v3 v4 v5 : Option V, σ = [some (.ref ra), some (.ref la), some (.ref pa), v3, v4, v5] ∧ Same H H2) ⟨none, none, none, rfl, Same.refl _⟩ ?_ ?_⟩
  · rintro i σ H2 hi ⟨v3, v4, v5, rfl, s2⟩
    have hi' : i < ring.length := by omega
    have e0 : (0 : Int) + (i : Int) = (i : Int) := by omega
    rw [e0]
    have hit : i < ts.length := by omega
    have hts : ts[i]? = some ts[i] := List.getElem?_eq_getElem hit
    have hrg : ring[i]? = some ring[i] := List.getElem?_eq_getElem hi'
    have et := s2 _ _ (L.at_ i _ _ hts hrg)
    obtain ⟨j, r, hrs, hb, hlj⟩ := hring.lean ring[i] (List.getElem_mem hi')
    obtain ⟨y, hy, ey⟩ := hring.next hrg
    generalize hx : ring[i] = x at *
    generalize ht : ts[i] = t at *
    have hjr : j < rows.length := by rw [← hel]; exact (List.getElem?_eq_some_iff.mp hrs).1
    have hrw : rows[j]? = some rows[j] := List.getElem?_eq_getElem hjr
    obtain ⟨a, ea⟩ := hE.suf j _ _ hrw hrs
    have hndr := hnd _ (List.getElem_mem hjr)
    generalize rows[j] = row at *
    have tsat : (ts.map V.ref)[i]? = some (.ref t) := by rw [List.getElem?_map, hts]; rfl
    -- leaning = ring[k]
    refine ⟨_, rfl, _, rfl, pa, _, _, _, rfl, rfl, SqL.of (s2 _ _ L.lst), atI_nat tsat, ?_⟩
    -- its kind
    refine ⟨_, rfl, _, _, _, _, rfl, .tup et, kit_self K "tuple", _, rfl, iteF ?_⟩
    refine ⟨_, rfl, t, _, rfl, .inr (SqT.of et), rfl, _, rfl, iteNS rfl ?_⟩
    refine ⟨_, rfl, t, _, rfl, .inr (SqT.of et), fun p hp => ⟨p, [x.1, x.2.1, x.2.2], rfl, upd_same, by show 3 ≤ 1000; decide, fun H3 s3 => ⟨_, rfl, iteF ?_⟩⟩⟩
    have s4 : Same H H3 := s2.trans ((same_new hp _).trans s3)
    have et3 : H3 t = some (.tup (lnV x)) := s3 _ _ (same_new hp _ _ _ et)
    have el3 := s4 _ _ el
    have L3 := L.same s4
    have R3 := R.same s4
    clear et hp s3 s2
    -- if leaning[2] not in labels
    refine ⟨_, rfl, t, _, _, _, rfl, rfl, SqT.of et3, atI_nat (j := 2) rfl, _, rfl, la, _, rfl, .inl (SqL.of el3), rfl, flatS _, _, rfl, ?_⟩
    rw [if_pos rfl, inC, decide_eq_true (List.mem_of_getElem? hlj)]
    refine iteF ?_
    -- or leaning[1] != ring[(k + 1) % len(ring)][0]
    have hmod : (i + 1) % ring.length < ts.length := by rw [htl]; exact Nat.mod_lt _ (by omega)
    have et4 := L3.at_ _ _ _ (List.getElem?_eq_getElem hmod) hy
    have tsat2 : (ts.map V.ref)[(i + 1) % ring.length]? = some (.ref ts[(i + 1) % ring.length]) := by rw [List.getElem?_map, List.getElem?_eq_getElem hmod]; rfl
    have hat : atI (ts.map V.ref) (((i : Int) + 1) % (((ts.map V.ref).length : Nat) : Int)) = some (.ref ts[(i + 1) % ring.length]) := by
      have e : ((i : Int) + 1) % (((ts.map V.ref).length : Nat) : Int) = (((i + 1) % ring.length : Nat) : Int) := by
        rw [hlen, Int.natCast_emod]
        rfl
      rw [e]
      exact atI_nat tsat2
    refine ⟨_, rfl, t, _, _, _, rfl, rfl, SqT.of et3, atI_nat (j := 1) rfl, _, rfl, _, rfl, _, _, rfl, rfl, _, rfl, pa, _, rfl, .inl (SqL.of L3.lst), _, _, rfl, rfl, (by show (0 : Int) < _; omega), pa, _, _, _, rfl, rfl, SqL.of L3.lst, hat, _, _, _, _, rfl, rfl, SqT.of et4, atI_nat (j := 0) rfl, rfl, _, rfl, ?_⟩
    rw [ey]
    refine iteNS (by simp) ?_
    -- row = rows[labels.index(leaning[2])]
    obtain ⟨i1, i2⟩ := ix_at hlnd hlj
    have hja : j < as.length := by rw [R.len]; exact hjr
    have asat : (as.map V.ref)[j]? = some (.ref as[j]) := by rw [List.getElem?_map, List.getElem?_eq_getElem hja]; rfl
    have er := R3.row j _ _ (List.getElem?_eq_getElem hja) hrw
    refine ⟨_, rfl, _, rfl, .inl ⟨rfl, _, SqL.of el3⟩, _, rfl, t, _, _, _, rfl, rfl, SqT.of et3, atI_nat (j := 2) rfl, la, _, _, j, rfl, rfl, SqL.of el3, rfl, flatS _, i1, i2, ra, _, _, _, rfl, rfl, SqL.of R3.lst, atI_nat asat, ?_⟩
    -- if leaning[0] not in row
    refine ⟨_, rfl, t, _, _, _, rfl, rfl, SqT.of et3, atI_nat (j := 0) rfl, _, rfl, as[j], _, rfl, .inl (SqL.of er), rfl, flatS _, _, rfl, ?_⟩
    rw [if_pos rfl, inC, decide_eq_true (show x.1 ∈ row by rw [ea]; simp)]
    refine iteF ?_
    -- or leaning[1] not in row[row.index(leaning[0]) + 1:]
    have hat0 : row[a.length]? = some x.1 := by rw [ea, List.getElem?_append_right (Nat.le_refl _), Nat.sub_self]; rfl
    obtain ⟨k1, k2⟩ := ix_at hndr hat0
    have hcut : cutV (sVs row) (some (((a.length : Nat) : Int) + 1)) none = sVs r := by
      have e : ((a.length : Nat) : Int) + 1 = ((a.length + 1 : Nat) : Int) := by omega
      rw [e, cutFrom _ _ (by rw [sVs_len, ea, List.length_append, List.length_cons]; omega), ea]
      unfold sVs
      rw [← List.map_drop, List.drop_append]
      simp
    refine ⟨_, rfl, t, _, _, _, rfl, rfl, SqT.of et3, atI_nat (j := 1) rfl, _, rfl, _, rfl, .inl ⟨rfl, _, SqL.of er⟩, _, rfl, t, _, _, _, rfl, rfl, SqT.of et3, atI_nat (j := 0) rfl, as[j], _, _, a.length, rfl, rfl, SqL.of er, rfl, flatS _, k1, k2, _, _, rfl, rfl, _, rfl, as[j], _, rfl, SqL.of er, fun p hp => ?_⟩
    rw [hcut]
    refine ⟨p, _, rfl, .inl (SqL.of upd_same), rfl, flatS _, _, rfl, ?_⟩
    rw [if_pos rfl, inC, decide_eq_true hb]
    exact iteF ⟨_, _, _, rfl, s4.trans (same_new hp _)⟩
  · rintro σ H2 ⟨v3, v4, v5, rfl, s2⟩
    have L2' := L.same s2
    refine ⟨_, rfl, pa, rfl, ⟨_, SqL.of L2'.lst⟩, turns_list0 (K := K) (a := pa) (xs := ts.map V.ref) (fun i ys H3 => H3 = H2 ∧ ys = (((ring.take i).map (·.1)).map V.str)) ⟨rfl, rfl⟩ (fun i ys H3 _ h => by rw [h.1]; exact SqL.of L2'.lst) ?_ ?_⟩
    · rintro i y ys H3 hi ⟨rfl, rfl⟩
      obtain ⟨t, ht, rfl⟩ := refs_get hi
      have hil : i < ring.length := by rw [← htl]; exact (List.getElem?_eq_some_iff.mp ht).1
      have et := L2'.at_ i t _ ht (List.getElem?_eq_getElem hil)
      refine ⟨_, rfl, t, _, _, _, rfl, rfl, SqT.of et, atI_nat (j := 0) rfl, ?_, rfl, ?_⟩
      · rw [List.length_map, List.length_map, List.length_take, sizeLine_eq]
        omega
      · rw [List.take_add_one, List.getElem?_eq_getElem hil, List.map_append, List.map_append]
        rfl
    · rintro ys H3 ⟨rfl, rfl⟩ p hp
      rw [List.length_map, htl, List.take_of_length_le (Nat.le_refl _)]
      have s3 := same_new hp (.lst ((ring.map (·.1)).map V.str))
      refine ⟨p, ring.map (·.1), rfl, SqL.of upd_same, hring.nd, by rw [List.length_map]; unfold scanBound; omega, fun S hS => ?_⟩
      refine ⟨S, _, rfl, upd_same, _, rfl, pa, _, rfl, .inl (SqL.of (same_new hS _ _ _ (s3 _ _ L2'.lst))), rfl, ?_⟩
      rw [List.length_map, List.length_map, htl, decide_eq_true rfl]
      exact q _ (s2.trans (s3.trans (same_new hS _)))
end
end K3

set_option Elab.async false
set_option linter.all false
set_option maxRecDepth 100000
set_option maxHeartbeats 4000000
namespace K3
open PySem L2 Mg
def spRowBy : Sp := fun vs H Q _ => ∃ (na : Addr) (c : Int) (names : List Str), vs = [.ref na, .int c] ∧ H na = some (.lst (sVs names)) ∧ names.Nodup ∧ names.length ≤ 60 ∧
  ∀ (p : Addr) (r : List Str) (H' : Hp), Same H H' → H' p = some (.lst (sVs r)) → r.Nodup → r.length ≤ 60 → (∀ x ∈ r, x ∈ names) → Q (.ref p) H'
theorem cutTo (r : List Str) (n : Nat) (h : n ≤ r.length) : cutV (sVs r) none (some (n : Int)) = sVs (r.take n) := by
  unfold cutV
  rw [HT.sIx_none, HT.sIx_nat, Nat.min_eq_left (by rw [sVs_len]; exact h), List.drop_zero, Nat.sub_zero]
  unfold sVs
  rw [List.map_take]
theorem cutDrop (r : List Str) (n : Nat) (h : n ≤ r.length) : cutV (sVs r) (some (n : Int)) none = sVs (r.drop n) := by
  rw [cutFrom _ _ (by rw [sVs_len]; exact h)]
  unfold sVs
  rw [List.map_drop]
theorem sVs_app (a b : List Str) : sVs a ++ sVs b = sVs (a ++ b) := by unfold sVs; rw [List.map_append]
section
variable {P : Program} {w : World} {K : PySem.W.Frag} {mg : Str → Option Value} {base : Heap} {f : Addr} {fd : FuncData}
abbrev nRowBy : List Str := ["_law_names", "_law_cell", "_law_mixed", "_law_row", "_law_at"]
theorem ndy : (["_law_k", "_law_names", "_law_mixed"] : List Str).Nodup := by decide +kernel
theorem scRowBy : FnScope ["_law_names", "_law_cell", "_law_mixed", "_law_row", "_law_at"] ["_law_names", "_law_cell"] (defScope sRowBy) := ⟨rfl, rfl, rfl, by decide +kernel, rfl, by decide +kernel, by decide +kernel⟩
theorem ok_rowBy (F : Fun K "_law_row_by" "_law_row_by" sRowBy f fd) (T : Txt mg) : FnOk P w K mg base CX0 1 f fd ["_law_names", "_law_cell"] spRowBy := by
  refine F.ok scRowBy (fun vs H Q E h => ?_) (fun cdv A outer s H vs Q E hr h => ?_)
  · obtain ⟨na, c, names, rfl, _⟩ := h
    rfl
  obtain ⟨na, c, names, rfl, en, hnd, hn, q⟩ := h
  refine ⟨_, pss_cons (ps_set (i := 2) scRowBy.nd rfl (Or.inr rfl) (pe_op op_mod (pe_op op_mul (pv 1) pe_int) pe_int))
    (pss_cons (ps_setcomp (i := 3) (defScope sRowBy) nRowBy ["_law_k"] [("_law_names", 0), ("_law_mixed", 2)] rfl scRowBy.nd rfl rfl (pi_range1 rfl T.range (pa_cons (pe_callB call_len_seq rfl T.len PySem.boot_len (pa_cons (pv 0) pa_nil)) pa_nil)) (own_name (i := 0) (by decide)) (fun _ _ _ _ _ _ => ⟨pg_name (i := 0) ndy rfl (Or.inl rfl),
        pts_one (pt_cmpR op_ne (pe_op op_mod (pe_op op_fdiv (pv 2) (pe_op op_add (pv 0) pe_int)) pe_int) pe_int (nomark _)), pe_ix (ix_listK (K := K)) (pv 1) (pv 0) (fun _ _ => rfl)⟩))
    (pss_cons (ps_if (pt_cmpR op_lt (pe_callB call_len_seq rfl T.len PySem.boot_len (pa_cons (pv 3) pa_nil)) pe_int (nomark _)) (pss_one (ps_ret (pv 3))) pss_nil)
    (pss_cons (ps_set (i := 4) scRowBy.nd rfl (Or.inl rfl) (pe_op op_mod (pe_op op_fdiv (pv 2) pe_int) (pe_op op_sub (pe_callB call_len_seq rfl T.len PySem.boot_len (pa_cons (pv 3) pa_nil)) pe_int)))
    (pss_cons (ps_if (pt_cmpR op_eq (pe_op op_mod (pv 2) pe_int) pe_int (nomark _)) (pss_one (ps_ret (pe_op op_cat (pe_op op_cat (pe_slice sl_list (pv 3) po_none (po_some (pv 4))) (pe_lst (pa_cons (pe_ix ix_list (pv 3) (pe_op op_add (pv 4) pe_int) (fun _ _ => rfl)) (pa_cons (pe_ix ix_list (pv 3) (pv 4) (fun _ _ => rfl)) pa_nil)))) (pe_slice sl_list (pv 3) (po_some (pe_op op_add (pv 4) pe_int)) po_none)))) pss_nil)
    (pss_cons (ps_if (pt_cmpR op_eq (pe_op op_mod (pv 2) pe_int) pe_int (nomark _)) (pss_one (ps_ret (pe_op op_cat (pe_slice sl_list (pv 3) (po_some (pe_op op_add (pv 4) pe_int)) po_none) (pe_slice sl_list (pv 3) po_none (po_some (pe_op op_add (pv 4) pe_int)))))) pss_nil)
    (pss_cons (ps_if (pt_cmpR op_eq (pe_op op_mod (pv 2) pe_int) pe_int (nomark _)) (pss_one (ps_ret (pe_revS (pv 3) (po_some (pe_un un_neg pe_int))))) pss_nil)
    (pss_one (ps_ret (pv 3))))))))), ?_⟩
  -- mixed
  refine ⟨_, rfl, _, _, rfl, rfl, .inr ⟨by decide, by decide⟩, _, _, rfl, rfl, (by show (0 : Int) < 2147483647; decide), ?_⟩
  dsimp only
  generalize c * 48271 % 2147483647 = mixed
  -- row
  refine ⟨_, rfl, na, _, rfl, .inl (SqL.of en), _, rfl, by rw [sVs_len]; omega, by rw [sVs_len]; omega, turns_range (k := (((sVs names).length : Nat) : Int).toNat) (fun i ys H2 => H2 = H ∧ ∃ zs : List Str, ys = sVs zs ∧ zs.Sublist (names.take i)) ⟨rfl, [], rfl, List.Sublist.refl _⟩ ?_ ?_⟩
  · rintro i ys H2 hi ⟨rfl, zs, rfl, hz⟩
    rw [Int.toNat_natCast, sVs_len] at hi
    have e0 : (0 : Int) + (i : Int) = (i : Int) := by omega
    rw [e0]
    have hnx : names[i]? = some names[i] := List.getElem?_eq_getElem hi
    have htk : names.take (i + 1) = names.take i ++ [names[i]] := by rw [List.take_add_one, hnx]; rfl
    refine ⟨_, rfl, _, rfl, _, _, rfl, rfl, _, _, rfl, rfl, ⟨by show (0 : Int) < (i : Int) + 1; omega, by show (i : Int) + 1 < 1073741824; omega⟩, _, _, rfl, rfl, (by show (0 : Int) < 3; decide), rfl, _, rfl, ite2 (fun _ => ?_) (fun _ => ?_)⟩
    · refine ⟨_, rfl, _, rfl, na, _, _, _, rfl, rfl, SqL.of en, nat_at hi, ?_, rfl, zs ++ [names[i]], by unfold sVs; rw [List.map_append]; rfl, ?_⟩
      · have := hz.length_le
        rw [List.length_take] at this
        rw [sVs_len, sizeLine_eq]
        omega
      · rw [htk]
        exact hz.append (List.Sublist.refl _)
    · refine ⟨rfl, zs, rfl, ?_⟩
      rw [htk]
      exact hz.trans (List.sublist_append_left _ _)
  rintro ys H2 ⟨rfl, r, rfl, hsub⟩ pr hpr
  rw [Int.toNat_natCast, sVs_len, List.take_of_length_le (Nat.le_refl _)] at hsub
  have s1 := same_new hpr (.lst (sVs r))
  have er := upd_same (H := H2) (a := pr) (o := .lst (sVs r))
  generalize upd H2 pr (.lst (sVs r)) = H3 at *
  have hrn := hsub.nodup hnd
  have hrl := hsub.length_le
  have hrm : ∀ x ∈ r, x ∈ names := fun x hx => hsub.subset hx
  have perm : ∀ (p : Addr) (r' : List Str) (H' : Hp), Same H3 H' → H' p = some (.lst (sVs r')) → r'.Perm r → Q (.ref p) H' := fun p r' H' s e hp =>
    q p r' H' (s1.trans s) e (hp.nodup_iff.mpr hrn) (by rw [hp.length_eq]; omega) fun x hx => hrm x (hp.mem_iff.mp hx)
  -- if len(row) < 2
  refine ⟨_, rfl, pr, _, rfl, .inl (SqL.of er), _, _, rfl, rfl, _, rfl, ite2 (fun _ => ?_) (fun c2 => ?_)⟩
  · exact ⟨_, rfl, perm pr r _ (Same.refl _) er (.refl _)⟩
  have hl2 : 2 ≤ r.length := by
    have := of_decide_eq_false (Bool.eq_false_iff.mpr c2)
    rw [sVs_len] at this
    omega
  -- at
  refine ⟨_, rfl, _, _, rfl, rfl, ⟨by decide, by decide⟩, _, rfl, pr, _, rfl, .inl (SqL.of er), _, _, rfl, rfl, _, _, rfl, rfl, (by show (0 : Int) < ((sVs r).length : Int) - 1; rw [sVs_len]; omega), ?_⟩
  dsimp only
  rw [sVs_len]
  have hat : ∃ k : Nat, mixed / 7 % ((r.length : Int) - 1) = (k : Int) ∧ k + 1 < r.length := by
    have h1 := Int.emod_nonneg (mixed / 7) (show ((r.length : Int) - 1) ≠ 0 by omega)
    have h2 := Int.emod_lt_of_pos (mixed / 7) (show (0 : Int) < (r.length : Int) - 1 by omega)
    exact ⟨(mixed / 7 % ((r.length : Int) - 1)).toNat, by omega, by omega⟩
  obtain ⟨k, ek, hk⟩ := hat
  rw [ek]
  have hk0 : k < r.length := by omega
  have e1 : (k : Int) + 1 = ((k + 1 : Nat) : Int) := by omega
  have e2 : (k : Int) + 2 = ((k + 2 : Nat) : Int) := by omega
  -- if mixed % 6 == 0
  refine ⟨_, rfl, _, _, rfl, rfl, (by show (0 : Int) < 6; decide), rfl, _, rfl, ite2 (fun _ => ?_) (fun _ => ?_)⟩
  · refine ⟨_, rfl, _, rfl, _, rfl, pr, _, rfl, SqL.of er, fun p1 hp1 => ?_⟩
    rw [cutTo _ _ (by omega)]
    have t1 := same_new hp1 (.lst (sVs (r.take k)))
    refine ⟨_, rfl, _, rfl, _, _, rfl, rfl, pr, _, _, _, rfl, rfl, SqL.of (t1 _ _ er), (by rw [e1]; exact nat_at hk), _, rfl, _, rfl, pr, _, _, _, rfl, rfl, SqL.of (t1 _ _ er), nat_at hk0, (by show 2 ≤ sizeLine; decide), fun p2 hp2 => ?_⟩
    have t2 := t1.trans (same_new hp2 (.lst [.str r[k + 1], .str r[k]]))
    refine ⟨p1, p2, _, _, rfl, rfl, same_new hp2 _ _ _ upd_same, upd_same, by rw [sVs_len, List.length_take, sizeLine_eq]; show _ + 2 ≤ _; omega, fun p3 hp3 => ?_⟩
    have t3 := t2.trans (same_new hp3 (.lst (sVs (r.take k) ++ [.str r[k + 1], .str r[k]])))
    refine ⟨_, rfl, _, rfl, _, _, rfl, rfl, _, rfl, pr, _, rfl, SqL.of (t3 _ _ er), fun p4 hp4 => ?_⟩
    rw [e2, cutDrop _ _ (by omega)]
    have t4 := t3.trans (same_new hp4 (.lst (sVs (r.drop (k + 2)))))
    refine ⟨p3, p4, _, _, rfl, rfl, same_new hp4 _ _ _ upd_same, upd_same, ?_, fun p5 hp5 => ?_⟩
    · rw [List.length_append, sVs_len, sVs_len, List.length_take, List.length_drop, sizeLine_eq]
      show _ + 2 + _ ≤ _
      omega
    have hfin : sVs (r.take k) ++ [V.str r[k + 1], V.str r[k]] ++ sVs (r.drop (k + 2)) = sVs (r.take k ++ ([r[k + 1], r[k]] ++ r.drop (k + 2))) := by
      unfold sVs
      rw [List.map_append, List.map_append, List.append_assoc]
      rfl
    rw [hfin]
    refine perm p5 _ _ (t4.trans (same_new hp5 _)) upd_same ?_
    have hr0 : r = r.take k ++ ([r[k], r[k + 1]] ++ r.drop (k + 2)) := by
      conv => lhs; rw [← List.take_append_drop k r, List.drop_eq_getElem_cons hk0, List.drop_eq_getElem_cons hk]
      rfl
    conv => rhs; rw [hr0]
    refine List.Perm.append_left _ ?_
    exact List.Perm.swap _ _ _
  -- if mixed % 6 == 1
  refine ⟨_, rfl, _, _, rfl, rfl, (by show (0 : Int) < 6; decide), rfl, _, rfl, ite2 (fun _ => ?_) (fun _ => ?_)⟩
  · refine ⟨_, rfl, _, rfl, _, _, rfl, rfl, _, rfl, pr, _, rfl, SqL.of er, fun p1 hp1 => ?_⟩
    rw [e1, cutDrop _ _ (by omega)]
    have t1 := same_new hp1 (.lst (sVs (r.drop (k + 1))))
    refine ⟨_, rfl, _, rfl, _, _, rfl, rfl, _, rfl, pr, _, rfl, SqL.of (t1 _ _ er), fun p2 hp2 => ?_⟩
    rw [e1, cutTo _ _ (by omega)]
    have t2 := t1.trans (same_new hp2 (.lst (sVs (r.take (k + 1)))))
    refine ⟨p1, p2, _, _, rfl, rfl, same_new hp2 _ _ _ upd_same, upd_same, by rw [sVs_len, sVs_len, List.length_take, List.length_drop, sizeLine_eq]; omega, fun p3 hp3 => ?_⟩
    rw [sVs_app]
    refine perm p3 _ _ (t2.trans (same_new hp3 _)) upd_same ?_
    have := List.perm_append_comm (l₁ := r.drop (k + 1)) (l₂ := r.take (k + 1))
    rw [List.take_append_drop] at this
    exact this
  -- if mixed % 36 == 2
  refine ⟨_, rfl, _, _, rfl, rfl, (by show (0 : Int) < 36; decide), rfl, _, rfl, ite2 (fun _ => ?_) (fun _ => ?_)⟩
  · refine ⟨_, rfl, _, rfl, _, rfl, rfl, pr, _, rfl, SqL.of er, fun p1 hp1 => ?_⟩
    have e : (sVs r).reverse = sVs r.reverse := by unfold sVs; rw [List.map_reverse]
    rw [e]
    exact perm p1 _ _ (same_new hp1 _) upd_same (List.reverse_perm r)
  · exact ⟨_, rfl, perm pr r _ (Same.refl _) er (.refl _)⟩
end
end K3

set_option Elab.async false
set_option linter.all false
set_option maxRecDepth 100000
set_option maxHeartbeats 4000000
namespace K3
open PySem L2 Mg PySem.SeqAt
/-! ### rows as data -/
def dRow (r : List Str) : PyData := .list (r.map PyData.str)
def dRows (rows : List (List Str)) : PyData := .list (rows.map dRow)
theorem dvs_row {K : PySem.W.Frag} {H : Hp} : ∀ r : List Str, DVs K H (sVs r) (r.map PyData.str)
  | [] => .nil
  | x :: r => .cons (.str x) (dvs_row r)
theorem dv_row {K : PySem.W.Frag} {H : Hp} {a : Addr} {r : List Str} (e : H a = some (.lst (sVs r))) : DV K H (.ref a) (dRow r) := .lst (SqL.of e) (dvs_row r)
theorem dv_rows {K : PySem.W.Frag} {H : Hp} {ra : Addr} {as : List Addr} {rows : List (List Str)} (R : RowsAt H ra as rows) : DV K H (.ref ra) (dRows rows) := by
  have go : ∀ (as : List Addr) (rows : List (List Str)), as.length = rows.length → (∀ (i : Nat) (a : Addr) (r : List Str), as[i]? = some a → rows[i]? = some r → H a = some (.lst (sVs r))) → DVs K H (as.map V.ref) (rows.map dRow) := by
    intro as
    induction as with
    | nil =>
      intro rs hl _
      cases rs with
      | nil => exact .nil
      | cons _ _ => cases hl
    | cons p ps ih =>
      intro rs hl h
      cases rs with
      | nil => cases hl
      | cons r rs => exact .cons (dv_row (h 0 p r rfl rfl)) (ih rs (by simpa using hl) fun i a s h1 h2 => h (i + 1) a s h1 h2)
  exact .lst (SqL.of R.lst) (go as rows R.len R.row)
def okS (r : List Str) : Prop := ∀ x ∈ r, PyData.strOk x = true
theorem plain_row : ∀ {r : List Str}, okS r → plainDs (r.map PyData.str) = true
  | [], _ => by simp [plainDs]
  | x :: r, h => by
    have h1 : PyData.strOk x = true := h x List.mem_cons_self
    have h2 := plain_row (r := r) fun y hy => h y (List.mem_cons_of_mem _ hy)
    simp [plainDs, plainD, h1, h2]
theorem plain_rows : ∀ {rows : List (List Str)}, (∀ r ∈ rows, okS r) → plainDs (rows.map dRow) = true
  | [], _ => by simp [plainDs]
  | r :: rows, h => by
    have h1 := plain_row (h r List.mem_cons_self)
    have h2 := plain_rows (rows := rows) fun y hy => h y (List.mem_cons_of_mem _ hy)
    simp [plainDs, dRow, plainD, h1, h2]
theorem depth_strs : ∀ r : List Str, PyData.depthAll (r.map PyData.str) = 0
  | [] => by simp [PyData.depthAll]
  | x :: r => by simp [PyData.depthAll, PyData.depth, depth_strs r]
theorem depth_rows : ∀ rows : List (List Str), PyData.depthAll (rows.map dRow) ≤ 1
  | [] => by simp [PyData.depthAll]
  | r :: rows => by
    have := depth_rows rows
    simp only [List.map_cons, PyData.depthAll, dRow, PyData.depth, depth_strs]
    omega
theorem sh_row {r : List Str} (h : okS r) : shaped (dRow r) = true ∧ noMix (dRow r) (dRow r) = true ∧ Spec.same (dRow r) (dRow r) = true := by
  have p : plainD (dRow r) = true := by simp only [dRow, plainD]; exact plain_row h
  refine ⟨shaped_of p (by simp only [dRow, PyData.depth, depth_strs]; omega), (same_self _ p).2.1, (same_self _ p).1⟩
theorem sh_rows {rows : List (List Str)} (h : ∀ r ∈ rows, okS r) : shaped (dRows rows) = true ∧ noMix (dRows rows) (dRows rows) = true ∧ Spec.same (dRows rows) (dRows rows) = true := by
  have p : plainD (dRows rows) = true := by simp only [dRows, plainD]; exact plain_rows h
  have d := depth_rows rows
  refine ⟨shaped_of p (by simp only [dRows, PyData.depth]; omega), (same_self _ p).2.1, (same_self _ p).1⟩
theorem tot_le {rows : List (List Str)} (h : ∀ r ∈ rows, r.length ≤ 60) : tot rows ≤ rows.length * 60 := by
  induction rows with
  | nil => exact Nat.zero_le _
  | cons r rows ih =>
    rw [tot_cons, List.length_cons]
    have := h r List.mem_cons_self
    have := ih fun s hs => h s (List.mem_cons_of_mem _ hs)
    omega
def kind (rs : List (List Str)) : Str := if rs.all (·.isEmpty) = true then "row" else "ring"
theorem kind_row {rs : List (List Str)} (h : ∀ r ∈ rs, r = []) : kind rs = "row" := if_pos (List.all_eq_true.mpr fun r hr => by rw [h r hr]; rfl)
theorem kind_ring {rs : List (List Str)} (h : ∃ r ∈ rs, r ≠ []) : kind rs = "ring" := if_neg fun z => by
  obtain ⟨r, hr, ne⟩ := h
  have := List.all_eq_true.mp z r hr
  exact ne (List.isEmpty_iff.mp this)
def spAsked : Sp := fun vs H Q _ => ∃ (ra la : Addr) (as : List Addr) (rows : List (List Str)) (ls : List Str), vs = [.ref ra, .ref la] ∧ RowsAt H ra as rows ∧ H la = some (.lst (sVs ls)) ∧ ls.length = rows.length ∧ ls.Nodup ∧ rows.length ≤ 7 ∧ (∀ r ∈ rows, r.Nodup ∧ r.length ≤ 60 ∧ okS r) ∧ okS ls ∧
  ∀ (joined : List Str) (H' : Hp), Good rows joined → pick (cnt (after rows joined)) (after rows joined) = none → Same H H' → Q (.str (kind (after rows joined))) H'
section
variable {P : Program} {w : World} {K : PySem.W.Frag} {mg : Str → Option Value} {base : Heap} {f fM fR fG C B : Addr} {fd dM dR dG : FuncData}
abbrev nAsked : List Str := ["_law_rows", "_law_labels", "_law_handed", "_law_named", "_law_ring", "_law_found", "error"]
theorem boot_vErr : bootBuiltins "ValueError" = some (.type "ValueError") := by decide +kernel
theorem scAsked : FnScope ["_law_rows", "_law_labels", "_law_handed", "_law_named", "_law_ring", "_law_found", "error"] ["_law_rows", "_law_labels"] (defScope sAsked) := ⟨rfl, rfl, rfl, by decide +kernel, rfl, by decide +kernel, by decide +kernel⟩
theorem ok_asked (F : Fun K "_law_asked" "_law_asked" sAsked f fd) (T : Txt mg) (GM : FnOk P w K mg base (CXE P w) 3 fM dM ["rows", "labels"] (spMerged C)) (kM : PySem.W.keepIn K (.ref fM) = true) (bM : Binds K dM ["rows", "labels"] []) (mM : mg "merged" = some (.ref fM))
    (GR : FnOk P w K mg base CX0 2 fR dR ["_law_rows", "_law_found"] spRowR) (kR : PySem.W.keepIn K (.ref fR) = true) (bR : Binds K dR ["_law_rows", "_law_found"] []) (mR : mg "_law_row_right" = some (.ref fR))
    (GG : FnOk P w K mg base CX0 2 fG dG ["_law_rows", "_law_labels", "_law_ring"] spRingR) (kG : PySem.W.keepIn K (.ref fG) = true) (bG : Binds K dG ["_law_rows", "_law_labels", "_law_ring"] []) (mG : mg "_law_ring_right" = some (.ref fG))
    (mC : mg "AtOdds" = some (.ref C)) (mB : mg "BookError" = some (.ref B)) (hf : XFld K C "ring") (hex : PySem.W.exmOne K (.ref C) (.ref C) = some true) (hk1 : PySem.W.kitOne K (.ref C) (.ref B) = some true) (hk2 : PySem.W.kitOne K (.ref C) (.type "ValueError") = some true) :
    FnOk P w K mg base CX0 4 f fd ["_law_rows", "_law_labels"] spAsked := by
  refine F.ok scAsked (fun vs H Q E h => ?_) (fun cdv A outer s H vs Q E hr h => ?_)
  · obtain ⟨ra, la, as, rows, ls, rfl, _⟩ := h
    rfl
  obtain ⟨ra, la, as, rows, ls, rfl, R, el, hll, hlnd, hrl, hrw, hls, q⟩ := h
  have hr2 := hr.mono (j := 2) (by decide)
  have hu : (A.deeper (PyProof.Rows.envOfC "_law_asked" (defScope sAsked) s.heap.objs.size f cdv)).units + 64 < cLine := by have := hr.un; omega
  refine ⟨_, pss_cons (ps_setcomp (i := 2) (defScope sAsked) nAsked ["_law_row"] [] rfl scAsked.nd rfl rfl (pi_list (pv 0)) (own_name (i := 0) (by decide)) (fun _ _ _ _ _ _ => ⟨pg_name (i := 0) ndq1 rfl (Or.inl rfl), pts_nil, pe_callTy (call_listK (K := K)) rfl T.list PyProof.Rows.boot_list (pa_cons (pv 0) pa_nil)⟩))
    (pss_cons (ps_set (i := 3) scAsked.nd rfl (Or.inl rfl) (pe_callTy call_list_of rfl T.list PyProof.Rows.boot_list (pa_cons (pv 1) pa_nil)))
    (pss_cons (ps_set (i := 4) scAsked.nd rfl (Or.inl rfl) pe_non)
    (pss_cons (ps_set (i := 5) scAsked.nd rfl (Or.inl rfl) pe_non)
    (pss_cons (ps_try (EX := noXS) own_cx (fun _ _ h => noWx h) (fun pn EX1 => pss_one (ps_set (i := 5) scAsked.nd rfl (Or.inl rfl) (pe_callE GM hr rfl mM kM bM .nil (pa_cons (pv 2) (pa_cons (pv 3) pa_nil)))))
      (fun pn => ph_asK (K := K) (i := 6) ⟨rfl, rfl, rfl⟩ scAsked.nd rfl rfl rfl mC (fun x => pss_cons (ps_if (PW.pt (pw_or (pt_not (pt_val (pe_callB (call_isiXK (K := K)) rfl T.isi PyProof.Rows.boot_isinstance (pa_cons (pv 6) (pa_cons (pe_glob (v := .ref B) rfl mB rfl) pa_nil)))))
          (pw_or1 (pt_not (pt_val (pe_callB (call_isiXK (K := K)) rfl T.isi PyProof.Rows.boot_isinstance (pa_cons (pv 6) (pa_cons (pe_bltn (v := .ty "ValueError") rfl T.vErr boot_vErr rfl) pa_nil)))))))) pss_never pss_nil)
        (pss_one (ps_set (i := 4) scAsked.nd rfl (Or.inl rfl) (pe_xfldK (K := K) (pv 6))))) (ph_nil ⟨rfl, rfl, rfl⟩)))
    (pss_cons (ps_if (PW.pt (pw_or (pt_cmpR (op_neD hu) (pv 2) (pv 0) (nomark _)) (pw_or1 (pt_cmpR (op_neD hu) (pv 3) (pv 1) (nomark _))))) pss_never pss_nil)
    (pss_cons (ps_if (pt_cmp (pc_isN (pv 4))) (pss_one (ps_ret (pe_ifExp (pt_val (pe_call GR hr2 rfl mR kR bR .nil pass0 (pa_cons (pv 0) (pa_cons (pv 5) pa_nil)))) pe_str pe_str))) pss_nil)
    (pss_one (ps_ret (pe_ifExp (pt_val (pe_call GG hr2 rfl mG kG bG .nil pass0 (pa_cons (pv 0) (pa_cons (pv 1) (pa_cons (pv 4) pa_nil))))) pe_str pe_str))))))))), ?_⟩
  have shR := sh_rows fun r hr' => (hrw r hr').2.2
  have shL := sh_row hls
  have htot : tot rows ≤ 1000 := by
    have := tot_le fun r hr' => (hrw r hr').2.1
    omega
  -- handed = [list(row) for row in rows]
  refine ⟨_, rfl, ra, rfl, ⟨_, SqL.of R.lst⟩, turns_list0 (K := K) (a := ra) (xs := as.map V.ref) (fun i ys H2 => Same H H2 ∧ ∃ ps : List Addr, ys = ps.map V.ref ∧ ps.length = i ∧ ∀ (j : Nat) (p : Addr) (r : List Str), ps[j]? = some p → rows[j]? = some r → H2 p = some (.lst (sVs r)))
    ⟨Same.refl _, [], rfl, rfl, fun j p r h => by simp at h⟩ (fun i ys H2 _ h => SqL.of (h.1 _ _ R.lst)) ?_ ?_⟩
  · rintro i y ys H2 hi ⟨s2, ps, rfl, hps, hpl⟩
    obtain ⟨a, ha, rfl⟩ := refs_get hi
    obtain ⟨r, hr', er⟩ := R.get ha
    have hil : i < rows.length := (List.getElem?_eq_some_iff.mp hr').1
    refine ⟨_, rfl, a, _, rfl, .inl (SqL.of (s2 _ _ er)), fun p hp => ?_⟩
    have s3 := same_new hp (.lst (sVs r))
    refine ⟨by rw [List.length_map, hps, sizeLine_eq]; omega, s2.trans s3, ps ++ [p], by rw [List.map_append]; rfl, by rw [List.length_append, hps]; rfl, fun j p' r' h1 h2 => ?_⟩
    by_cases hj : j < ps.length
    · rw [List.getElem?_append_left hj] at h1
      exact s3 _ _ (hpl j p' r' h1 h2)
    · have hjl : j < (ps ++ [p]).length := (List.getElem?_eq_some_iff.mp h1).1
      rw [List.length_append, List.length_singleton] at hjl
      obtain rfl : j = ps.length := by omega
      rw [List.getElem?_concat_length] at h1
      cases h1
      rw [hps, hr'] at h2
      cases h2
      exact upd_same
  rintro ys H2 ⟨s2, ps, rfl, hps, hpl⟩ ha hha
  rw [List.length_map, R.len] at hps
  have s3 := same_new hha (.lst (ps.map V.ref))
  have R3 : RowsAt (upd H2 ha (.lst (ps.map V.ref))) ha ps rows := ⟨upd_same, hps, fun i a r h1 h2 => s3 _ _ (hpl i a r h1 h2)⟩
  have sA := s2.trans s3
  generalize upd H2 ha (.lst (ps.map V.ref)) = H3 at *
  -- named = list(labels)
  refine ⟨_, rfl, la, _, rfl, .inl (SqL.of (sA _ _ el)), fun na hna => ?_⟩
  have s4 := same_new hna (.lst (sVs ls))
  have R4 := R3.same s4
  have en := upd_same (H := H3) (a := na) (o := .lst (sVs ls))
  have sB := sA.trans s4
  generalize upd H3 na (.lst (sVs ls)) = H4 at *
  -- found = merged(handed, named)
  refine ⟨_, rfl, _, rfl, ha, na, ps, rows, ls, rfl, R4, en, hll, htot, by omega, fun r hr' => (hrw r hr').1, fun p found H5 hp s5 ep hg hend hfl => ?_, fun dx p ts ring rs joined H5 s5 edx L hE hring hg hpk hne => ?_⟩
  · -- a row
    have sC := sB.trans s5
    refine ⟨_, rfl, _, rfl, dRows rows, dRows rows, dv_rows (R4.same s5), dv_rows (R.same sC), shR.1, shR.1, shR.2.1, _, rfl, ?_⟩
    rw [if_pos rfl, shR.2.2]
    refine iteF ?_
    refine ⟨_, rfl, _, rfl, dRow ls, dRow ls, dv_row (s5 _ _ en), dv_row (sC _ _ el), shL.1, shL.1, shL.2.1, _, rfl, ?_⟩
    rw [if_pos rfl, shL.2.2]
    refine iteF ?_
    refine ⟨_, rfl, _, rfl, iteT ?_⟩
    refine ⟨_, rfl, _, rfl, ra, p, as, rows, found, rfl, R.same sC, ep, hg, hend, hfl, by omega, fun r hr' => Nat.le_trans (hrw r hr').2.1 (by decide), fun H6 s6 => ⟨_, rfl, iteT ?_⟩⟩
    have z := q found H6 hg (pick_empty hend) (sC.trans s6)
    rw [kind_row hend] at z
    exact z
  · -- a ring
    refine ⟨true, hex, iteT ⟨C, rfl, fun x hx => ?_⟩⟩
    have nx : dx ≠ x := ne_of_none edx hx
    have s6 := same_new hx (ExO x C (some dx))
    refine ⟨_, rfl, x, C, some dx, .ref B, _, rfl, rfl, upd_same, hk1, _, rfl, iteF ?_⟩
    refine ⟨_, rfl, x, C, some dx, .type "ValueError", _, rfl, rfl, upd_same, hk2, _, rfl, iteF ?_⟩
    refine ⟨_, rfl, x, C, dx, _, .ref p, rfl, upd_same, s6 _ _ edx, hf, by rw [List.lookup_cons, beq_self_eq_true], ?_⟩
    have s7 := s5.trans s6
    have sC := sB.trans s7
    have L7 := L.same s6
    generalize upd H5 x (ExO x C (some dx)) = H7 at *
    refine ⟨_, rfl, _, rfl, dRows rows, dRows rows, dv_rows (R4.same s7), dv_rows (R.same sC), shR.1, shR.1, shR.2.1, _, rfl, ?_⟩
    rw [if_pos rfl, shR.2.2]
    refine iteF ?_
    refine ⟨_, rfl, _, rfl, dRow ls, dRow ls, dv_row (s7 _ _ en), dv_row (sC _ _ el), shL.1, shL.1, shL.2.1, _, rfl, ?_⟩
    rw [if_pos rfl, shL.2.2]
    refine iteF ?_
    refine ⟨_, rfl, _, rfl, iteF ?_⟩
    refine ⟨_, rfl, _, rfl, _, rfl, ra, la, p, as, ts, rows, rs, ls, ring, rfl, R.same sC, sC _ _ el, hll, hlnd, by omega, fun r hr' => (hrw r hr').1, L7, hE, hring, fun H8 s8 => ⟨_, rfl, iteT ?_⟩⟩
    have z := q joined H8 hg hpk (sC.trans s8)
    rw [kind_ring hne] at z
    exact z
end
end K3

set_option Elab.async false
set_option linter.all false
set_option maxRecDepth 100000
set_option maxHeartbeats 4000000
namespace K3
open PySem L2 Mg
theorem with_tail {X : Cx} {tail body : List Stmt} {G : TS → Prop} (Pr : TS → Prop) (h : ∃ tt, PSs X tail tt ∧ Pr tt) (k : ∀ tt, PSs X tail tt → Pr tt → ∃ t, PSs X body t ∧ G t) : ∃ t, PSs X body t ∧ G t := let ⟨tt, a, b⟩ := h; k tt a b
/-- law's: a list of at most 63 iVs is handed in, True comes out -/
def spLaw (K : PySem.W.Frag) : Sp := fun vs H Q _ => ∃ (a : Addr) (ns : List Int), vs = [.ref a] ∧ SqL K H a (ns.map V.int) ∧ ns.length ≤ 63 ∧ ∀ H', Q (.bl true) H'
/-- the names of a row: from the k-th on, n of them -/
def row (c k : Int) (n : Nat) : List Str := (List.range n).map fun i : Nat => nameBy (k + (i : Int)) c
theorem row_len (c k : Int) (n : Nat) : (row c k n).length = n := by unfold row; simp
theorem row_mem {c k : Int} {n : Nat} {x : Str} (h : x ∈ row c k n) : ∃ i : Nat, i < n ∧ x = nameBy (k + (i : Int)) c := by
  unfold row at h
  obtain ⟨i, hi, e⟩ := List.mem_map.mp h
  exact ⟨i, List.mem_range.mp hi, e.symm⟩
theorem nodup_map {α β : Type} {f : α → β} : ∀ {l : List α}, l.Nodup → (∀ a ∈ l, ∀ b ∈ l, f a = f b → a = b) → (l.map f).Nodup
  | [], _, _ => List.nodup_nil
  | a :: l, h, hi => by
    obtain ⟨h1, h2⟩ := List.nodup_cons.mp h
    rw [List.map_cons]
    refine List.nodup_cons.mpr ⟨fun hm => ?_, nodup_map h2 fun x hx y hy => hi x (List.mem_cons_of_mem _ hx) y (List.mem_cons_of_mem _ hy)⟩
    obtain ⟨b, hb, e⟩ := List.mem_map.mp hm
    exact h1 (by rw [hi a List.mem_cons_self b (List.mem_cons_of_mem _ hb) e.symm]; exact hb)
theorem row_nodup {c k : Int} {n : Nat} (hk : 0 ≤ k) (hn : k + n ≤ 676) : (row c k n).Nodup := by
  unfold row
  refine nodup_map List.nodup_range fun a ha b hb e => ?_
  have h1 := List.mem_range.mp ha
  have h2 := List.mem_range.mp hb
  have := name_inj (by omega) (by omega) (by omega) (by omega) e
  omega
theorem row_apart {c : Int} {n m : Nat} (hn : n + m ≤ 676) : ∀ x ∈ row c 0 n, x ∉ row c n m := fun x h1 h2 => by
  obtain ⟨i, hi, rfl⟩ := row_mem h1
  obtain ⟨j, hj, e⟩ := row_mem h2
  have := name_inj (by omega) (by omega) (by omega) (by omega) e
  omega
theorem row_succ (c k : Int) (n : Nat) : sVs (row c k n) ++ [V.str (nameBy (k + (n : Int)) c)] = sVs (row c k (n + 1)) := by
  unfold sVs row
  rw [List.range_succ, List.map_append, List.map_append]
  rfl
theorem ok_app {a b : Str} (ha : PyData.strOk a = true) (hb : PyData.strOk b = true) : PyData.strOk (a ++ b) = true := by
  unfold PyData.strOk at *
  show (a.cps ++ b.cps).all _ = true
  rw [Array.all_append, ha, hb]
  rfl
theorem ok_slice {a : Str} {l u : Option Int} (ha : PyData.strOk a = true) : PyData.strOk (Txt.slice a l u) = true := by
  unfold PySem.Txt.slice
  split
  · exact ha
  · unfold PyData.strOk at *
    rw [← Array.all_toList, List.all_eq_true] at *
    intro c hc
    obtain ⟨i, _, e⟩ := List.mem_filterMap.mp (by simpa using hc)
    exact ha c (by
      have := Array.mem_of_getElem? e
      simpa using this)
theorem ok_letters : PyData.strOk letters = true := by decide +kernel
theorem ok_sign {k : Int} (h : k < 26) : PyData.strOk (sign k) = true := by
  unfold PyData.strOk sign
  have : 97 + k.toNat < 1114112 := by omega
  simp [this]
theorem ok_nameBy (k c : Int) : PyData.strOk (nameBy k c) = true := by
  unfold nameBy fill
  exact ok_app (ok_app (ok_app (ok_slice (ok_slice (ok_app ok_letters ok_letters))) (ok_sign (Int.emod_lt_of_pos _ (by decide)))) (ok_sign (Int.emod_lt_of_pos _ (by decide)))) (ok_slice (ok_slice (ok_app ok_letters ok_letters)))
theorem row_ok (c k : Int) (n : Nat) : okS (row c k n) := fun x hx => by
  obtain ⟨i, _, rfl⟩ := row_mem hx
  exact ok_nameBy _ _
section
variable {P : Program} {w : World} {K : PySem.W.Frag} {mg : Str → Option Value} {base : Heap} {f fA fCe fN fB : Addr} {fd dA dCe dN dB : FuncData}
abbrev nLaw : List Str := ["_law_script", "_law_many", "_law_names", "_law_rows", "_law_labels", "_law_kind"]
theorem ndk1 : (["_law_k", "_law_script"] : List Str).Nodup := by decide +kernel
theorem ndk2 : (["_law_cell", "_law_names"] : List Str).Nodup := by decide +kernel
theorem scLaw : FnScope ["_law_script", "_law_many", "_law_names", "_law_rows", "_law_labels", "_law_kind"] ["_law_script"] (defScope sLaw) := ⟨rfl, rfl, rfl, by decide +kernel, rfl, by decide +kernel, by decide +kernel⟩
theorem ok_law (F : Fun K "law" "law" sLaw f fd) (T : Txt mg) (GA : FnOk P w K mg base CX0 4 fA dA ["_law_rows", "_law_labels"] spAsked) (kA : PySem.W.keepIn K (.ref fA) = true) (bA : Binds K dA ["_law_rows", "_law_labels"] []) (mA : mg "_law_asked" = some (.ref fA))
    (FCe : Fun K "_law_cell_at" "_law_cell_at" sCell fCe dCe) (bCe : Binds K dCe ["_law_script", "_law_k"] []) (mCe : mg "_law_cell_at" = some (.ref fCe))
    (FN : Fun K "_law_name_by" "_law_name_by" sName fN dN) (bN : Binds K dN ["_law_k", "_law_cell"] []) (mN : mg "_law_name_by" = some (.ref fN))
    (FB : Fun K "_law_row_by" "_law_row_by" sRowBy fB dB) (bB : Binds K dB ["_law_names", "_law_cell"] []) (mB : mg "_law_row_by" = some (.ref fB)) : FnOk P w K mg base CX0 5 f fd ["_law_script"] (spLaw K) := by
  have GCe : FnOk P w K mg base CX0 1 fCe dCe ["_law_script", "_law_k"] (spCell K) := ok_cell FCe T
  have GN : FnOk P w K mg base CX0 1 fN dN ["_law_k", "_law_cell"] spName := ok_name FN T
  have GB : FnOk P w K mg base CX0 1 fB dB ["_law_names", "_law_cell"] spRowBy := ok_rowBy FB T
  refine F.ok scLaw (fun vs H Q E h => ?_) (fun cdv A outer s H vs Q E hr h => ?_)
  · obtain ⟨a, ns, rfl, _⟩ := h
    rfl
  obtain ⟨a, ns, rfl, S, h63, q⟩ := h
  have hr1 : Room 1 _ := hr.mono (by decide)
  refine with_tail (tail := (defBody sLaw).drop 2) (fun tt => ∀ (D : L2.Ends), (∀ H', D.rt (.bl true) H') → ∀ (many : Int) (H2 : Hp), 0 ≤ many → many ≤ 60 → SqL K H2 a (ns.map V.int) → tt D [some (.ref a), some (.int many), none, none, none, none] H2) ?_ ?_
  · refine ⟨_, pss_cons (ps_set (i := 2) scLaw.nd rfl (Or.inr rfl) (pe_comp (defScope sLaw) nLaw ["_law_k"] [("_law_script", 0)] rfl (pi_range1 rfl T.range (pa_cons (pv 1) pa_nil)) (own_name (i := 0) (by decide)) (fun _ _ _ _ _ _ => ⟨pg_name (i := 0) ndk1 rfl (Or.inl rfl), pts_nil,
        pe_call GN hr1 rfl mN FN.kp bN .nil pass0 (pa_cons (pv 0) (pa_cons (pe_call GCe hr1 rfl mCe FCe.kp bCe .nil pass0 (pa_cons (pv 1) (pa_cons pe_int pa_nil))) pa_nil))⟩)))
      (pss_cons (ps_setcomp (i := 3) (defScope sLaw) nLaw ["_law_cell"] [("_law_names", 2)] rfl scLaw.nd rfl rfl (pi_list (pe_slice sl_list (pv 0) (po_some pe_int) (po_some pe_int))) (own_name (i := 0) (by decide)) (fun _ _ _ _ _ _ => ⟨pg_name (i := 0) ndk2 rfl (Or.inl rfl), pts_nil,
        pe_call GB hr1 rfl mB FB.kp bB .nil pass0 (pa_cons (pv 1) (pa_cons (pv 0) pa_nil))⟩))
      (pss_cons (ps_setcomp (i := 4) (defScope sLaw) nLaw ["_law_k"] [("_law_script", 0)] rfl scLaw.nd rfl rfl (pi_range1 rfl T.range (pa_cons (pe_callB call_len_seq rfl T.len PySem.boot_len (pa_cons (pv 3) pa_nil)) pa_nil)) (own_name (i := 0) (by decide)) (fun _ _ _ _ _ _ => ⟨pg_name (i := 0) ndk1 rfl (Or.inl rfl), pts_nil,
        pe_call GN hr1 rfl mN FN.kp bN .nil pass0 (pa_cons (pv 0) (pa_cons (pe_call GCe hr1 rfl mCe FCe.kp bCe .nil pass0 (pa_cons (pv 1) (pa_cons pe_int pa_nil))) pa_nil))⟩))
      (pss_cons (ps_set (i := 5) scLaw.nd rfl (Or.inl rfl) (pe_call GA hr rfl mA kA bA .nil pass0 (pa_cons (pv 3) (pa_cons (pv 4) pa_nil))))
      (pss_one (ps_ret (pe_and (pe_cmpR op_ne (pv 5) pe_str (nomark _)) (pe_one (pe_cmpR op_eq (pe_call GA hr rfl mA kA bA .nil pass0 (pa_cons (pv 3) (pa_cons (pv 4) pa_nil))) (pv 5) (nomark _))))))))), ?_⟩
    intro D hD many H2 hm0 hm60 S2
    have hmn : many.toNat ≤ 60 := by omega
    -- names
    refine ⟨_, rfl, _, rfl, by omega, by omega, turns_range0 (k := many.toNat) (fun i ys H3 => H3 = H2 ∧ ys = sVs (row (ns.getD 1 0) 0 i)) ⟨rfl, rfl⟩ ?_ ?_⟩
    · rintro i ys H3 hi ⟨rfl, rfl⟩
      refine ⟨_, rfl, _, rfl, a, ns, 1, rfl, S2, _, _, rfl, ?_, rfl, ?_⟩
      · rw [sVs_len, row_len, sizeLine_eq]
        omega
      · exact row_succ _ _ _
    rintro ys H3 ⟨rfl, rfl⟩ na hna
    have s4 := same_new (H := H3) hna (.lst (sVs (row (ns.getD 1 0) 0 many.toNat)))
    have en := upd_same (H := H3) (a := na) (o := .lst (sVs (row (ns.getD 1 0) 0 many.toNat)))
    have S4 := s4.seq S2
    have nnd : (row (ns.getD 1 0) 0 many.toNat).Nodup := row_nodup (by omega) (by omega)
    have nok := row_ok (ns.getD 1 0) 0 many.toNat
    have nln := row_len (ns.getD 1 0) 0 many.toNat
    generalize upd H3 na (.lst (sVs (row (ns.getD 1 0) 0 many.toNat))) = H4 at *
    generalize row (ns.getD 1 0) 0 many.toNat = names at *
    -- rows
    refine ⟨_, rfl, _, rfl, _, rfl, a, _, rfl, S4, fun ca hca => ?_⟩
    have hcut : ∃ ms : List Int, cutV (ns.map V.int) (some 3) (some 10) = ms.map V.int ∧ ms.length ≤ 7 := by
      refine ⟨(ns.drop (HT.sIx (ns.map V.int).length 0 (some 3))).take (HT.sIx (ns.map V.int).length (ns.map V.int).length (some 10) - HT.sIx (ns.map V.int).length 0 (some 3)), ?_, ?_⟩
      · unfold cutV
        rw [List.map_take, List.map_drop]
      · have e1 : HT.sIx (ns.map V.int).length 0 (some 3) = min 3 (ns.map V.int).length := HT.sIx_nat _ 0 3
        have e2 : HT.sIx (ns.map V.int).length (ns.map V.int).length (some 10) = min 10 (ns.map V.int).length := HT.sIx_nat _ _ 10
        rw [e1, e2, List.length_take, List.length_drop, List.length_map]
        omega
    obtain ⟨ms, ems, hms⟩ := hcut
    rw [ems]
    have s5 := same_new hca (.lst (ms.map V.int))
    have ec := upd_same (H := H4) (a := ca) (o := .lst (ms.map V.int))
    have en5 := s5 _ _ en
    have S5 := s5.seq S4
    generalize upd H4 ca (.lst (ms.map V.int)) = H5 at *
    refine ⟨ca, rfl, ⟨_, SqL.of ec⟩, turns_list0 (K := K) (a := ca) (xs := ms.map V.int) (fun i ys H6 => Same H5 H6 ∧ ∃ (ps : List Addr) (rws : List (List Str)), ys = ps.map V.ref ∧ ps.length = i ∧ rws.length = i ∧ (∀ (j : Nat) (p : Addr) (r : List Str), ps[j]? = some p → rws[j]? = some r → H6 p = some (.lst (sVs r))) ∧ ∀ r ∈ rws, r.Nodup ∧ r.length ≤ 60 ∧ okS r)
      ⟨Same.refl _, [], [], rfl, rfl, rfl, (fun j p r h => by simp at h), fun r hr' => nomatch hr'⟩ (fun i ys H6 _ h => SqL.of (h.1 _ _ ec)) ?_ ?_⟩
    · rintro i y ys H6 hi ⟨s6, ps, rws, rfl, hps, hrws, hpl, hrr⟩
      have hil := (List.getElem?_eq_some_iff.mp hi).1
      rw [List.length_map] at hil
      have hy : ∃ c : Int, y = .int c := by
        rw [List.getElem?_map, List.getElem?_eq_getElem hil] at hi
        exact ⟨_, (Option.some.inj hi).symm⟩
      obtain ⟨c, rfl⟩ := hy
      refine ⟨_, rfl, _, rfl, na, c, names, rfl, s6 _ _ en5, nnd, by omega, fun p r H7 s7 ep hrn hrl hrm => ?_⟩
      refine ⟨by rw [List.length_map, hps, sizeLine_eq]; omega, s6.trans s7, ps ++ [p], rws ++ [r], by rw [List.map_append]; rfl, by rw [List.length_append, hps]; rfl, by rw [List.length_append, hrws]; rfl, fun j p' r' h1 h2 => ?_, fun r' hr' => ?_⟩
      · by_cases hj : j < ps.length
        · rw [List.getElem?_append_left hj] at h1
          rw [List.getElem?_append_left (by omega)] at h2
          exact s7 _ _ (hpl j p' r' h1 h2)
        · have hjl : j < (ps ++ [p]).length := (List.getElem?_eq_some_iff.mp h1).1
          rw [List.length_append, List.length_singleton] at hjl
          obtain rfl : j = ps.length := by omega
          rw [List.getElem?_concat_length] at h1
          rw [hps, ← hrws, List.getElem?_concat_length] at h2
          cases h1
          cases h2
          exact ep
      · rcases List.mem_append.mp hr' with z | z
        · exact hrr r' z
        · rw [List.mem_singleton.mp z]
          exact ⟨hrn, hrl, fun x hx => nok x (hrm x hx)⟩
    rintro ys H6 ⟨s6, ps, rws, rfl, hps, hrws, hpl, hrr⟩ ra hra
    rw [List.length_map] at hps hrws
    have s7 := same_new hra (.lst (ps.map V.ref))
    have R7 : RowsAt (upd H6 ra (.lst (ps.map V.ref))) ra ps rws := ⟨upd_same, by omega, fun i a r h1 h2 => s7 _ _ (hpl i a r h1 h2)⟩
    have S7 := (s6.trans s7).seq S5
    generalize upd H6 ra (.lst (ps.map V.ref)) = H7 at *
    have hlr : (ps.map V.ref).length = rws.length := by rw [List.length_map]; omega
    -- labels
    refine ⟨_, rfl, ra, _, rfl, .inl (SqL.of R7.lst), _, rfl, by rw [hlr]; omega, by rw [hlr]; omega, turns_range0 (k := (((ps.map V.ref).length : Nat) : Int).toNat) (fun i ys H8 => H8 = H7 ∧ ys = sVs (row (ns.getD 2 0) 0 i)) ⟨rfl, rfl⟩ ?_ ?_⟩
    · rintro i ys H8 hi ⟨rfl, rfl⟩
      refine ⟨_, rfl, _, rfl, a, ns, 2, rfl, S7, _, _, rfl, ?_, rfl, ?_⟩
      · rw [sVs_len, row_len, sizeLine_eq]
        omega
      · exact row_succ _ _ _
    rintro ys H8 ⟨rfl, rfl⟩ la hla
    rw [Int.toNat_natCast, hlr]
    have s9 := same_new hla (.lst (sVs (row (ns.getD 2 0) 0 rws.length)))
    have el := upd_same (H := H8) (a := la) (o := .lst (sVs (row (ns.getD 2 0) 0 rws.length)))
    have R9 := R7.same s9
    have lnd : (row (ns.getD 2 0) 0 rws.length).Nodup := row_nodup (by omega) (by omega)
    have lok := row_ok (ns.getD 2 0) 0 rws.length
    have lln := row_len (ns.getD 2 0) 0 rws.length
    generalize upd H8 la (.lst (sVs (row (ns.getD 2 0) 0 rws.length))) = H9 at *
    generalize row (ns.getD 2 0) 0 rws.length = ls at *
    -- kind
    refine ⟨_, rfl, _, rfl, ra, la, ps, rws, ls, rfl, R9, el, lln, lnd, by omega, hrr, lok, fun j1 H10 g1 p1 s10 => ?_⟩
    have hw : ∀ rs : List (List Str), (!decide (V.str (kind rs) = V.str "wrong")) = true := fun rs => by
      unfold kind
      split <;> decide
    refine ⟨_, rfl, rfl, _, rfl, ?_⟩
    rw [hw]
    refine iteT ?_
    refine ⟨_, rfl, _, rfl, ra, la, ps, rws, ls, rfl, R9.same s10, s10 _ _ el, lln, lnd, by omega, hrr, lok, fun j2 H11 g2 p2 s11 => ?_⟩
    rw [good_same g2 g1 p2 p1]
    refine ⟨_, rfl, rfl, ?_⟩
    rw [decide_eq_true rfl]
    exact hD _
  intro tt htt Ptt
  refine ⟨_, pss_cons (ps_set (i := 1) scLaw.nd rfl (Or.inl rfl) (pe_op op_mod (pe_call GCe hr1 rfl mCe FCe.kp bCe .nil pass0 (pa_cons (pv 0) (pa_cons pe_int pa_nil))) pe_int))
    (pss_cons (ps_if (pt_cmpR op_eq (pe_op op_mod (pe_op op_fdiv (pe_call GCe hr1 rfl mCe FCe.kp bCe .nil pass0 (pa_cons (pv 0) (pa_cons pe_int pa_nil))) pe_int) pe_int) pe_int (nomark _))
      (pss_one (ps_set (i := 1) scLaw.nd rfl (Or.inl rfl) (pe_op op_mod (pe_op op_fdiv (pe_call GCe hr1 rfl mCe FCe.kp bCe .nil pass0 (pa_cons (pv 0) (pa_cons pe_int pa_nil))) pe_int) pe_int))) pss_nil)
    htt), ?_⟩
  refine ⟨_, rfl, a, ns, 0, rfl, S, _, _, rfl, rfl, (by show (0 : Int) < 10; decide), ?_⟩
  refine ⟨_, rfl, a, ns, 0, rfl, S, _, _, rfl, rfl, ⟨by decide, by decide⟩, _, _, rfl, rfl, (by show (0 : Int) < 4; decide), rfl, _, rfl, ite2 (fun _ => ?_) (fun _ => ?_)⟩
  · refine ⟨_, rfl, a, ns, 0, rfl, S, _, _, rfl, rfl, ⟨by decide, by decide⟩, _, _, rfl, rfl, (by show (0 : Int) < 61; decide), ?_⟩
    refine Ptt _ q _ H (Int.emod_nonneg _ (by decide)) ?_ S
    have := Int.emod_lt_of_pos (ns.getD 0 0 / 40) (show (0 : Int) < 61 by decide)
    omega
  · refine Ptt _ q _ H (Int.emod_nonneg _ (by decide)) ?_ S
    have := Int.emod_lt_of_pos (ns.getD 0 0) (show (0 : Int) < 10 by decide)
    omega
end
end K3

set_option Elab.async false
set_option linter.all false
set_option maxRecDepth 100000
set_option maxHeartbeats 4000000
namespace K3
open PySem L2 Mg PySem.W
/-! ### the top -/
theorem exm_of {K : Frag} {cls : Value} {C : Addr} (h1 : isClsIn K C = true) (h2 : typeIn K (.ref C) = some (.type "type")) (h3 : subIn K (.ref C) (.type "BaseException") = some true) {b : Bool} (h4 : subIn K cls (.ref C) = some b) : exmOne K cls (.ref C) = some b := by
  have e1 : (clsIn K C).isSome = true := h1
  unfold exmOne kitCls
  simp only [h2, h3, h4, e1]
  rfl
theorem kit_ref {K : Frag} {t : Value} {B : Addr} (h1 : isClsIn K B = true) (h2 : typeIn K (.ref B) = some (.type "type")) (h4 : subIn K t (.ref B) = some true) : kitOne K t (.ref B) = some true := by
  have e1 : (clsIn K B).isSome = true := h1
  unfold kitOne kitCls
  simp only [h2, h4, e1]
  split <;> rfl
theorem kit_type {K : Frag} {t : Value} {n : String} (h1 : kitMeta n = true) (h4 : subIn K t (.type n) = some true) : kitOne K t (.type n) = some true := by
  unfold kitOne kitCls
  simp only [h1, h4]
  split <;> rfl
theorem all_mk {l : PySem.W.OpenLaw} {w : World} {K : PySem.W.Frag} {h : Heap} {mg : Str → Option Value} {fa C B N : Addr} {bm bs sub : List Value} {nm qn : Str} {hdct ab : Bool} {sn : List Str} {col : Option Bool} {dd : Option Addr} {y0 y1 y2 y3 y5 : Option Value} {NB : Addr} {ocB ocN : Value} {odB odN : Option Addr} {cdB : ClassData} {slB slN : Array (Option Value)} {esN : Array DictEntry} {epN : Nat} {f1 f2 f3 f4 f5 f6 f7 f8 f9 f10 f11 f12 f13 f14 f15 f16 f17 : Addr} (X : K.In h) (G : h.Ns mainGlobals mg) (hfa : mg "law" = some (.ref fa))
    {od1 an1 od2 an2 od3 an3 od4 an4 od5 an5 od6 an6 od7 an7 od8 an8 od9 an9 od10 an10 od11 an11 od12 an12 od13 an13 od14 an14 od15 an15 od16 an16 od17 an17 : Option Addr} {sl1 sl2 sl3 sl4 sl5 sl6 sl7 sl8 sl9 sl10 sl11 sl12 sl13 sl14 sl15 sl16 sl17 : Array (Option Value)} {oc1 kV1 dc1 pm1 cd1 ct1 oc2 kV2 dc2 pm2 cd2 ct2 oc3 kV3 dc3 pm3 cd3 ct3 oc4 kV4 dc4 pm4 cd4 ct4 oc5 kV5 dc5 pm5 cd5 ct5 oc6 kV6 dc6 pm6 cd6 ct6 oc7 kV7 dc7 pm7 cd7 ct7 oc8 kV8 dc8 pm8 cd8 ct8 oc9 kV9 dc9 pm9 cd9 ct9 oc10 kV10 dc10 pm10 cd10 ct10 oc11 kV11 dc11 pm11 cd11 ct11 oc12 kV12 dc12 pm12 cd12 ct12 oc13 kV13 dc13 pm13 cd13 ct13 oc14 kV14 dc14 pm14 cd14 ct14 oc15 kV15 dc15 pm15 cd15 ct15 oc16 kV16 dc16 pm16 cd16 ct16 oc17 kV17 dc17 pm17 cd17 ct17 : Value}
    (a1 : nsIn K mainGlobals "merged" = some (some (.ref f1))) (l1 : K.lookup f1 = some ⟨oc1, od1, .func (fnOf "merged" "merged" (defArgs sMerged) (defBody sMerged) (defScope sMerged) .none kV1 dc1 pm1 an1 cd1 ct1), sl1⟩) (c1 : codeIn K cd1 "merged" = true) (k1 : keepIn K (.ref f1) = true)
    (a2 : nsIn K mainGlobals "counts_behind" = some (some (.ref f2))) (l2 : K.lookup f2 = some ⟨oc2, od2, .func (fnOf "counts_behind" "counts_behind" (defArgs sCounts) (defBody sCounts) (defScope sCounts) .none kV2 dc2 pm2 an2 cd2 ct2), sl2⟩) (c2 : codeIn K cd2 "counts_behind" = true) (k2 : keepIn K (.ref f2) = true)
    (a3 : nsIn K mainGlobals "free_name" = some (some (.ref f3))) (l3 : K.lookup f3 = some ⟨oc3, od3, .func (fnOf "free_name" "free_name" (defArgs sFree) (defBody sFree) (defScope sFree) .none kV3 dc3 pm3 an3 cd3 ct3), sl3⟩) (c3 : codeIn K cd3 "free_name" = true) (k3 : keepIn K (.ref f3) = true)
    (a4 : nsIn K mainGlobals "take_out" = some (some (.ref f4))) (l4 : K.lookup f4 = some ⟨oc4, od4, .func (fnOf "take_out" "take_out" (defArgs sTake) (defBody sTake) (defScope sTake) .none kV4 dc4 pm4 an4 cd4 ct4), sl4⟩) (c4 : codeIn K cd4 "take_out" = true) (k4 : keepIn K (.ref f4) = true)
    (a5 : nsIn K mainGlobals "ring_of" = some (some (.ref f5))) (l5 : K.lookup f5 = some ⟨oc5, od5, .func (fnOf "ring_of" "ring_of" (defArgs sRing) (defBody sRing) (defScope sRing) .none kV5 dc5 pm5 an5 cd5 ct5), sl5⟩) (c5 : codeIn K cd5 "ring_of" = true) (k5 : keepIn K (.ref f5) = true)
    (a6 : nsIn K mainGlobals "first_name" = some (some (.ref f6))) (l6 : K.lookup f6 = some ⟨oc6, od6, .func (fnOf "first_name" "first_name" (defArgs sFirst) (defBody sFirst) (defScope sFirst) .none kV6 dc6 pm6 an6 cd6 ct6), sl6⟩) (c6 : codeIn K cd6 "first_name" = true) (k6 : keepIn K (.ref f6) = true)
    (a7 : nsIn K mainGlobals "leaning_against" = some (some (.ref f7))) (l7 : K.lookup f7 = some ⟨oc7, od7, .func (fnOf "leaning_against" "leaning_against" (defArgs sLean) (defBody sLean) (defScope sLean) .none kV7 dc7 pm7 an7 cd7 ct7), sl7⟩) (c7 : codeIn K cd7 "leaning_against" = true) (k7 : keepIn K (.ref f7) = true)
    (a8 : nsIn K mainGlobals "_law_cell_at" = some (some (.ref f8))) (l8 : K.lookup f8 = some ⟨oc8, od8, .func (fnOf "_law_cell_at" "_law_cell_at" (defArgs sCell) (defBody sCell) (defScope sCell) .none kV8 dc8 pm8 an8 cd8 ct8), sl8⟩) (c8 : codeIn K cd8 "_law_cell_at" = true) (k8 : keepIn K (.ref f8) = true)
    (a9 : nsIn K mainGlobals "_law_name_by" = some (some (.ref f9))) (l9 : K.lookup f9 = some ⟨oc9, od9, .func (fnOf "_law_name_by" "_law_name_by" (defArgs sName) (defBody sName) (defScope sName) .none kV9 dc9 pm9 an9 cd9 ct9), sl9⟩) (c9 : codeIn K cd9 "_law_name_by" = true) (k9 : keepIn K (.ref f9) = true)
    (a10 : nsIn K mainGlobals "_law_row_by" = some (some (.ref f10))) (l10 : K.lookup f10 = some ⟨oc10, od10, .func (fnOf "_law_row_by" "_law_row_by" (defArgs sRowBy) (defBody sRowBy) (defScope sRowBy) .none kV10 dc10 pm10 an10 cd10 ct10), sl10⟩) (c10 : codeIn K cd10 "_law_row_by" = true) (k10 : keepIn K (.ref f10) = true)
    (a11 : nsIn K mainGlobals "_law_texts" = some (some (.ref f11))) (l11 : K.lookup f11 = some ⟨oc11, od11, .func (fnOf "_law_texts" "_law_texts" (defArgs sTexts) (defBody sTexts) (defScope sTexts) .none kV11 dc11 pm11 an11 cd11 ct11), sl11⟩) (c11 : codeIn K cd11 "_law_texts" = true) (k11 : keepIn K (.ref f11) = true)
    (a12 : nsIn K mainGlobals "_law_behind" = some (some (.ref f12))) (l12 : K.lookup f12 = some ⟨oc12, od12, .func (fnOf "_law_behind" "_law_behind" (defArgs sBehind) (defBody sBehind) (defScope sBehind) .none kV12 dc12 pm12 an12 cd12 ct12), sl12⟩) (c12 : codeIn K cd12 "_law_behind" = true) (k12 : keepIn K (.ref f12) = true)
    (a13 : nsIn K mainGlobals "_law_row_right" = some (some (.ref f13))) (l13 : K.lookup f13 = some ⟨oc13, od13, .func (fnOf "_law_row_right" "_law_row_right" (defArgs sRowR) (defBody sRowR) (defScope sRowR) .none kV13 dc13 pm13 an13 cd13 ct13), sl13⟩) (c13 : codeIn K cd13 "_law_row_right" = true) (k13 : keepIn K (.ref f13) = true)
    (a14 : nsIn K mainGlobals "_law_ring_right" = some (some (.ref f14))) (l14 : K.lookup f14 = some ⟨oc14, od14, .func (fnOf "_law_ring_right" "_law_ring_right" (defArgs sRingR) (defBody sRingR) (defScope sRingR) .none kV14 dc14 pm14 an14 cd14 ct14), sl14⟩) (c14 : codeIn K cd14 "_law_ring_right" = true) (k14 : keepIn K (.ref f14) = true)
    (a15 : nsIn K mainGlobals "_law_asked" = some (some (.ref f15))) (l15 : K.lookup f15 = some ⟨oc15, od15, .func (fnOf "_law_asked" "_law_asked" (defArgs sAsked) (defBody sAsked) (defScope sAsked) .none kV15 dc15 pm15 an15 cd15 ct15), sl15⟩) (c15 : codeIn K cd15 "_law_asked" = true) (k15 : keepIn K (.ref f15) = true)
    (a16 : nsIn K mainGlobals "law" = some (some (.ref f16))) (l16 : K.lookup f16 = some ⟨oc16, od16, .func (fnOf "law" "law" (defArgs sLaw) (defBody sLaw) (defScope sLaw) .none kV16 dc16 pm16 an16 cd16 ct16), sl16⟩) (c16 : codeIn K cd16 "law" = true) (k16 : keepIn K (.ref f16) = true)
    (aC : nsIn K mainGlobals "AtOdds" = some (some (.ref C))) (lC : K.lookup C = some (excClassObj nm qn C N bs bm hdct sn sub ab col dd y0 y1 y2 y3 y5 "ValueError.__new__")) (kC : keepIn K (.ref C) = true)
    (iC : findIn K (.ref C) "__init__" = some (some (.ref f17))) (nC : isFn K (.ref f17) = true) (l17 : K.lookup f17 = some ⟨oc17, od17, .func (fnOf "__init__" "AtOdds.__init__" (defArgs sInit) (defBody sInit) (defScope sInit) .none kV17 dc17 pm17 an17 cd17 ct17), sl17⟩) (c17 : codeIn K cd17 "AtOdds.__init__" = true) (k17 : keepIn K (.ref f17) = true)
    (x1 : findIn K (.ref C) "__setattr__" = some (some (.builtin "object.__setattr__"))) (x2 : findIn K (.ref C) "ring" = some none) (x3 : hasDictIn K C = true) (x4 : findIn K (.ref C) "__getattribute__" = some (some (.builtin "BaseException.__getattribute__"))) (x5 : findIn K (.ref C) "__getattr__" = some none) (x6 : mroIn K C (.type "BaseException") = some true)
    (aB : nsIn K mainGlobals "BookError" = some (some (.ref B))) (e1 : isClsIn K C = true) (e2 : typeIn K (.ref C) = some (.type "type")) (e3 : subIn K (.ref C) (.type "BaseException") = some true) (e4 : subIn K (.ref C) (.ref C) = some true)
    (e5 : isClsIn K B = true) (e6 : typeIn K (.ref B) = some (.type "type")) (e7 : subIn K (.ref C) (.ref B) = some true) (e8 : subIn K (.ref C) (.type "ValueError") = some true)
    (lB : K.lookup B = some ⟨ocB, odB, .cls cdB, slB⟩) (hB : cdB.ns = NB) (lN : K.lookup NB = some ⟨ocN, odN, .dict esN epN, slN⟩) (uN : keysStr esN.toList = true) (iN : nsIn K NB "__init__" = some none) (hbm : bm = .ref B :: vMro)
    (z1 : nsIn K mainGlobals "len" = some none) (z2 : nsIn K mainGlobals "zip" = some none) (z3 : nsIn K mainGlobals "enumerate" = some none) (z4 : nsIn K mainGlobals "any" = some none) (z5 : nsIn K mainGlobals "range" = some none) (z6 : nsIn K mainGlobals "isinstance" = some none) (z7 : nsIn K mainGlobals "list" = some none) (z8 : nsIn K mainGlobals "str" = some none) (z9 : nsIn K mainGlobals "all" = some none) (z10 : nsIn K mainGlobals "reversed" = some none) (z11 : nsIn K mainGlobals "set" = some none) (z12 : nsIn K mainGlobals "tuple" = some none) (z13 : nsIn K mainGlobals "ValueError" = some none) :
    ∃ fd : FuncData, (∀ (s : Shared) (v : Value), BindsTo s fd ⟨[v], []⟩ [("_law_script", v)]) ∧ ∀ base : Heap, K.In base → base.Ns mainGlobals mg → FnOk l.prog w K mg base CX0 5 fa fd ["_law_script"] (spLaw K) := by
  have e := hfa.symm.trans (mg_of X G a16)
  cases e
  have T : Txt mg := ⟨mg_none_of X G z1, mg_none_of X G z2, mg_none_of X G z3, mg_none_of X G z4, mg_none_of X G z5, mg_none_of X G z6, mg_none_of X G z7, mg_none_of X G z8, mg_none_of X G z9, mg_none_of X G z10, mg_none_of X G z11, mg_none_of X G z12, mg_none_of X G z13⟩
  have F1 := fun_mk (st := sMerged) l1 c1 k1
  have F2 := fun_mk (st := sCounts) l2 c2 k2
  have F3 := fun_mk (st := sFree) l3 c3 k3
  have F4 := fun_mk (st := sTake) l4 c4 k4
  have F5 := fun_mk (st := sRing) l5 c5 k5
  have F6 := fun_mk (st := sFirst) l6 c6 k6
  have F7 := fun_mk (st := sLean) l7 c7 k7
  have F8 := fun_mk (st := sCell) l8 c8 k8
  have F9 := fun_mk (st := sName) l9 c9 k9
  have F10 := fun_mk (st := sRowBy) l10 c10 k10
  have F11 := fun_mk (st := sTexts) l11 c11 k11
  have F12 := fun_mk (st := sBehind) l12 c12 k12
  have F13 := fun_mk (st := sRowR) l13 c13 k13
  have F14 := fun_mk (st := sRingR) l14 c14 k14
  have F15 := fun_mk (st := sAsked) l15 c15 k15
  have F16 := fun_mk (st := sLaw) l16 c16 k16
  have F17 := fun_mk (st := sInit) l17 c17 k17
  have b1 := F1.binds (ps := ["rows", "labels"]) fun _ _ _ _ _ _ us hl => match us, hl with | [_, _], _ => rfl
  have b2 := F2.binds (ps := ["rows"]) fun _ _ _ _ _ _ us hl => match us, hl with | [_], _ => rfl
  have b3 := F3.binds (ps := ["rows", "starts", "behind"]) fun _ _ _ _ _ _ us hl => match us, hl with | [_, _, _], _ => rfl
  have b4 := F4.binds (ps := ["name", "rows", "starts", "behind"]) fun _ _ _ _ _ _ us hl => match us, hl with | [_, _, _, _], _ => rfl
  have b5 := F5.binds (ps := ["rests", "labels"]) fun _ _ _ _ _ _ us hl => match us, hl with | [_, _], _ => rfl
  have b6 := F6.binds (ps := ["rests"]) fun _ _ _ _ _ _ us hl => match us, hl with | [_], _ => rfl
  have b7 := F7.binds (ps := ["name", "rests", "labels"]) fun _ _ _ _ _ _ us hl => match us, hl with | [_, _, _], _ => rfl
  have b8 := F8.binds (ps := ["_law_script", "_law_k"]) fun _ _ _ _ _ _ us hl => match us, hl with | [_, _], _ => rfl
  have b9 := F9.binds (ps := ["_law_k", "_law_cell"]) fun _ _ _ _ _ _ us hl => match us, hl with | [_, _], _ => rfl
  have b10 := F10.binds (ps := ["_law_names", "_law_cell"]) fun _ _ _ _ _ _ us hl => match us, hl with | [_, _], _ => rfl
  have b11 := F11.binds (ps := ["_law_found"]) fun _ _ _ _ _ _ us hl => match us, hl with | [_], _ => rfl
  have b12 := F12.binds (ps := ["_law_rows", "_law_name"]) fun _ _ _ _ _ _ us hl => match us, hl with | [_, _], _ => rfl
  have b13 := F13.binds (ps := ["_law_rows", "_law_found"]) fun _ _ _ _ _ _ us hl => match us, hl with | [_, _], _ => rfl
  have b14 := F14.binds (ps := ["_law_rows", "_law_labels", "_law_ring"]) fun _ _ _ _ _ _ us hl => match us, hl with | [_, _, _], _ => rfl
  have b15 := F15.binds (ps := ["_law_rows", "_law_labels"]) fun _ _ _ _ _ _ us hl => match us, hl with | [_, _], _ => rfl
  have b17 := F17.binds (ps := ["self", "ring"]) fun _ _ _ _ _ _ us hl => match us, hl with | [_, _], _ => rfl
  subst hbm
  subst hB
  have bC : (Value.ref B :: vMro).contains (.type "BaseException") = true := by rw [List.contains_cons, show vMro.contains (.type "BaseException") = true by decide +kernel, Bool.or_true]
  have hc : ExcC K C (.ref B :: vMro) := by
    refine ⟨⟨nm, qn, N, bs, hdct, sn, sub, ab, col, dd, y0, y1, y2, y3, y5, lC⟩, fun h' X' => ?_, kC⟩
    exact .own (X' B _ lB) (ns_of X' lN uN) (ns_none_of X' (ns_of X' lN uN) iN) .base
  have k1' := kit_ref e5 e6 e7
  have k2' := kit_type (K := K) (t := .ref C) (n := "ValueError") (by decide +kernel) e8
  have hf : XFld K C "ring" := ⟨x1, x2, x3, x4, x5, x6⟩
  refine ⟨fnOf "law" "law" (defArgs sLaw) (defBody sLaw) (defScope sLaw) .none kV16 dc16 pm16 an16 cd16 ct16, fun s v => .of_eq rfl, fun base _ _ => ?_⟩
  have GR : FnOk l.prog w K mg base CX0 2 f5 _ ["rests", "labels"] spRing := ok_ring F5 T F6 b6 (mg_of X G a6) F7 b7 (mg_of X G a7)
  have GM : FnOk l.prog w K mg base (CXE l.prog w) 3 f1 _ ["rows", "labels"] (spMerged C) := ok_merged F1 T F2 b2 (mg_of X G a2) F3 b3 (mg_of X G a3) F4 b4 (mg_of X G a4) GR k5 b5 (mg_of X G a5) F17 b17 (mg_of X G aC) hc hf bC iC nC
  have G13 : FnOk l.prog w K mg base CX0 2 f13 _ ["_law_rows", "_law_found"] spRowR := ok_rowR F13 T F11 b11 (mg_of X G a11) F12 b12 (mg_of X G a12)
  have G14 : FnOk l.prog w K mg base CX0 2 f14 _ ["_law_rows", "_law_labels", "_law_ring"] spRingR := ok_ringR F14 T F11 b11 (mg_of X G a11)
  have GA : FnOk l.prog w K mg base CX0 4 f15 _ ["_law_rows", "_law_labels"] spAsked := ok_asked F15 T GM k1 b1 (mg_of X G a1) G13 k13 b13 (mg_of X G a13) G14 k14 b14 (mg_of X G a14) (mg_of X G aC) (mg_of X G aB) hf (exm_of e1 e2 e3 e4) k1' k2'
  exact ok_law F16 T GA k15 b15 (mg_of X G a15) F8 b8 (mg_of X G a8) F9 b9 (mg_of X G a9) F10 b10 (mg_of X G a10)
theorem walk {l : PySem.W.OpenLaw} {q : Program} {loose : List Str} {XP : (Str → Option Value) → Heap → Prop} {YP : World → Heap → Prop} {d : DefRec} {K : Params → PySem.W.Frag} (hn : l.most = some 63) (hdf : d.params.defaults = [])
    (hY : ∀ (w : World) (h : Heap), YP w h → (K w.params).In h)
    (F : ∀ (w : World) (mg : Str → Option Value) (fa : Addr) (h : Heap), (K w.params).In h → h.Ns mainGlobals mg → mg d.name = some (.ref fa) →
      ∃ fd : FuncData, (∀ (s : Shared) (u : Value), BindsTo s fd ⟨[u], []⟩ [("_law_script", u)]) ∧ ∀ base : Heap, (K w.params).In base → base.Ns mainGlobals mg → FnOk l.prog w (K w.params) mg base CX0 5 fa fd ["_law_script"] (spLaw (K w.params))) :
    PySem.W.WalkO q loose XP YP l.row.toRowW d [] (fun f vs => PySem.call f vs) :=
  L2.walk_of (n := 63) (k := 5) (x := "_law_script") (CX := fun _ => CX0) (sp := fun w => spLaw (K w.params)) hn (by decide) hdf ⟨rfl, by decide, by decide⟩ hY F (fun _ _ a ns hl _ hS => ⟨a, ns, rfl, hS, hl, fun _ => rfl⟩) fun _ _ _ _ _ z => z
end K3
open PySem PySem.W PyProof.Rows
set_option maxRecDepth 100000 in
set_option maxHeartbeats 0 in
theorem PySem.Challenge.cw_elderline_k03_whole_row_or_ring_holds : PySem.Challenge.rw_elderline_k03_whole_row_or_ring.Holds := by
  w_on; o_law; k_head; (case hw => w_witness2)
  k_fill
  refine K3.walk (l := PySem.Challenge.rw_elderline_k03_whole_row_or_ring) rfl rfl (fun w h Y => PySem.W.kIn_of Y) ?F
  case F =>
    intro w mg fa h KX G hmg
    refine' K3.all_mk KX G hmg ?a1 ?l1 ?c1 ?k1 ?a2 ?l2 ?c2 ?k2 ?a3 ?l3 ?c3 ?k3 ?a4 ?l4 ?c4 ?k4 ?a5 ?l5 ?c5 ?k5 ?a6 ?l6 ?c6 ?k6 ?a7 ?l7 ?c7 ?k7 ?a8 ?l8 ?c8 ?k8 ?a9 ?l9 ?c9 ?k9 ?a10 ?l10 ?c10 ?k10 ?a11 ?l11 ?c11 ?k11 ?a12 ?l12 ?c12 ?k12 ?a13 ?l13 ?c13 ?k13 ?a14 ?l14 ?c14 ?k14 ?a15 ?l15 ?c15 ?k15 ?a16 ?l16 ?c16 ?k16 ?aC ?lC ?kC ?iC ?nC ?l17 ?c17 ?k17 ?x1 ?x2 ?x3 ?x4 ?x5 ?x6 ?aB ?e1 ?e2 ?e3 ?e4 ?e5 ?e6 ?e7 ?e8 ?lB ?hB ?lN ?uN ?iN ?hbm ?z1 ?z2 ?z3 ?z4 ?z5 ?z6 ?z7 ?z8 ?z9 ?z10 ?z11 ?z12 ?z13
    (case a1 => k_is); (case l1 => k_is); (case c1 => k_is); (case k1 => k_is)
    (case a2 => k_is); (case l2 => k_is); (case c2 => k_is); (case k2 => k_is)
    (case a3 => k_is); (case l3 => k_is); (case c3 => k_is); (case k3 => k_is)
    (case a4 => k_is); (case l4 => k_is); (case c4 => k_is); (case k4 => k_is)
    (case a5 => k_is); (case l5 => k_is); (case c5 => k_is); (case k5 => k_is)
    (case a6 => k_is); (case l6 => k_is); (case c6 => k_is); (case k6 => k_is)
    (case a7 => k_is); (case l7 => k_is); (case c7 => k_is); (case k7 => k_is)
    (case a8 => k_is); (case l8 => k_is); (case c8 => k_is); (case k8 => k_is)
    (case a9 => k_is); (case l9 => k_is); (case c9 => k_is); (case k9 => k_is)
    (case a10 => k_is); (case l10 => k_is); (case c10 => k_is); (case k10 => k_is)
    (case a11 => k_is); (case l11 => k_is); (case c11 => k_is); (case k11 => k_is)
    (case a12 => k_is); (case l12 => k_is); (case c12 => k_is); (case k12 => k_is)
    (case a13 => k_is); (case l13 => k_is); (case c13 => k_is); (case k13 => k_is)
    (case a14 => k_is); (case l14 => k_is); (case c14 => k_is); (case k14 => k_is)
    (case a15 => k_is); (case l15 => k_is); (case c15 => k_is); (case k15 => k_is)
    (case a16 => k_is); (case l16 => k_is); (case c16 => k_is); (case k16 => k_is)
    (case aC => k_is); (case lC => k_is); (case kC => k_is); (case iC => k_is)
    (case nC => k_is); (case l17 => k_is); (case c17 => k_is); (case k17 => k_is)
    (case x1 => k_is); (case x2 => k_is); (case x3 => k_is); (case x4 => k_is)
    (case x5 => k_is); (case x6 => k_is); (case aB => k_is); (case e1 => k_is)
    (case e2 => k_is); (case e3 => k_is); (case e4 => k_is); (case e5 => k_is)
    (case e6 => k_is); (case e7 => k_is); (case e8 => k_is); (case lB => k_is)
    (case hB => rfl); (case lN => k_is); (case uN => rfl); (case iN => k_is)
    (case hbm => rfl); (case z1 => k_is); (case z2 => k_is); (case z3 => k_is)
    (case z4 => k_is); (case z5 => k_is); (case z6 => k_is); (case z7 => k_is)
    (case z8 => k_is); (case z9 => k_is); (case z10 => k_is); (case z11 => k_is)
    (case z12 => k_is); (case z13 => k_is)

