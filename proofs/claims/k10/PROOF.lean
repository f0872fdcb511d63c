import PyProof.Rows.All
import Wide.All
import OpenK.AllK
import Wide.FinOn
import Lean
import PyProof.EqAt
import PyProof.EqKinds
import PyProof.TupleCall
import PySem.Challenge.RW_elderline_k10_whole_ends
set_option Elab.async false
set_option linter.all false
set_option maxRecDepth 100000
namespace L2
open PySem PySem.Spec PyProof.Rows
abbrev Key := Sum Int Str
def keyIs : Key → Value → Bool
  | .inl k, v => Value.isInt k v
  | .inr x, v => Value.isStrOf x v
def keyH (w : World) : Key → Int
  | .inl k => hashInt k
  | .inr x => hashStr w x
theorem keyIs_shape : ∀ {k : Key} {v : Value}, keyIs k v = true → (∃ i t, k = Sum.inl i ∧ v = Value.int i t) ∨ (∃ x t, k = Sum.inr x ∧ v = Value.str x t)
  | .inl i, v, h => by
    obtain ⟨t, e⟩ := Value.isInt_shape (k := i) (v := v) h
    exact .inl ⟨i, t, rfl, e⟩
  | .inr x, v, h => by
    obtain ⟨t, e⟩ := Value.isStrOf_shape (x := x) (v := v) h
    exact .inr ⟨x, t, rfl, e⟩
theorem keyIs_int (i : Int) (t : Tok) : keyIs (.inl i) (.int i t) = true := by simp [keyIs, Value.isInt]
theorem keyIs_str (x : Str) (t : Tok) : keyIs (.inr x) (.str x t) = true := by simp [keyIs, Value.isStrOf]
theorem key_ll (a b : Int) : decide ((Sum.inl a : Key) = Sum.inl b) = (a == b) := by
  by_cases e : a = b
  · subst e; simp
  · have h : ¬ (Sum.inl a : Key) = Sum.inl b := fun q => e (Sum.inl.inj q)
    rw [decide_eq_false h]
    exact (beq_eq_false_iff_ne.mpr e).symm
theorem key_rr (a b : Str) : decide ((Sum.inr a : Key) = Sum.inr b) = decide (a = b) := by
  by_cases e : a = b
  · subst e; simp
  · have h : ¬ (Sum.inr a : Key) = Sum.inr b := fun q => e (Sum.inr.inj q)
    rw [decide_eq_false h, decide_eq_false e]
theorem key_lr (a : Int) (b : Str) : decide ((Sum.inl a : Key) = Sum.inr b) = false := decide_eq_false (fun q => nomatch q)
theorem key_rl (a : Str) (b : Int) : decide ((Sum.inr a : Key) = Sum.inl b) = false := decide_eq_false (fun q => nomatch q)
def mixKind (prog : Program) (w : World) : PySem.KeyKind prog w Key where
  is := keyIs
  hash := keyH w
  inj := fun v a b ha hb => by
    rcases keyIs_shape ha with ⟨i, t, rfl, rfl⟩ | ⟨x, t, rfl, rfl⟩
    · rcases keyIs_shape hb with ⟨j, u, rfl, e⟩ | ⟨y, u, rfl, e⟩
      · injection e with e1 _; rw [e1]
      · exact nomatch e
    · rcases keyIs_shape hb with ⟨j, u, rfl, e⟩ | ⟨y, u, rfl, e⟩
      · exact nomatch e
      · injection e with e1 _; rw [e1]
  byValue := fun k v h => by
    rcases keyIs_shape h with ⟨i, t, rfl, rfl⟩ | ⟨x, t, rfl, rfl⟩ <;> rfl
  pyHash := fun hv h => by
    rcases keyIs_shape hv with ⟨i, t, rfl, rfl⟩ | ⟨x, t, rfl, rfl⟩
    · exact wpAny_pyHash_int h
    · exact wpAny_pyHash_str h
  eqBool := fun hu hv h => by
    rcases keyIs_shape hu with ⟨i, t, rfl, rfl⟩ | ⟨x, t, rfl, rfl⟩
    · rcases keyIs_shape hv with ⟨j, u, rfl, rfl⟩ | ⟨y, u, rfl, rfl⟩
      · rw [key_ll] at h; exact wpAny_eqBool_int h
      · rw [key_lr] at h; exact SeqAt.EqAt.int_str i t y u _ _ _ _ h
    · rcases keyIs_shape hv with ⟨j, u, rfl, rfl⟩ | ⟨y, u, rfl, rfl⟩
      · rw [key_rl] at h; exact SeqAt.EqAt.str_int x t j u _ _ _ _ h
      · rw [key_rr] at h; exact wpAny_eqBool_str h
  «strs» := fun k x t v h => by
    rcases keyIs_shape h with ⟨i, u, rfl, e⟩ | ⟨y, u, rfl, e⟩
    · exact nomatch e
    · injection e with e1 _
      subst e1
      cases v <;> rfl
theorem mixKind_int (prog : Program) (w : World) (i : Int) (t : Tok) : (mixKind prog w).is (.inl i) (.int i t) = true := keyIs_int i t
theorem mixKind_str (prog : Program) (w : World) (x : Str) (t : Tok) : (mixKind prog w).is (.inr x) (.str x t) = true := keyIs_str x t
end L2
namespace L2
open PySem PySem.Spec PyProof.Rows
inductive V where
  | non | bl (b : Bool) | int (i : Int) | str (x : Str) | byt (b : Array UInt8) | flt (b : UInt64) | ref (a : Addr) | ty (n : String)
  deriving DecidableEq
def RelV : V → Value → Prop
  | .non, u => u = Value.none
  | .bl b, u => u = Value.bool b
  | .int i, u => ∃ t, u = Value.int i t
  | .str x, u => ∃ t, u = Value.str x t
  | .byt b, u => ∃ t, u = Value.bytes b t
  | .flt b, u => ∃ t, u = Value.float b t
  | .ref a, u => u = Value.ref a
  | .ty n, u => u = Value.type n
abbrev Vals : List V → List Value → Prop := Paired RelV
theorem Vals.length {xs : List V} {us : List Value} (r : Vals xs us) : xs.length = us.length := Paired.length r
theorem Vals.get : ∀ {xs : List V} {us : List Value} {i : Nat} {x : V}, Vals xs us → xs[i]? = some x → ∃ u, us[i]? = some u ∧ RelV x u
  | _, _, _, _, .nil, e => by simp at e
  | _, _, 0, _, .cons r _, e => by simp at e; subst e; exact ⟨_, rfl, r⟩
  | _, _, i + 1, x, .cons _ t, e => by
    obtain ⟨u, h1, h2⟩ := Vals.get (i := i) (x := x) t (by simpa using e)
    exact ⟨u, by simpa using h1, h2⟩
theorem Vals.set {x : V} {u : Value} (r : RelV x u) : ∀ {xs : List V} {us : List Value} (i : Nat), Vals xs us → Vals (xs.set i x) (us.set i u)
  | _, _, _, .nil => .nil
  | _, _, 0, .cons _ t => .cons r t
  | _, _, i + 1, .cons q t => .cons q (Vals.set r i t)
theorem Vals.append : ∀ {xs ys : List V} {us ws : List Value}, Vals xs us → Vals ys ws → Vals (xs ++ ys) (us ++ ws)
  | _, _, _, _, .nil, s => s
  | _, _, _, _, .cons r t, s => .cons r (Vals.append t s)
theorem Vals.take : ∀ {xs : List V} {us : List Value} (n : Nat), Vals xs us → Vals (xs.take n) (us.take n)
  | _, _, 0, _ => .nil
  | _, _, _ + 1, .nil => .nil
  | _, _, n + 1, .cons r t => .cons r (Vals.take n t)
theorem Vals.drop : ∀ {xs : List V} {us : List Value} (n : Nat), Vals xs us → Vals (xs.drop n) (us.drop n)
  | _, _, 0, r => r
  | _, _, _ + 1, .nil => .nil
  | _, _, n + 1, .cons _ t => Vals.drop n t
def RelO : Option V → Option Value → Prop
  | some v, some u => RelV v u
  | none, none => True
  | _, _ => False
def KV {κ : Type} : List (κ × V) → List (κ × Value) → Prop := Paired fun (p : κ × V) (q : κ × Value) => p.1 = q.1 ∧ RelV p.2 q.2
def kV : Key → V
  | .inl i => .int i
  | .inr x => .str x
inductive HO where
  /-- a list -/
  | lst (xs : List V)
  /-- a tuple (never changes) -/
  | tup (xs : List V)
  /-- a dict whose keys are ints and texts; one whose keys are tuples of ints and texts (the empty one is both) -/
  | dK (kvs : List (Key × V)) | dT (kvs : List (List Key × V))
  /-- a set of ints: its members, its size -/
  | set (S : Int → Bool) (n : Nat)
  /-- an instance of the class at C, its dict at dx, its attributes -/
  | ins (C dx : Addr) (fs : List (Str × V))
  /-- the dict of the instance at x -/
  | own (x : Addr)
  /-- the dict of an exception -/
  | xd (fs : List (Str × V))
  /-- a bound method, f of x -/
  | met (f x : Addr)
  /-- a range object lo, lo + 1, .. below hi -/
  | rng (lo hi : Int)
  /-- a thing that is known to the object (the script; a dict while a loop walks it): read, never written while it is so -/
  | frz (o : Obj) (u : HO)
  /-- a code object's table -/
  | tbl (ps : Array Value)
  /-- any other thing, by what is true of its one object (a def of one's own: SetO a S n := HO.ext fun h => ..) -/
  | ext (φ : Heap → Prop)
abbrev Hp := Addr → Option HO
def upd (H : Hp) (a : Addr) (o : HO) : Hp := fun b => if b = a then some o else H b
theorem upd_same {H : Hp} {a : Addr} {o : HO} : upd H a o a = some o := by unfold upd; rw [if_pos rfl]
theorem upd_ne {H : Hp} {a b : Addr} {o : HO} (h : b ≠ a) : upd H a o b = H b := by unfold upd; rw [if_neg h]
theorem ne_of {H : Hp} {a b : Addr} {o u : HO} (h : H a = some o) (h' : H b = some u) (d : o ≠ u) : a ≠ b := by
  intro e; subst e; rw [h] at h'; exact d (Option.some.inj h')
theorem ne_of_none {H : Hp} {a b : Addr} {o : HO} (h : H a = some o) (h' : H b = none) : a ≠ b := by
  intro e; subst e; rw [h] at h'; cases h'
section
variable (P : Program) (w : World)
def ObjOk (H : Hp) (h : Heap) (a : Addr) : HO → Prop
  | .lst xs => xs.length ≤ sizeLine ∧ ∃ (its : List Value) (n : Nat), Vals xs its ∧ h.get? a = some { cls := .type "list", data := .seq its.toArray n }
  | .tup xs => xs.length ≤ sizeLine ∧ ∃ its : List Value, Vals xs its ∧ IsTup h a its.toArray
  | .dK kvs => kvs.length ≤ sizeLine ∧ (a == sysModules) = false ∧ ∃ vs, KV kvs vs ∧ h.DictOf (mixKind P w) a vs
  | .dT kvs => kvs.length ≤ sizeLine ∧ (a == sysModules) = false ∧ ∃ xs : List (List Key × Addr × Value),
      Paired (fun (p : List Key × V) (q : List Key × Addr × Value) => p.1 = q.1 ∧ H q.2.1 = some (.tup (p.1.map kV)) ∧ RelV p.2 q.2.2) kvs xs ∧
      ∃ o es ep, h.get? a = some o ∧ o.ExactDict ∧ o.data = .dict es ep ∧ es.toList = xs.map (entryOfKey (tupleKind (mixKind P w))) ∧ (xs.map (·.1)).Nodup
  | .set S n => h.SetOf (intKind P w) a S n
  | .ins C dx fs => H dx = some (.own a) ∧ fs.length ≤ 1000 ∧ dx ≠ a ∧ h.get? a = some (PySem.W.instObj C dx) ∧
      ∃ mA, h.Ns1 dx mA ∧ (∀ f, RelO (fs.lookup f) (mA f)) ∧ PySem.Within mA (fs.map (·.1))
  | .own _ => ∃ o, h.get? a = some o
  | .xd fs => ∃ mA, h.Ns1 a mA ∧ ∀ f, RelO (fs.lookup f) (mA f)
  | .rng lo hi => ∃ t u v, h.get? a = some { cls := .type "range", data := .fields #[.int lo t, .int hi u, .int 1 v] }
  | .frz o u => h.get? a = some o ∧ ObjOk H h a u
  | .tbl ps => h.get? a = some { cls := .none, data := .fields ps }
  | .met f x => h.get? a = some (PySem.W.methodObj (.ref f) (.ref x))
  | .ext φ => φ h ∧ (∃ o, h.get? a = some o) ∧ ∀ h1 h2 : Heap, φ h1 → (∀ o, h1.get? a = some o → h2.get? a = some o) → φ h2
def HOk (H : Hp) (h : Heap) : Prop := ∀ a o, H a = some o → ObjOk P w H h a o
end
section
variable {P : Program} {w : World} {H H' : Hp} {h h' : Heap} {a : Addr} {o : HO}
theorem ObjOk.lt (x : ObjOk P w H h a o) : a < h.objs.size := by
  cases o with
  | lst xs => obtain ⟨_, _, _, _, e⟩ := x; exact Heap.lt_size e
  | tup xs => obtain ⟨_, _, _, p⟩ := x; exact p.lt
  | dK kvs => obtain ⟨_, _, _, _, o, _, _, e, _⟩ := x; exact Heap.lt_size e
  | dT kvs => obtain ⟨_, _, _, _, o, _, _, e, _⟩ := x; exact Heap.lt_size e
  | set S n => obtain ⟨o, _, _, _, e, _⟩ := x; exact Heap.lt_size e
  | ins C dx fs => obtain ⟨_, _, _, e, _⟩ := x; exact Heap.lt_size e
  | own y => obtain ⟨_, e⟩ := x; exact Heap.lt_size e
  | xd fs => obtain ⟨_, ⟨_, _, _, e, _⟩, _⟩ := x; exact Heap.lt_size e
  | rng lo hi => obtain ⟨_, _, _, e⟩ := x; exact Heap.lt_size e
  | frz ob u => obtain ⟨e, _⟩ := x; exact Heap.lt_size e
  | tbl ps => exact Heap.lt_size (show h.get? a = some _ from x)
  | met f y => exact Heap.lt_size (show h.get? a = some _ from x)
  | ext φ => obtain ⟨_, ⟨_, e⟩, _⟩ := x; exact Heap.lt_size e
theorem Paired.mapP {α β : Type} {F G : α → β → Prop} : ∀ {l₁ : List α} {l₂ : List β}, Paired F l₁ l₂ → (∀ a b, F a b → G a b) → Paired G l₁ l₂
  | _, _, .nil, _ => .nil
  | _, _, .cons r t, f => .cons (f _ _ r) (Paired.mapP t f)
theorem ObjOk.stay (x : ObjOk P w H h a o) (k : ∀ b u, (b = a ∨ H b = some (.own a)) → h.get? b = some u → h'.get? b = some u)
    (ho : ∀ b, H b = some (.own a) → H' b = some (.own a)) (ht : ∀ b xs, H b = some (.tup xs) → H' b = some (.tup xs)) : ObjOk P w H' h' a o := by
  induction o with
  | lst xs => obtain ⟨z, its, n, r, e⟩ := x; exact ⟨z, its, n, r, k _ _ (.inl rfl) e⟩
  | tup xs => obtain ⟨z, its, r, ob, e, c⟩ := x; exact ⟨z, its, r, ob, k _ _ (.inl rfl) e, c⟩
  | dK kvs => obtain ⟨z, y, vs, r, ob, es, ep, e, c⟩ := x; exact ⟨z, y, vs, r, ob, es, ep, k _ _ (.inl rfl) e, c⟩
  | dT kvs =>
    obtain ⟨z, y, xs, r, ob, es, ep, e, c⟩ := x
    exact ⟨z, y, xs, Paired.mapP r fun p q z => ⟨z.1, ht _ _ z.2.1, z.2.2⟩, ob, es, ep, k _ _ (.inl rfl) e, c⟩
  | set S n => obtain ⟨ob, es, ep, t, e, c⟩ := x; exact ⟨ob, es, ep, t, k _ _ (.inl rfl) e, c⟩
  | ins C dx fs =>
    obtain ⟨d, z, ne, e, mA, ⟨od, es, ep, e2, c⟩, r⟩ := x
    exact ⟨ho _ d, z, ne, k _ _ (.inl rfl) e, mA, ⟨od, es, ep, k _ _ (.inr d) e2, c⟩, r⟩
  | own y => obtain ⟨ob, e⟩ := x; exact ⟨ob, k _ _ (.inl rfl) e⟩
  | xd fs => obtain ⟨mA, ⟨od, es, ep, e, c⟩, r⟩ := x; exact ⟨mA, ⟨od, es, ep, k _ _ (.inl rfl) e, c⟩, r⟩
  | rng lo hi => obtain ⟨t, u, v, e⟩ := x; exact ⟨t, u, v, k _ _ (.inl rfl) e⟩
  | frz ob u ih => obtain ⟨e, q⟩ := x; exact ⟨k _ _ (.inl rfl) e, ih q⟩
  | tbl ps =>
    have e : h.get? a = some { cls := .none, data := .fields ps } := x
    show h'.get? a = some { cls := .none, data := .fields ps }
    exact k a _ (.inl rfl) e
  | met f y =>
    have e : h.get? a = some (PySem.W.methodObj (.ref f) (.ref y)) := x
    show h'.get? a = some (PySem.W.methodObj (.ref f) (.ref y))
    exact k a _ (.inl rfl) e
  | ext φ => obtain ⟨p, ⟨o, e⟩, st⟩ := x; exact ⟨st _ _ p fun o q => k _ _ (.inl rfl) q, ⟨o, k _ _ (.inl rfl) e⟩, st⟩
theorem HOk.lt (x : HOk P w H h) (e : H a = some o) : a < h.objs.size := (x a o e).lt
theorem HOk.fresh (x : HOk P w H h) (e : h.objs.size ≤ a) : H a = none := by
  cases q : H a with
  | none => rfl
  | some u => exact absurd (Nat.lt_of_lt_of_le (x.lt q) e) (Nat.lt_irrefl _)
theorem HOk.kept (x : HOk P w H h) (k : ∀ b u, h.get? b = some u → h'.get? b = some u) : HOk P w H h' := fun a o e =>
  (x a o e).stay (fun b u _ q => k b u q) (fun _ q => q) fun _ _ q => q
theorem HOk.laid (x : HOk P w H h) (k : ∀ b u, h.get? b = some u → h'.get? b = some u) (hp : h.objs.size ≤ a) (new : ObjOk P w (upd H a o) h' a o) : HOk P w (upd H a o) h' := fun b u e => by
  have hn := x.fresh hp
  by_cases hb : b = a
  · subst hb; rw [upd_same] at e; cases e; exact new
  · rw [upd_ne hb] at e
    exact (x b u e).stay (fun c v _ q => k c v q) (fun c q => by rw [upd_ne (ne_of_none q hn)]; exact q) fun c xs q => by rw [upd_ne (ne_of_none q hn)]; exact q
end
def Rd (H : Hp) (a : Addr) (u : HO) : Prop := H a = some u ∨ ∃ o, H a = some (.frz o u)
theorem Rd.of {H : Hp} {a : Addr} {u : HO} (h : H a = some u) : Rd H a u := .inl h
theorem Rd.ok {P : Program} {w : World} {H : Hp} {h : Heap} {a : Addr} {u : HO} (r : Rd H a u) (x : HOk P w H h) : ObjOk P w H h a u := by
  rcases r with r | ⟨o, r⟩
  · exact x a u r
  · obtain ⟨_, q⟩ := x a _ r
    exact q
def Mut : Option HO → Prop
  | some (.lst _) => True
  | some (.dK _) => True
  | some (.dT _) => True
  | some (.set _ _) => True
  | some (.ins _ _ _) => True
  | some (.ext _) => True
  | _ => False
section
variable {P : Program} {w : World} {H : Hp} {h h' : Heap} {x e : Addr} {o' : HO}
theorem HOk.write (ok : HOk P w H h) (mu : Mut (H x)) (he : e = x ∨ H e = some (.own x)) (k : ∀ b u, b ≠ e → h.get? b = some u → h'.get? b = some u) (heo : ∃ u, h'.get? e = some u)
    (new : ObjOk P w (upd H x o') h' x o') : HOk P w (upd H x o') h' := fun b u q => by
  have nown : ∀ c y, H c = some (.own y) → c ≠ x := fun c y r z => by subst z; rw [r] at mu; exact mu
  have ntup : ∀ c xs, H c = some (.tup xs) → c ≠ x := fun c xs r z => by subst z; rw [r] at mu; exact mu
  by_cases hb : b = x
  · subst hb; rw [upd_same] at q; cases q; exact new
  · rw [upd_ne hb] at q
    by_cases hbe : b = e
    · have q' : H b = some (.own x) := by
        rcases he with z | z
        · exact absurd (hbe.trans z) hb
        · rw [hbe]; exact z
      rw [q] at q'; cases q'
      obtain ⟨v, hv⟩ := heo
      exact ⟨v, by rw [hbe]; exact hv⟩
    · refine (ok b u q).stay (fun c v hc r => k c v ?_ r) (fun c r => by rw [upd_ne (nown c b r)]; exact r) fun c xs r => by rw [upd_ne (ntup c xs r)]; exact r
      rcases hc with rfl | hc
      · exact hbe
      · rintro rfl
        rcases he with z | z
        · exact nown c b hc z
        · rw [hc] at z; cases z; exact hb rfl
end
structure Un (fs ex : List Addr) (H H' : Hp) (h h' : Heap) : Prop where
  keep : ∀ b o, h.get? b = some o → H b = none → b ∉ fs → b ∉ ex → h'.get? b = some o
  slot : ∀ b o, h.get? b = some o → H b = none → b ∈ fs → b ∉ ex → ∃ sl, h'.get? b = some { o with slots := sl }
  free : ∀ b o, h.get? b = some o → H b = none → b ∉ ex → H' b = none
  there : ∀ b o, h.get? b = some o → b ∉ ex → ∃ o', h'.get? b = some o'
  tups : ∀ b xs, H b = some (.tup xs) → H' b = some (.tup xs)
  frzs : ∀ b o u, H b = some (.frz o u) → H' b = some (.frz o u)
  tbls : ∀ b ps, H b = some (.tbl ps) → ∃ more, H' b = some (.tbl (ps ++ more))
section
variable {fs fs' ex ex' : List Addr} {H H1 H2 : Hp} {h h1 h2 h' : Heap} {a x e : Addr} {o : HO}
theorem Un.any (u : Un fs ex H H1 h h1) {b : Addr} {ob : Obj} (q : h.get? b = some ob) (n : H b = none) (hx : b ∉ ex) : ∃ sl, h1.get? b = some { ob with slots := sl } := by
  by_cases hb : b ∈ fs
  · exact u.slot b ob q n hb hx
  · exact ⟨ob.slots, u.keep b ob q n hb hx⟩
theorem Un.trans (a : Un fs ex H H1 h h1) (b : Un fs ex H1 H2 h1 h2) : Un fs ex H H2 h h2 where
  keep := fun c ob q n hc hx => b.keep c ob (a.keep c ob q n hc hx) (a.free c ob q n hx) hc hx
  slot := fun c ob q n hc hx => by
    obtain ⟨sl, e1⟩ := a.slot c ob q n hc hx
    obtain ⟨sl', e2⟩ := b.slot c _ e1 (a.free c ob q n hx) hc hx
    exact ⟨sl', e2⟩
  free := fun c ob q n hx => by
    obtain ⟨o', e1⟩ := a.there c ob q hx
    exact b.free c o' e1 (a.free c ob q n hx) hx
  there := fun c ob q hx => by
    obtain ⟨o', e1⟩ := a.there c ob q hx
    exact b.there c o' e1 hx
  tups := fun c xs q => b.tups c xs (a.tups c xs q)
  frzs := fun c ob xs q => b.frzs c ob xs (a.frzs c ob xs q)
  tbls := fun c ps q => by
    obtain ⟨m1, e1⟩ := a.tbls c ps q
    obtain ⟨m2, e2⟩ := b.tbls c _ e1
    exact ⟨m1 ++ m2, by rw [e2, Array.append_assoc]⟩
theorem Un.kept (k : ∀ b u, h.get? b = some u → h'.get? b = some u) : Un fs ex H H h h' :=
  ⟨fun b ob q _ _ _ => k b ob q, fun b ob q _ _ _ => ⟨ob.slots, k b ob q⟩, fun _ _ _ n _ => n, fun b ob q _ => ⟨ob, k b ob q⟩, fun _ _ q => q, fun _ _ _ q => q, fun _ ps q => ⟨#[], by rw [q]; simp⟩⟩
theorem Un.refl : Un fs ex H H h h := Un.kept fun _ _ q => q
theorem Un.laid (k : ∀ b u, h.get? b = some u → h'.get? b = some u) (hp : h.objs.size ≤ a) (hn : H a = none) : Un fs ex H (upd H a o) h h' where
  keep := fun b u q _ _ _ => k b u q
  slot := fun b u q _ _ _ => ⟨u.slots, k b u q⟩
  free := fun b u q n _ => by rw [upd_ne (Nat.ne_of_lt (Nat.lt_of_lt_of_le (Heap.lt_size q) hp))]; exact n
  there := fun b u q _ => ⟨u, k b u q⟩
  tups := fun b xs q => by rw [upd_ne (ne_of_none q hn)]; exact q
  frzs := fun b u xs q => by rw [upd_ne (ne_of_none q hn)]; exact q
  tbls := fun b ps q => ⟨#[], by rw [upd_ne (ne_of_none q hn), q]; simp⟩
theorem Un.write (mu : Mut (H x)) (he : e = x ∨ H e = some (.own x)) (k : ∀ b u, b ≠ e → h.get? b = some u → h'.get? b = some u) (heo : ∃ u, h'.get? e = some u) : Un fs ex H (upd H x o) h h' := by
  have hx : ∀ b, H b = none → b ≠ x := fun b n z => by subst z; rw [n] at mu; exact mu
  have hb : ∀ b, H b = none → b ≠ e := fun b n z => by
    subst z
    rcases he with r | r
    · exact hx b n r
    · rw [n] at r; cases r
  have hm : ∀ b u, H b = some u → ¬ Mut (some u) → b ≠ x := fun b u q nm z => by subst z; rw [q] at mu; exact nm mu
  refine ⟨fun b u q n _ _ => k b u (hb b n) q, fun b u q n _ _ => ⟨u.slots, k b u (hb b n) q⟩, fun b u q n _ => by rw [upd_ne (hx b n)]; exact n, fun b u q _ => ?_,
    fun b xs q => by rw [upd_ne (hm b _ q fun z => z)]; exact q, fun b u xs q => by rw [upd_ne (hm b _ q fun z => z)]; exact q, fun b ps q => ⟨#[], by rw [upd_ne (hm b _ q fun z => z), q]; simp⟩⟩
  by_cases hbe : b = e
  · subst hbe; exact heo
  · exact ⟨u, k b u hbe q⟩
theorem Un.mono (u : Un fs ex H H1 h h1) (hs : ∀ b ∈ fs, b ∈ fs') (hx : ∀ b ∈ ex, b ∈ ex') : Un fs' ex' H H1 h h1 :=
  ⟨fun b ob q n hb he => u.keep b ob q n (fun z => hb (hs b z)) fun z => he (hx b z), fun _ _ q n _ he => u.any q n fun z => he (hx _ z), fun b ob q n he => u.free b ob q n fun z => he (hx b z), fun b ob q he => u.there b ob q fun z => he (hx b z), u.tups, u.frzs, u.tbls⟩
end
def trk (h : Heap) (H : Hp) : List Addr := (List.range h.objs.size).filter fun a => (H a).isSome
def hidT (h : Heap) (H : Hp) : Heap := PySem.W.hideAll h (trk h H)
theorem hidT_size (h : Heap) (H : Hp) : (hidT h H).objs.size = h.objs.size := PySem.W.hideAll_size _ _
theorem hidT_get {h : Heap} {H : Hp} {b : Addr} {o : Obj} (e : h.get? b = some o) (n : H b = none) : (hidT h H).get? b = some o :=
  PySem.W.hideAll_get _ e fun hm => by
    have q : (H b).isSome = true := (List.mem_filter.mp hm).2
    rw [n] at q; simp at q
theorem of_hidT {h : Heap} {H : Hp} {b : Addr} {o : Obj} (e : (hidT h H).get? b = some o) : h.get? b = some o ∧ H b = none := by
  have e' : h.get? b = some o := PySem.W.of_hideAll (trk h H) e
  refine ⟨e', ?_⟩
  cases q : H b with
  | none => rfl
  | some x =>
    have hm : b ∈ trk h H := List.mem_filter.mpr ⟨List.mem_range.mpr (Heap.lt_size e'), by simp [q]⟩
    have z : (hidT h H).get? b = none := PySem.W.hideAll_none (trk h H) hm
    rw [z] at e; cases e
def allNews (g h : Heap) (L : Addr) : List (Addr × Obj) := (List.range h.objs.size).filterMap fun a => if a = L ∨ (g.get? a).isSome = true then none else (h.get? a).map fun o => (a, o)
def rest (g h : Heap) (L d : Addr) : List (Addr × Obj) := (allNews g h L).filter fun p => decide (p.1 ≠ d)
end L2
namespace L2
open PySem PySem.Spec PyProof.Rows
structure Mod (K : PySem.W.Frag) (mg : Str → Option Value) (base : Heap) : Prop where
  kin : K.In base
  glob : base.Ns mainGlobals mg
  blt : ∃ mb, base.Ns builtinsNs mb ∧ ∀ x : Str, x ≠ "__name__" → mb x = bootBuiltins x
  nolimit : base.NoLimit
structure Cx where
  prog : Program
  w : World
  K : PySem.W.Frag
  mg : Str → Option Value
  base : Heap
  A : Around
  N : List Str
  s₀ : Shared
  H₀ : Hp
  env : Env
  outer : List Env
  stack : List Env
  ex : List Addr
  fn : Str → Bool
  calm : Bool
  pn : List (Addr × Obj)
  xe : Value → Shared → Prop
def frs (l : List Env) : List Addr := l.filterMap (·.frame)
abbrev Cx.fs (X : Cx) : List Addr := frs X.outer
def Vis (sc : Scope) (x : Str) : Prop := sc.names.lookup x = some .local ∨ sc.names.lookup x = some .cell ∨ sc.names.lookup x = some .free
def Loc (sc : Scope) (x : Str) : Prop := sc.names.lookup x = some .local ∨ sc.names.lookup x = some .cell
def Look (env : Env) (h : Heap) (m : Str → Option Value) (x : Str) (u : Value) : Prop :=
  (env.kindOf x = some .local ∧ m x = some u) ∨ ((env.kindOf x = some .cell ∨ env.kindOf x = some .free) ∧ ∃ c, env.cells.lookup x = some c ∧ h.IsCell c (some u))
structure Cx.Ok (X : Cx) : Prop where
  mod : Mod X.K X.mg X.base
  kind : X.env.scope.kind = .function
  glob : X.env.globals = mainGlobals
  blt : X.env.builtins = builtinsNs
  above : X.s₀.heap.objs.size ≤ X.env.locals
  inj : ∀ x y c, X.env.cells.lookup x = some c → X.env.cells.lookup y = some c → x = y
  has : ∀ x, (X.env.kindOf x = some .cell ∨ X.env.kindOf x = some .free) → ∃ c, X.env.cells.lookup x = some c
  cab : ∀ x c, X.fn x = true → X.env.cells.lookup x = some c → X.s₀.heap.objs.size ≤ c
  hd : X.calm = true → X.A.handled = none
  frames : X.A.frames = some X.stack
  stk : X.stack = X.outer ∨ (X.stack = X.env :: X.outer ∧ X.env.frame = some X.env.locals)
  exf : ∀ b ∈ X.ex, b ≠ X.env.locals ∧ ∀ x c, X.env.cells.lookup x = some c → c ≠ b
  bs : ∀ b o, X.base.get? b = some o → X.s₀.heap.get? b = some o ∧ X.H₀ b = none
  bsz : X.base.objs.size ≤ X.s₀.heap.objs.size
  noex : ∀ b o, X.base.get? b = some o → b ∉ X.ex
  exfs : ∀ b ∈ X.ex, b ∉ X.fs
  funs : X.s₀.heap.FunFrames X.base X.outer
  frf : ∀ b ∈ X.fs, X.H₀ b = none
structure Inv (X : Cx) (pins : List (Addr × Obj)) (σ : List (Option V)) (H : Hp) (s : Shared) : Prop where
  ok : X.Ok
  os : s.os = X.s₀.os
  bare : AllBare s.gens
  base : Un X.fs X.ex X.H₀ H X.s₀.heap s.heap
  loc : ∃ m, s.heap.Ns X.env.locals m ∧ ∀ (i : Nat) (x : Str) (v : V), X.N[i]? = some x → σ[i]? = some (some v) → Vis X.env.scope x → ∃ u, RelV v u ∧ Look X.env s.heap m x u
  cell : ∀ x c, X.env.cells.lookup x = some c → ∃ v, s.heap.IsCell c v
  free : H X.env.locals = none
  freeC : ∀ x c, X.env.cells.lookup x = some c → H c = none
  pin : ∀ p ∈ X.pn ++ pins, s.heap.get? p.1 = some p.2 ∧ H p.1 = none ∧ p.1 ≠ X.env.locals ∧ p.1 ∉ X.fs ∧ ∀ v, p.2.data ≠ .cell v
  hok : HOk X.prog X.w H s.heap
  len : σ.length = X.N.length
section
variable {X : Cx} {pins : List (Addr × Obj)} {σ : List (Option V)} {H H' : Hp} {s : Shared} {h' : Heap}
theorem Cx.Ok.nofr (ok : X.Ok) {b : Addr} {o : Obj} (e : X.base.get? b = some o) : b ∉ X.fs := fun hb => by
  have := (ok.funs.mem hb).1
  rw [e] at this; cases this
theorem Inv.bs (I : Inv X pins σ H s) : ∀ b o, X.base.get? b = some o → s.heap.get? b = some o ∧ H b = none := fun b o e =>
  ⟨I.base.keep b o (I.ok.bs b o e).1 (I.ok.bs b o e).2 (I.ok.nofr e) (I.ok.noex b o e), I.base.free b o (I.ok.bs b o e).1 (I.ok.bs b o e).2 (I.ok.noex b o e)⟩
theorem Inv.bk (I : Inv X pins σ H s) : ∀ b o, X.base.get? b = some o → s.heap.get? b = some o := fun b o e => (I.bs b o e).1
theorem Inv.mod (I : Inv X pins σ H s) : Mod X.K X.mg X.base := I.ok.mod
theorem Inv.kIn (I : Inv X pins σ H s) : X.K.In s.heap := I.ok.mod.kin.keeps I.bk
theorem Inv.nolimit (I : Inv X pins σ H s) : s.heap.NoLimit := I.ok.mod.nolimit.keeps I.bk
theorem Inv.fr (I : Inv X pins σ H s) : ∃ m, Fr X.base X.env.locals s.heap m :=
  let ⟨m, hn, _⟩ := I.loc
  ⟨m, hn, I.bk, Nat.le_trans I.ok.bsz I.ok.above⟩
theorem Inv.lt (I : Inv X pins σ H s) : X.env.locals < s.heap.objs.size := let ⟨_, hn, _⟩ := I.loc; hn.lt
theorem Inv.sz (I : Inv X pins σ H s) : X.s₀.heap.objs.size ≤ s.heap.objs.size := Nat.le_trans I.ok.above (Nat.le_of_lt I.lt)
theorem Inv.nofs (I : Inv X pins σ H s) {a : Addr} (h : s.heap.objs.size ≤ a) : a ∉ X.fs := fun hb => by
  obtain ⟨_, o, ho, _⟩ := I.ok.funs.mem hb
  exact absurd (Nat.lt_of_lt_of_le (Heap.lt_size ho) (Nat.le_trans I.sz h)) (Nat.lt_irrefl _)
theorem Inv.cne (I : Inv X pins σ H s) : ∀ x c, X.env.cells.lookup x = some c → c ≠ X.env.locals := fun x c e z => by
  obtain ⟨v, o, ho, hd⟩ := I.cell x c e
  obtain ⟨m, ⟨o', es, ep, ho', hd', _⟩, _⟩ := I.loc
  rw [z, ho'] at ho; cases ho; rw [hd'] at hd; cases hd
theorem Inv.funs (I : Inv X pins σ H s) : s.heap.FunFrames X.base X.outer := by
  have all : ∀ (l : List Env), (∀ b ∈ frs l, b ∈ X.fs) → X.s₀.heap.FunFrames X.base l → s.heap.FunFrames X.base l := by
    intro l
    induction l with
    | nil => intro _ _; trivial
    | cons env r ih =>
      intro hs hl
      obtain ⟨hk, ⟨L, o, hf, hn, ho, hd⟩, hr⟩ := hl
      have hL : L ∈ X.fs := hs L (by unfold frs; rw [List.filterMap_cons, hf]; exact List.mem_cons_self)
      obtain ⟨sl, e⟩ := I.base.slot L o ho (I.ok.frf L hL) hL fun z => I.ok.exfs L z hL
      exact ⟨hk, ⟨L, _, hf, hn, e, hd⟩, ih (fun b hb => hs b (by unfold frs; rw [List.filterMap_cons, hf]; exact List.mem_cons_of_mem _ hb)) hr⟩
  exact all X.outer (fun _ hb => hb) I.ok.funs
theorem Inv.stack (I : Inv X pins σ H s) : s.heap.FunFrames X.base X.stack := by
  rcases I.ok.stk with e | ⟨e, hf⟩
  · rw [e]; exact I.funs
  · rw [e]
    obtain ⟨m, hn, _⟩ := I.loc
    refine .cons (by rw [I.ok.kind]; decide) hf hn ?_ I.funs
    exact Heap.get?_none_of_le (Nat.le_trans I.ok.bsz I.ok.above)
theorem Inv.stkSub (I : Inv X pins σ H s) : ∀ b ∈ frs X.stack, b ∈ X.env.locals :: X.fs := fun b hb => by
  rcases I.ok.stk with e | ⟨e, hf⟩
  · rw [e] at hb; exact List.mem_cons_of_mem _ hb
  · rw [e] at hb
    unfold frs at hb
    rw [List.filterMap_cons, hf] at hb
    exact hb
theorem Inv.stkFree (I : Inv X pins σ H s) : ∀ b ∈ frs X.stack, H b = none := fun b hb => by
  rcases List.mem_cons.mp (I.stkSub b hb) with e | hb
  · rw [e]; exact I.free
  · obtain ⟨_, o, ho, _⟩ := I.ok.funs.mem hb
    exact I.base.free b o ho (I.ok.frf b hb) fun z => I.ok.exfs b z hb
theorem Inv.step {g' : Array GenState} {t' : Nat} {d' : Drawn} {ch : List Addr} (I : Inv X pins σ H s)
    (hch : ∀ b ∈ ch, (b ∈ X.ex ∨ X.s₀.heap.objs.size ≤ b) ∧ b ≠ X.env.locals ∧ (∀ x c, X.env.cells.lookup x = some c → c ≠ b) ∧ ∀ p ∈ X.pn ++ pins, p.1 ≠ b)
    (keep : ∀ b o, b ≠ X.env.locals → b ∉ X.fs → b ∉ ch → s.heap.get? b = some o → H b = none → h'.get? b = some o)
    (slot : ∀ b o, b ≠ X.env.locals → b ∈ X.fs → b ∉ ch → s.heap.get? b = some o → H b = none → ∃ sl, h'.get? b = some { o with slots := sl }) (free : ∀ b o, b ∉ ch → s.heap.get? b = some o → H b = none → H' b = none)
    (there : ∀ b o, b ∉ ch → s.heap.get? b = some o → ∃ o', h'.get? b = some o')
    (tups : ∀ b xs, H b = some (.tup xs) → H' b = some (.tup xs)) (frzs : ∀ b o u, H b = some (.frz o u) → H' b = some (.frz o u)) (tbls : ∀ b ps, H b = some (.tbl ps) → ∃ more, H' b = some (.tbl (ps ++ more)))
    (ns : ∀ m, s.heap.Ns X.env.locals m → h'.Ns X.env.locals m) (hok : HOk X.prog X.w H' h') (hg : AllBare g') :
    Inv X pins σ H' { s with heap := h', gens := g', drawn := d', toks := t' } := by
  have neL : ∀ b o, X.s₀.heap.get? b = some o → b ≠ X.env.locals := fun b o e => Nat.ne_of_lt (Nat.lt_of_lt_of_le (Heap.lt_size e) I.ok.above)
  have neC : ∀ b o, X.s₀.heap.get? b = some o → b ∉ X.ex → b ∉ ch := fun b o e hx hb => by
    rcases (hch b hb).1 with z | z
    · exact hx z
    · exact absurd (Nat.lt_of_lt_of_le (Heap.lt_size e) z) (Nat.lt_irrefl _)
  have cellK : ∀ x c, X.env.cells.lookup x = some c → ∀ v, s.heap.IsCell c v → h'.IsCell c v := fun x c e v ⟨o, ho, hd⟩ => by
    have nch : c ∉ ch := fun z => (hch c z).2.2.1 x c e rfl
    by_cases hc : c ∈ X.fs
    · obtain ⟨sl, q⟩ := slot c o (I.cne x c e) hc nch ho (I.freeC x c e)
      exact ⟨_, q, hd⟩
    · exact ⟨o, keep c o (I.cne x c e) hc nch ho (I.freeC x c e), hd⟩
  refine ⟨I.ok, I.os, hg, ⟨fun b o e n hb hx => ?_, fun b o e n hb hx => ?_, fun b o e n hx => ?_, fun b o e hx => ?_, fun b xs e => tups b xs (I.base.tups b xs e), fun b o xs e => frzs b o xs (I.base.frzs b o xs e), fun b ps e => ?_⟩, ?_, fun x c e => ?_, ?_, fun x c e => ?_, fun p hp => ?_, hok, I.len⟩
  · exact keep b o (neL b o e) hb (neC b o e hx) (I.base.keep b o e n hb hx) (I.base.free b o e n hx)
  · obtain ⟨sl, e1⟩ := I.base.slot b o e n hb hx
    obtain ⟨sl', e2⟩ := slot b _ (neL b o e) hb (neC b o e hx) e1 (I.base.free b o e n hx)
    exact ⟨sl', e2⟩
  · obtain ⟨o', e1⟩ := I.base.there b o e hx
    exact free b o' (neC b o e hx) e1 (I.base.free b o e n hx)
  · obtain ⟨o', e1⟩ := I.base.there b o e hx
    exact there b o' (neC b o e hx) e1
  · obtain ⟨m1, e1⟩ := I.base.tbls b ps e
    obtain ⟨m2, e2⟩ := tbls b _ e1
    exact ⟨m1 ++ m2, by rw [e2, Array.append_assoc]⟩
  · obtain ⟨m, hn, hl⟩ := I.loc
    refine ⟨m, ns m hn, fun i x v e1 e2 e3 => ?_⟩
    obtain ⟨u, r, l⟩ := hl i x v e1 e2 e3
    refine ⟨u, r, ?_⟩
    rcases l with l | ⟨k, c, e, z⟩
    · exact .inl l
    · exact .inr ⟨k, c, e, cellK x c e _ z⟩
  · obtain ⟨v, z⟩ := I.cell x c e
    exact ⟨v, cellK x c e v z⟩
  · obtain ⟨m, ⟨o, _, _, ho, _⟩, _⟩ := I.loc
    exact free _ o (fun z => (hch _ z).2.1 rfl) ho I.free
  · obtain ⟨v, o, ho, hd⟩ := I.cell x c e
    exact free c o (fun z => (hch c z).2.2.1 x c e rfl) ho (I.freeC x c e)
  · obtain ⟨e, n, ne, nf, d⟩ := I.pin p hp
    have nch : p.1 ∉ ch := fun z => (hch p.1 z).2.2.2 p hp rfl
    exact ⟨keep p.1 p.2 ne nf nch e n, free p.1 p.2 nch e n, ne, nf, d⟩
theorem Inv.un {t' : Nat} (I : Inv X pins σ H s) (u : Un X.fs [] H H' s.heap h') (hok : HOk X.prog X.w H' h') : Inv X pins σ H' { s with heap := h', toks := t' } := by
  obtain ⟨m, ⟨o, es, ep, ho, r⟩, _⟩ := id I.loc
  obtain ⟨sl, hL⟩ := u.any ho I.free (by simp)
  exact I.step (g' := s.gens) (d' := s.drawn) (ch := []) (fun _ z => nomatch z) (fun b o _ hb _ e n => u.keep b o e n hb (by simp)) (fun b o _ hb _ e n => u.slot b o e n hb (by simp)) (fun b o _ e n => u.free b o e n (by simp)) (fun b o _ e => u.there b o e (by simp)) u.tups u.frzs u.tbls (fun m' hm => by
    obtain ⟨o', es', ep', ho', r'⟩ := hm
    rw [ho] at ho'; cases ho'
    exact ⟨_, es', ep', hL, r'⟩) hok I.bare
theorem Inv.call {g' : Array GenState} {t' : Nat} {d' : Drawn} {ch : List Addr} (I : Inv X pins σ H s) (u : Un (frs X.stack) ch H H' s.heap h') (hok : HOk X.prog X.w H' h') (hg : AllBare g')
    (hch : ∀ b ∈ ch, (b ∈ X.ex ∨ X.s₀.heap.objs.size ≤ b) ∧ b ≠ X.env.locals ∧ (∀ x c, X.env.cells.lookup x = some c → c ≠ b) ∧ ∀ p ∈ X.pn ++ pins, p.1 ≠ b) :
    Inv X pins σ H' { s with heap := h', gens := g', drawn := d', toks := t' } := by
  obtain ⟨m, ⟨o, es, ep, ho, r⟩, _⟩ := id I.loc
  obtain ⟨sl, hL⟩ := u.any ho I.free fun z => (hch _ z).2.1 rfl
  exact I.step (ch := ch) hch (fun b o hL hb hc e n => u.keep b o e n (fun z => (List.mem_cons.mp (I.stkSub b z)).elim hL hb) hc) (fun b o _ _ hc e n => u.any e n hc) (fun b o hc e n => u.free b o e n hc) (fun b o hc e => u.there b o e hc) u.tups u.frzs u.tbls (fun m' hm => by
    obtain ⟨o', es', ep', ho', r'⟩ := hm
    rw [ho] at ho'; cases ho'
    exact ⟨_, es', ep', hL, r'⟩) hok hg
theorem Inv.turned {t' : Nat} {it : Addr} (I : Inv X pins σ H s) (k : ∀ b o, b ≠ it → s.heap.get? b = some o → h'.get? b = some o) (hn : H it = none) (hL : it ≠ X.env.locals)
    (h1 : it ∈ X.ex ∨ X.s₀.heap.objs.size ≤ it) (h2 : ∀ x c, X.env.cells.lookup x = some c → c ≠ it) (h3 : ∀ p ∈ X.pn ++ pins, p.1 ≠ it) : Inv X pins σ H { s with heap := h', toks := t' } := by
  have nit : ∀ b u, H b = some u → b ≠ it := fun b u e z => by rw [z, hn] at e; cases e
  refine I.step (g' := s.gens) (d' := s.drawn) (ch := [it]) (fun b hb => ?_) (fun b o _ _ hc e _ => k b o (fun z => hc (by simp [z])) e) (fun b o _ _ hc e _ => ⟨o.slots, k b o (fun z => hc (by simp [z])) e⟩) (fun _ _ _ _ n => n)
    (fun b o hc e => ⟨o, k b o (fun z => hc (by simp [z])) e⟩) (fun _ _ e => e) (fun _ _ _ e => e) (fun b ps e => ⟨#[], by rw [e]; simp⟩) (fun m hm => ?_) (fun b u e => ?_) I.bare
  · have e : b = it := by simpa using hb
    subst e
    exact ⟨h1, hL, h2, h3⟩
  · obtain ⟨o, es, ep, ho, r⟩ := hm
    exact ⟨o, es, ep, k _ o (Ne.symm hL) ho, r⟩
  · refine (I.hok b u e).stay (fun c v hc q => k c v ?_ q) (fun _ q => q) fun _ _ q => q
    rcases hc with z | z
    · rw [z]; exact nit b u e
    · exact nit c _ z
theorem Inv.tok (I : Inv X pins σ H s) (t : Nat) : Inv X pins σ H { s with toks := t } := I.un (h' := s.heap) (t' := t) Un.refl I.hok
theorem Inv.kept {t' : Nat} (I : Inv X pins σ H s) (k : ∀ b u, s.heap.get? b = some u → h'.get? b = some u) : Inv X pins σ H { s with heap := h', toks := t' } := I.un (Un.kept k) (I.hok.kept k)
theorem Inv.laid {a : Addr} {o : HO} {t' : Nat} (I : Inv X pins σ H s) (k : ∀ b u, s.heap.get? b = some u → h'.get? b = some u) (hp : s.heap.objs.size ≤ a) (new : ObjOk X.prog X.w (upd H a o) h' a o) :
    Inv X pins σ (upd H a o) { s with heap := h', toks := t' } := I.un (Un.laid k hp (I.hok.fresh hp)) (I.hok.laid k hp new)
theorem Inv.write {x e : Addr} {o : HO} {t' : Nat} (I : Inv X pins σ H s) (mu : Mut (H x)) (he : e = x ∨ H e = some (.own x)) (k : ∀ b u, b ≠ e → s.heap.get? b = some u → h'.get? b = some u) (heo : ∃ u, h'.get? e = some u)
    (new : ObjOk X.prog X.w (upd H x o) h' x o) : Inv X pins σ (upd H x o) { s with heap := h', toks := t' } := I.un (Un.write mu he k heo) (I.hok.write mu he k heo new)
theorem Inv.weak {σ' : List (Option V)} (I : Inv X pins σ H s) (hl : σ'.length = σ.length) (w : ∀ (i : Nat) v, σ'[i]? = some (some v) → σ[i]? = some (some v)) : Inv X pins σ' H s :=
  ⟨I.ok, I.os, I.bare, I.base, let ⟨m, hn, hl'⟩ := I.loc; ⟨m, hn, fun i x v e1 e2 e3 => hl' i x v e1 (w i v e2) e3⟩, I.cell, I.free, I.freeC, I.pin, I.hok, hl.trans I.len⟩
theorem Inv.pins_of {pins' : List (Addr × Obj)} (I : Inv X pins σ H s) (h : ∀ p ∈ pins', s.heap.get? p.1 = some p.2 ∧ H p.1 = none ∧ p.1 ≠ X.env.locals ∧ p.1 ∉ X.fs ∧ ∀ v, p.2.data ≠ .cell v) : Inv X pins' σ H s :=
  ⟨I.ok, I.os, I.bare, I.base, I.loc, I.cell, I.free, I.freeC, fun p hp => (List.mem_append.mp hp).elim (fun z => I.pin p (List.mem_append_left _ z)) (h p), I.hok, I.len⟩
theorem nodup_ix {N : List Str} (hN : N.Nodup) {i j : Nat} {x : Str} (a : N[i]? = some x) (b : N[j]? = some x) : i = j := by
  obtain ⟨h1, e1⟩ := List.getElem?_eq_some_iff.mp a
  obtain ⟨h2, e2⟩ := List.getElem?_eq_some_iff.mp b
  exact (List.getElem_inj hN).mp (e1.trans e2.symm)
theorem store_ok2 {M : Model} {A : Around} {E : Value → Shared → Prop} {i : Nat} {x : Str} {v : V} {u : Value} {Q : Unit → Shared → Prop} (I : Inv X pins σ H s) (hN : X.N.Nodup) (hi : X.N[i]? = some x) (hx : Loc X.env.scope x) (r : RelV v u)
    (h : ∀ s', Inv X pins (σ.set i (some v)) H s' → (∃ a, Heap.SameBut a s.heap s'.heap ∧ (a = X.env.locals ∨ X.env.cells.lookup x = some a)) → Q () s') (hf : X.fn x = true ∨ X.env.scope.names.lookup x = some .local := by first | exact .inl rfl | exact .inr rfl | assumption) : wpAny M A (storeName X.env x u) Q E s := by
  obtain ⟨m, hn, hl⟩ := id I.loc
  have hcls : (X.env.scope.kind == .class || (X.env.scope.kind == .module && X.env.locals != X.env.globals)) = false := by rw [I.ok.kind]; rfl
  have hiσ : i < σ.length := by rw [I.len]; exact (List.getElem?_eq_some_iff.mp hi).1
  have cne := I.cne
  have tracked : ∀ {a : Addr} {h' : Heap}, (∃ o, s.heap.get? a = some o ∧ H a = none) → Heap.SameBut a s.heap h' → HOk X.prog X.w H h' := fun {a h'} ha hs b ob e => by
    obtain ⟨_, _, hfree⟩ := ha
    refine (I.hok b ob e).stay (fun c w' hc q => (hs.2 c ?_).trans q) (fun _ q => q) fun _ _ q => q
    rintro rfl
    rcases hc with rfl | hc
    · rw [hfree] at e; cases e
    · rw [hfree] at hc; cases hc
  rcases hx with hk | hk
  · refine wpAny_storeName_local hk hn (fun h' hn' hs => ?_) hcls
    obtain ⟨oL, _, _, hoL, _⟩ := id hn
    refine h _ ⟨I.ok, I.os, I.bare, ⟨fun b o e n hb hx => ?_, fun b o e n hb hx => ?_, I.base.free, fun b o e hx => ?_, I.base.tups, I.base.frzs, I.base.tbls⟩, ⟨_, hn', fun j y v' e1 e2 e3 => ?_⟩, fun y c e => ?_, I.free, I.freeC, fun p hp => ?_, tracked ⟨oL, hoL, I.free⟩ hs, by simpa using I.len⟩ ⟨_, hs, .inl rfl⟩
    · exact (hs.2 b (Nat.ne_of_lt (Nat.lt_of_lt_of_le (Heap.lt_size e) I.ok.above))).trans (I.base.keep b o e n hb hx)
    · obtain ⟨sl, e1⟩ := I.base.slot b o e n hb hx
      exact ⟨sl, (hs.2 b (Nat.ne_of_lt (Nat.lt_of_lt_of_le (Heap.lt_size e) I.ok.above))).trans e1⟩
    · obtain ⟨o', e1⟩ := I.base.there b o e hx
      exact ⟨o', (hs.2 b (Nat.ne_of_lt (Nat.lt_of_lt_of_le (Heap.lt_size e) I.ok.above))).trans e1⟩
    · by_cases hj : j = i
      · subst hj
        rw [hi] at e1; cases e1
        rw [List.getElem?_set_self hiσ] at e2
        cases e2
        exact ⟨u, r, .inl ⟨hk, by simp⟩⟩
      · rw [List.getElem?_set_ne (Ne.symm hj)] at e2
        obtain ⟨u', r', q⟩ := hl j y v' e1 e2 e3
        refine ⟨u', r', ?_⟩
        rcases q with ⟨k, e⟩ | ⟨k, c, e, z⟩
        · refine .inl ⟨k, ?_⟩
          have : y ≠ x := fun e => hj (nodup_ix hN e1 (e ▸ hi))
          simp [this, e]
        · exact .inr ⟨k, c, e, z.sameBut hs (cne y c e)⟩
    · obtain ⟨w', z⟩ := I.cell y c e
      exact ⟨w', z.sameBut hs (cne y c e)⟩
    · obtain ⟨e, n, ne, nf, d⟩ := I.pin p hp
      exact ⟨(hs.2 p.1 ne).trans e, n, ne, nf, d⟩
  · have hfn : X.fn x = true := by
      rcases hf with z | z
      · exact z
      · rw [z] at hk; cases hk
    obtain ⟨c, hc⟩ := I.ok.has x (.inl hk)
    obtain ⟨w', z⟩ := I.cell x c hc
    refine wpAny_storeName_cell I.ok.kind hk hc z (fun h' hc' hs => ?_)
    obtain ⟨oc, hoc, hocd⟩ := id z
    refine h { s with heap := h' } ⟨I.ok, I.os, I.bare, ⟨fun b o e n hb hx => ?_, fun b o e n hb hx => ?_, I.base.free, fun b o e hx => ?_, I.base.tups, I.base.frzs, I.base.tbls⟩, ⟨m, hn.sameBut hs (Ne.symm (cne x c hc)), fun j y v' e1 e2 e3 => ?_⟩, fun y c' e => ?_, I.free, I.freeC, fun p hp => ?_, tracked ⟨oc, hoc, I.freeC x c hc⟩ hs, by simpa using I.len⟩ ⟨c, hs, .inr hc⟩
    · exact (hs.2 b (Nat.ne_of_lt (Nat.lt_of_lt_of_le (Heap.lt_size e) (I.ok.cab x c hfn hc)))).trans (I.base.keep b o e n hb hx)
    · obtain ⟨sl, e1⟩ := I.base.slot b o e n hb hx
      exact ⟨sl, (hs.2 b (Nat.ne_of_lt (Nat.lt_of_lt_of_le (Heap.lt_size e) (I.ok.cab x c hfn hc)))).trans e1⟩
    · obtain ⟨o', e1⟩ := I.base.there b o e hx
      exact ⟨o', (hs.2 b (Nat.ne_of_lt (Nat.lt_of_lt_of_le (Heap.lt_size e) (I.ok.cab x c hfn hc)))).trans e1⟩
    · by_cases hj : j = i
      · subst hj
        rw [hi] at e1; cases e1
        rw [List.getElem?_set_self hiσ] at e2
        cases e2
        exact ⟨u, r, .inr ⟨.inl hk, c, hc, hc'⟩⟩
      · rw [List.getElem?_set_ne (Ne.symm hj)] at e2
        obtain ⟨u', r', q⟩ := hl j y v' e1 e2 e3
        refine ⟨u', r', ?_⟩
        rcases q with q | ⟨k, c', e, z'⟩
        · exact .inl q
        · refine .inr ⟨k, c', e, z'.sameBut hs ?_⟩
          rintro rfl
          exact hj (nodup_ix hN e1 (I.ok.inj _ _ _ e hc ▸ hi))
    · by_cases hcc : c' = c
      · subst hcc; exact ⟨_, hc'⟩
      · obtain ⟨w2, z2⟩ := I.cell y c' e
        exact ⟨w2, z2.sameBut hs hcc⟩
    · obtain ⟨e, n, ne, nf, d⟩ := I.pin p hp
      refine ⟨(hs.2 p.1 ?_).trans e, n, ne, nf, d⟩
      intro q
      rw [q, hoc] at e
      have q' : oc = p.2 := Option.some.inj e
      exact d w' (by rw [← q']; exact hocd)
theorem store_ok {M : Model} {A : Around} {E : Value → Shared → Prop} {i : Nat} {x : Str} {v : V} {u : Value} {Q : Unit → Shared → Prop} (I : Inv X pins σ H s) (hN : X.N.Nodup) (hi : X.N[i]? = some x) (hx : Loc X.env.scope x) (r : RelV v u)
    (h : ∀ s', Inv X pins (σ.set i (some v)) H s' → Q () s') (hf : X.fn x = true ∨ X.env.scope.names.lookup x = some .local := by first | exact .inl rfl | exact .inr rfl | assumption) : wpAny M A (storeName X.env x u) Q E s :=
  store_ok2 I hN hi hx r (fun s' I' _ => h s' I') hf
theorem Inv.call' {s' : Shared} {ch : List Addr} (I : Inv X pins σ H s) (ho : s'.os = s.os) (u : Un (frs X.stack) ch H H' s.heap s'.heap) (hok : HOk X.prog X.w H' s'.heap) (hg : AllBare s'.gens)
    (hch : ∀ b ∈ ch, (b ∈ X.ex ∨ X.s₀.heap.objs.size ≤ b) ∧ b ≠ X.env.locals ∧ (∀ x c, X.env.cells.lookup x = some c → c ≠ b) ∧ ∀ p ∈ X.pn ++ pins, p.1 ≠ b) : Inv X pins σ H' s' := by
  obtain ⟨h', g', d', t', o'⟩ := s'
  have e : o' = s.os := ho
  subst e
  exact I.call (g' := g') (t' := t') (d' := d') u hok hg hch
end
abbrev XK := Value → Option Addr → Hp → Prop
abbrev St := List (Option V)
abbrev VK := V → Hp → Prop
abbrev TE := St → Hp → VK → Prop
abbrev TT := St → Hp → (Bool → Hp → Prop) → Prop
abbrev TA := St → Hp → (List V → Hp → Prop) → Prop
structure Ends where
  nx : St → Hp → Prop
  rt : VK
  bk : St → Hp → Prop := fun _ _ => False
  ct : St → Hp → Prop := fun _ _ => False
abbrev TS := Ends → St → Hp → Prop
def EP (X : Cx) (pins : List (Addr × Obj)) (σ : St) (Q : VK) (u : Value) (s' : Shared) : Prop := ∃ v H', Inv X pins σ H' s' ∧ RelV v u ∧ Q v H'
def TP (X : Cx) (pins : List (Addr × Obj)) (σ : St) (Q : Bool → Hp → Prop) (b : Bool) (s' : Shared) : Prop := ∃ H', Inv X pins σ H' s' ∧ Q b H'
def AP (X : Cx) (pins : List (Addr × Obj)) (σ : St) (Q : List V → Hp → Prop) (us : List Value) (s' : Shared) : Prop := ∃ vs H', Inv X pins σ H' s' ∧ Vals vs us ∧ Q vs H'
def SP (X : Cx) (pins : List (Addr × Obj)) (D : Ends) (f : Flow) (s' : Shared) : Prop :=
  match f with
  | .next => ∃ σ' H', Inv X pins σ' H' s' ∧ D.nx σ' H'
  | .brk => ∃ σ' H', Inv X pins σ' H' s' ∧ D.bk σ' H'
  | .cont => ∃ σ' H', Inv X pins σ' H' s' ∧ D.ct σ' H'
  | .ret u => ∃ v σ' H', Inv X pins σ' H' s' ∧ RelV v u ∧ D.rt v H'
def PE (X : Cx) (e : Expr) (t : TE) : Prop :=
  ∀ (pins : List (Addr × Obj)) (s : Shared) (σ : St) (H : Hp) (Q : VK), Inv X pins σ H s → t σ H Q → wpAny (model X.prog X.w) X.A (eval e X.env) (EP X pins σ Q) X.xe s
def PT (X : Cx) (e : Expr) (t : TT) : Prop :=
  ∀ (pins : List (Addr × Obj)) (s : Shared) (σ : St) (H : Hp) (Q : Bool → Hp → Prop), Inv X pins σ H s → t σ H Q → wpAny (model X.prog X.w) X.A (isTrue e X.env (eval e X.env)) (TP X pins σ Q) X.xe s
def PW (X : Cx) (e : Expr) (t : TT) : Prop :=
  ∀ (whole : Sem Value) (pins : List (Addr × Obj)) (s : Shared) (σ : St) (H : Hp) (Q : Bool → Hp → Prop), Inv X pins σ H s → t σ H Q → wpAny (model X.prog X.w) X.A (isTrue e X.env whole) (TP X pins σ Q) X.xe s
theorem PW.pt {X : Cx} {e : Expr} {t : TT} (h : PW X e t) : PT X e t := h _
def PA (X : Cx) (es : List Expr) (t : TA) : Prop :=
  ∀ (pos : Pos) (pins : List (Addr × Obj)) (s : Shared) (σ : St) (H : Hp) (Q : List V → Hp → Prop), Inv X pins σ H s → t σ H Q → wpAny (model X.prog X.w) X.A (spliced (backTo pos (starEach es X.env))) (AP X pins σ Q) X.xe s
def PS (X : Cx) (st : Stmt) (t : TS) : Prop :=
  ∀ (pins : List (Addr × Obj)) (s : Shared) (σ : St) (H : Hp) (D : Ends), Inv X pins σ H s → t D σ H → wpAny (model X.prog X.w) X.A (exec st X.env) (SP X pins D) X.xe s
def PSs (X : Cx) (st : List Stmt) (t : TS) : Prop :=
  ∀ (pins : List (Addr × Obj)) (s : Shared) (σ : St) (H : Hp) (D : Ends), Inv X pins σ H s → t D σ H → wpAny (model X.prog X.w) X.A (execs st X.env) (SP X pins D) X.xe s
theorem thn {α : Type} {t : Sem α} {Q Q' : α → Shared → Prop} {M : Model} {A : Around} {E : Value → Shared → Prop} {s : Shared} (h : wpAny M A t Q E s) (hQ : ∀ a s, Q a s → Q' a s) : wpAny M A t Q' E s := wpAny_mono h hQ fun _ _ x => x
end L2
namespace L2
open PySem PySem.Spec PyProof.Rows
section
variable {X : Cx}
def tVar (i : Nat) : TE := fun σ H Q => ∃ v, σ[i]? = some (some v) ∧ Q v H
def tC (v : V) : TE := fun _ H Q => Q v H
theorem pe_var {i : Nat} {x : Str} {pos : Pos} (hN : X.N[i]? = some x) (hv : Vis X.env.scope x) (hd : (x == ("__debug__" : Str)) = false := by decide) (hcd : (x == ("__classdict__" : Str)) = false := by decide) : PE X (.Name x pos) (tVar i) := by
  intro pins s σ H Q I h
  obtain ⟨v, e, h⟩ := h
  obtain ⟨m, hn, hl⟩ := I.loc
  obtain ⟨u, r, l⟩ := hl i x v hN e hv
  have fin : EP X pins σ Q u s := ⟨v, H, I, r, h⟩
  rcases l with ⟨hk, hm⟩ | ⟨hk, c, hc, hcell⟩
  · exact wpAny_Name (wpAny_loadName_local I.ok.kind hk hn hm fin) hd
  · rcases hk with hk | hk
    · exact wpAny_Name (wpAny_loadName_cell I.ok.kind hk hc hcell fin) hd
    · exact wpAny_Name (wpAny_loadName_free I.ok.kind hk hc hcell fin hcd) hd
theorem pe_int {i j pos} : PE X (.Constant (.int i) j pos) (tC (.int i)) := fun _ _ _ H _ I h => wpAny_Constant_int ⟨.int i, H, I.tok _, ⟨_, rfl⟩, h⟩
theorem pe_bl {b j pos} : PE X (.Constant (.bool b) j pos) (tC (.bl b)) := fun _ _ _ H _ I h => Constant_bool ⟨.bl b, H, I, rfl, h⟩
theorem pe_str {x j pos} : PE X (.Constant (.str x) j pos) (tC (.str x)) := fun _ _ _ H _ I h => Calls.Constant_str ⟨.str x, H, I.tok _, ⟨_, rfl⟩, h⟩
def Gl (X : Cx) (x : Str) : Prop := X.env.kindOf x = some .globalImplicit
theorem ld_glob {E : Value → Shared → Prop} {pins : List (Addr × Obj)} {s : Shared} {σ : St} {H : Hp} {x : Str} {u : Value} {pos : Pos} {Q : Value → Shared → Prop} (I : Inv X pins σ H s) (hg : Gl X x) (hm : X.mg x = some u) (h : Q u s)
    (hd : (x == ("__debug__" : Str)) = false := by decide) : wpAny (model X.prog X.w) X.A (eval (.Name x pos) X.env) Q E s :=
  Calls.Name_function_global I.ok.kind hg (Calls.loadGlobal_global (by rw [I.ok.glob]; exact I.mod.glob.keeps I.bk) hm h) hd
theorem ld_blt {E : Value → Shared → Prop} {pins : List (Addr × Obj)} {s : Shared} {σ : St} {H : Hp} {x : Str} {u : Value} {pos : Pos} {Q : Value → Shared → Prop} (I : Inv X pins σ H s) (hg : Gl X x) (hm : X.mg x = none) (hv : bootBuiltins x = some u) (h : Q u s)
    (hn : x ≠ "__name__" := by decide) (hd : (x == ("__debug__" : Str)) = false := by decide) : wpAny (model X.prog X.w) X.A (eval (.Name x pos) X.env) Q E s := by
  obtain ⟨mb, h1, h2⟩ := I.mod.blt
  exact Calls.Name_function_global I.ok.kind hg (Calls.loadGlobal_builtin (by rw [I.ok.glob]; exact I.mod.glob.keeps I.bk) hm (by rw [I.ok.blt]; exact h1.keeps I.bk) ((h2 x hn).trans hv) h) hd
theorem pe_glob {x : Str} {v : V} {u : Value} {pos : Pos} (hg : Gl X x) (hm : X.mg x = some u) (r : RelV v u) (hd : (x == ("__debug__" : Str)) = false := by decide) : PE X (.Name x pos) (tC v) :=
  fun _ _ _ H _ I h => ld_glob I hg hm ⟨v, H, I, r, h⟩ hd
theorem pe_bltn {x : Str} {v : V} {u : Value} {pos : Pos} (hg : Gl X x) (hm : X.mg x = none) (hv : bootBuiltins x = some u) (r : RelV v u) (hn : x ≠ "__name__" := by decide) (hd : (x == ("__debug__" : Str)) = false := by decide) : PE X (.Name x pos) (tC v) :=
  fun _ _ _ H _ I h => ld_blt I hg hm hv ⟨v, H, I, r, h⟩ hn hd
variable {a b : Expr} {ta tb : TE} {pos : Pos}
def PC (X : Cx) (op : CmpOp) (a b : Expr) (t : TE) : Prop :=
  ∀ (pins : List (Addr × Obj)) (s : Shared) (σ : St) (H : Hp) (Q : VK), Inv X pins σ H s → t σ H Q →
    wpAny (model X.prog X.w) X.A (eval a X.env) (fun v s₁ => wpAny (model X.prog X.w) X.A (eval b X.env) (fun u s₂ => wpAny (model X.prog X.w) X.A (compareOp op v u) (EP X pins σ Q) X.xe s₂) X.xe s₁) X.xe s
theorem nobehind (b : Expr) {op : CmpOp} (h : op ≠ .In) (h2 : op ≠ .NotIn) : behindInMarks op b = false := by
  have e1 : (op == CmpOp.In) = false := by cases op <;> first | rfl | exact absurd rfl h
  have e2 : (op == CmpOp.NotIn) = false := by cases op <;> first | rfl | exact absurd rfl h2
  cases b <;> simp [behindInMarks, e1, e2]
def tB (t : TE) : TT := fun σ H Q => t σ H fun x H1 => ∃ c, x = .bl c ∧ Q c H1
theorem pt_cmp {op : CmpOp} {t : TE} (h : PC X op a b t) (h1 : behindInMarks op b = false := by first | exact nobehind _ (by decide) (by decide) | rfl) : PT X (.Compare a [op] [b] pos) (tB t) := by
  intro pins s σ H Q I hw
  refine wpAny_isTrue_Compare1 (thn (h pins s σ H _ I hw) fun v s1 h1 => thn h1 fun u s2 h2 => thn h2 fun c s3 ⟨x, H1, I1, r1, q1⟩ => ?_) h1
  obtain ⟨d, rfl, q⟩ := q1
  cases r1
  exact wpAny_truthy_bool ⟨H1, I1, q⟩
theorem pt_val {e : Expr} {t : TE} (h : PE X e t) (he : ∀ whole, isTrue e X.env whole = (do let v ← whole; standAt e.pos; holding [v] (truthy v)) := by intro _; rfl) : PT X e (tB t) := by
  intro pins s σ H Q I hw
  refine isTrue_plain (thn (h pins s σ H _ I hw) fun v s1 ⟨x, H1, I1, r1, q1⟩ => ?_) (he _)
  obtain ⟨d, rfl, q⟩ := q1
  cases r1
  exact wpAny_truthy_bool ⟨H1, I1, q⟩
variable {tA tB' : TT} {rest : List Expr}
def tOr (t u : TT) : TT := fun σ H Q => t σ H fun c H1 => if c = true then Q true H1 else u σ H1 Q
def tNot (t : TT) : TT := fun σ H Q => t σ H fun c H1 => Q (!c) H1
theorem pw_or1 (ha : PT X a tA) : PW X (.BoolOp .Or [a] pos) tA := by
  intro wh pins s σ H Q I h
  refine isTrue_or (thn (ha pins s σ H Q I h) fun c s1 e => ?_)
  cases c with
  | false => exact isTrue_or_nil e
  | true => exact e
theorem pw_or (ha : PT X a tA) (hb : PW X (.BoolOp .Or (b :: rest) pos) tB') : PW X (.BoolOp .Or (a :: b :: rest) pos) (tOr tA tB') := by
  intro wh pins s σ H Q I h
  refine isTrue_or (thn (ha pins s σ H _ I h) fun c s1 ⟨H1, I1, q1⟩ => ?_)
  cases c with
  | true => exact ⟨H1, I1, q1⟩
  | false => exact hb wh pins s1 σ H1 Q I1 q1
theorem pt_not (ha : PT X a tA) : PT X (.UnaryOp .Not a pos) (tNot tA) := by
  intro pins s σ H Q I h
  exact isTrue_not (ha pins s σ H (fun c H1 => Q (!c) H1) I h)
def tAndV (ta tb : TE) : TE := fun σ H Q => ta σ H fun x H1 => ∃ c, x = .bl c ∧ if c = true then tb σ H1 Q else Q (.bl false) H1
theorem pe_one {op} {t : TE} (h : PE X a t) : PE X (.BoolOp op [a] pos) t := fun pins s σ H Q I hw => BoolOp_one (h pins s σ H Q I hw)
theorem pe_and (ha : PE X a ta) (hb : PE X (.BoolOp .And (b :: rest) pos) tb) : PE X (.BoolOp .And (a :: b :: rest) pos) (tAndV ta tb) := by
  intro pins s σ H Q I h
  refine BoolOp_and (thn (ha pins s σ H _ I h) fun v s1 ⟨x, H1, I1, r1, q1⟩ => ?_)
  obtain ⟨c, rfl, q1⟩ := q1
  cases r1
  refine wpAny_truthy_bool ?_
  cases c with
  | true => exact hb pins s1 σ H1 Q I1 q1
  | false => exact ⟨.bl false, H1, I1, rfl, q1⟩
end
end L2
namespace L2
open PySem PySem.Spec PyProof.Rows
def SqL (K : PySem.W.Frag) (H : Hp) (a : Addr) (xs : List V) : Prop :=
  Rd H a (.lst xs) ∨
    ∃ (o : Obj) (its : Array Value) (n : Nat), K.lookup a = some o ∧ o.cls = .type "list" ∧ o.dict = none ∧ o.data = .seq its n ∧ its.size ≤ sizeLine ∧ Vals xs its.toList
def SqT (K : PySem.W.Frag) (H : Hp) (a : Addr) (xs : List V) : Prop :=
  Rd H a (.tup xs) ∨
    ∃ (o : Obj) (its : Array Value) (n : Nat), K.lookup a = some o ∧ o.cls = .type "tuple" ∧ o.data = .seq its n ∧ its.size ≤ sizeLine ∧ Vals xs its.toList
def absV : Value → Option V
  | .none => some .non
  | .bool b => some (.bl b)
  | .int i _ => some (.int i)
  | .str x _ => some (.str x)
  | .bytes b _ => some (.byt b)
  | .float b _ => some (.flt b)
  | .ref a => some (.ref a)
  | .type n => some (.ty n)
  | _ => none
theorem RelV.abs {x : V} {u : Value} (r : RelV x u) : absV u = some x := by
  cases x with
  | non => cases r; rfl
  | bl _ => cases r; rfl
  | int _ => obtain ⟨t, rfl⟩ := r; rfl
  | str _ => obtain ⟨t, rfl⟩ := r; rfl
  | byt _ => obtain ⟨t, rfl⟩ := r; rfl
  | flt _ => obtain ⟨t, rfl⟩ := r; rfl
  | ref _ => cases r; rfl
  | ty _ => cases r; rfl
theorem RelV.inj {x y : V} {u : Value} (r : RelV x u) (q : RelV y u) : x = y := Option.some.inj (r.abs.symm.trans q.abs)
theorem Vals.inj : ∀ {xs ys : List V} {us : List Value}, Vals xs us → Vals ys us → xs = ys
  | _, _, _, .nil, .nil => rfl
  | _, _, _, .cons r t, .cons r' t' => by rw [r.inj r', Vals.inj t t']
section
variable {X : Cx} {pins : List (Addr × Obj)} {σ : St} {H : Hp} {s : Shared} {a : Addr} {xs ys : List V}
theorem SqL.of {K : PySem.W.Frag} (h : H a = some (.lst xs)) : SqL K H a xs := .inl (.inl h)
theorem SqT.of {K : PySem.W.Frag} (h : H a = some (.tup xs)) : SqT K H a xs := .inl (.inl h)
theorem Inv.list (I : Inv X pins σ H s) (h : SqL X.K H a xs) : ∃ its : List Value, Vals xs its ∧ PlainL s.heap a its.toArray ∧ xs.length ≤ sizeLine := by
  rcases h with h | ⟨o, its, n, hk, hc, hd, hs, hz, r⟩
  · obtain ⟨z, its, n, r, e⟩ := h.ok I.hok
    exact ⟨its, r, ⟨_, n, e, rfl, rfl, rfl⟩, z⟩
  · refine ⟨its.toList, r, ⟨o, n, I.kIn a o hk, hc, hd, by simpa using hs⟩, ?_⟩
    have e := r.length
    simp only [Array.length_toList] at e
    omega
theorem Inv.tuple (I : Inv X pins σ H s) (h : SqT X.K H a xs) : ∃ its : List Value, Vals xs its ∧ IsTup s.heap a its.toArray ∧ xs.length ≤ sizeLine := by
  rcases h with h | ⟨o, its, n, hk, hc, hs, hz, r⟩
  · obtain ⟨z, its, r, p⟩ := h.ok I.hok
    exact ⟨its, r, p, z⟩
  · refine ⟨its.toList, r, ⟨o, I.kIn a o hk, hc, n, by simpa using hs⟩, ?_⟩
    have e := r.length
    simp only [Array.length_toList] at e
    omega
theorem Inv.list_inj (I : Inv X pins σ H s) (h : SqL X.K H a xs) (h' : SqL X.K H a ys) : xs = ys := by
  obtain ⟨its, r, ⟨o, n, e, _, _, d⟩, _⟩ := I.list h
  obtain ⟨its', r', ⟨o', n', e', _, _, d'⟩, _⟩ := I.list h'
  rw [e] at e'; cases e'
  rw [d] at d'
  injection d' with d1 _
  have : its = its' := by simpa using congrArg Array.toList d1
  subst this
  exact r.inj r'
end
abbrev Cx.wish (X : Cx) (E : Value → Shared → Prop) : Cx := { X with xe := E }
abbrev Cx.nox (X : Cx) : Cx := X.wish fun _ _ => False
theorem Cx.Ok.wish {X : Cx} (ok : X.Ok) (E : Value → Shared → Prop) : (X.wish E).Ok :=
  ⟨ok.mod, ok.kind, ok.glob, ok.blt, ok.above, ok.inj, ok.has, ok.cab, ok.hd, ok.frames, ok.stk, ok.exf, ok.bs, ok.bsz, ok.noex, ok.exfs, ok.funs, ok.frf⟩
theorem Cx.Ok.unwish {X : Cx} {E : Value → Shared → Prop} (ok : (X.wish E).Ok) : X.Ok :=
  ⟨ok.mod, ok.kind, ok.glob, ok.blt, ok.above, ok.inj, ok.has, ok.cab, ok.hd, ok.frames, ok.stk, ok.exf, ok.bs, ok.bsz, ok.noex, ok.exfs, ok.funs, ok.frf⟩
section
variable {X : Cx} {pins : List (Addr × Obj)} {σ : St} {H : Hp} {s : Shared} {E : Value → Shared → Prop}
theorem Inv.wish (I : Inv X pins σ H s) (E : Value → Shared → Prop) : Inv (X.wish E) pins σ H s := ⟨I.ok.wish E, I.os, I.bare, I.base, I.loc, I.cell, I.free, I.freeC, I.pin, I.hok, I.len⟩
theorem Inv.unwish (I : Inv (X.wish E) pins σ H s) : Inv X pins σ H s := ⟨I.ok.unwish, I.os, I.bare, I.base, I.loc, I.cell, I.free, I.freeC, I.pin, I.hok, I.len⟩
theorem SP.unwish {D : Ends} {f : Flow} {s' : Shared} (h : SP (X.wish E) pins D f s') : SP X pins D f s' := by
  cases f with
  | next => obtain ⟨σ', H', I, q⟩ := h; exact ⟨σ', H', I.unwish, q⟩
  | brk => obtain ⟨σ', H', I, q⟩ := h; exact ⟨σ', H', I.unwish, q⟩
  | cont => obtain ⟨σ', H', I, q⟩ := h; exact ⟨σ', H', I.unwish, q⟩
  | ret u => obtain ⟨v, σ', H', I, r, q⟩ := h; exact ⟨v, σ', H', I.unwish, r, q⟩
theorem PE.nox {e : Expr} {t : TE} (h : PE X.nox e t) : PE X e t := fun pins s σ H Q I hw =>
  wpAny_mono (h pins s σ H Q (I.wish _) hw) (fun _ _ ⟨v, H', I', r, q⟩ => ⟨v, H', I'.unwish, r, q⟩) fun _ _ z => False.elim z
theorem PT.nox {e : Expr} {t : TT} (h : PT X.nox e t) : PT X e t := fun pins s σ H Q I hw =>
  wpAny_mono (h pins s σ H Q (I.wish _) hw) (fun _ _ ⟨H', I', q⟩ => ⟨H', I'.unwish, q⟩) fun _ _ z => False.elim z
theorem PSs.nox {st : List Stmt} {t : TS} (h : PSs X.nox st t) : PSs X st t := fun pins s σ H D I hw =>
  wpAny_mono (h pins s σ H D (I.wish _) hw) (fun _ _ q => q.unwish) fun _ _ z => False.elim z
end
section
variable {X : Cx} {st : Stmt} {rest : List Stmt} {t u : TS} {e : Expr} {te : TE} {pos : Pos}
def tNext : TS := fun D σ H => D.nx σ H
def tSeq (t u : TS) : TS := fun D σ H => t { D with nx := u D } σ H
theorem pss_nil : PSs X [] tNext := fun _ _ σ H _ I h => wpAny_execs_nil ⟨σ, H, I, h⟩
theorem pss_cons (h1 : PS X st t) (h2 : PSs X rest u) : PSs X (st :: rest) (tSeq t u) := by
  intro pins s σ H D I h
  refine wpAny_execs_cons (thn (h1 pins s σ H { D with nx := u D } I h) fun f s1 q => ?_)
  cases f with
  | next =>
    obtain ⟨σ', H', I', q⟩ := q
    exact h2 pins s1 σ' H' D I' q
  | ret v => exact q
  | brk => exact q
  | cont => exact q
theorem pss_one (h1 : PS X st t) : PSs X [st] t := by
  intro pins s σ H D I h
  refine wpAny_execs_cons (thn (h1 pins s σ H D I h) fun f s1 q => ?_)
  cases f with
  | next => exact wpAny_execs_nil q
  | ret v => exact q
  | brk => exact q
  | cont => exact q
theorem Inv.quiet {pins : List (Addr × Obj)} {σ : St} {H : Hp} {s : Shared} (I : Inv X pins σ H s) : interactive X.env = false := by simp [interactive, I.ok.kind]
def tDrop (te : TE) : TS := fun D σ H => te σ H fun _ H1 => D.nx σ H1
theorem ps_expr (he : PE X e te) (hs : swapsWith e none pos.line X.env = pure false := by rfl) : PS X (.Expr e pos) (tDrop te) := by
  intro pins s σ H D I h
  exact wpAny_Expr_any (thn (he pins s σ H _ I h) fun v s1 ⟨x, H1, I1, r1, q1⟩ => ⟨σ, H1, I1, q1⟩) I.quiet hs
def tRet (te : TE) : TS := fun D σ H => te σ H D.rt
theorem ps_ret (he : PE X e te) : PS X (.Return (some e) pos) (tRet te) := by
  intro pins s σ H D I h
  exact wpAny_Return_some (thn (he pins s σ H _ I h) fun v s1 ⟨x, H1, I1, r1, q1⟩ => ⟨x, σ, H1, I1, r1, q1⟩)
def tIfS (c : TT) (t u : TS) : TS := fun D σ H => c σ H fun b H1 => if b = true then t D σ H1 else u D σ H1
theorem ps_if {c : Expr} {a b : List Stmt} {tc : TT} (hc : PT X c tc) (ha : PSs X a t) (hb : PSs X b u) : PS X (.If c a b pos) (tIfS tc t u) := by
  intro pins s σ H D I h
  refine wpAny_If (thn (hc pins s σ H _ I h) fun d s1 ⟨H1, I1, q1⟩ => ?_)
  cases d with
  | true => exact ha pins s1 σ H1 D I1 q1
  | false => exact hb pins s1 σ H1 D I1 q1
def tNever : TS := fun _ _ _ => False
theorem pss_never {sts : List Stmt} : PSs X sts tNever := fun _ _ _ _ _ _ h => h.elim
end
abbrev TG := V → St → Hp → (St → Hp → Prop) → Prop
def PG (X : Cx) (target : Expr) (t : TG) : Prop :=
  ∀ (pins : List (Addr × Obj)) (s : Shared) (σ : St) (H : Hp) (v : V) (u : Value) (Q : St → Hp → Prop), Inv X pins σ H s → RelV v u → t v σ H Q →
    wpAny (model X.prog X.w) X.A (assign target X.env u) (fun _ s' => ∃ σ' H', Inv X pins σ' H' s' ∧ Q σ' H') X.xe s
section
variable {X : Cx} {pos : Pos}
def gName (i : Nat) : TG := fun v σ H Q => Q (σ.set i (some v)) H
theorem pg_name {i : Nat} {x : Str} (hN : X.N.Nodup) (hi : X.N[i]? = some x) (hx : Loc X.env.scope x) (hf : X.fn x = true ∨ X.env.scope.names.lookup x = some .local := by first | exact .inl rfl | exact .inr rfl | assumption) : PG X (.Name x pos) (gName i) := by
  intro pins s σ H v u Q I r h
  exact wpAny_assign_Name (store_ok I hN hi hx r (fun s' I' => ⟨_, H, I', h⟩) hf)
def tAsg (te : TE) (g : TG) : TS := fun D σ H => te σ H fun x H1 => g x σ H1 D.nx
theorem ps_set {i : Nat} {x : Str} {e : Expr} {te : TE} {pos' : Pos} (hN : X.N.Nodup) (hi : X.N[i]? = some x) (hx : Loc X.env.scope x) (he : PE X e te) (hs : swapsWith e (some (.Name x pos')) pos.line X.env = pure false := by rfl) (hf : X.fn x = true ∨ X.env.scope.names.lookup x = some .local := by first | exact .inl rfl | exact .inr rfl | assumption) :
    PS X (.Assign [.Name x pos'] e pos) (tAsg te (gName i)) := by
  intro pins s σ H D I h
  refine wpAny_Assign_Name (thn (he pins s σ H _ I h) fun v s1 ⟨y, H1, I1, r1, q1⟩ => ?_) hs
  exact store_ok I1 hN hi hx r1 (fun s2 I2 => ⟨_, H1, I2, q1⟩) hf
end
section
variable {X : Cx} {pos : Pos}
def tWhile (c : TT) (tb : TS) : TS := fun D σ H => ∃ W : Nat → St → Hp → Prop, (∃ m, W m σ H) ∧ ∀ m σ H, W m σ H →
  c σ H fun b H1 => if b = true then ∃ N : St → Hp → Prop, (∀ σ' H', N σ' H' → ∃ m', m' < m ∧ W m' σ' H') ∧ tb { D with nx := N, ct := N, bk := D.nx } σ H1 else D.nx σ H1
theorem ps_while {c : Expr} {body : List Stmt} {tc : TT} {tb : TS} (hp : PassesOwn (model X.prog X.w) X.A X.env X.xe) (hc : PT X c tc) (hb : PSs X body tb) : PS X (.While c body [] pos) (tWhile tc tb) := by
  intro pins s σ H D I h
  obtain ⟨W, ⟨m0, w0⟩, turn⟩ := h
  refine wpAny_While (codeAny_whileLoop (fun n s' => ∃ σ' H', Inv X pins σ' H' s' ∧ W n σ' H') ?_ m0 ⟨σ, H, I, w0⟩)
  rintro n s1 ⟨σ1, H1, I1, w1⟩
  refine wpAny_passesOwn hp (thn (hc pins s1 σ1 H1 _ I1 (turn n σ1 H1 w1)) fun b s2 ⟨H2, I2, q2⟩ => ?_)
  cases b with
  | true =>
    obtain ⟨N, hN, q2⟩ := q2
    rw [if_pos rfl]
    refine wpAny_passesOwn hp (thn (hb pins s2 σ1 H2 _ I2 q2) fun f s3 q3 => ?_)
    cases f with
    | next =>
      obtain ⟨σ3, H3, I3, n3⟩ := q3
      obtain ⟨m', hm, w3⟩ := hN σ3 H3 n3
      exact ⟨m', hm, σ3, H3, I3, w3⟩
    | cont =>
      obtain ⟨σ3, H3, I3, n3⟩ := q3
      obtain ⟨m', hm, w3⟩ := hN σ3 H3 n3
      exact ⟨m', hm, σ3, H3, I3, w3⟩
    | brk => exact q3
    | ret v => exact q3
  | false =>
    rw [if_neg Bool.false_ne_true]
    exact wpAny_execs_nil ⟨σ1, H2, I2, q2⟩
end
structure It where
  go : Nat → Hp → Prop
  yld : Nat → Hp → V → Hp → Prop
  stop : Nat → Hp → Prop
def FpOk (X : Cx) (pins : List (Addr × Obj)) (H : Hp) (b : Addr) : Prop :=
  H b = none ∧ b ≠ X.env.locals ∧ b ∉ X.fs ∧ (b ∈ X.ex ∨ X.s₀.heap.objs.size ≤ b) ∧ (∀ x c, X.env.cells.lookup x = some c → c ≠ b) ∧ ∀ p ∈ X.pn ++ pins, p.1 ≠ b
theorem Inv.fpOk {X : Cx} {pins : List (Addr × Obj)} {σ : St} {H H' : Hp} {s : Shared} {b : Addr} (I : Inv X pins σ H s) (hb : s.heap.objs.size ≤ b) (hn : H' b = none) : FpOk X pins H' b := by
  refine ⟨hn, Nat.ne_of_gt (Nat.lt_of_lt_of_le I.lt hb), I.nofs hb, .inr (Nat.le_trans I.sz hb), fun x c e z => ?_, fun p hp z => ?_⟩
  · obtain ⟨v, q⟩ := I.cell x c e
    exact absurd (Nat.lt_of_lt_of_le q.lt (by rw [z]; exact hb)) (Nat.lt_irrefl _)
  · exact absurd (Nat.lt_of_lt_of_le (Heap.lt_size (I.pin p hp).1) (by rw [z]; exact hb)) (Nat.lt_irrefl _)
structure Turn (P : Program) (w : World) (K : PySem.W.Frag) (tg : Expr) (J : It) (fp : List Addr) (it : Addr) (tn : Nat → Heap → Prop) : Prop where
  mem : it ∈ fp
  obj : ∀ i h, tn i h → ∀ b ∈ fp, ∃ o, h.get? b = some o ∧ ∀ v, o.data ≠ .cell v
  keep : ∀ i h h', tn i h → (∀ b ∈ fp, ∀ o, h.get? b = some o → h'.get? b = some o) → tn i h'
  item : ∀ (X : Cx), X.prog = P → X.w = w → X.K = K → X.calm = true → ∀ (i : Nat) (pins : List (Addr × Obj)) (s : Shared) (σ : St) (H : Hp) (E : Value → Shared → Prop), Inv X pins σ H s → (∀ b ∈ fp, FpOk X pins H b) → tn i s.heap → J.go i H →
    wpAny (model P w) X.A (pyNext (.ref it)) (fun r s1 => ∃ u, r = some u ∧
      wpAny (model P w) X.A (letOwnedTupleGo tg (.ref it) u) (fun _ s2 => ∃ x H', Inv X pins σ H' s2 ∧ RelV x u ∧ J.yld i H x H' ∧ tn (i + 1) s2.heap ∧ ∀ b ∈ fp, H' b = none) E s1) E s
  done : ∀ (X : Cx), X.prog = P → X.w = w → X.K = K → X.calm = true → ∀ (i : Nat) (pins : List (Addr × Obj)) (s : Shared) (σ : St) (H : Hp) (E : Value → Shared → Prop), Inv X pins σ H s → (∀ b ∈ fp, FpOk X pins H b) → tn i s.heap → J.stop i H →
    wpAny (model P w) X.A (pyNext (.ref it)) (fun r s1 => r = none ∧ Inv X pins σ H s1) E s
  self : ∀ (A : Around) (i : Nat) (s : Shared) (Q : Value → Shared → Prop) (E : Value → Shared → Prop), tn i s.heap → Q (.ref it) s → wpAny (model P w) A (pyIter (.ref it)) Q E s
abbrev TI := St → Hp → (It → Hp → Prop) → Prop
def PIE (X : Cx) (pins : List (Addr × Obj)) (σ : St) (tg : Expr) (R : It → Hp → Prop) (itv : Value) (s2 : Shared) : Prop :=
  ∃ (it : Addr) (fp : List Addr) (tn : Nat → Heap → Prop) (J : It) (H' : Hp), itv = .ref it ∧ Inv X pins σ H' s2 ∧ Turn X.prog X.w X.K tg J fp it tn ∧ tn 0 s2.heap ∧ (∀ b ∈ fp, FpOk X pins H' b) ∧ R J H'
def PI (X : Cx) (tg iter : Expr) (wi : TI) : Prop :=
  ∀ (pins : List (Addr × Obj)) (s : Shared) (σ : St) (H : Hp) (R : It → Hp → Prop), Inv X pins σ H s → wi σ H R →
    wpAny (model X.prog X.w) X.A (eval iter X.env) (fun v s1 => wpAny (model X.prog X.w) X.A (pyIter v) (PIE X pins σ tg R) X.xe s1) X.xe s
theorem go_of {M : Model} {A : Around} {E : Value → Shared → Prop} {s : Shared} {tg : Expr} {it : Addr} {u : Value} {o : Obj} {n : String} {vs : Array Value} {Q : Unit → Shared → Prop} (ho : s.heap.get? it = some o) (hc : o.cls = .type n) (hd : o.data = .fields vs)
    (hn : ["enumerate", "zip", "dict_itemiterator", "dict_reverseitemiterator", "odict_iterator", "itertools.zip_longest", "itertools.pairwise"].contains n = false) (hQ : Q () s) : wpAny M A (letOwnedTupleGo tg (.ref it) u) Q E s := by
  unfold letOwnedTupleGo
  cases tg <;> first
    | exact wpAny_pure hQ
    | (cases u <;> first
        | exact wpAny_pure hQ
        | (refine wpAny_bind (wpAny_load ho ?_)
           rw [hc, hd]
           show wpAny M A (if (["enumerate", "zip", "dict_itemiterator", "dict_reverseitemiterator", "odict_iterator", "itertools.zip_longest", "itertools.pairwise"].contains n && vs[0]? == some (rawInt _)) = true then _ else _) Q E s
           rw [if_neg (by intro h; rw [hn, Bool.false_and] at h; cases h)]
           exact wpAny_pure hQ))
def Itl (K : PySem.W.Frag) (a : Addr) : It :=
  ⟨fun i H => ∃ xs x, SqL K H a xs ∧ xs[i]? = some x, fun i H x H' => H' = H ∧ ∀ xs, SqL K H a xs → xs[i]? = some x, fun i H => ∃ xs, SqL K H a xs ∧ xs.length ≤ i⟩
def Itr (lo : Int) (n : Nat) : It := ⟨fun i _ => i < n, fun i H x H' => H' = H ∧ x = .int (lo + i), fun i _ => n ≤ i⟩
theorem turn_list {P : Program} {w : World} {K : PySem.W.Frag} {tg : Expr} (a it : Addr) : Turn P w K tg (Itl K a) [it] it (fun i h => h.IsListIter it a i) where
  mem := by simp
  obj := fun i h st b hb => by
    have e : b = it := by simpa using hb
    subst e
    obtain ⟨o, e, c, d⟩ := st
    exact ⟨o, e, fun v z => by rw [d] at z; cases z⟩
  keep := fun i h h' st k => st.at fun o e => k it (by simp) o e
  item := by
    intro X hP hw hK hc i pins s σ H E I hf st hg
    subst hP hw hK
    obtain ⟨xs, x, hq, hx⟩ := hg
    obtain ⟨its, rv, p, hz⟩ := I.list hq
    obtain ⟨u, hu, ru⟩ := rv.get hx
    obtain ⟨f0, f1, f2, f3, f4, f5⟩ := hf it (by simp)
    refine wpAny_pyNext_list_item st p.isList (x := u) (by simpa using hu) fun h' st' sb => ?_
    have I1 : Inv X pins σ H { s with heap := h' } := I.turned (t' := s.toks) (fun b o hb e => (sb.2 b hb).trans e) f0 f1 f3 f4 f5
    obtain ⟨o, e, c, d⟩ := id st'
    exact ⟨u, rfl, go_of (s := { s with heap := h' }) e c d (by decide) ⟨x, H, I1, ru, ⟨rfl, fun ys hy => by rw [I.list_inj hy hq]; exact hx⟩, st', fun b hb => (hf b hb).1⟩⟩
  done := by
    intro X hP hw hK hc i pins s σ H E I hf st hg
    subst hP hw hK
    obtain ⟨xs, hq, hx⟩ := hg
    obtain ⟨its, rv, p, hz⟩ := I.list hq
    obtain ⟨f0, f1, f2, f3, f4, f5⟩ := hf it (by simp)
    have hl := rv.length
    exact wpAny_pyNext_list_end (I.ok.hd hc) st p.isList (by simp; omega) fun h' eb => ⟨rfl, I.turned (t' := s.toks) (fun b o hb e => eb b o hb e) f0 f1 f3 f4 f5⟩
  self := fun _ _ _ _ _ st h => wpAny_pyIter_listiter st h
theorem turn_range {P : Program} {w : World} {K : PySem.W.Frag} {tg : Expr} (it : Addr) (lo : Int) (n : Nat) : Turn P w K tg (Itr lo n) [it] it (fun i h => IsRangeIter h it (lo + (i : Nat) * 1) ((n : Int) - (i : Nat)) 1) where
  mem := by simp
  obj := fun i h st b hb => by
    have e : b = it := by simpa using hb
    subst e
    exact ⟨_, st, fun v z => by
      have z' : Data.fields _ = Data.cell v := z
      cases z'⟩
  keep := fun i h h' st k => k it (by simp) _ st
  item := by
    intro X hP hw hK hc i pins s σ H E I hf st hg
    subst hP hw hK
    obtain ⟨f0, f1, f2, f3, f4, f5⟩ := hf it (by simp)
    have W := Walks.range (prog := X.prog) (w := X.w) (I.ok.hd hc) it lo 1 n
    refine W.item i s _ _ hg st fun v h' tk hv st' kk => ?_
    obtain ⟨t, rfl⟩ := hv
    have I1 : Inv X pins σ H { s with heap := h', toks := tk } := I.turned (fun b o hb e => kk b o (by simpa using hb) e) f0 f1 f3 f4 f5
    refine ⟨_, rfl, go_of (s := { s with heap := h', toks := tk }) (n := "range_iterator") st' rfl rfl (by decide) ⟨.int (lo + i), H, I1, ⟨t, ?_⟩, ⟨rfl, rfl⟩, st', fun b hb => (hf b hb).1⟩⟩
    rw [Int.mul_one]
  done := by
    intro X hP hw hK hc i pins s σ H E I hf st hg
    subst hP hw hK
    obtain ⟨f0, f1, f2, f3, f4, f5⟩ := hf it (by simp)
    exact wpAny_pyNext_range_end (I.ok.hd hc) st (by have : n ≤ i := hg; omega) fun h' eb => ⟨rfl, I.turned (t' := s.toks) (fun b o hb e => eb b o hb e) f0 f1 f3 f4 f5⟩
  self := fun _ _ _ _ _ st h => wpAny_pyIter_rangeiter st h
end L2
namespace L2
open PySem PySem.Spec PyProof.Rows
section
variable {X : Cx} {tg : Expr}
def iList (K : PySem.W.Frag) (tl : TE) : TI := fun σ H R => tl σ H fun x H1 => ∃ a, x = .ref a ∧ (∃ xs, SqL K H1 a xs) ∧ R (Itl K a) H1
theorem pi_list {l : Expr} {tl : TE} (hl : PE X l tl) : PI X tg l (iList X.K tl) := by
  intro pins s σ H R I h
  refine thn (hl pins s σ H _ I h) fun v s1 ⟨x, H1, I1, r1, q1⟩ => ?_
  obtain ⟨a, e, ⟨xs, hq⟩, q⟩ := q1
  subst e
  cases r1
  obtain ⟨its, rv, p, hz⟩ := I1.list hq
  refine wpAny_pyIter_list p.isList ?_
  refine ⟨s1.heap.objs.size, [s1.heap.objs.size], _, _, H1, rfl, I1.kept (t' := s1.toks) fun b o e => Heap.get?_push_of_some _ e, turn_list a _, ⟨_, Heap.get?_push_size _ rfl, rfl, rfl⟩, fun b hb => ?_, q⟩
  have e : b = s1.heap.objs.size := by simpa using hb
  subst e
  exact I1.fpOk (Nat.le_refl _) (I1.hok.fresh (Nat.le_refl _))
theorem range_it {pins : List (Addr × Obj)} {σ : St} {H : Hp} {s : Shared} {R : It → Hp → Prop} {E : Value → Shared → Prop} {lo hi : Int} {t u v : Tok} {tk : Nat} (I : Inv X pins σ H s) (h1 : -(2 ^ 62) ≤ lo) (h2 : lo < 2 ^ 62) (h3 : -(2 ^ 62) ≤ hi) (h4 : hi < 2 ^ 62)
    (q : R (Itr lo (hi - lo).toNat) H) : wpAny (model X.prog X.w) X.A (pyIter (.ref s.heap.objs.size)) (PIE X pins σ tg R) E { s with heap := s.heap.push { cls := .type "range", data := .fields #[.int lo t, .int hi u, .int 1 v] }, toks := tk } := by
  refine wpAny_pyIter_range (IsRange.new ..) (small_one h1 h2 h3 h4) ?_
  have I1 : Inv X pins σ H { s with heap := s.heap.push { cls := .type "range", data := .fields #[.int lo t, .int hi u, .int 1 v] }, toks := tk } := I.kept fun b o e => Heap.get?_push_of_some _ e
  refine ⟨(s.heap.push { cls := .type "range", data := .fields #[.int lo t, .int hi u, .int 1 v] }).objs.size, [(s.heap.push { cls := .type "range", data := .fields #[.int lo t, .int hi u, .int 1 v] }).objs.size], _, _, H, rfl,
    I1.kept (t' := tk) fun b o e => Heap.get?_push_of_some _ e, turn_range _ lo (hi - lo).toNat, ?_, fun b hb => ?_, q⟩
  · have e1 : lo + ((0 : Nat) : Int) * 1 = lo := by simp
    have e2 : (((hi - lo).toNat : Nat) : Int) - ((0 : Nat) : Int) = Builtin.Range.rangeSize lo hi 1 := by rw [rangeSize_one]; split <;> omega
    show IsRangeIter _ _ (lo + ((0 : Nat) : Int) * 1) ((((hi - lo).toNat : Nat) : Int) - ((0 : Nat) : Int)) 1
    rw [e1, e2]
    exact Heap.get?_push_size _ rfl
  · have e : b = (s.heap.push { cls := .type "range", data := .fields #[.int lo t, .int hi u, .int 1 v] }).objs.size := by simpa using hb
    subst e
    exact I1.fpOk (Nat.le_refl _) (I1.hok.fresh (Nat.le_refl _))
def iRng1 (ta : TA) : TI := fun σ H R => ta σ H fun vs H1 => ∃ j : Int, vs = [.int j] ∧ -(2 ^ 62) ≤ j ∧ j < 2 ^ 62 ∧ R (Itr 0 j.toNat) H1
theorem pi_range1 {a : Expr} {ta : TA} {p pos : Pos} (hg : Gl X "range") (hm : X.mg "range" = none) (ha : PA X [a] ta) (hs : starEach [a] X.env = [(false, eval a X.env)] := by rfl) : PI X tg (.Call (.Name "range" p) [a] [] pos) (iRng1 ta) := by
  intro pins s σ H R I h
  refine Call_ (ld_blt I hg hm boot_range (PyProof.Rows.callWith_type1 (thn (ha pos pins s σ H _ I h) fun us s1 ⟨vs, H1, I1, r1, q1⟩ => ?_) hs rfl))
  obtain ⟨j, e, q1, q2, q⟩ := q1
  subst e
  cases r1 with
  | cons r rr =>
    cases rr
    obtain ⟨t, rfl⟩ := r
    exact call_range_1 (range_it I1 (by omega) (by omega) q1 q2 (by simpa using q))
def tFor (wi : TI) (g : TG) (tb : TS) : TS := fun D σ H => wi σ H fun J H1 => ∃ W : Nat → Nat → St → Hp → Prop, (∃ m, W 0 m σ H1) ∧ ∀ i m σ H, W i m σ H →
  (J.stop i H ∧ D.nx σ H) ∨ (J.go i H ∧ ∃ N : St → Hp → Prop, (∀ σ' H', N σ' H' → ∃ m', m' < m ∧ W (i + 1) m' σ' H') ∧ ∀ x H', J.yld i H x H' → g x σ H' fun σ2 H2 => tb { D with nx := N, ct := N, bk := D.nx } σ2 H2)
def pinsAt (fp : List Addr) (h : Heap) : List (Addr × Obj) := fp.filterMap fun b => (h.get? b).map fun o => (b, o)
theorem mem_pinsAt {fp : List Addr} {h : Heap} {b : Addr} {o : Obj} (hb : b ∈ fp) (e : h.get? b = some o) : (b, o) ∈ pinsAt fp h := List.mem_filterMap.mpr ⟨b, hb, by rw [e]; rfl⟩
theorem of_pinsAt {fp : List Addr} {h : Heap} {p : Addr × Obj} (hp : p ∈ pinsAt fp h) : p.1 ∈ fp ∧ h.get? p.1 = some p.2 := by
  obtain ⟨b, hb, e⟩ := List.mem_filterMap.mp hp
  cases q : h.get? b with
  | none => rw [q] at e; cases e
  | some o =>
    rw [q] at e
    have e' : (b, o) = p := Option.some.inj e
    subst e'
    exact ⟨hb, q⟩
theorem Inv.pinned {pins : List (Addr × Obj)} {σ : St} {H : Hp} {s : Shared} {fp : List Addr} (I : Inv X pins σ H s) (hf : ∀ b ∈ fp, FpOk X pins H b) (ho : ∀ b ∈ fp, ∃ o, s.heap.get? b = some o ∧ ∀ v, o.data ≠ .cell v) : Inv X (pins ++ pinsAt fp s.heap) σ H s :=
  I.pins_of fun p hp => (List.mem_append.mp hp).elim (fun z => I.pin p (List.mem_append_right _ z)) fun z => by
    obtain ⟨hb, e⟩ := of_pinsAt z
    obtain ⟨f0, f1, f2, _⟩ := hf p.1 hb
    obtain ⟨o, e', d⟩ := ho p.1 hb
    rw [e] at e'; cases e'
    exact ⟨e, f0, f1, f2, d⟩
theorem Inv.unpinned {pins pl : List (Addr × Obj)} {σ : St} {H : Hp} {s : Shared} (I : Inv X (pins ++ pl) σ H s) : Inv X pins σ H s := I.pins_of fun p hp => I.pin p (List.mem_append_right _ (List.mem_append_left _ hp))
theorem ps_for {iter : Expr} {body : List Stmt} {wi : TI} {g : TG} {tb : TS} {pos : Pos} (hp : PassesOwn (model X.prog X.w) X.A X.env X.xe) (hc : X.calm = true) (hi : PI X tg iter wi) (hg : PG X tg g) (hb : PSs X body tb)
    (hs : ∀ x, foldedSetIterable iter X.env x = pure x := by intro _; rfl) : PS X (.For tg iter body [] pos) (tFor wi g tb) := by
  intro pins s σ H D I h
  refine wpAny_For (thn (hi pins s σ H _ I h) fun v s1 h1 => thn h1 fun itv s2 h2 => ?_) hs
  obtain ⟨it, fp, tn, J, H2, e, I2, T, st2, f2, W, ⟨m0, w0⟩, turn⟩ := h2
  subst e
  -- what stays true of the iterator's objects through the loop
  have stat : ∀ {H' : Hp}, (∀ b ∈ fp, H' b = none) → ∀ b ∈ fp, FpOk X pins H' b := fun hn b hb => ⟨hn b hb, (f2 b hb).2⟩
  refine codeAny_forLoop_any (fun n s' => ∃ i σ' H', Inv X pins σ' H' s' ∧ tn i s'.heap ∧ (∀ b ∈ fp, H' b = none) ∧ W i n σ' H') ?_ m0 ⟨0, σ, H2, I2, st2, fun b hb => (f2 b hb).1, w0⟩
  rintro n s3 ⟨i, σ3, H3, I3, st3, fr3, w3⟩
  rcases turn i n σ3 H3 w3 with ⟨stop, qn⟩ | ⟨go, N, hN, step⟩
  · refine wpAny_passesOwn hp (thn (T.done X rfl rfl rfl hc i pins s3 σ3 H3 X.xe I3 (stat fr3) st3 stop) fun r s4 ⟨hr, I4⟩ => ?_)
    subst hr
    exact wpAny_execs_nil ⟨σ3, H3, I4, qn⟩
  · refine wpAny_passesOwn hp (thn (T.item X rfl rfl rfl hc i pins s3 σ3 H3 X.xe I3 (stat fr3) st3 go) fun r s4 ⟨u, hr, h4⟩ => ?_)
    subst hr
    refine wpAny_passesOwn hp (thn h4 fun _ s5 ⟨x, H5, I5, r5, y5, st5, fr5⟩ => ?_)
    have I5' := I5.pinned (stat fr5) (T.obj _ _ st5)
    refine wpAny_passesOwn hp (thn (hg _ s5 σ3 H5 x u _ I5' r5 (step x H5 y5)) fun _ s6 ⟨σ6, H6, I6, q6⟩ => ?_)
    refine wpAny_passesOwn hp (thn (hb _ s6 σ6 H6 _ I6 q6) fun f s7 q7 => ?_)
    have again : ∀ {σ7 : St} {H7 : Hp}, Inv X (pins ++ pinsAt fp s5.heap) σ7 H7 s7 → N σ7 H7 → ∃ m, m < n ∧ ∃ i σ' H', Inv X pins σ' H' s7 ∧ tn i s7.heap ∧ (∀ b ∈ fp, H' b = none) ∧ W i m σ' H' := fun {σ7 H7} I7 n7 => by
      obtain ⟨m', hm, w7⟩ := hN σ7 H7 n7
      refine ⟨m', hm, i + 1, σ7, H7, I7.unpinned, T.keep _ _ _ st5 fun b hb o e => (I7.pin (b, o) (List.mem_append_right _ (List.mem_append_right _ (mem_pinsAt hb e)))).1, fun b hb => ?_, w7⟩
      obtain ⟨o, e, d⟩ := T.obj _ _ st5 b hb
      exact (I7.pin (b, o) (List.mem_append_right _ (List.mem_append_right _ (mem_pinsAt hb e)))).2.1
    cases f with
    | next => obtain ⟨σ7, H7, I7, n7⟩ := q7; exact again I7 n7
    | cont => obtain ⟨σ7, H7, I7, n7⟩ := q7; exact again I7 n7
    | brk => obtain ⟨σ7, H7, I7, q7⟩ := q7; exact ⟨σ7, H7, I7.unpinned, q7⟩
    | ret v => obtain ⟨x7, σ7, H7, I7, r7, q7⟩ := q7; exact ⟨x7, σ7, H7, I7.unpinned, r7, q7⟩
end
theorem for_list {K : PySem.W.Frag} {a : Addr} {xs : List V} {g : TG} {tb : TS} {D : Ends} {σ : St} {H : Hp} (Pv : Nat → St → Hp → Prop) (h0 : Pv 0 σ H) (hl : ∀ i σ H, i ≤ xs.length → Pv i σ H → SqL K H a xs)
    (hs : ∀ i x σ H, xs[i]? = some x → Pv i σ H → g x σ H fun σ2 H2 => tb { D with nx := Pv (i + 1), ct := Pv (i + 1), bk := D.nx } σ2 H2) (hd : ∀ σ H, Pv xs.length σ H → D.nx σ H) :
    ∃ W : Nat → Nat → St → Hp → Prop, (∃ m, W 0 m σ H) ∧ ∀ i m σ H, W i m σ H →
      ((Itl K a).stop i H ∧ D.nx σ H) ∨ ((Itl K a).go i H ∧ ∃ N : St → Hp → Prop, (∀ σ' H', N σ' H' → ∃ m', m' < m ∧ W (i + 1) m' σ' H') ∧ ∀ x H', (Itl K a).yld i H x H' → g x σ H' fun σ2 H2 => tb { D with nx := N, ct := N, bk := D.nx } σ2 H2) := by
  refine ⟨fun i m σ H => m = xs.length - i ∧ i ≤ xs.length ∧ Pv i σ H, ⟨xs.length, by simp, Nat.zero_le _, h0⟩, ?_⟩
  rintro i m σ H ⟨rfl, hi, p⟩
  have q := hl i σ H hi p
  by_cases hlt : i < xs.length
  · refine .inr ⟨⟨xs, xs[i], q, by simp [hlt]⟩, Pv (i + 1), fun σ' H' p' => ⟨xs.length - (i + 1), by omega, rfl, hlt, p'⟩, fun x H' y => ?_⟩
    obtain ⟨e, y⟩ := y
    subst e
    exact hs i x σ _ (y xs q) p
  · have e : i = xs.length := by omega
    subst e
    exact .inl ⟨⟨xs, q, Nat.le_refl _⟩, hd σ H p⟩
theorem for_range {lo : Int} {n : Nat} {g : TG} {tb : TS} {D : Ends} {σ : St} {H : Hp} (Pv : Nat → St → Hp → Prop) (h0 : Pv 0 σ H)
    (hs : ∀ i σ H, i < n → Pv i σ H → g (.int (lo + i)) σ H fun σ2 H2 => tb { D with nx := Pv (i + 1), ct := Pv (i + 1), bk := D.nx } σ2 H2) (hd : ∀ σ H, Pv n σ H → D.nx σ H) :
    ∃ W : Nat → Nat → St → Hp → Prop, (∃ m, W 0 m σ H) ∧ ∀ i m σ H, W i m σ H →
      ((Itr lo n).stop i H ∧ D.nx σ H) ∨ ((Itr lo n).go i H ∧ ∃ N : St → Hp → Prop, (∀ σ' H', N σ' H' → ∃ m', m' < m ∧ W (i + 1) m' σ' H') ∧ ∀ x H', (Itr lo n).yld i H x H' → g x σ H' fun σ2 H2 => tb { D with nx := N, ct := N, bk := D.nx } σ2 H2) := by
  refine ⟨fun i m σ H => m = n - i ∧ i ≤ n ∧ Pv i σ H, ⟨n, by simp, Nat.zero_le _, h0⟩, ?_⟩
  rintro i m σ H ⟨rfl, hi, p⟩
  by_cases hlt : i < n
  · refine .inr ⟨hlt, Pv (i + 1), fun σ' H' p' => ⟨n - (i + 1), by omega, rfl, hlt, p'⟩, fun x H' y => ?_⟩
    obtain ⟨e, y⟩ := y
    subst e y
    exact hs i σ _ hlt p
  · have e : i = n := by omega
    subst e
    exact .inl ⟨Nat.le_refl _, hd σ H p⟩
end L2
namespace L2
open PySem PySem.Spec PyProof.Rows
abbrev R2 := V → V → Hp → VK → Prop
def OpR (X : Cx) (f : Value → Value → Sem Value) (r : R2) : Prop :=
  ∀ (pins : List (Addr × Obj)) (s : Shared) (σ : St) (H : Hp) (x y : V) (v u : Value) (Q : VK), Inv X pins σ H s → RelV x v → RelV y u → r x y H Q →
    wpAny (model X.prog X.w) X.A (f v u) (EP X pins σ Q) X.xe s
def UnR (X : Cx) (f : Value → Sem Value) (r : V → Hp → VK → Prop) : Prop :=
  ∀ (pins : List (Addr × Obj)) (s : Shared) (σ : St) (H : Hp) (x : V) (v : Value) (Q : VK), Inv X pins σ H s → RelV x v → r x H Q →
    wpAny (model X.prog X.w) X.A (f v) (EP X pins σ Q) X.xe s
def CallR (X : Cx) (f : Value) (r : List V → Hp → VK → Prop) : Prop :=
  ∀ (pins : List (Addr × Obj)) (s : Shared) (σ : St) (H : Hp) (xs : List V) (us : List Value) (Q : VK), Inv X pins σ H s → Vals xs us → r xs H Q →
    wpAny (model X.prog X.w) X.A (call f us) (EP X pins σ Q) X.xe s
def TruR (X : Cx) (r : V → Hp → (Bool → Hp → Prop) → Prop) : Prop :=
  ∀ (pins : List (Addr × Obj)) (s : Shared) (σ : St) (H : Hp) (x : V) (v : Value) (Q : Bool → Hp → Prop), Inv X pins σ H s → RelV x v → r x H Q →
    wpAny (model X.prog X.w) X.A (truthy v) (TP X pins σ Q) X.xe s
def tOp (r : R2) (ta tb : TE) : TE := fun σ H Q => ta σ H fun x H1 => tb σ H1 fun y H2 => r x y H2 Q
def tUn (r : V → Hp → VK → Prop) (ta : TE) : TE := fun σ H Q => ta σ H fun x H1 => r x H1 Q
def rI (C : Int → Int → Prop) (g : Int → Int → V) : R2 := fun x y H Q => ∃ i j, x = .int i ∧ y = .int j ∧ C i j ∧ Q (g i j) H
def rI0 (g : Int → Int → V) : R2 := fun x y H Q => ∃ i j, x = .int i ∧ y = .int j ∧ Q (g i j) H
def rU (g : Int → V) : V → Hp → VK → Prop := fun x H Q => ∃ i, x = .int i ∧ Q (g i) H
section
variable {X : Cx} {a b c : Expr} {ta tb tc : TE} {pos : Pos}
theorem binT (ha : PE X a ta) (hb : PE X b tb) {pins : List (Addr × Obj)} {s : Shared} {σ : St} {H : Hp} {R : V → V → Hp → Prop} (I : Inv X pins σ H s)
    (h : ta σ H fun x H1 => tb σ H1 fun y H2 => R x y H2) {Q : Value → Shared → Prop} {f : Value → Value → Sem Value}
    (hf : ∀ v u s2 x y H2, Inv X pins σ H2 s2 → RelV x v → RelV y u → R x y H2 → wpAny (model X.prog X.w) X.A (f v u) Q X.xe s2) :
    wpAny (model X.prog X.w) X.A (eval a X.env) (fun v s₁ => wpAny (model X.prog X.w) X.A (eval b X.env) (fun u s₂ => wpAny (model X.prog X.w) X.A (f v u) Q X.xe s₂) X.xe s₁) X.xe s := by
  refine thn (ha pins s σ H _ I h) fun v s1 ⟨x, H1, I1, r1, q1⟩ => ?_
  refine thn (hb pins s1 σ H1 _ I1 q1) fun u s2 ⟨y, H2, I2, r2, q2⟩ => ?_
  exact hf v u s2 x y H2 I2 r1 r2 q2
theorem pe_op {op : Operator} {r : R2} (ho : OpR X (binaryOp op) r) (ha : PE X a ta) (hb : PE X b tb) : PE X (.BinOp a op b pos) (tOp r ta tb) := by
  intro pins s σ H Q I h
  exact wpAny_BinOp (binT ha hb I h fun v u s2 x y H2 I2 rx ry q => ho pins s2 σ H2 x y v u Q I2 rx ry q)
theorem pe_un {op : UnaryOp} {r : V → Hp → VK → Prop} (ho : UnR X (unaryOp op) r) (ha : PE X a ta) : PE X (.UnaryOp op a pos) (tUn r ta) := by
  intro pins s σ H Q I h
  exact UnaryOp_ (thn (ha pins s σ H _ I h) fun v s1 ⟨x, H1, I1, r1, q1⟩ => ho pins s1 σ H1 x v Q I1 r1 q1)
theorem opI {f : Value → Value → Sem Value} {C : Int → Int → Prop} {g : Int → Int → Int}
    (rule : ∀ (i j : Int) (t u : Tok) (s : Shared) (Q : Value → Shared → Prop) (E : Value → Shared → Prop), C i j → Q (.int (g i j) s.toks) { s with toks := s.toks + 1 } → wpAny (model X.prog X.w) X.A (f (.int i t) (.int j u)) Q E s) :
    OpR X f (rI C fun i j => .int (g i j)) := by
  intro pins s σ H x y v u Q I rx ry h
  obtain ⟨i, j, rfl, rfl, hc, q⟩ := h
  obtain ⟨t, rfl⟩ := rx
  obtain ⟨t', rfl⟩ := ry
  exact rule i j t t' s _ _ hc ⟨.int (g i j), H, I.tok _, ⟨_, rfl⟩, q⟩
theorem opI0 {f : Value → Value → Sem Value} {g : Int → Int → Int}
    (rule : ∀ (i j : Int) (t u : Tok) (s : Shared) (Q : Value → Shared → Prop) (E : Value → Shared → Prop), Q (.int (g i j) s.toks) { s with toks := s.toks + 1 } → wpAny (model X.prog X.w) X.A (f (.int i t) (.int j u)) Q E s) :
    OpR X f (rI0 fun i j => .int (g i j)) := by
  intro pins s σ H x y v u Q I rx ry h
  obtain ⟨i, j, rfl, rfl, q⟩ := h
  obtain ⟨t, rfl⟩ := rx
  obtain ⟨t', rfl⟩ := ry
  exact rule i j t t' s _ _ ⟨.int (g i j), H, I.tok _, ⟨_, rfl⟩, q⟩
theorem opB0 {f : Value → Value → Sem Value} {g : Int → Int → Bool}
    (rule : ∀ (i j : Int) (t u : Tok) (s : Shared) (Q : Value → Shared → Prop) (E : Value → Shared → Prop), Q (.bool (g i j)) s → wpAny (model X.prog X.w) X.A (f (.int i t) (.int j u)) Q E s) :
    OpR X f (rI0 fun i j => .bl (g i j)) := by
  intro pins s σ H x y v u Q I rx ry h
  obtain ⟨i, j, rfl, rfl, q⟩ := h
  obtain ⟨t, rfl⟩ := rx
  obtain ⟨t', rfl⟩ := ry
  exact rule i j t t' s _ _ ⟨.bl (g i j), H, I, rfl, q⟩
def CDiv (i j : Int) : Prop := 0 < j ∧ j < 1073741824
def CMul (i j : Int) : Prop := (-(2 ^ 64) < i ∧ i < 2 ^ 64) ∨ (-(2 ^ 64) < j ∧ j < 2 ^ 64)
theorem CMul.ok {i j : Int} (h : CMul i j) : IntMulOk i j := by
  rcases h with ⟨h1, h2⟩ | ⟨h1, h2⟩
  · exact .of_left (intBits_le_64 h1 h2)
  · exact .of_right (intBits_le_64 h1 h2)
theorem op_add : OpR X (binaryOp .Add) (rI0 fun i j => .int (i + j)) := opI0 fun _ _ _ _ _ _ _ q => add_int q
theorem op_sub : OpR X (binaryOp .Sub) (rI0 fun i j => .int (i - j)) := opI0 fun _ _ _ _ _ _ _ q => sub_int q
theorem op_mul : OpR X (binaryOp .Mult) (rI CMul fun i j => .int (i * j)) := opI fun _ _ _ _ _ _ _ hc q => mul_int q hc.ok
theorem op_fdiv : OpR X (binaryOp .FloorDiv) (rI CDiv fun i j => .int (i / j)) := opI fun i j _ _ _ _ _ hc q => by
  have h1 : (0 : Int) < j := hc.1
  have h2 : j < 1073741824 := hc.2
  exact floordiv_int (by omega) (by rw [Int.fdiv_eq_ediv_of_nonneg i (by omega)]; exact q) (.inl (PyProof.noPylong_small (by omega)))
theorem op_mod : OpR X (binaryOp .Mod) (rI (fun _ j => 0 < j) fun i j => .int (i % j)) := opI fun i j _ _ _ _ _ hc q => by
  have h1 : (0 : Int) < j := hc
  exact mod_int' (by omega) (by rw [Int.fmod_eq_emod_of_nonneg i (by omega)]; exact q)
theorem unI {f : Value → Sem Value} {g : Int → Int}
    (rule : ∀ (i : Int) (t : Tok) (s : Shared) (Q : Value → Shared → Prop) (E : Value → Shared → Prop), Q (.int (g i) s.toks) { s with toks := s.toks + 1 } → wpAny (model X.prog X.w) X.A (f (.int i t)) Q E s) :
    UnR X f (rU fun i => .int (g i)) := by
  intro pins s σ H x v Q I rx h
  obtain ⟨i, rfl, q⟩ := h
  obtain ⟨t, rfl⟩ := rx
  exact rule i t s _ _ ⟨.int (g i), H, I.tok _, ⟨_, rfl⟩, q⟩
theorem un_neg : UnR X (unaryOp .USub) (rU fun i => .int (-i)) := unI fun _ _ _ _ _ q => neg_int q
end
def scal : V → V → Bool
  | .non, .non => true | .non, .int _ => true | .int _, .non => true | .non, .bl _ => true | .bl _, .non => true | .non, .str _ => true | .str _, .non => true
  | .int _, .int _ => true | .bl _, .bl _ => true | .str _, .str _ => true | .byt _, .byt _ => true
  | .int _, .str _ => true | .str _, .int _ => true | .bl _, .str _ => true | .str _, .bl _ => true
  | _, _ => false
def rEq : R2 := fun x y H Q => scal x y = true ∧ Q (.bl (decide (x = y))) H
def rNe : R2 := fun x y H Q => scal x y = true ∧ Q (.bl (!decide (x = y))) H
theorem dec_int {i j : Int} : decide (V.int i = V.int j) = (i == j) := by
  rw [Bool.eq_iff_iff]
  simp
theorem dec_bl {i j : Bool} : decide (V.bl i = V.bl j) = (i == j) := by
  rw [Bool.eq_iff_iff]
  simp
theorem dec_str {i j : Str} : decide (V.str i = V.str j) = (i == j) := by
  rw [Bool.eq_iff_iff]
  simp
theorem dec_byt {i j : Array UInt8} : decide (V.byt i = V.byt j) = (i.toList == j.toList) := by
  rw [Bool.eq_iff_iff]
  cases i
  cases j
  simp
section
variable {X : Cx} {a b c : Expr} {ta tb tc : TE} {pos : Pos}
theorem fin_bl {pins : List (Addr × Obj)} {σ : St} {H : Hp} {s : Shared} {Q : VK} {k k' : Bool} (I : Inv X pins σ H s) (q : Q (.bl k) H) (e : k = k') : EP X pins σ Q (.bool k') s := by
  subst e
  exact ⟨.bl k, H, I, rfl, q⟩
theorem op_eq : OpR X (compareOp .Eq) rEq := by
  intro pins s σ H x y v u Q I rx ry h
  obtain ⟨hs, q⟩ := h
  cases x with
  | non =>
    cases rx
    cases y with
    | non => cases ry; exact PySem.EqNone.eq_none_none (fin_bl I q (by simp))
    | bl j => cases ry; exact PySem.EqNone.eq_none_bool (fin_bl I q (by simp))
    | int j => obtain ⟨t', rfl⟩ := ry; exact PySem.EqNone.eq_none_int (fin_bl I q (by simp))
    | str j => obtain ⟨t', rfl⟩ := ry; exact PySem.EqNone.eq_none_str (fin_bl I q (by simp))
    | _ => exact absurd (show false = true from hs) Bool.false_ne_true
  | bl i =>
    cases rx
    cases y with
    | non => cases ry; exact PySem.EqNone.eq_bool_none (fin_bl I q (by simp))
    | bl j => cases ry; exact eq_bool (fin_bl I q dec_bl)
    | str j => obtain ⟨t', rfl⟩ := ry; exact PySem.EqMixed.eq_bool_str (fin_bl I q (by simp))
    | _ => exact absurd (show false = true from hs) Bool.false_ne_true
  | int i =>
    obtain ⟨t, rfl⟩ := rx
    cases y with
    | non => cases ry; exact PySem.EqNone.eq_int_none (fin_bl I q (by simp))
    | int j => obtain ⟨t', rfl⟩ := ry; exact eq_int (fin_bl I q dec_int)
    | str j => obtain ⟨t', rfl⟩ := ry; exact PySem.EqMixed.eq_int_str (fin_bl I q (by simp))
    | _ => exact absurd (show false = true from hs) Bool.false_ne_true
  | str i =>
    obtain ⟨t, rfl⟩ := rx
    cases y with
    | non => cases ry; exact PySem.EqNone.eq_str_none (fin_bl I q (by simp))
    | bl j => cases ry; exact PySem.EqMixed.eq_str_bool (fin_bl I q (by simp))
    | int j => obtain ⟨t', rfl⟩ := ry; exact PySem.EqMixed.eq_str_int (fin_bl I q (by simp))
    | str j => obtain ⟨t', rfl⟩ := ry; exact eq_str (fin_bl I q dec_str)
    | _ => exact absurd (show false = true from hs) Bool.false_ne_true
  | byt i =>
    obtain ⟨t, rfl⟩ := rx
    cases y with
    | byt j => obtain ⟨t', rfl⟩ := ry; exact PySem.W.eq_bytes (fin_bl I q dec_byt)
    | _ => exact absurd (show false = true from hs) Bool.false_ne_true
  | _ => cases y <;> exact absurd (show false = true from hs) Bool.false_ne_true
theorem op_ne : OpR X (compareOp .NotEq) rNe := by
  intro pins s σ H x y v u Q I rx ry h
  obtain ⟨hs, q⟩ := h
  cases x with
  | non =>
    cases rx
    cases y with
    | non => cases ry; exact PySem.EqNone.ne_none_none (fin_bl I q (by simp))
    | bl j => cases ry; exact PySem.EqNone.ne_none_bool (fin_bl I q (by simp))
    | int j => obtain ⟨t', rfl⟩ := ry; exact PySem.EqNone.ne_none_int (fin_bl I q (by simp))
    | str j => obtain ⟨t', rfl⟩ := ry; exact PySem.EqNone.ne_none_str (fin_bl I q (by simp))
    | _ => exact absurd (show false = true from hs) Bool.false_ne_true
  | bl i =>
    cases rx
    cases y with
    | non => cases ry; exact PySem.EqNone.ne_bool_none (fin_bl I q (by simp))
    | bl j => cases ry; exact ne_bool (fin_bl I q (congrArg not dec_bl))
    | str j => obtain ⟨t', rfl⟩ := ry; exact PySem.EqMixed.ne_bool_str (fin_bl I q (by simp))
    | _ => exact absurd (show false = true from hs) Bool.false_ne_true
  | int i =>
    obtain ⟨t, rfl⟩ := rx
    cases y with
    | non => cases ry; exact PySem.EqNone.ne_int_none (fin_bl I q (by simp))
    | int j => obtain ⟨t', rfl⟩ := ry; exact ne_int (fin_bl I q (congrArg not dec_int))
    | str j => obtain ⟨t', rfl⟩ := ry; exact PySem.EqMixed.ne_int_str (fin_bl I q (by simp))
    | _ => exact absurd (show false = true from hs) Bool.false_ne_true
  | str i =>
    obtain ⟨t, rfl⟩ := rx
    cases y with
    | non => cases ry; exact PySem.EqNone.ne_str_none (fin_bl I q (by simp))
    | bl j => cases ry; exact PySem.EqMixed.ne_str_bool (fin_bl I q (by simp))
    | int j => obtain ⟨t', rfl⟩ := ry; exact PySem.EqMixed.ne_str_int (fin_bl I q (by simp))
    | str j => obtain ⟨t', rfl⟩ := ry; exact ne_str (fin_bl I q (congrArg not dec_str))
    | _ => exact absurd (show false = true from hs) Bool.false_ne_true
  | byt i =>
    obtain ⟨t, rfl⟩ := rx
    cases y with
    | byt j => obtain ⟨t', rfl⟩ := ry; exact PySem.W.ne_bytes (fin_bl I q (congrArg not dec_byt))
    | _ => exact absurd (show false = true from hs) Bool.false_ne_true
  | _ => cases y <;> exact absurd (show false = true from hs) Bool.false_ne_true
theorem op_lt : OpR X (compareOp .Lt) (rI0 fun i j => .bl (decide (i < j))) := opB0 fun _ _ _ _ _ _ _ q => lt_int q
theorem op_gt : OpR X (compareOp .Gt) (rI0 fun i j => .bl (decide (j < i))) := opB0 fun _ _ _ _ _ _ _ q => gt_int q
theorem op_ge : OpR X (compareOp .GtE) (rI0 fun i j => .bl (decide (j ≤ i))) := opB0 fun _ _ _ _ _ _ _ q => ge_int q
theorem OpR.or {f : Value → Value → Sem Value} {r r' : R2} (h : OpR X f r) (h' : OpR X f r') : OpR X f (fun x y H Q => r x y H Q ∨ r' x y H Q) := by
  intro pins s σ H x y v u Q I rx ry q
  rcases q with q | q
  · exact h pins s σ H x y v u Q I rx ry q
  · exact h' pins s σ H x y v u Q I rx ry q
theorem nomark (b : Expr) {op : CmpOp} (h : op ≠ .In := by decide) (h2 : op ≠ .NotIn := by decide) : behindInMarks op b = false := by
  have e1 : (op == CmpOp.In) = false := by cases op <;> first | rfl | exact absurd rfl h
  have e2 : (op == CmpOp.NotIn) = false := by cases op <;> first | rfl | exact absurd rfl h2
  cases b <;> simp [behindInMarks, e1, e2]
theorem pe_cmpR {op : CmpOp} {r : R2} (ho : OpR X (compareOp op) r) (ha : PE X a ta) (hb : PE X b tb) (hm : behindInMarks op b = false) : PE X (.Compare a [op] [b] pos) (tOp r ta tb) := by
  intro pins s σ H Q I h
  exact wpAny_Compare1 (binT ha hb I h fun v u s2 x y H2 I2 rx ry q => ho pins s2 σ H2 x y v u Q I2 rx ry q) hm
def tTest (t : TE) : TT := fun σ H Q => t σ H fun x H' => ∃ k, x = .bl k ∧ Q k H'
theorem pt_cmpR {op : CmpOp} {r : R2} (ho : OpR X (compareOp op) r) (ha : PE X a ta) (hb : PE X b tb) (hm : behindInMarks op b = false) : PT X (.Compare a [op] [b] pos) (tTest (tOp r ta tb)) := by
  intro pins s σ H Q I h
  refine wpAny_isTrue_Compare1 (thn (ha pins s σ H _ I h) fun v s1 ⟨x, H1, I1, r1, q1⟩ => thn (hb pins s1 σ H1 _ I1 q1) fun u s2 ⟨y, H2, I2, r2, q2⟩ =>
    thn (ho pins s2 σ H2 x y v u _ I2 r1 r2 q2) fun c s3 ⟨z, H3, I3, r3, k, e, q3⟩ => ?_) hm
  subst e
  cases r3
  exact wpAny_truthy_bool ⟨H3, I3, q3⟩
def TruV (K : PySem.W.Frag) (x : V) (H : Hp) (k : Bool) : Prop :=
  match x with
  | .non => k = false
  | .bl b => k = b
  | .int i => k = (i != 0)
  | .str y => y.length ≤ sizeLine ∧ k = ((y.length : Int) != 0)
  | .byt y => y.size ≤ sizeLine ∧ k = ((y.size : Int) != 0)
  | .ref p => (∃ xs, SqL K H p xs ∧ k = !xs.isEmpty) ∨ (∃ xs, SqT K H p xs ∧ k = !xs.isEmpty) ∨ ∃ kvs, H p = some (.dK kvs) ∧ k = !kvs.isEmpty
  | _ => False
theorem isEmpty_kv {κ : Type} {kvs : List (κ × V)} {vs : List (κ × Value)} (r : KV kvs vs) : (!vs.isEmpty) = !kvs.isEmpty := by
  cases r <;> rfl
theorem isEmpty_of {xs : List V} {its : List Value} (r : Vals xs its) : (!its.toArray.isEmpty) = !xs.isEmpty := by
  cases r <;> simp
theorem line63 : (sizeLine : Nat) < 2 ^ 63 := by rw [sizeLine_eq]; decide
theorem tru_ok : TruR X (fun x H Q => ∃ k, TruV X.K x H k ∧ Q k H) := by
  intro pins s σ H x v Q I rx h
  obtain ⟨k, e, q⟩ := h
  have hl := line63
  have hs : sizeLine = 16777216 := sizeLine_eq
  cases x with
  | non =>
    cases rx
    have e' : k = false := e
    subst e'
    exact truthy_none ⟨H, I, q⟩
  | bl b =>
    cases rx
    have e' : k = b := e
    subst e'
    exact wpAny_truthy_bool ⟨H, I, q⟩
  | int i =>
    obtain ⟨t, rfl⟩ := rx
    have e' : k = (i != 0) := e
    subst e'
    exact PySem.P.truthy_int ⟨H, I, q⟩
  | str y =>
    obtain ⟨t, rfl⟩ := rx
    obtain ⟨hy, e'⟩ : y.length ≤ sizeLine ∧ k = ((y.length : Int) != 0) := e
    subst e'
    exact PySem.P.truthy_str (by omega) ⟨H, I.tok _, q⟩
  | byt y =>
    obtain ⟨t, rfl⟩ := rx
    obtain ⟨hy, e'⟩ : y.size ≤ sizeLine ∧ k = ((y.size : Int) != 0) := e
    subst e'
    exact PySem.W.truthy_bytes (by omega) ⟨H, I.tok _, q⟩
  | ref p =>
    cases rx
    have e' : (∃ xs, SqL X.K H p xs ∧ k = !xs.isEmpty) ∨ (∃ xs, SqT X.K H p xs ∧ k = !xs.isEmpty) ∨ ∃ kvs, H p = some (.dK kvs) ∧ k = !kvs.isEmpty := e
    rcases e' with ⟨xs, hx, e'⟩ | ⟨xs, hx, e'⟩ | ⟨kvs, hx, e'⟩
    · subst e'
      obtain ⟨its, r, pl, hz⟩ := I.list hx
      have hlen := r.length
      exact wpAny_truthy_list pl.isList (by simp only [List.size_toArray]; omega) ⟨H, I.tok _, by rw [isEmpty_of r]; exact q⟩
    · subst e'
      obtain ⟨its, r, pl, hz⟩ := I.tuple hx
      have hlen := r.length
      exact truthy_tuple pl (by simp only [List.size_toArray]; omega) ⟨H, I.tok _, by rw [isEmpty_of r]; exact q⟩
    · subst e'
      obtain ⟨hz, hS, vs, r, m⟩ : kvs.length ≤ sizeLine ∧ (p == sysModules) = false ∧ ∃ vs, KV kvs vs ∧ s.heap.DictOf (mixKind X.prog X.w) p vs := I.hok p _ hx
      have hlen : kvs.length = vs.length := Paired.length r
      exact wpAny_truthy_dict hS m (by omega) ⟨H, I.tok _, by rw [isEmpty_kv r]; exact q⟩
  | _ => exact (show False from e).elim
theorem pt_truth (ha : PE X a ta) (he : ∀ whole, isTrue a X.env whole = (do let v ← whole; standAt a.pos; holding [v] (truthy v))) :
    PT X a (fun σ H Q => ta σ H fun x H' => ∃ k, TruV X.K x H' k ∧ Q k H') := by
  intro pins s σ H Q I h
  exact isTrue_plain (thn (ha pins s σ H _ I h) fun v s1 ⟨x, H1, I1, r1, q1⟩ => tru_ok pins s1 σ H1 x v Q I1 r1 q1) (he _)
theorem vals1 {x : V} {us : List Value} (r : Vals [x] us) : ∃ u, us = [u] ∧ RelV x u := by
  cases r with
  | cons r1 r2 => cases r2; exact ⟨_, rfl, r1⟩
theorem vals2 {x y : V} {us : List Value} (r : Vals [x, y] us) : ∃ u w', us = [u, w'] ∧ RelV x u ∧ RelV y w' := by
  cases r with
  | cons r1 r2 =>
    cases r2 with
    | cons r3 r4 => cases r4; exact ⟨_, _, rfl, r1, r3⟩
end
end L2
namespace L2
open PySem PySem.Spec PyProof.Rows
structure ObjM (h : Heap) (x dx C : Addr) (mA : Str → Option Value) : Prop where
  obj : h.get? x = some (PySem.W.instObj C dx)
  ns : h.Ns1 dx mA
  ne : dx ≠ x
theorem lookIn_ns {h : Heap} {dx : Addr} {mA : Str → Option Value} (n : h.Ns1 dx mA) : ∃ od, h.get? dx = some od ∧ ∀ name, PySem.W.lookIn name od = some (mA name) := by
  obtain ⟨o, es, ep, ho, hd, hk, _, hm⟩ := n
  refine ⟨o, ho, fun name => ?_⟩
  have e := hm name
  unfold nsFind findBy at e
  rw [← Array.find?_toList] at e
  unfold PySem.W.lookIn
  rw [hd]
  dsimp only
  split
  · rename_i y q
    rw [q] at e
    exact congrArg some e
  · rename_i q
    rw [q] at e
    have a : es.toList.any (·.refKey) = false := by
      rw [List.any_eq_false]
      intro y hy
      obtain ⟨z, t, hkey⟩ := hk y (Array.mem_toList_iff.mp hy)
      simp [DictEntry.refKey, hkey]
    have a' : ¬ es.toList.any (·.refKey) = true := by rw [a]; exact Bool.false_ne_true
    rw [if_neg a']
    exact congrArg some e
theorem ObjM.look {h : Heap} {x dx C : Addr} {mA : Str → Option Value} (I : ObjM h x dx C mA) : ∃ od, PySem.W.InstAt h x (PySem.W.instObj C dx) C (some od) ∧ ∀ name, PySem.W.lookIn name od = some (mA name) :=
  let ⟨od, ho, hl⟩ := lookIn_ns I.ns
  ⟨od, ⟨I.obj, rfl, rfl, ho⟩, hl⟩
section
variable {prog : Program} {w : World} {A : Around} {E : Value → Shared → Prop} {s : Shared} {K : PySem.W.Frag} {x dx C f : Addr} {mA : Str → Option Value} {name : Str} {v : Value}
end
theorem RelO.some_of {v : V} {o : Option Value} (r : RelO (some v) o) : ∃ u, o = some u ∧ RelV v u := by
  cases o with
  | none => exact (show False from r).elim
  | some u => exact ⟨u, rfl, r⟩
section
variable {P : Program} {w : World} {H H' : Hp} {h h' : Heap} {a C dx : Addr} {fs fs' : List (Str × V)}
theorem ins_get (hok : HOk P w H h) (e : H a = some (.ins C dx fs)) : ∃ mA, ObjM h a dx C mA ∧ (∀ f, RelO (fs.lookup f) (mA f)) ∧ PySem.Within mA (fs.map (·.1)) ∧ fs.length ≤ 1000 ∧ H dx = some (.own a) := by
  obtain ⟨d, z, ne, ob, mA, n, r, q⟩ := (show ObjOk P w H h a (.ins C dx fs) from hok a _ e)
  exact ⟨mA, ⟨ob, n, ne⟩, r, q, z, d⟩
end
structure Cls (K : PySem.W.Frag) (C : Addr) : Prop where
  pg : PySem.W.plainGet K C Str.empty = true
  hd : PySem.W.hasDictIn K C = true
  po : PySem.W.plainOver K C = true
  sa : PySem.W.findIn K (.ref C) "__setattr__" = some (some (.builtin "object.__setattr__"))
theorem Cls.get {K : PySem.W.Frag} {C : Addr} (c : Cls K C) (f : Str) : PySem.W.plainGet K C f = true := c.pg
structure Con (K : PySem.W.Frag) (C : Addr) (f : Str) (v : V) (u : Value) : Prop where
  at_ : PySem.W.findIn K (.ref C) f = some (some u)
  rel : RelV v u
  get : PySem.W.specialIn K u "__get__" = some none
  cp : PySem.W.copiedNames.contains f = false
structure Meth (K : PySem.W.Frag) (C : Addr) (m : Str) (f : Addr) : Prop where
  at_ : PySem.W.findIn K (.ref C) m = some (some (.ref f))
  fn : PySem.W.isFn K (.ref f) = true
  kp : PySem.W.keepIn K (.ref f) = true
section
variable {X : Cx} {pins : List (Addr × Obj)} {σ : St} {H : Hp} {s : Shared} {a C dx : Addr} {fs : List (Str × V)} {f : Str} {v : V} {A : Around} {E : Value → Shared → Prop}
end
section
variable {X : Cx} {o e value : Expr} {f : Str} {pos pos' tpos : Pos} {ta tv : TE}
end
section
variable {X : Cx} {pins : List (Addr × Obj)} {σ : St} {H : Hp} {s : Shared} {A : Around} {E : Value → Shared → Prop} {Q : Value → Shared → Prop} {c : Value} {b : Bool}
inductive TyOf (K : PySem.W.Frag) (H : Hp) : V → Value → Prop where
  | non : TyOf K H .non (.type "NoneType")
  | bl (x : Bool) : TyOf K H (.bl x) (.type "bool")
  | int (i : Int) : TyOf K H (.int i) (.type "int")
  | str (x : Str) : TyOf K H (.str x) (.type "str")
  | flt (x : UInt64) : TyOf K H (.flt x) (.type "float")
  | lst {a : Addr} {xs : List V} (e : H a = some (.lst xs)) : TyOf K H (.ref a) (.type "list")
  | frz {a : Addr} {o : Obj} {xs : List V} (e : H a = some (.frz o (.lst xs))) : TyOf K H (.ref a) (.type "list")
  | tup {a : Addr} {xs : List V} (e : H a = some (.tup xs)) : TyOf K H (.ref a) (.type "tuple")
  | dK {a : Addr} {kvs : List (Key × V)} (e : H a = some (.dK kvs)) : TyOf K H (.ref a) (.type "dict")
  | dT {a : Addr} {kvs : List (List Key × V)} (e : H a = some (.dT kvs)) : TyOf K H (.ref a) (.type "dict")
  | ins {a C dx : Addr} {fs : List (Str × V)} (e : H a = some (.ins C dx fs)) (cl : Cls K C) (ha : PySem.W.findIn K (.ref C) "__class__" = some (some (.builtin "object.__class__")))
      (hn : PySem.W.specialIn K (.builtin "object.__class__") "__get__" = some (some (.builtin "getset_descriptor.__get__"))) (htk : PySem.W.takesIn K (.builtin "object.__class__") = some true)
      (hm : PySem.W.mroIn K C (.type "object") = some true) : TyOf K H (.ref a) (.ref C)
theorem isinst_ok {x : V} {u t : Value} (I : Inv X pins σ H s) (rx : RelV x u) (ty : TyOf X.K H x t) (e : PySem.W.kitOne X.K t c = some b) (h : ∀ tk, Q (.bool b) { s with toks := tk }) :
    wpAny (model X.prog X.w) A (call (.builtin "isinstance") [u, c]) Q E s := by
  cases ty with
  | non => cases (show u = Value.none from rx); exact PySem.W.kia_one PySem.W.kitx_none I.kIn True.intro e (fun z => nomatch z) h
  | bl y => cases (show u = Value.bool y from rx); exact PySem.W.kia_one PySem.W.kitx_bool I.kIn True.intro e (fun z => nomatch z) h
  | int i => obtain ⟨t, q⟩ := (show ∃ t, u = Value.int i t from rx); cases q; exact PySem.W.kia_one PySem.W.kitx_int I.kIn True.intro e (fun z => nomatch z) h
  | str y => obtain ⟨t, q⟩ := (show ∃ t, u = Value.str y t from rx); cases q; exact PySem.W.kia_one PySem.W.kitx_str I.kIn True.intro e (fun z => nomatch z) h
  | flt y => obtain ⟨t, q⟩ := (show ∃ t, u = Value.float y t from rx); cases q; exact PySem.W.kia_one PySem.W.kitx_float I.kIn True.intro e (fun z => nomatch z) h
  | @lst a xs ea =>
    cases (show u = Value.ref a from rx)
    obtain ⟨_, _, n, _, h1⟩ := (show ObjOk X.prog X.w H s.heap a (.lst xs) from I.hok a _ ea)
    exact PySem.W.kia_one PySem.W.kitx_list I.kIn ⟨_, h1, rfl⟩ e (fun z => nomatch z) h
  | @frz a ob xs ea =>
    cases (show u = Value.ref a from rx)
    obtain ⟨_, _, _, n, _, h1⟩ := (show ObjOk X.prog X.w H s.heap a (.frz ob (.lst xs)) from I.hok a _ ea)
    exact PySem.W.kia_one PySem.W.kitx_list I.kIn ⟨_, h1, rfl⟩ e (fun z => nomatch z) h
  | @tup a xs ea =>
    cases (show u = Value.ref a from rx)
    obtain ⟨_, _, _, p⟩ := (show ObjOk X.prog X.w H s.heap a (.tup xs) from I.hok a _ ea)
    obtain ⟨o, h1, h2, _⟩ := p
    exact PySem.W.kia_one PySem.W.kitx_tuple I.kIn ⟨o, h1, h2⟩ e (fun z => nomatch z) h
  | @dK a kvs ea =>
    cases (show u = Value.ref a from rx)
    obtain ⟨_, _, vs, _, p⟩ := (show ObjOk X.prog X.w H s.heap a (.dK kvs) from I.hok a _ ea)
    obtain ⟨o, es, ep, h1, h2, _⟩ := p
    exact PySem.W.kia_one PySem.W.kitx_dict I.kIn ⟨o, h1, h2.1⟩ e (fun z => nomatch z) h
  | @dT a kvs ea =>
    cases (show u = Value.ref a from rx)
    obtain ⟨_, _, xs, _, o, es, ep, h1, h2, _⟩ := (show ObjOk X.prog X.w H s.heap a (.dT kvs) from I.hok a _ ea)
    exact PySem.W.kia_one PySem.W.kitx_dict I.kIn ⟨o, h1, h2.1⟩ e (fun z => nomatch z) h
  | @ins a C dx fs ea cl ha hn htk hm =>
    cases (show u = Value.ref a from rx)
    obtain ⟨mA, O, _⟩ := ins_get I.hok ea
    obtain ⟨od, J, _⟩ := O.look
    exact PySem.W.kia_one (PySem.W.kitx_own (cl.get _) cl.hd ha hn htk hm) I.kIn J e (fun z => nomatch z) h
end
end L2
namespace L2
open PySem PySem.Spec PyProof.Rows
structure Room (k : Nat) (A : Around) : Prop where
  hd : A.handled = none
  dp : A.depth + 3 * k + 5 < recursionLimit
  un : A.units + 16 * k + 200 < cLine
theorem Room.mono {j k : Nat} {A : Around} (r : Room k A) (h : j ≤ k) : Room j A := ⟨r.hd, by have := r.dp; omega, by have := r.un; omega⟩
theorem Room.deeper {k : Nat} {A : Around} (r : Room (k + 1) A) (env : Env) : Room k (A.deeper env) :=
  ⟨r.hd, by have := r.dp; show A.depth + 1 + 3 * k + 5 < _; omega, by have := r.un; show A.units + 3 + 16 * k + 200 < _; omega⟩
theorem Room.in1 {k : Nat} {A : Around} (r : Room (k + 1) A) : Room k A.in1 :=
  ⟨r.hd, by have := r.dp; show A.depth + 3 * k + 5 < _; omega, by have := r.un; show A.units + 1 + 16 * k + 200 < _; omega⟩
theorem Room.depth {k : Nat} {A : Around} (r : Room k A) : A.depth < recursionLimit := by have := r.dp; omega
theorem Room.units {k : Nat} {A : Around} (r : Room k A) : A.units + 64 < cLine := by have := r.un; omega
def tNil : TA := fun _ H Q => Q [] H
def tCons (ta : TE) (tr : TA) : TA := fun σ H Q => ta σ H fun x H1 => tr σ H1 fun xs H2 => Q (x :: xs) H2
section
variable {X : Cx} {e : Expr} {es : List Expr} {te : TE} {t : TA} {pos : Pos}
theorem pa_nil : PA X [] tNil := fun _ _ _ _ H Q I h => Calls.spliced_nil ⟨[], H, I, .nil, h⟩
theorem pa_cons (ha : PE X e te) (hr : PA X es t) (hs : starEach (e :: es) X.env = (false, eval e X.env) :: starEach es X.env := by rfl) : PA X (e :: es) (tCons te t) := by
  intro pos pins s σ H Q I h
  rw [hs]
  show wpAny _ _ (spliced ((false, eval e X.env) :: backTo pos (starEach es X.env))) _ _ s
  refine Calls.spliced_cons (thn (ha pins s σ H _ I h) fun u s1 ⟨x, H1, I1, r1, q1⟩ => ?_)
  exact thn (hr pos pins s1 σ H1 _ I1 q1) fun us s2 ⟨xs, H2, I2, r2, q2⟩ => ⟨x :: xs, H2, I2, .cons r1 r2, q2⟩
def tTup (t : TA) : TE := fun σ H Q => t σ H fun xs H1 => xs.length ≤ sizeLine ∧ ∀ p, H1 p = none → Q (.ref p) (upd H1 p (.tup xs))
def tLst (t : TA) : TE := fun σ H Q => t σ H fun xs H1 => xs.length ≤ sizeLine ∧ ∀ p, H1 p = none → Q (.ref p) (upd H1 p (.lst xs))
theorem pe_tup {x1} (h : PA X es t) : PE X (.Tuple es x1 pos) (tTup t) := by
  intro pins s σ H Q I hq
  refine wpAny_Tuple_spliced (thn (h pos pins s σ H _ I hq) fun us s1 ⟨xs, H1, I1, r, z, q⟩ => ⟨by rw [← r.length]; exact z, ?_⟩)
  have hf : H1 s1.heap.objs.size = none := I1.hok.fresh (Nat.le_refl _)
  refine ⟨.ref s1.heap.objs.size, upd H1 s1.heap.objs.size (.tup xs), I1.laid (t' := s1.toks) (fun b u e => Heap.get?_push_of_some _ e) (Nat.le_refl _) ?_, rfl, q _ hf⟩
  exact ⟨z, us, r, ⟨_, Heap.get?_push_size _ rfl, rfl, _, rfl⟩⟩
theorem pe_lst (h : PA X es t) : PE X (.List es pos) (tLst t) := by
  intro pins s σ H Q I hq
  refine wpAny_List_spliced (thn (h pos pins s σ H _ I hq) fun us s1 ⟨xs, H1, I1, r, z, q⟩ => ⟨by rw [← r.length]; exact z, ?_⟩)
  have hf : H1 s1.heap.objs.size = none := I1.hok.fresh (Nat.le_refl _)
  refine ⟨.ref s1.heap.objs.size, upd H1 s1.heap.objs.size (.lst xs), I1.laid (t' := s1.toks) (fun b u e => Heap.get?_push_of_some _ e) (Nat.le_refl _) ?_, rfl, q _ hf⟩
  exact ⟨z, us, 0, r, Heap.get?_push_size _ rfl⟩
end
abbrev Sp := List V → Hp → VK → XK → Prop
abbrev CXT := List Env → Hp → Shared → XK → Value → Shared → Prop
structure Env0 (P : Program) (w : World) (K : PySem.W.Frag) (mg : Str → Option Value) (base : Heap) (A : Around) (outer : List Env) (s : Shared) (H : Hp) : Prop where
  frames : A.frames = some outer
  mod : Mod K mg base
  bs : ∀ b o, base.get? b = some o → s.heap.get? b = some o ∧ H b = none
  bsz : base.objs.size ≤ s.heap.objs.size
  funs : s.heap.FunFrames base outer
  frf : ∀ b ∈ frs outer, H b = none
  hok : HOk P w H s.heap
  bare : AllBare s.gens
def CE (outer : List Env) (P : Program) (w : World) (H : Hp) (s : Shared) (Q : VK) (u : Value) (s' : Shared) : Prop :=
  ∃ v H', s'.os = s.os ∧ AllBare s'.gens ∧ Un (frs outer) [] H H' s.heap s'.heap ∧ HOk P w H' s'.heap ∧ RelV v u ∧ Q v H'
def CR (CX : CXT) (outer : List Env) (P : Program) (w : World) (H : Hp) (s : Shared) (Q : VK) (E : XK) (r : Result) (s' : Shared) : Prop :=
  match r with
  | .ok (.ret u) => CE outer P w H s Q u s'
  | .ok _ => False
  | .error e => CX outer H s E e s'
structure FnOk (P : Program) (w : World) (K : PySem.W.Frag) (mg : Str → Option Value) (base : Heap) (CX : CXT) (k : Nat) (f : Addr) (fd : FuncData) (ps : List Str) (sp : Sp) : Prop where
  len : ∀ vs H Q E, sp vs H Q E → vs.length = ps.length
  run : ∀ (A : Around) (outer : List Env) (s : Shared) (H : Hp) (args : Args) (us : List Value) (vs : List V) (Q : VK) (E : XK), Room k A → Env0 P w K mg base A outer s H → BindsTo s fd args (ps.zip us) → Vals vs us → sp vs H Q E →
    codeAny (model P w) A (.call (.ref f) args) (CR CX outer P w H s Q E) s
theorem FnOk.mono {P : Program} {w : World} {K : PySem.W.Frag} {mg : Str → Option Value} {base : Heap} {CX : CXT} {j k : Nat} {f : Addr} {fd : FuncData} {ps : List Str} {sp : Sp} (F : FnOk P w K mg base CX j f fd ps sp) (h : j ≤ k) :
    FnOk P w K mg base CX k f fd ps sp := ⟨F.len, fun A outer s H args us vs Q E hr => F.run A outer s H args us vs Q E (hr.mono h)⟩
theorem FnOk.imp {P : Program} {w : World} {K : PySem.W.Frag} {mg : Str → Option Value} {base : Heap} {CX : CXT} {k : Nat} {f : Addr} {fd : FuncData} {ps : List Str} {sp sp' : Sp} (F : FnOk P w K mg base CX k f fd ps sp)
    (h : ∀ vs H Q E, sp' vs H Q E → sp vs H Q E) : FnOk P w K mg base CX k f fd ps sp' :=
  ⟨fun vs H Q E q => F.len vs H Q E (h _ _ _ _ q), fun A outer s H args us vs Q E hr he hb hv hs => F.run A outer s H args us vs Q E hr he hb hv (h _ _ _ _ hs)⟩
theorem Env0.in1 {P : Program} {w : World} {K : PySem.W.Frag} {mg : Str → Option Value} {base : Heap} {A : Around} {outer : List Env} {s : Shared} {H : Hp} (e : Env0 P w K mg base A outer s H) :
    Env0 P w K mg base A.in1 outer s H := ⟨e.frames, e.mod, e.bs, e.bsz, e.funs, e.frf, e.hok, e.bare⟩
section
variable {X : Cx} {pins : List (Addr × Obj)} {σ : St} {H : Hp} {s s' : Shared}
theorem Inv.env0 (I : Inv X pins σ H s) : Env0 X.prog X.w X.K X.mg X.base X.A X.stack s H :=
  ⟨I.ok.frames, I.ok.mod, I.bs, Nat.le_trans I.ok.bsz I.sz, I.stack, I.stkFree, I.hok, I.bare⟩
theorem Inv.after {Q : VK} {u : Value} (I : Inv X pins σ H s) (h : CE X.stack X.prog X.w H s Q u s') : EP X pins σ Q u s' := by
  obtain ⟨v, H', os, bare, un, hok, r, q⟩ := h
  obtain ⟨hh, g, d, t, os'⟩ := s'
  obtain rfl : os' = s.os := os
  exact ⟨v, H', I.call (h' := hh) (g' := g) (d' := d) (t' := t) (ch := []) un hok bare (fun b z => absurd z (by simp)), r, q⟩
end
def tCall (sp : Sp) (dvs : List V) (E : XK) (t : TA) : TE := fun σ H Q => t σ H fun vs H1 => sp (vs ++ dvs) H1 Q E
def Binds (K : PySem.W.Frag) (fd : FuncData) (ps : List Str) (ds : List Value) : Prop :=
  ∀ (s : Shared) (us : List Value), K.In s.heap → (us ++ ds).length = ps.length → BindsTo s fd ⟨us, []⟩ (ps.zip (us ++ ds))
theorem Binds.all {K : PySem.W.Frag} {fd : FuncData} {ps : List Str} (h : ∀ us : List Value, us.length = ps.length → bindArgs fd ⟨us, []⟩ = pure (ps.zip us)) : Binds K fd ps [] := fun s us _ hl => by
  rw [List.append_nil] at hl ⊢
  exact .of_eq (h us hl)
def Passes (CX : CXT) (X : Cx) (E : XK) : Prop := ∀ (pins : List (Addr × Obj)) (σ : St) (H : Hp) (s : Shared) (e : Value) (s' : Shared), Inv X pins σ H s → CX X.stack H s E e s' → X.xe e s'
section
variable {X : Cx} {CX : CXT} {k : Nat} {f C : Addr} {fd : FuncData} {ps : List Str} {sp : Sp} {dvs : List V} {ds : List Value} {E : XK} {x m : Str} {p pos apos : Pos} {e o : Expr} {es : List Expr} {ta : TE} {t : TA}
theorem run_fn {pins : List (Addr × Obj)} {σ : St} {H : Hp} {s : Shared} {Q : VK} {us : List Value} {vs : List V} (F : FnOk X.prog X.w X.K X.mg X.base CX k f fd ps sp) (hr : Room k X.A) (hb : Binds X.K fd ps ds) (hd : Vals dvs ds) (hx : Passes CX X E)
    (I : Inv X pins σ H s) (r : Vals vs us) (h : sp (vs ++ dvs) H Q E) : wpAny (model X.prog X.w) X.A (call (.ref f) us) (EP X pins σ Q) X.xe s := by
  have r2 : Vals (vs ++ dvs) (us ++ ds) := r.append hd
  have hl : (us ++ ds).length = ps.length := by rw [← r2.length]; exact F.len _ _ _ _ h
  refine wpAny_call (codeAny_mono (F.run X.A X.stack s H ⟨us, []⟩ (us ++ ds) (vs ++ dvs) Q E hr I.env0 (hb s us I.kIn hl) r2 h) fun r s' hq => ?_)
  cases r with
  | error e => exact hx pins σ H s e s' I hq
  | ok fl =>
    cases fl with
    | ret u => exact I.after hq
    | next => exact False.elim hq
    | brk => exact False.elim hq
    | cont => exact False.elim hq
theorem pe_call (F : FnOk X.prog X.w X.K X.mg X.base CX k f fd ps sp) (hr : Room k X.A) (hg : Gl X x) (hm : X.mg x = some (.ref f)) (hk : PySem.W.keepIn X.K (.ref f) = true) (hb : Binds X.K fd ps ds) (hd : Vals dvs ds) (hx : Passes CX X E)
    (ha : PA X (e :: es) t) (hdb : (x == ("__debug__" : Str)) = false := by decide) (he : starEach (e :: es) X.env = (false, eval e X.env) :: starEach es X.env := by rfl) (hpl : (backTo pos (starEach es X.env)).any (·.1) = false := by rfl) :
    PE X (.Call (.Name x p) (e :: es) [] pos) (tCall sp dvs E t) := by
  intro pins s σ H Q I h
  refine wpAny_Call_Name_kw (ld_glob I hg hm ?_ hdb)
  refine PySem.W.callWith_K (h₀ := X.base) I.ok.mod.kin hk (thn (ha pos pins s σ H _ I h) fun us s1 ⟨vs, H1, I1, r, q⟩ => ⟨I1.kIn, ?_⟩) he hpl
  exact run_fn F hr hb hd hx I1 r q
structure Mk (K : PySem.W.Frag) (C f : Addr) : Prop where
  makes : PySem.W.makesIn K C = true
  init : PySem.W.findIn K (.ref C) "__init__" = some (some (.ref f))
  fn : PySem.W.isFn K (.ref f) = true
  kp : PySem.W.keepIn K (.ref C) = true
end
section
variable {X : Cx} {CX : CXT} {k : Nat} {f C : Addr} {fd : FuncData} {ps ks : List Str} {sp : Sp} {E : XK} {x m : Str} {p pos apos kpos : Pos} {e o : Expr} {es : List Expr} {kws : List Keyword} {te ta : TE} {t tk : TA} {nm : Option Str}
structure KBinds (K : PySem.W.Frag) (fd : FuncData) (ps ks : List Str) (g : List Value → List Value → List Value) (gV : List V → List V → List V) : Prop where
  to : ∀ (s : Shared) (us ws : List Value), K.In s.heap → (g us ws).length = ps.length → BindsTo s fd ⟨us, ks.zip ws⟩ (ps.zip (g us ws))
  rel : ∀ {vs : List V} {us : List Value} {zs : List V} {ws : List Value}, Vals vs us → Vals zs ws → Vals (gV vs zs) (g us ws)
variable {g : List Value → List Value → List Value} {gV : List V → List V → List V}
end
structure FnScope (N P : List Str) (sc : Scope) : Prop where
  kind : sc.kind = .function
  co : sc.isCoroutine = false
  gen : sc.isGenerator = false
  nd : N.Nodup
  pre : N.take P.length = P
  par : ∀ x ∈ P, sc.names.lookup x = some .local ∨ sc.names.lookup x = some .cell
  nofree : ∀ y ∈ sc.names, y.2 ≠ .free
theorem bindL_out {kindOf : Str → Option NameKind} {x : Str} : ∀ {binds : List (Str × Value)} {m : Str → Option Value}, (∀ v, (x, v) ∉ binds) → bindL kindOf binds m x = m x
  | [], _, _ => rfl
  | (n, v) :: r, m, h => by
    unfold bindL
    rw [bindL_out fun w hw => h w (List.mem_cons_of_mem _ hw)]
    split
    · have : x ≠ n := by rintro rfl; exact h v List.mem_cons_self
      simp [this]
    · rfl
theorem bindC_out {kindOf : Str → Option NameKind} {x : Str} : ∀ {binds : List (Str × Value)} {m : Str → Option Value}, (∀ v, (x, v) ∉ binds) → bindC kindOf binds m x = m x
  | [], _, _ => rfl
  | (n, v) :: r, m, h => by
    unfold bindC
    rw [bindC_out fun w hw => h w (List.mem_cons_of_mem _ hw)]
    split
    · rfl
    · have : x ≠ n := by rintro rfl; exact h v List.mem_cons_self
      simp [this]
theorem bindL_get {kindOf : Str → Option NameKind} {x : Str} {v : Value} : ∀ {P : List Str} {vs : List Value} {i : Nat} {m : Str → Option Value}, P.Nodup → P[i]? = some x → vs[i]? = some v → kindOf x = some .local →
    bindL kindOf (P.zip vs) m x = some v
  | [], _, _, _, _, h, _, _ => by simp at h
  | _ :: _, [], _, _, _, _, h, _ => by simp at h
  | p :: P, w :: vs, 0, m, nd, h1, h2, hk => by
    simp at h1 h2; subst h1; subst h2
    show bindL kindOf ((p, w) :: P.zip vs) m p = _
    unfold bindL
    rw [bindL_out fun v hv => (List.nodup_cons.mp nd).1 (List.of_mem_zip hv).1, if_pos hk]
    simp
  | p :: P, w :: vs, i + 1, m, nd, h1, h2, hk => by
    show bindL kindOf ((p, w) :: P.zip vs) m x = _
    unfold bindL
    exact bindL_get (i := i) (List.nodup_cons.mp nd).2 (by simpa using h1) (by simpa using h2) hk
theorem bindC_get {kindOf : Str → Option NameKind} {x : Str} {v : Value} : ∀ {P : List Str} {vs : List Value} {i : Nat} {m : Str → Option Value}, P.Nodup → P[i]? = some x → vs[i]? = some v → kindOf x ≠ some .local →
    bindC kindOf (P.zip vs) m x = some v
  | [], _, _, _, _, h, _, _ => by simp at h
  | _ :: _, [], _, _, _, _, h, _ => by simp at h
  | p :: P, w :: vs, 0, m, nd, h1, h2, hk => by
    simp at h1 h2; subst h1; subst h2
    show bindC kindOf ((p, w) :: P.zip vs) m p = _
    unfold bindC
    rw [bindC_out fun v hv => (List.nodup_cons.mp nd).1 (List.of_mem_zip hv).1, if_neg hk]
    simp
  | p :: P, w :: vs, i + 1, m, nd, h1, h2, hk => by
    show bindC kindOf ((p, w) :: P.zip vs) m x = _
    unfold bindC
    exact bindC_get (i := i) (List.nodup_cons.mp nd).2 (by simpa using h1) (by simpa using h2) hk
def start (N : List Str) (vs : List V) : St := vs.map some ++ List.replicate (N.length - vs.length) none
def cxOf (CX : CXT) (P : Program) (w : World) (K : PySem.W.Frag) (mg : Str → Option Value) (base : Heap) (N : List Str) (qual : Str) (scope : Scope) (f : Addr) (cd : Value) (A : Around) (outer : List Env) (s : Shared) (H : Hp) (E : XK) : Cx where
  prog := P
  w := w
  K := K
  mg := mg
  base := base
  A := A.deeper (envOfC qual scope s.heap.objs.size f cd)
  N := N
  s₀ := s
  H₀ := H
  env := envOfC qual scope s.heap.objs.size f cd
  outer := outer
  stack := envOfC qual scope s.heap.objs.size f cd :: outer
  ex := []
  calm := true
  fn := fun _ => true
  pn := []
  xe := fun e s' => wpAny (model P w) (A.deeper (envOfC qual scope s.heap.objs.size f cd)) (leaving (envOfC qual scope s.heap.objs.size f cd) e) (fun _ s'' => CX outer H s E e s'') (fun e' s'' => CX outer H s E e' s'') s'
theorem cell_has {sc : Scope} {n : Nat} {x : Str} (h : sc.names.lookup x = some .cell) : ∃ c, (cellsFrom n sc.names []).lookup x = some c := by
  have q := PySem.W.cellsFrom_some sc.names n [] (.inl h)
  exact Option.isSome_iff_exists.mp q
theorem inv_start {CX : CXT} {P : Program} {w : World} {K : PySem.W.Frag} {mg : Str → Option Value} {base : Heap} {N ps : List Str} {qual : Str} {scope : Scope} {f : Addr} {cd : Value} {A : Around} {outer : List Env} {s s1 : Shared} {H : Hp} {E : XK} {us : List Value} {vs : List V}
    (S : FnScope N ps scope) (hd : A.handled = none) (e0 : Env0 P w K mg base A outer s H) (hl : vs.length = ps.length) (r : Vals vs us)
    (x : InCallC s s.heap.objs.size (bindL (envOfC qual scope s.heap.objs.size f cd).kindOf (ps.zip us) fun _ => none) (cellsFrom (s.heap.objs.size + 1) scope.names []) (bindC (envOfC qual scope s.heap.objs.size f cd).kindOf (ps.zip us) fun _ => none) s1) :
    Inv (cxOf CX P w K mg base N qual scope f cd A outer s H E) [] (start N vs) H s1 := by
  have hpl : ps.length ≤ N.length := by have := congrArg List.length S.pre; rw [List.length_take] at this; omega
  obtain ⟨h1, tk, rfl, hk⟩ := x.done
  have noA : ∀ b : Addr, b ∉ (cxOf CX P w K mg base N qual scope f cd A outer s H E).ex := fun b z => absurd (show b ∈ ([] : List Addr) from z) (by simp)
  refine ⟨⟨e0.mod, S.kind, rfl, rfl, Nat.le_refl _, fun y z c h1 h2 => ?_, fun y hy => ?_, fun y c _ h => ?_, fun _ => hd, Around.frames_deeper e0.frames, .inr ⟨rfl, rfl⟩, fun b z => absurd z (noA b), e0.bs, e0.bsz, fun b _ _ => noA b, fun b z => absurd z (noA b), e0.funs, e0.frf⟩,
    rfl, e0.bare, Un.kept hk, ⟨_, x.toInCall.ns, fun i y v h1 h2 h3 => ?_⟩, fun y c h => ⟨_, x.cell y c h⟩, e0.hok.fresh (Nat.le_refl _), fun y c h => ?_, fun p hp => absurd (show p ∈ ([] : List (Addr × Obj)) from hp) (by simp), e0.hok.kept hk, ?_⟩
  · exact name_of_addr x.apart (PySem.mem_of_lookup h1) (PySem.mem_of_lookup h2)
  · have hy : scope.names.lookup y = some .cell ∨ scope.names.lookup y = some .free := hy
    rcases hy with hy | hy
    · exact cell_has hy
    · exact absurd rfl (S.nofree _ (PySem.mem_of_lookup hy))
  · exact Nat.le_of_lt (x.above y c (PySem.mem_of_lookup h))
  · have hi : i < vs.length := by
      unfold start at h2
      by_cases hi : i < vs.length
      · exact hi
      · rw [List.getElem?_append_right (by simpa using hi)] at h2
        rw [List.getElem?_replicate] at h2
        split at h2 <;> cases h2
    have ha : vs[i]? = some v := by
      unfold start at h2
      rw [List.getElem?_append_left (by simpa using hi), List.getElem?_map] at h2
      cases e : vs[i]? with
      | none => rw [e] at h2; cases h2
      | some a => rw [e] at h2; cases h2; rfl
    obtain ⟨u, hu, rv⟩ := r.get ha
    have hp : ps[i]? = some y := by
      rw [← S.pre, List.getElem?_take_of_lt (by omega)]; exact h1
    have ndP : ps.Nodup := by rw [← S.pre]; exact S.nd.sublist (List.take_sublist _ _)
    refine ⟨u, rv, ?_⟩
    rcases S.par y (List.mem_of_getElem? hp) with k | k
    · exact .inl ⟨k, bindL_get ndP hp hu k⟩
    · obtain ⟨c, e⟩ := cell_has (n := s.heap.objs.size + 1) k
      refine .inr ⟨.inl k, c, e, ?_⟩
      have q := x.cell y c e
      rw [bindC_get ndP hp hu (by show scope.names.lookup y ≠ _; rw [k]; decide)] at q
      exact q
  · exact e0.hok.fresh (Nat.le_of_lt (x.above y c (PySem.mem_of_lookup h)))
  · unfold start
    show _ = N.length
    rw [List.length_append, List.length_map, List.length_replicate]
    omega
theorem fn_of {CX : CXT} {P : Program} {w : World} {K : PySem.W.Frag} {mg : Str → Option Value} {base : Heap} {k : Nat} {f : Addr} {name qual : Str} {params : Arguments} {body : List Stmt} {scope : Scope} {dV kV doc pm cdv ct oc : Value} {an od : Option Addr}
    {osl : Array (Option Value)} {N ps : List Str} {sp : Sp} (lk : K.lookup f = some ⟨oc, od, .func (PySem.W.fnOf name qual params body scope dV kV doc pm an cdv ct), osl⟩) (hcd : PySem.W.codeIn K cdv qual = true) (S : FnScope N ps scope)
    (len : ∀ vs H Q E, sp vs H Q E → vs.length = ps.length)
    (hbody : ∀ (A : Around) (outer : List Env) (s : Shared) (H : Hp) (vs : List V) (Q : VK) (E : XK), Room k (A.deeper (envOfC qual scope s.heap.objs.size f cdv)) → sp vs H Q E →
      ∃ t, PSs (cxOf CX P w K mg base N qual scope f cdv A outer s H E) body t ∧ t { nx := fun _ H' => Q .non H', rt := Q } (start N vs) H) :
    FnOk P w K mg base CX (k + 1) f (PySem.W.fnOf name qual params body scope dV kV doc pm an cdv ct) ps sp := by
  refine ⟨len, fun A outer s H args us vs Q E hr e0 hb r hsp => ?_⟩
  have hl := len _ _ _ _ hsp
  have KX : K.In s.heap := e0.mod.kin.keeps fun b o e => (e0.bs b o e).1
  have lim : s.heap.NoLimit := e0.mod.nolimit.keeps fun b o e => (e0.bs b o e).1
  have hkind : ∀ y ∈ ps.zip us, scope.names.lookup y.1 = some .local ∨ (scope.names.lookup y.1 = some .cell ∧ ((cellsFrom (s.heap.objs.size + 1) scope.names []).lookup y.1).isSome = true) := fun ⟨n, v⟩ hy => by
    rcases S.par n (List.of_mem_zip hy).1 with q | q
    · exact .inl q
    · exact .inr ⟨q, PySem.W.cellsFrom_some _ _ _ (.inl q)⟩
  refine codeAny_call_function hr.depth (KX _ _ lk) rfl S.co S.gen rfl (PySem.W.codeRec_of KX hcd) (hb _ _ _ _ ?_)
  refine wpAny_newFunctionEnv_cells S.kind hkind fun env he s1 x => ?_
  subst he
  refine ⟨lim.keeps x.toInCall.keep, codeAny_func ?_⟩
  obtain ⟨t, ht, hq⟩ := hbody A outer s H vs Q E (hr.deeper _) hsp
  have I : Inv (cxOf CX P w K mg base N qual scope f cdv A outer s H E) [] (start N vs) H s1 := inv_start S hr.hd e0 hl r x
  refine wpAny_mono (ht [] s1 (start N vs) H _ I hq) (fun fl s' hs => ?_) fun e s' hs => hs
  have fin : ∀ {σ' : St} {H' : Hp} {v : V} {u : Value}, Inv (cxOf CX P w K mg base N qual scope f cdv A outer s H E) [] σ' H' s' → RelV v u → Q v H' → CE outer P w H s Q u s' :=
    fun {σ' H' v u} J rv q => ⟨v, H', J.os, J.bare, J.base, J.hok, rv, q⟩
  cases fl with
  | ret u =>
    obtain ⟨v, σ', H', J, rv, q⟩ := hs
    exact fin J rv q
  | next =>
    obtain ⟨σ', H', J, q⟩ := hs
    exact fin (v := V.non) (u := Value.none) J rfl q
  | brk =>
    obtain ⟨_, _, _, q⟩ := hs
    exact False.elim q
  | cont =>
    obtain ⟨_, _, _, q⟩ := hs
    exact False.elim q
end L2
namespace L2
open PySem PySem.Spec PyProof.Rows
section
variable {X : Cx} {x : Str} {p pos : Pos} {e : Expr} {es : List Expr} {t : TA} {id T : String} {r : List V → Hp → VK → Prop}
def tCB (r : List V → Hp → VK → Prop) (t : TA) : TE := fun σ H Q => t σ H fun vs H1 => r vs H1 Q
theorem pe_callB (hc : CallR X (.builtin id) r) (hg : Gl X x) (hm : X.mg x = none) (hv : bootBuiltins x = some (.builtin id)) (ha : PA X (e :: es) t) (hn : x ≠ "__name__" := by decide) (hdb : (x == ("__debug__" : Str)) = false := by decide)
    (he : starEach (e :: es) X.env = (false, eval e X.env) :: starEach es X.env := by rfl) (hpl : (backTo pos (starEach es X.env)).any (·.1) = false := by rfl) : PE X (.Call (.Name x p) (e :: es) [] pos) (tCB r t) := by
  intro pins s σ H Q I h
  refine wpAny_Call_Name_kw (ld_blt I hg hm hv ?_ hn hdb)
  exact PyProof.Rows.callWith_builtin1 (thn (ha pos pins s σ H _ I h) fun us s1 ⟨vs, H1, I1, r1, q1⟩ => hc pins s1 σ H1 vs us Q I1 r1 q1) he hpl
theorem pe_callTy (hc : CallR X (.type T) r) (hg : Gl X x) (hm : X.mg x = none) (hv : bootBuiltins x = some (.type T)) (ha : PA X (e :: es) t) (hn : x ≠ "__name__" := by decide) (hdb : (x == ("__debug__" : Str)) = false := by decide)
    (he : starEach (e :: es) X.env = (false, eval e X.env) :: starEach es X.env := by rfl) (hpl : (backTo pos (starEach es X.env)).any (·.1) = false := by rfl) : PE X (.Call (.Name x p) (e :: es) [] pos) (tCB r t) := by
  intro pins s σ H Q I h
  refine wpAny_Call_Name_kw (ld_blt I hg hm hv ?_ hn hdb)
  exact PyProof.Rows.callWith_type1 (thn (ha pos pins s σ H _ I h) fun us s1 ⟨vs, H1, I1, r1, q1⟩ => hc pins s1 σ H1 vs us Q I1 r1 q1) he hpl
end
end L2
namespace HT
open PySem PyProof.Rows
section
open PySem.SeqAt
open PySem.AutoSeq1 (wpAny_loadPart')
open PySem.MeetsSeq PySem.MeetsSeq2 PySem.MeetsSeq3
end
section
variable {prog : Program} {w : World} {A : Around} {E : Value → Shared → Prop} {s : Shared}
def sIx (n d : Nat) : Option Int → Nat
  | none => d
  | some v => if v < 0 then (v + (n : Int)).toNat else min v.toNat n
end
end HT
namespace L2
open PySem PySem.Spec PyProof.Rows
abbrev TO := St → Hp → (Option Int → Hp → Prop) → Prop
def PO (X : Cx) (e : Option Expr) (t : TO) : Prop :=
  ∀ (pins : List (Addr × Obj)) (s : Shared) (σ : St) (H : Hp) (Q : Option Int → Hp → Prop), Inv X pins σ H s → t σ H Q →
    wpAny (model X.prog X.w) X.A (evalPart e X.env) (fun u s' => ∃ o H', Inv X pins σ H' s' ∧ IsPart u o ∧ Q o H') X.xe s
def tPart (t : TE) : TO := fun σ H Q => t σ H fun x H1 => ∃ i, x = .int i ∧ Q (some i) H1
section
variable {X : Cx} {e : Expr} {te : TE} {lo hi : Option Expr} {tl th : TO} {pos p2 : Pos}
theorem po_some (h : PE X e te) : PO X (some e) (tPart te) := by
  intro pins s σ H Q I hw
  rw [evalPart_some]
  refine thn (h pins s σ H _ I hw) fun u s1 ⟨x, H1, I1, r1, q1⟩ => ?_
  obtain ⟨i, rfl, q⟩ := q1
  obtain ⟨t, rfl⟩ := r1
  exact ⟨some i, H1, I1, .int i t, q⟩
def SlR (X : Cx) (r : V → Option Int → Option Int → Hp → VK → Prop) : Prop :=
  ∀ (pins : List (Addr × Obj)) (s : Shared) (σ : St) (H : Hp) (x : V) (v vl vu : Value) (lo hi : Option Int) (sl : Addr) (Q : VK), Inv X pins σ H s → RelV x v → s.heap.IsSliceOf sl vl vu .none → IsPart vl lo → IsPart vu hi → r x lo hi H Q →
    ∃ T id, typeLookup (.type T) "__getitem__" = pure (some (.builtin id)) ∧ s.TypeIs v T ∧ wpAny (model X.prog X.w) X.A (getItem v (.ref sl)) (EP X pins σ Q) X.xe s
theorem SlR.or {r r' : V → Option Int → Option Int → Hp → VK → Prop} (h : SlR X r) (h' : SlR X r') : SlR X (fun x lo hi H Q => r x lo hi H Q ∨ r' x lo hi H Q) := by
  intro pins s σ H x v vl vu lo hi sl Q I rx hs pl pu q
  rcases q with q | q
  · exact h pins s σ H x v vl vu lo hi sl Q I rx hs pl pu q
  · exact h' pins s σ H x v vl vu lo hi sl Q I rx hs pl pu q
def tSl (r : V → Option Int → Option Int → Hp → VK → Prop) (te : TE) (tl th : TO) : TE := fun σ H Q => te σ H fun x H1 => tl σ H1 fun l H2 => th σ H2 fun u H3 => r x l u H3 Q
theorem pe_slice {r : V → Option Int → Option Int → Hp → VK → Prop} (hr : SlR X r) (he : PE X e te) (hl : PO X lo tl) (hu : PO X hi th) : PE X (.Subscript e (.Slice lo hi none p2) pos) (tSl r te tl th) := by
  intro pins s σ H Q I h
  refine Subscript_ (thn (he pins s σ H _ I h) fun v s1 ⟨x, H1, I1, r1, q1⟩ => ?_)
  refine wpAny_Slice (thn (hl pins s1 σ H1 _ I1 q1) fun vl s2 ⟨l, H2, I2, pl, q2⟩ => thn (hu pins s2 σ H2 _ I2 q2) fun vu s3 ⟨u, H3, I3, pu, q3⟩ => ?_)
  rw [evalPart_none]
  refine wpAny_pure ?_
  have I4 : Inv X pins σ H3 { s3 with heap := s3.heap.push { cls := .type "slice", data := .fields #[vl, vu, .none] } } := I3.kept (t' := s3.toks) fun b ob q => Heap.get?_push_of_some _ q
  obtain ⟨T, id, hT, ht, hg⟩ := hr pins { s3 with heap := s3.heap.push { cls := .type "slice", data := .fields #[vl, vu, .none] } } σ H3 x v vl vu l u s3.heap.objs.size Q I4 r1 (Heap.IsSliceOf.new ..) pl pu q3
  show wpAny (model X.prog X.w) X.A (subscriptTail e (.Slice lo hi none p2) v (.ref s3.heap.objs.size)) (EP X pins σ Q) X.xe { s3 with heap := s3.heap.push { cls := .type "slice", data := .fields #[vl, vu, .none] } }
  exact tail_any (ops := [.ref s3.heap.objs.size, v]) ht hT hg (by with_unfolding_all rfl)
def cutV (xs : List V) (lo hi : Option Int) : List V := (xs.drop (HT.sIx xs.length 0 lo)).take (HT.sIx xs.length xs.length hi - HT.sIx xs.length 0 lo)
theorem cutV_length (xs : List V) (lo hi : Option Int) : (cutV xs lo hi).length ≤ xs.length := by
  unfold cutV
  rw [List.length_take, List.length_drop]
  omega
end
end L2
namespace L2
open PySem PySem.Spec PyProof.Rows
def ixN (n : Nat) (i : Int) : Option Nat := if 0 ≤ i then (if i < n then some i.toNat else none) else if -(n : Int) ≤ i then some (i + n).toNat else none
def atI {α : Type} (xs : List α) (i : Int) : Option α := (ixN xs.length i).bind fun j => xs[j]?
theorem ixN_seq {n : Nat} {i : Int} {j : Nat} (h : ixN n i = some j) : seqIndex? i n = some j ∧ j < n ∧ -(n : Int) ≤ i ∧ i < n := by
  unfold ixN at h
  by_cases h0 : 0 ≤ i
  · rw [if_pos h0] at h
    by_cases h1 : i < n
    · rw [if_pos h1] at h
      have e : i.toNat = j := Option.some.inj h
      exact ⟨by rw [seqIndex_of h0 h1, e], by omega, by omega, h1⟩
    · rw [if_neg h1] at h; cases h
  · rw [if_neg h0] at h
    by_cases h1 : -(n : Int) ≤ i
    · rw [if_pos h1] at h
      have e : (i + n).toNat = j := Option.some.inj h
      exact ⟨by rw [seqIndex_neg (by omega) h1, e], by omega, h1, by omega⟩
    · rw [if_neg h1] at h; cases h
theorem atI_get {α : Type} {xs : List α} {i : Int} {v : α} (h : atI xs i = some v) : ∃ j, seqIndex? i xs.length = some j ∧ xs[j]? = some v ∧ j < xs.length ∧ -(xs.length : Int) ≤ i ∧ i < xs.length := by
  unfold atI at h
  cases e : ixN xs.length i with
  | none => rw [e] at h; cases h
  | some j =>
    rw [e] at h
    obtain ⟨h1, h2, h3, h4⟩ := ixN_seq e
    exact ⟨j, h1, h, h2, h3, h4⟩
theorem atI_nat {α : Type} {xs : List α} {j : Nat} {v : α} (h : xs[j]? = some v) : atI xs (j : Int) = some v := by
  have hj : j < xs.length := (List.getElem?_eq_some_iff.mp h).1
  have e : ixN xs.length (j : Int) = some j := by
    unfold ixN
    rw [if_pos (by omega), if_pos (by omega)]; simp
  unfold atI; rw [e]; exact h
theorem atI_last {α : Type} (xs : List α) (v : α) : atI (xs ++ [v]) (-1) = some v := by
  have hl : (xs ++ [v]).length = xs.length + 1 := by simp
  have e : ixN (xs ++ [v]).length (-1) = some xs.length := by
    unfold ixN
    rw [hl, if_neg (by decide), if_pos (by omega)]
    congr 1
    omega
  unfold atI
  rw [e]
  show (xs ++ [v])[xs.length]? = some v
  simp
def PlainIx (b : Expr) : Prop := ∀ o i, subscripted b false o i = operate [o, i] (getItem o i)
def IxR (X : Cx) (r : R2) : Prop :=
  ∀ (value slice : Expr) (pins : List (Addr × Obj)) (s : Shared) (σ : St) (H : Hp) (x y : V) (v u : Value) (Q : VK), Inv X pins σ H s → RelV x v → RelV y u → r x y H Q →
    subscripted slice false v u = operate [v, u] (getItem v u) → wpAny (model X.prog X.w) X.A (subscriptTail value slice v u) (EP X pins σ Q) X.xe s
def MtR (X : Cx) (id : String) (r : V → List V → Hp → VK → Prop) : Prop :=
  ∀ (pins : List (Addr × Obj)) (s : Shared) (σ : St) (H : Hp) (x : V) (xs : List V) (v : Value) (us : List Value) (Q : VK), Inv X pins σ H s → RelV x v → Vals xs us → r x xs H Q →
    wpAny (model X.prog X.w) X.A (call (.builtin id) (v :: us)) (EP X pins σ Q) X.xe s
section
variable {X : Cx} {a b : Expr} {ta tb : TE} {pos : Pos}
theorem IxR.or {r r' : R2} (h : IxR X r) (h' : IxR X r') : IxR X (fun x y H Q => r x y H Q ∨ r' x y H Q) := by
  intro value slice pins s σ H x y v u Q I rx ry q hs
  rcases q with q | q
  · exact h value slice pins s σ H x y v u Q I rx ry q hs
  · exact h' value slice pins s σ H x y v u Q I rx ry q hs
theorem MtR.or {id : String} {r r' : V → List V → Hp → VK → Prop} (h : MtR X id r) (h' : MtR X id r') : MtR X id (fun x xs H Q => r x xs H Q ∨ r' x xs H Q) := by
  intro pins s σ H x xs v us Q I rx rs q
  rcases q with q | q
  · exact h pins s σ H x xs v us Q I rx rs q
  · exact h' pins s σ H x xs v us Q I rx rs q
theorem pe_ix {r : R2} (hr : IxR X r) (ha : PE X a ta) (hb : PE X b tb) (hs : PlainIx b) : PE X (.Subscript a b pos) (tOp r ta tb) := by
  intro pins s σ H Q I h
  exact Subscript_ (binT ha hb I h fun v u s2 x y H2 I2 rx ry q => hr a b pins s2 σ H2 x y v u Q I2 rx ry q (hs _ _))
def rIxL (K : PySem.W.Frag) : R2 := fun x y H Q => ∃ p xs i v, x = .ref p ∧ y = .int i ∧ SqL K H p xs ∧ atI xs i = some v ∧ Q v H
def rIxT (K : PySem.W.Frag) : R2 := fun x y H Q => ∃ p xs i v, x = .ref p ∧ y = .int i ∧ SqT K H p xs ∧ atI xs i = some v ∧ Q v H
theorem ix_list : IxR X (rIxL X.K) := by
  intro value slice pins s σ H x y v u Q I rx ry h hs
  obtain ⟨p, xs, i, z, rfl, rfl, hq, he, q⟩ := h
  cases rx
  obtain ⟨t, rfl⟩ := ry
  obtain ⟨its, r, pl, hz⟩ := I.list hq
  obtain ⟨j, h1, h2, h3, h4, h5⟩ := atI_get he
  obtain ⟨w, ew, rw'⟩ := r.get h2
  have hl := r.length
  have hn := line63
  have fin : EP X pins σ Q w s := ⟨z, H, I, rw', q⟩
  by_cases h0 : 0 ≤ i
  · have hj : i.toNat = j := by
      rw [seqIndex_of h0 h5] at h1
      exact Option.some.inj h1
    exact item_listR pl.isList h0 (by omega) (by rw [hj]; simpa using ew) fin hs
  · have hj : (i + (its.toArray.size : Int)).toNat = j := by
      rw [seqIndex_neg (by omega) h4] at h1
      rw [List.size_toArray, ← hl]
      exact Option.some.inj h1
    exact subscriptTail_builtinR (x := w) pl.isList.typeIs slot_list_getitem.lookup
      (wpAny_getItem_list_neg (Q := fun r s' => r = w ∧ EP X pins σ Q r s') pl.isList (by omega) (by rw [List.size_toArray] <;> omega) (by omega) (by rw [hj]; simpa using ew) ⟨rfl, fin⟩) hs
theorem ix_tup : IxR X (rIxT X.K) := by
  intro value slice pins s σ H x y v u Q I rx ry h hs
  obtain ⟨p, xs, i, z, rfl, rfl, hq, he, q⟩ := h
  cases rx
  obtain ⟨t, rfl⟩ := ry
  obtain ⟨its, r, pl, hz⟩ := I.tuple hq
  obtain ⟨j, h1, h2, h3, h4, h5⟩ := atI_get he
  obtain ⟨w, ew, rw'⟩ := r.get h2
  have hl := r.length
  have hn := line63
  have fin : EP X pins σ Q w s := ⟨z, H, I, rw', q⟩
  exact subscriptTail_builtinR (x := w) pl.typeIs slot_tuple_getitem.lookup
    (getItem_tuple (j := j) (Q := fun r s' => r = w ∧ EP X pins σ Q r s') pl (by omega) (by omega) (by rw [List.size_toArray, ← hl]; exact h1) (by simpa using ew) ⟨rfl, fin⟩) hs
theorem Inv.lst {pins : List (Addr × Obj)} {σ : St} {H : Hp} {s : Shared} {p : Addr} {xs : List V} (I : Inv X pins σ H s) (h : H p = some (.lst xs)) :
    ∃ (its : List Value) (n : Nat), Vals xs its ∧ s.heap.get? p = some { cls := .type "list", data := .seq its.toArray n } ∧ xs.length ≤ sizeLine := by
  obtain ⟨z, its, n, r, e⟩ := I.hok p _ h
  exact ⟨its, n, r, e, z⟩
theorem slice_bounds (lo hi : Option Int) (n : Nat) : (sliceBounds lo hi none n).1 = ((HT.sIx n 0 lo : Nat) : Int) ∧ (sliceBounds lo hi none n).2.1 = ((HT.sIx n n hi : Nat) : Int) ∧ (sliceBounds lo hi none n).2.2 = 1 := by
  refine ⟨?_, ?_, rfl⟩
  · cases lo with
    | none => simp [sliceBounds, HT.sIx]
    | some i =>
      simp only [sliceBounds, HT.sIx, Option.getD_none, show (1 : Int) > 0 by decide, if_true]
      by_cases h : i < 0
      · simp only [h, if_true] <;> omega
      · simp only [h, if_false] <;> omega
  · cases hi with
    | none => simp [sliceBounds, HT.sIx]
    | some i =>
      simp only [sliceBounds, HT.sIx, Option.getD_none, show (1 : Int) > 0 by decide, if_true]
      by_cases h : i < 0
      · simp only [h, if_true] <;> omega
      · simp only [h, if_false] <;> omega
theorem slicePick_cut (its : List Value) (lo hi : Option Int) : slicePick its.toArray lo hi none = ((its.drop (HT.sIx its.length 0 lo)).take (HT.sIx its.length its.length hi - HT.sIx its.length 0 lo)).toArray := by
  obtain ⟨h1, h2, h3⟩ := slice_bounds lo hi its.toArray.size
  unfold slicePick
  rw [h1, h2, h3]
  simp only [sliceRange_one, pick_run, List.size_toArray] <;> rfl
def rSlL (K : PySem.W.Frag) : V → Option Int → Option Int → Hp → VK → Prop := fun x lo hi H Q => ∃ a xs, x = .ref a ∧ SqL K H a xs ∧ ∀ p, H p = none → Q (.ref p) (upd H p (.lst (cutV xs lo hi)))
theorem sl_list : SlR X (rSlL X.K) := by
  intro pins s σ H x v vl vu lo hi sl Q I rx hs pl pu h
  obtain ⟨a, xs, rfl, hx, q⟩ := h
  cases rx
  obtain ⟨its, r, ht, hz⟩ := I.list hx
  have hlen := r.length
  refine ⟨"list", _, slot_list_getitem.lookup, ht.isList.typeIs, ?_⟩
  refine wpAny_getItem_list_slice ht.isList hs pl pu .none (by simp) ?_ (by rw [List.size_toArray] <;> omega)
  rw [slicePick_cut, ← hlen]
  refine ⟨.ref s.heap.objs.size, _, I.laid (t' := s.toks) (o := .lst (cutV xs lo hi)) (fun b ob q => Heap.get?_push_of_some _ q) (Nat.le_refl _) ?_, rfl, q _ (I.hok.fresh (Nat.le_refl _))⟩
  exact ⟨Nat.le_trans (cutV_length xs lo hi) hz, _, 0, (r.drop (HT.sIx xs.length 0 lo)).take (HT.sIx xs.length xs.length hi - HT.sIx xs.length 0 lo), Heap.get?_push_size _ rfl⟩
def flatV : V → Bool
  | .non => true
  | .bl _ => true
  | .int _ => true
  | .str _ => true
  | _ => false
def eqV : V → V → Bool
  | .non, .non => true
  | .bl a, .bl b => a == b
  | .bl a, .int b => (if a then 1 else 0) == b
  | .int a, .bl b => a == (if b then 1 else 0)
  | .int a, .int b => a == b
  | .str a, .str b => a == b
  | _, _ => false
theorem eqAt_V {A : Around} {s : Shared} {y x : V} {u v : Value} (ry : RelV y u) (rx : RelV x v) (fy : flatV y = true) (fx : flatV x = true) : SeqAt.EqAt A s u v (eqV y x) := by
  cases y with
  | non =>
    cases ry
    cases x with
    | non => cases rx; exact SeqAt.EqAt.same _
    | bl b => cases rx; exact SeqAt.EqAt.none_bool b
    | int b => obtain ⟨t, rfl⟩ := rx; exact SeqAt.EqAt.none_int b t
    | str b => obtain ⟨t, rfl⟩ := rx; exact SeqAt.EqAt.none_str b t
    | _ => exact absurd (show false = true from fx) Bool.false_ne_true
  | bl a =>
    cases ry
    cases x with
    | non => cases rx; exact SeqAt.EqAt.bool_none a
    | bl b => cases rx; exact SeqAt.EqAt.bool_bool a b
    | int b => obtain ⟨t, rfl⟩ := rx; exact SeqAt.EqAt.bool_int a b t
    | str b => obtain ⟨t, rfl⟩ := rx; exact SeqAt.EqAt.bool_str a b t
    | _ => exact absurd (show false = true from fx) Bool.false_ne_true
  | int a =>
    obtain ⟨t', rfl⟩ := ry
    cases x with
    | non => cases rx; exact SeqAt.EqAt.int_none a t'
    | bl b => cases rx; exact SeqAt.EqAt.int_bool a t' b
    | int b => obtain ⟨t, rfl⟩ := rx; exact SeqAt.EqAt.int_int a t' b t
    | str b => obtain ⟨t, rfl⟩ := rx; exact SeqAt.EqAt.int_str a t' b t
    | _ => exact absurd (show false = true from fx) Bool.false_ne_true
  | str a =>
    obtain ⟨t', rfl⟩ := ry
    cases x with
    | non => cases rx; exact SeqAt.EqAt.str_none a t'
    | bl b => cases rx; exact SeqAt.EqAt.str_bool a t' b
    | int b => obtain ⟨t, rfl⟩ := rx; exact SeqAt.EqAt.str_int a t' b t
    | str b => obtain ⟨t, rfl⟩ := rx; exact SeqAt.EqAt.str_str a t' b t
    | _ => exact absurd (show false = true from fx) Bool.false_ne_true
  | _ => exact absurd (show false = true from fy) Bool.false_ne_true
def eqU (x : V) (u : Value) : Bool := match u with
  | .none => eqV .non x
  | .bool b => eqV (.bl b) x
  | .int i _ => eqV (.int i) x
  | .str z _ => eqV (.str z) x
  | _ => false
theorem eqU_of {x y : V} {u : Value} (r : RelV y u) (f : flatV y = true) : eqU x u = eqV y x := by
  cases y with
  | non => cases r; rfl
  | bl b => cases r; rfl
  | int i => obtain ⟨t, rfl⟩ := r; rfl
  | str z => obtain ⟨t, rfl⟩ := r; rfl
  | _ => exact absurd (show false = true from f) Bool.false_ne_true
theorem any_eqU {x : V} : ∀ {xs : List V} {us : List Value}, Vals xs us → xs.all flatV = true → us.any (eqU x) = xs.any fun y => eqV y x
  | _, _, .nil, _ => rfl
  | y :: xs, u :: us, .cons r t, f => by
    rw [List.all_cons, Bool.and_eq_true] at f
    rw [List.any_cons, List.any_cons, eqU_of r f.1, any_eqU t f.2]
theorem mem_eqAt {A : Around} {s : Shared} {x : V} {v : Value} (rx : RelV x v) (fx : flatV x = true) : ∀ {xs : List V} {us : List Value}, Vals xs us → xs.all flatV = true → ∀ u ∈ us, SeqAt.EqAt A s u v (eqU x u)
  | _, _, .nil, _ => fun u hu => by cases hu
  | y :: xs, u :: us, .cons r t, f => fun u' hu => by
    rw [List.all_cons, Bool.and_eq_true] at f
    rcases List.mem_cons.mp hu with rfl | hu
    · rw [eqU_of r f.1]; exact eqAt_V r rx f.1 fx
    · exact mem_eqAt rx fx t f.2 u' hu
def inV (x : V) (xs : List V) : Bool := xs.any fun y => eqV y x
def rIn (K : PySem.W.Frag) (neg : Bool) : R2 := fun x y H Q => ∃ p xs, y = .ref p ∧ (SqL K H p xs ∨ SqT K H p xs) ∧ flatV x = true ∧ xs.all flatV = true ∧ Q (.bl (if neg then !inV x xs else inV x xs)) H
theorem op_in_seq : OpR X (compareOp .In) (rIn X.K false) := by
  intro pins s σ H x y v u Q I rx ry h
  obtain ⟨p, xs, rfl, hq, fx, fs, q⟩ := h
  cases ry
  rcases hq with hq | hq
  · obtain ⟨its, r, pl, hz⟩ := I.list hq
    refine SeqAt.in_listAt (eqU x) pl.isList (fun w hw => mem_eqAt rx fx r fs w (by simpa using hw)) ⟨.bl _, H, I, rfl, ?_⟩
    rw [show its.toArray.any (eqU x) = its.any (eqU x) by simp, any_eqU r fs]
    exact q
  · obtain ⟨its, r, pl, hz⟩ := I.tuple hq
    refine SeqAt.in_tupleAt (eqU x) pl (fun w hw => mem_eqAt rx fx r fs w (by simpa using hw)) ⟨.bl _, H, I, rfl, ?_⟩
    rw [show its.toArray.any (eqU x) = its.any (eqU x) by simp, any_eqU r fs]
    exact q
theorem call_len_seq : CallR X (.builtin "len") (fun xs H Q => ∃ p ys, xs = [.ref p] ∧ (SqL X.K H p ys ∨ SqT X.K H p ys) ∧ Q (.int ys.length) H) := by
  intro pins s σ H xs us Q I r h
  obtain ⟨p, ys, rfl, hq, q⟩ := h
  obtain ⟨u, rfl, rx⟩ := vals1 r
  cases rx
  have hn := line63
  rcases hq with hq | hq
  · obtain ⟨its, r', pl, hz⟩ := I.list hq
    have hlen := r'.length
    exact Calls.call_len_list pl.isList (by simp only [List.size_toArray] <;> omega) ⟨.int ys.length, H, I.tok _, ⟨s.toks + 1, by rw [List.size_toArray, hlen]⟩, q⟩
  · obtain ⟨its, r', pl, hz⟩ := I.tuple hq
    have hlen := r'.length
    exact len_tuple pl (by simp only [List.size_toArray] <;> omega) ⟨.int ys.length, H, I.tok _, ⟨s.toks + 1, by rw [List.size_toArray, hlen]⟩, q⟩
theorem CallR.or {f : Value} {r r' : List V → Hp → VK → Prop} (h : CallR X f r) (h' : CallR X f r') : CallR X f (fun xs H Q => r xs H Q ∨ r' xs H Q) := by
  intro pins s σ H xs us Q I rs q
  rcases q with q | q
  · exact h pins s σ H xs us Q I rs q
  · exact h' pins s σ H xs us Q I rs q
theorem call_list_of : CallR X (.type "list") (fun xs H Q => ∃ p ys, xs = [.ref p] ∧ (SqL X.K H p ys ∨ SqT X.K H p ys) ∧ ∀ l, H l = none → Q (.ref l) (upd H l (.lst ys))) := by
  intro pins s σ H xs us Q I r h
  obtain ⟨p, ys, rfl, hq, q⟩ := h
  obtain ⟨u, rfl, rx⟩ := vals1 r
  cases rx
  have fin : ∀ (its : List Value), Vals ys its → ys.length ≤ sizeLine → ∀ (h' : Heap) (c' : Nat), (∀ b o', s.heap.get? b = some o' → h'.get? b = some o') →
      h'.get? s.heap.objs.size = some { cls := .type "list", dict := none, data := .seq its.toArray c', slots := #[] } → EP X pins σ Q (.ref s.heap.objs.size) { s with heap := h' } := fun its r' hz h' c' kp e =>
    ⟨.ref s.heap.objs.size, _, I.laid (t' := s.toks) kp (Nat.le_refl _) (show ObjOk X.prog X.w _ h' _ (.lst ys) from ⟨hz, its, c', r', e⟩), rfl, q _ (I.hok.fresh (Nat.le_refl _))⟩
  rcases hq with hq | hq
  · obtain ⟨its, r', pl, hz⟩ := I.list hq
    have hlen := r'.length
    obtain ⟨o, ho, hc, n, hd⟩ := pl.isList
    exact call_list_seq p (.inl rfl) ho hc hd (fun h' c' kp e => fin its r' hz h' c' kp e) (by simp only [List.size_toArray] <;> omega)
  · obtain ⟨its, r', pl, hz⟩ := I.tuple hq
    have hlen := r'.length
    obtain ⟨o, ho, hc, n, hd⟩ := pl
    exact call_list_seq p (.inr rfl) ho hc hd (fun h' c' kp e => fin its r' hz h' c' kp e) (by simp only [List.size_toArray] <;> omega)
def tyV (K : PySem.W.Frag) (T : String) (x : V) (H : Hp) : Prop := match x with
  | .str _ => T = "str"
  | .int _ => T = "int"
  | .ref p => (T = "list" ∧ ∃ xs, SqL K H p xs) ∨ (T = "tuple" ∧ ∃ o, K.lookup p = some o ∧ o.cls = .type "tuple" ∧ o.dict = none) ∨
      (T = "dict" ∧ ((∃ kvs, H p = some (.dK kvs)) ∨ ∃ kvs, H p = some (.dT kvs))) ∨ (T = "set" ∧ ∃ S n, H p = some (.set S n))
  | _ => False
theorem tyV_is {pins : List (Addr × Obj)} {σ : St} {H : Hp} {s : Shared} {T : String} {x : V} {v : Value} (I : Inv X pins σ H s) (r : RelV x v) (ty : tyV X.K T x H) :
    s.TypeIs v T ∧ ∀ a, v = .ref a → ∃ ob, s.heap.get? a = some ob ∧ ob.dict = none := by
  cases x with
  | str z =>
    obtain ⟨t, rfl⟩ := r
    cases (show T = "str" from ty)
    exact ⟨typeIs_str s z t, fun _ e => nomatch e⟩
  | int i =>
    obtain ⟨t, rfl⟩ := r
    cases (show T = "int" from ty)
    exact ⟨typeIs_int s i t, fun _ e => nomatch e⟩
  | ref p =>
    cases r
    rcases ty with ⟨rfl, xs, hq⟩ | ⟨rfl, o, hk, hc, hd⟩ | ⟨rfl, hk⟩ | ⟨rfl, S, n, hk⟩
    · obtain ⟨its, _, pl, _⟩ := I.list hq
      refine ⟨pl.isList.typeIs, fun a e => ?_⟩
      cases e
      obtain ⟨o, n, e, c, hd, _⟩ := pl
      exact ⟨o, e, hd⟩
    · refine ⟨⟨o, I.kIn p o hk, hc⟩, fun a e => ?_⟩
      cases e
      exact ⟨o, I.kIn _ o hk, hd⟩
    · have z : ∃ o, s.heap.get? p = some o ∧ o.ExactDict := by
        rcases hk with ⟨kvs, hk⟩ | ⟨kvs, hk⟩
        · obtain ⟨_, _, _, _, o, _, _, e, ex, _⟩ := I.hok p _ hk
          exact ⟨o, e, ex⟩
        · obtain ⟨_, _, _, _, o, _, _, e, ex, _⟩ := I.hok p _ hk
          exact ⟨o, e, ex⟩
      obtain ⟨o, e, ex⟩ := z
      refine ⟨⟨o, e, ex.1⟩, fun a e2 => ?_⟩
      cases e2
      exact ⟨o, e, ex.2.1⟩
    · obtain ⟨o, _, _, _, e, ex, _⟩ := I.hok p _ hk
      refine ⟨⟨o, e, ex.1⟩, fun a e2 => ?_⟩
      cases e2
      exact ⟨o, e, ex.2.1⟩
  | _ => exact False.elim ty
def tBM0 (K : PySem.W.Frag) (T : String) (r : V → List V → Hp → VK → Prop) (to : TE) : TE := fun σ H Q => to σ H fun x H1 => tyV K T x H1 ∧ r x [] H1 Q
def tBM (K : PySem.W.Frag) (T : String) (r : V → List V → Hp → VK → Prop) (to : TE) (t : TA) : TE := fun σ H Q => to σ H fun x H1 => tyV K T x H1 ∧ t σ H1 fun xs H2 => r x xs H2 Q
variable {o e : Expr} {es : List Expr} {to : TE} {t : TA} {name : Str} {apos cpos : Pos} {T id : String} {r : V → List V → Hp → VK → Prop}
theorem pe_bm0 (pa : PlainAttrs T) (slot : Slot T name id) (hty : typeOf (.builtin id) = pure (.type "method_descriptor")) (hm : MtR X id r) (ho : PE X o to)
    (hbase : attributeBase o name X.env (eval o X.env) = eval o X.env := by rfl) (hline : (apos.endLine == cpos.line) = true := by rfl) : PE X (.Call (.Attribute o name apos) [] [] cpos) (tBM0 X.K T r to) := by
  intro pins s σ H Q I h
  refine wpAny_Call_method0_late hbase hline (thn (ho pins s σ H _ I h) fun v s1 ⟨x, H1, I1, r1, ty, q1⟩ => ?_)
  obtain ⟨h1, h2⟩ := tyV_is I1 r1 ty
  exact ⟨T, id, pa, slot, hty, h1, h2, Calls.callWith_builtin rfl (PySem.evalArgs_none (hm pins s1 σ H1 x [] v [] Q I1 r1 .nil q1))⟩
theorem pe_bm (pa : PlainAttrs T) (slot : Slot T name id) (hty : typeOf (.builtin id) = pure (.type "method_descriptor")) (hm : MtR X id r) (ho : PE X o to) (ha : PA X (e :: es) t)
    (hbase : attributeBase o name X.env (eval o X.env) = eval o X.env := by rfl)
    (hfew : ((backTo cpos (starEach (e :: es) X.env)).all (fun x => !x.1) && (backToKw cpos (keywordEach [] X.env)).all (fun x => x.1.isSome)
      && decide ((e :: es).length + ([] : List Keyword).length + (if ([] : List Keyword).isEmpty then 0 else 1) < 30)) = true := by rfl)
    (hline : (apos.endLine == cpos.line) = true := by rfl) (hs : starEach (e :: es) X.env = (false, eval e X.env) :: starEach es X.env := by rfl) (hplain : (backTo cpos (starEach es X.env)).any (·.1) = false := by rfl) :
    PE X (.Call (.Attribute o name apos) (e :: es) [] cpos) (tBM X.K T r to t) := by
  intro pins s σ H Q I h
  refine wpAny_Call_method_late hbase hfew hline rfl (thn (ho pins s σ H _ I h) fun v s1 ⟨x, H1, I1, r1, ty, q1⟩ => ?_)
  obtain ⟨h1, h2⟩ := tyV_is I1 r1 ty
  refine ⟨T, id, pa, slot, hty, h1, h2, ?_⟩
  have hA := ha cpos pins s1 σ H1 _ I1 q1
  rw [hs] at hA ⊢
  refine Calls.callWith_builtin (by show (false || (backTo cpos (starEach es X.env)).any (·.1)) = false; rw [hplain] <;> rfl) (Calls.evalArgs_plain ?_)
  exact thn hA fun us s2 ⟨vs, H2, I2, r2, q2⟩ => hm pins s2 σ H2 x vs v us Q I2 r1 r2 q2
end
end L2
namespace L2
open PySem PySem.Spec PyProof.Rows
def MtM (X : Cx) (id : String) (r : V → List V → Hp → VK → Prop) : Prop :=
  ∀ (pins : List (Addr × Obj)) (s : Shared) (σ : St) (H : Hp) (x : V) (xs : List V) (v : Value) (us : List Value) (Q : VK), Inv X pins σ H s → RelV x v → Vals xs us → r x xs H Q →
    wpAny (model X.prog X.w) X.A (call (.builtin id) (v :: us)) (EP X pins σ Q) X.xe s
theorem Vals.one : ∀ {x : V} {us : List Value}, Vals [x] us → ∃ u, us = [u] ∧ RelV x u
  | _, _, .cons r .nil => ⟨_, rfl, r⟩
theorem Vals.two : ∀ {x y : V} {us : List Value}, Vals [x, y] us → ∃ u v, us = [u, v] ∧ RelV x u ∧ RelV y v
  | _, _, _, .cons r (.cons q .nil) => ⟨_, _, rfl, r, q⟩
theorem Vals.zero : ∀ {us : List Value}, Vals [] us → us = []
  | _, .nil => rfl
theorem Vals.dropLast {xs : List V} {us : List Value} (h : Vals xs us) : Vals xs.dropLast us.dropLast := by
  induction h with
  | nil => exact .nil
  | cons r t ih =>
    cases t with
    | nil => exact .nil
    | cons q t' => exact .cons r ih
theorem Vals.eraseIdx : ∀ {xs : List V} {us : List Value} (i : Nat), Vals xs us → Vals (xs.eraseIdx i) (us.eraseIdx i)
  | _, _, _, .nil => .nil
  | _, _, 0, .cons _ t => t
  | _, _, i + 1, .cons r t => .cons r (Vals.eraseIdx i t)
theorem Vals.reverse {xs : List V} {us : List Value} (h : Vals xs us) : Vals xs.reverse us.reverse := by
  induction h with
  | nil => exact .nil
  | cons r t ih => rw [List.reverse_cons, List.reverse_cons]; exact Vals.append ih (.cons r .nil)
theorem erase_last {α : Type} (l : List α) : l.eraseIdx (l.length - 1) = l.dropLast := by
  induction l with
  | nil => rfl
  | cons a r ih =>
    cases r with
    | nil => rfl
    | cons b r =>
      have e : (a :: b :: r).length - 1 = ((b :: r).length - 1) + 1 := by
        have h1 : (a :: b :: r).length = r.length + 2 := rfl
        have h2 : (b :: r).length = r.length + 1 := rfl
        omega
      rw [e, List.eraseIdx_cons_succ, ih]
      all_goals rfl
section
variable {X : Cx} {pins : List (Addr × Obj)} {σ : St} {H : Hp} {s : Shared} {l b : Addr} {xs ys zs : List V}
theorem Inv.lset {its its' : List Value} {n : Nat} {f : Array Value → Array Value} {t' : Nat} (I : Inv X pins σ H s) (hH : H l = some (.lst xs))
    (e : s.heap.get? l = some { cls := .type "list", data := .seq its.toArray n }) (hf : f its.toArray = its'.toArray) (hv : Vals ys its') (hz : ys.length ≤ sizeLine) :
    Inv X pins σ (upd H l (.lst ys)) { s with heap := s.heap.update l (Obj.mapSeq f), toks := t' } := by
  have q := PySem.IsL.update e f
  rw [hf] at q
  refine I.write (x := l) (e := l) (by rw [hH]; exact trivial) (.inl rfl) (fun b' u hb hu => (Heap.get?_update_other s.heap (Obj.mapSeq f) (Ne.symm hb)).trans hu) ⟨_, q⟩ ?_
  exact ⟨hz, its', _, hv, q⟩
theorem Inv.lnew {its : List Value} {t' : Nat} (I : Inv X pins σ H s) (hv : Vals ys its) (hz : ys.length ≤ sizeLine) :
    Inv X pins σ (upd H s.heap.objs.size (.lst ys)) { s with heap := s.heap.push { cls := .type "list", data := .seq its.toArray }, toks := t' } :=
  I.laid (fun _ _ q => Heap.get?_push_of_some _ q) (Nat.le_refl _) ⟨hz, its, 0, hv, Heap.get?_push_size _ rfl⟩
theorem Inv.fresh (I : Inv X pins σ H s) : H s.heap.objs.size = none := I.hok.fresh (Nat.le_refl _)
theorem Inv.lstM (I : Inv X pins σ H s) (hH : H l = some (.lst xs)) : xs.length ≤ sizeLine ∧ ∃ (its : List Value) (n : Nat), Vals xs its ∧ xs.length = its.length ∧ s.heap.get? l = some { cls := .type "list", data := .seq its.toArray n } := by
  obtain ⟨z, its, n, r, e⟩ := I.hok l _ hH
  exact ⟨z, its, n, r, r.length, e⟩
end
section
variable {X : Cx}
def rAppend : V → List V → Hp → VK → Prop := fun x vs H Q => ∃ l xs y, x = .ref l ∧ vs = [y] ∧ H l = some (.lst xs) ∧ xs.length < sizeLine ∧ Q .non (upd H l (.lst (xs ++ [y])))
theorem mt_append : MtM X "list.append" rAppend := by
  intro pins s σ H x vs v us Q I rx rv h
  obtain ⟨l, xs, y, rfl, rfl, hH, hz, q⟩ := h
  cases rx
  obtain ⟨u, rfl, ru⟩ := rv.one
  obtain ⟨z, its, n, r, hl, e⟩ := I.lstM hH
  refine call_meets F.slot_list_append ⟨_, e, rfl⟩ F.entry_list_append (F.args_list_append_2 _ _) (PySem.list_append l its.toArray n u (by rw [List.size_toArray]; omega)) ⟨e, ?_⟩
  refine ⟨.non, _, I.lset (its' := its ++ [u]) hH e (by simp) (r.append (.cons ru .nil)) ?_, rfl, q⟩
  rw [List.length_append, List.length_singleton]
  omega
def rPop : V → List V → Hp → VK → Prop := fun x vs H Q => ∃ l xs y, x = .ref l ∧ vs = [] ∧ H l = some (.lst xs) ∧ xs[xs.length - 1]? = some y ∧ Q y (upd H l (.lst xs.dropLast))
theorem mt_pop : MtM X "list.pop" rPop := by
  intro pins s σ H x vs v us Q I rx rv h
  obtain ⟨l, xs, y, rfl, rfl, hH, hy, q⟩ := h
  cases rx
  have hus := rv.zero
  subst hus
  obtain ⟨z, its, n, r, hl, e⟩ := I.lstM hH
  obtain ⟨u, hu, ru⟩ := r.get hy
  have hy' : its.toArray[its.toArray.size - 1]? = some u := by
    show its.toArray[its.length - 1]? = some u
    rw [← Array.getElem?_toList, ← hl]
    exact hu
  refine call_meets F.slot_list_pop ⟨_, e, rfl⟩ F.entry_list_pop (F.args_list_pop_1 _) (MeetsSeq.list_pop_last l its.toArray n u hy' (by rw [List.size_toArray]; omega)) ⟨e, ?_⟩
  refine ⟨y, _, I.lset (its' := its.dropLast) hH e ?_ r.dropLast ?_, ru, q⟩
  · show its.toArray.eraseIdxIfInBounds (its.toArray.size - 1) = its.dropLast.toArray
    rw [List.size_toArray, List.eraseIdxIfInBounds_toArray, erase_last]
  · rw [List.length_dropLast]
    omega
def rCat : R2 := fun x y H Q => ∃ l b xs zs, x = .ref l ∧ y = .ref b ∧ H l = some (.lst xs) ∧ H b = some (.lst zs) ∧ xs.length + zs.length ≤ sizeLine ∧ ∀ p, H p = none → Q (.ref p) (upd H p (.lst (xs ++ zs)))
theorem op_cat : OpR X (binaryOp .Add) rCat := by
  intro pins s σ H x y v u Q I rx ry h
  obtain ⟨l, b, xs, zs, rfl, rfl, hH, hB, hz, q⟩ := h
  cases rx
  cases ry
  obtain ⟨z, its, n, r, hl, e⟩ := I.lstM hH
  obtain ⟨z2, its2, n2, r2, hl2, e2⟩ := I.lstM hB
  refine PySem.P.add_list e e2 ?_ (by rw [List.size_toArray, List.size_toArray]; omega)
  have ea : its.toArray ++ its2.toArray = (its ++ its2).toArray := by simp
  rw [ea]
  exact ⟨.ref _, _, I.lnew (t' := s.toks) (r.append r2) (by rw [List.length_append]; omega), rfl, q _ I.fresh⟩
end
section
variable {prog : Program} {w : World} {A : Around} {E : Value → Shared → Prop} {s : Shared}
set_option maxRecDepth 100000 in
end
section
variable {X : Cx}
end
end L2
namespace L2
open PySem PySem.Spec PyProof.Rows
section
variable {κ : Type} [DecidableEq κ]
def valV (kvs : List (κ × V)) (k : κ) : Option V := (kvs.find? fun kv => decide (kv.1 = k)).map (·.2)
def putK (kvs : List (κ × V)) (k : κ) (v : V) : List (κ × V) :=
  if (kvs.any fun kv => decide (kv.1 = k)) = true then kvs.map (fun kv => if kv.1 = k then (kv.1, v) else kv) else kvs ++ [(k, v)]
def dropK (kvs : List (κ × V)) (k : κ) : List (κ × V) := kvs.filter fun kv => decide (kv.1 ≠ k)
theorem valV_pos {p : κ × V} {r : List (κ × V)} {k : κ} (e : p.1 = k) : valV (p :: r) k = some p.2 := by simp [valV, List.find?_cons, e]
theorem valV_neg {p : κ × V} {r : List (κ × V)} {k : κ} (e : ¬ p.1 = k) : valV (p :: r) k = valV r k := by simp [valV, List.find?_cons, e]
theorem valV_any (k : κ) : ∀ kvs : List (κ × V), (kvs.any fun kv => decide (kv.1 = k)) = (valV kvs k).isSome
  | [] => rfl
  | p :: r => by
    rw [List.any_cons]
    by_cases e : p.1 = k
    · simp only [valV_pos e, decide_eq_true e, Bool.true_or, Option.isSome_some]
    · rw [valV_neg e, decide_eq_false e, Bool.false_or]; exact valV_any k r
theorem valV_map (k j : κ) (y : V) : ∀ kvs : List (κ × V), valV (kvs.map fun kv => if kv.1 = k then (kv.1, y) else kv) j = (valV kvs j).map fun x => if j = k then y else x
  | [] => rfl
  | p :: r => by
    have ih := valV_map k j y r
    rw [List.map_cons]
    by_cases h : p.1 = k
    · rw [if_pos h]
      by_cases e : p.1 = j
      · rw [valV_pos (p := (p.1, y)) e, valV_pos e, Option.map_some, if_pos (e.symm.trans h)]
      · rw [valV_neg (p := (p.1, y)) e, valV_neg e, ih]
    · rw [if_neg h]
      by_cases e : p.1 = j
      · rw [valV_pos (p := p) e, valV_pos e, Option.map_some, if_neg (fun z => h (e.trans z))]
      · rw [valV_neg (p := p) e, valV_neg e, ih]
theorem valV_snoc (k j : κ) (y : V) : ∀ kvs : List (κ × V), valV kvs k = none → valV (kvs ++ [(k, y)]) j = if j = k then some y else valV kvs j
  | [], _ => by
    by_cases e : k = j
    · rw [if_pos e.symm]; exact valV_pos (p := (k, y)) e
    · rw [if_neg (fun z => e z.symm)]; exact valV_neg (p := (k, y)) e
  | p :: r, hn => by
    rw [List.cons_append]
    have hk : ¬ p.1 = k := fun z => by rw [valV_pos z] at hn; cases hn
    rw [valV_neg hk] at hn
    have ih := valV_snoc k j y r hn
    by_cases e : p.1 = j
    · rw [valV_pos e, valV_pos e, if_neg (fun z => hk (e.trans z))]
    · rw [valV_neg e, valV_neg e, ih]
theorem valV_put (kvs : List (κ × V)) (k j : κ) (y : V) : valV (putK kvs k y) j = if j = k then some y else valV kvs j := by
  unfold putK
  by_cases a : (kvs.any fun kv => decide (kv.1 = k)) = true
  · rw [if_pos a, valV_map]
    rw [valV_any] at a
    by_cases e : j = k
    · obtain ⟨x, hx⟩ := Option.isSome_iff_exists.mp a
      rw [if_pos e, e, hx, Option.map_some, if_pos rfl]
    · rw [if_neg e]
      cases valV kvs j with
      | none => rfl
      | some x => rw [Option.map_some, if_neg e]
  · rw [if_neg a]
    refine valV_snoc k j y kvs ?_
    rw [valV_any] at a
    cases q : valV kvs k with
    | none => rfl
    | some x => rw [q] at a; exact (a rfl).elim
theorem length_putK (kvs : List (κ × V)) (k : κ) (v : V) : (putK kvs k v).length ≤ kvs.length + 1 := by
  unfold putK
  split
  · rw [List.length_map]; omega
  · rw [List.length_append, List.length_cons, List.length_nil]; omega
theorem RelO.isSome_eq {o : Option V} {u : Option Value} (r : RelO o u) : o.isSome = u.isSome := by
  cases o with
  | none => cases u with
    | none => rfl
    | some _ => exact (show False from r).elim
  | some _ => cases u with
    | none => exact (show False from r).elim
    | some _ => rfl
theorem RelO.getD {o : Option V} {u : Option Value} {d : V} {d' : Value} (r : RelO o u) (rd : RelV d d') : RelV (o.getD d) (u.getD d') := by
  cases o with
  | none => cases u with
    | none => exact rd
    | some _ => exact (show False from r).elim
  | some _ => cases u with
    | none => exact (show False from r).elim
    | some _ => exact r
theorem KV.val {kvs : List (κ × V)} {vs : List (κ × Value)} (r : KV kvs vs) (k : κ) : RelO (valV kvs k) (valueAt vs k) := by
  unfold KV at r
  induction r with
  | nil => exact True.intro
  | @cons p q ps qs h t ih =>
    obtain ⟨h1, h2⟩ := h
    by_cases e : p.1 = k
    · have e' : q.1 = k := h1.symm.trans e
      have b : valueAt (q :: qs) k = some q.2 := by simp [valueAt, List.find?_cons, e']
      rw [valV_pos e, b]; exact h2
    · have e' : ¬ q.1 = k := fun z => e (h1.trans z)
      have b : valueAt (q :: qs) k = valueAt qs k := by simp [valueAt, List.find?_cons, e']
      rw [valV_neg e, b]; exact ih
theorem KV.any {kvs : List (κ × V)} {vs : List (κ × Value)} (r : KV kvs vs) (k : κ) : (kvs.any fun kv => decide (kv.1 = k)) = vs.any fun kv => decide (kv.1 = k) := by
  unfold KV at r
  induction r with
  | nil => rfl
  | cons h t ih => rw [List.any_cons, List.any_cons, ih, h.1]
theorem KV.repl {kvs : List (κ × V)} {vs : List (κ × Value)} (r : KV kvs vs) (k : κ) {y : V} {u : Value} (ry : RelV y u) :
    KV (kvs.map fun kv => if kv.1 = k then (kv.1, y) else kv) (vs.map fun kv => if kv.1 = k then (kv.1, u) else kv) := by
  unfold KV at r ⊢
  induction r with
  | nil => exact .nil
  | @cons p q ps qs h t ih =>
    rw [List.map_cons, List.map_cons]
    refine .cons ?_ ih
    obtain ⟨h1, h2⟩ := h
    by_cases e : p.1 = k
    · rw [if_pos e, if_pos (h1.symm.trans e)]; exact ⟨h1, ry⟩
    · rw [if_neg e, if_neg (fun z => e (h1.trans z))]; exact ⟨h1, h2⟩
theorem KV.put {kvs : List (κ × V)} {vs : List (κ × Value)} (r : KV kvs vs) (k : κ) {y : V} {u : Value} (ry : RelV y u) : KV (putK kvs k y) (stored vs k u) := by
  unfold putK stored
  rw [r.any k]
  by_cases e : (vs.any fun kv => decide (kv.1 = k)) = true
  · rw [if_pos e, if_pos e]; exact r.repl k ry
  · rw [if_neg e, if_neg e]; exact Paired.snoc r ⟨rfl, ry⟩
theorem KV.drop {kvs : List (κ × V)} {vs : List (κ × Value)} (r : KV kvs vs) (k : κ) : KV (dropK kvs k) (without vs k) := by
  unfold KV at r ⊢
  unfold dropK without
  induction r with
  | nil => exact .nil
  | @cons p q ps qs h t ih =>
    obtain ⟨h1, h2⟩ := h
    rw [List.filter_cons, List.filter_cons]
    by_cases e : p.1 = k
    · have a : ¬ decide (p.1 ≠ k) = true := by simp [e]
      have b : ¬ decide (q.1 ≠ k) = true := by simp [h1.symm.trans e]
      rw [if_neg a, if_neg b]; exact ih
    · have e' : ¬ q.1 = k := fun z => e (h1.trans z)
      have a : decide (p.1 ≠ k) = true := by simp [e]
      have b : decide (q.1 ≠ k) = true := by simp [e']
      rw [if_pos a, if_pos b]; exact .cons ⟨h1, h2⟩ ih
theorem KV.keys {kvs : List (κ × V)} {vs : List (κ × Value)} (r : KV kvs vs) : kvs.map (·.1) = vs.map (·.1) := by
  unfold KV at r
  induction r with
  | nil => rfl
  | cons h t ih => rw [List.map_cons, List.map_cons, ih, h.1]
theorem KV.length {kvs : List (κ × V)} {vs : List (κ × Value)} (r : KV kvs vs) : kvs.length = vs.length := Paired.length r
end
theorem kV_is {P : Program} {w : World} {k : Key} {u : Value} (r : RelV (kV k) u) : (mixKind P w).is k u = true := by
  cases k with
  | inl i => obtain ⟨t, e⟩ := (show ∃ t, u = Value.int i t from r); subst e; exact mixKind_int P w i t
  | inr x => obtain ⟨t, e⟩ := (show ∃ t, u = Value.str x t from r); subst e; exact mixKind_str P w x t
theorem items_are {P : Program} {w : World} : ∀ {ks : List Key} {us : List Value}, Vals (ks.map kV) us → ItemsAre (mixKind P w) ks us
  | [], _, r => by rw [List.map_nil] at r; cases r; exact .nil
  | k :: ks, _, r => by
    rw [List.map_cons] at r
    cases r with
    | cons h t => exact .cons (kV_is h) (items_are t)
abbrev KT (H : Hp) : List (List Key × V) → List (List Key × Addr × Value) → Prop := Paired fun p q => p.1 = q.1 ∧ H q.2.1 = some (.tup (p.1.map kV)) ∧ RelV p.2 q.2.2
theorem KT.val {H : Hp} {kvs : List (List Key × V)} {xs : List (List Key × Addr × Value)} (r : KT H kvs xs) (k : List Key) : RelO (valV kvs k) ((atKey xs k).map (·.2)) := by
  induction r with
  | nil => exact True.intro
  | @cons p q ps qs h t ih =>
    obtain ⟨h1, _, h2⟩ := h
    by_cases e : p.1 = k
    · have e' : q.1 = k := h1.symm.trans e
      have b : atKey (q :: qs) k = some q.2 := by simp [atKey, List.find?_cons, e']
      rw [valV_pos e, b]; exact h2
    · have e' : ¬ q.1 = k := fun z => e (h1.trans z)
      have b : atKey (q :: qs) k = atKey qs k := by simp [atKey, List.find?_cons, e']
      rw [valV_neg e, b]; exact ih
theorem KT.repl {H : Hp} {kvs : List (List Key × V)} {xs : List (List Key × Addr × Value)} (r : KT H kvs xs) (k : List Key) {y : V} {u : Value} (ry : RelV y u) :
    KT H (kvs.map fun kv => if kv.1 = k then (kv.1, y) else kv) (xs.map (putAt k u)) := by
  induction r with
  | nil => exact .nil
  | @cons p q ps qs h t ih =>
    rw [List.map_cons, List.map_cons]
    refine .cons ?_ ih
    obtain ⟨h1, h2, h3⟩ := h
    unfold putAt
    by_cases e : p.1 = k
    · rw [if_pos e, if_pos (h1.symm.trans e)]; exact ⟨h1, h2, ry⟩
    · rw [if_neg e, if_neg (fun z => e (h1.trans z))]; exact ⟨h1, h2, h3⟩
theorem KT.put {H : Hp} {kvs : List (List Key × V)} {xs : List (List Key × Addr × Value)} (r : KT H kvs xs) (k : List Key) {b : Addr} {y : V} {u : Value} (hb : H b = some (.tup (k.map kV))) (ry : RelV y u) :
    KT H (putK kvs k y) (storedH xs k b u) := by
  have e : (kvs.any fun kv => decide (kv.1 = k)) = (atKey xs k).isSome := by
    rw [valV_any, (r.val k).isSome_eq, Option.isSome_map]
  unfold putK storedH
  rw [e]
  by_cases q : (atKey xs k).isSome = true
  · rw [if_pos q, if_pos q]; exact r.repl k ry
  · rw [if_neg q, if_neg q]; exact Paired.snoc r ⟨rfl, hb, ry⟩
theorem KT.keeps {H H' : Hp} {kvs : List (List Key × V)} {xs : List (List Key × Addr × Value)} (r : KT H kvs xs) (ht : ∀ b ys, H b = some (.tup ys) → H' b = some (.tup ys)) : KT H' kvs xs :=
  Paired.mapP r fun _ _ z => ⟨z.1, ht _ _ z.2.1, z.2.2⟩
section
variable {P : Program} {w : World} {H : Hp} {h : Heap} {a : Addr}
theorem rd_of {u : HO} (ok : HOk P w H h) (e : Rd H a u) : ObjOk P w H h a u := e.ok ok
theorem dk_rd {kvs : List (Key × V)} (ok : HOk P w H h) (e : Rd H a (.dK kvs)) : kvs.length ≤ sizeLine ∧ (a == sysModules) = false ∧ ∃ vs, KV kvs vs ∧ h.DictOf (mixKind P w) a vs :=
  show ObjOk P w H h a (.dK kvs) from rd_of ok e
theorem dk_of {kvs : List (Key × V)} (ok : HOk P w H h) (e : H a = some (.dK kvs)) : kvs.length ≤ sizeLine ∧ (a == sysModules) = false ∧ ∃ vs, KV kvs vs ∧ h.DictOf (mixKind P w) a vs := dk_rd ok (.inl e)
theorem key_of {ks : List Key} (ok : HOk P w H h) (e : H a = some (.tup (ks.map kV))) : (tupleKind (mixKind P w)).is h ks a := by
  obtain ⟨_, its, r, o, h1, h2, n, h3⟩ := (show ObjOk P w H h a (.tup (ks.map kV)) from ok a _ e)
  exact ⟨o, its.toArray, n, h1, h2, h3, by simpa using items_are r⟩
theorem dt_rd {kvs : List (List Key × V)} (ok : HOk P w H h) (e : Rd H a (.dT kvs)) : kvs.length ≤ sizeLine ∧ (a == sysModules) = false ∧
    ∃ xs, KT H kvs xs ∧ h.DictOfH (tupleKind (mixKind P w)) a xs := by
  obtain ⟨z, y, xs, r, o, es, ep, h1, h2, h3, h4, h5⟩ := (show ObjOk P w H h a (.dT kvs) from rd_of ok e)
  refine ⟨z, y, xs, r, o, es, ep, h1, h2, h3, h4, fun x hx => ?_, h5⟩
  have all : ∀ {l : List (List Key × V)} {m : List (List Key × Addr × Value)}, KT H l m → ∀ x ∈ m, (tupleKind (mixKind P w)).is h x.1 x.2.1 := by
    intro l m q
    induction q with
    | nil => intro x hx; exact nomatch hx
    | @cons p q ps qs hq t ih =>
      intro x hx
      rcases List.mem_cons.mp hx with e | hx
      · subst e
        exact key_of ok (by rw [← hq.1]; exact hq.2.1)
      · exact ih x hx
  exact all r x hx
theorem dt_of {kvs : List (List Key × V)} (ok : HOk P w H h) (e : H a = some (.dT kvs)) : kvs.length ≤ sizeLine ∧ (a == sysModules) = false ∧
    ∃ xs, KT H kvs xs ∧ h.DictOfH (tupleKind (mixKind P w)) a xs := dt_rd ok (.inl e)
end
def DGet (H : Hp) (a : Addr) (y : V) (r : Option V) : Prop :=
  (∃ kvs k, Rd H a (.dK kvs) ∧ y = kV k ∧ r = valV kvs k) ∨ ∃ kvs k b, Rd H a (.dT kvs) ∧ y = .ref b ∧ H b = some (.tup (k.map kV)) ∧ r = valV kvs k
def DPut (H : Hp) (a : Addr) (y v : V) (H' : Hp) : Prop :=
  (∃ kvs k, H a = some (.dK kvs) ∧ y = kV k ∧ kvs.length < sizeLine ∧ H' = upd H a (.dK (putK kvs k v))) ∨
  ∃ kvs k b, H a = some (.dT kvs) ∧ y = .ref b ∧ H b = some (.tup (k.map kV)) ∧ kvs.length < sizeLine ∧ H' = upd H a (.dT (putK kvs k v))
theorem DGet.k {H : Hp} {a : Addr} {kvs : List (Key × V)} {k : Key} (e : H a = some (.dK kvs)) : DGet H a (kV k) (valV kvs k) := .inl ⟨kvs, k, .inl e, rfl, rfl⟩
theorem DGet.t {H : Hp} {a b : Addr} {kvs : List (List Key × V)} {k : List Key} (e : H a = some (.dT kvs)) (eb : H b = some (.tup (k.map kV))) : DGet H a (.ref b) (valV kvs k) := .inr ⟨kvs, k, b, .inl e, rfl, eb, rfl⟩
theorem DPut.k {H : Hp} {a : Addr} {kvs : List (Key × V)} {k : Key} {v : V} (e : H a = some (.dK kvs)) (hl : kvs.length < sizeLine) : DPut H a (kV k) v (upd H a (.dK (putK kvs k v))) := .inl ⟨kvs, k, e, rfl, hl, rfl⟩
theorem DPut.t {H : Hp} {a b : Addr} {kvs : List (List Key × V)} {k : List Key} {v : V} (e : H a = some (.dT kvs)) (eb : H b = some (.tup (k.map kV))) (hl : kvs.length < sizeLine) :
    DPut H a (.ref b) v (upd H a (.dT (putK kvs k v))) := .inr ⟨kvs, k, b, e, rfl, eb, hl, rfl⟩
section
variable {X : Cx} {pins : List (Addr × Obj)} {σ : St} {H : Hp} {s : Shared} {a : Addr} {y v : V} {u r : Value} {o : Option V} {A : Around} {E : Value → Shared → Prop}
theorem Inv.big (I : Inv X pins σ H s) : sysModules < s.heap.objs.size := by
  have h : mainGlobals < s.heap.objs.size := (I.mod.glob.keeps I.bk).lt
  exact Nat.lt_trans (by decide) h
theorem d_getItem {Q : Value → Shared → Prop} (hu : A.units + 1 < cLine) (I : Inv X pins σ H s) (g : DGet H a y (some v)) (ry : RelV y u) (h : ∀ w' s', Inv X pins σ H s' → RelV v w' → Q w' s') :
    wpAny (model X.prog X.w) A (getItem (.ref a) u) Q E s := by
  rcases g with ⟨kvs, k, e, ey, l⟩ | ⟨kvs, k, b, e, ey, eb, l⟩
  · subst ey
    obtain ⟨z, hd, vs, rel, dd⟩ := dk_rd I.hok e
    obtain ⟨w', hw, rw'⟩ := RelO.some_of (v := v) (o := valueAt vs k) (by rw [l]; exact rel.val k)
    exact wpAny_getItem_of (kV_is ry) dd.mapOf hw (h w' _ (I.tok _) rw')
  · subst ey
    cases (show u = Value.ref b from ry)
    obtain ⟨z, hd, xs, rel, dd⟩ := dt_rd I.hok e
    obtain ⟨w', hw, rw'⟩ := RelO.some_of (v := v) (o := (atKey xs k).map (·.2)) (by rw [l]; exact rel.val k)
    obtain ⟨p, hp, hp2⟩ := Option.map_eq_some_iff.mp hw
    refine wpAny_getItem_heap (tupleKind_room_in1 hu) (key_of I.hok eb) dd hp ?_
    rw [hp2]
    exact h w' _ (I.tok _) rw'
theorem d_notIn {Q : Value → Shared → Prop} (hu : A.units + 1 < cLine) (I : Inv X pins σ H s) (g : DGet H a y o) (ry : RelV y u) (h : ∀ s', Inv X pins σ H s' → Q (.bool (!o.isSome)) s') :
    wpAny (model X.prog X.w) A (compareOp .NotIn u (.ref a)) Q E s := by
  rcases g with ⟨kvs, k, e, ey, l⟩ | ⟨kvs, k, b, e, ey, eb, l⟩
  · subst ey
    obtain ⟨z, hd, vs, rel, dd⟩ := dk_rd I.hok e
    refine wpAny_notIn_of (kV_is ry) hd dd.mapOf ?_
    rw [← (rel.val k).isSome_eq, ← l]
    exact h _ (I.tok _)
  · subst ey
    cases (show u = Value.ref b from ry)
    obtain ⟨z, hd, xs, rel, dd⟩ := dt_rd I.hok e
    refine wpAny_notIn_heap (tupleKind_room_in1 hu) (key_of I.hok eb) hd dd ?_
    have q := (rel.val k).isSome_eq
    rw [Option.isSome_map] at q
    rw [← q, ← l]
    exact h _ (I.tok _)
theorem d_write {h' : Heap} {t' : Nat} {ob : HO} (I : Inv X pins σ H s) (mu : Mut (H a)) (hs : Heap.SameBut a s.heap h') (he : ∃ q, h'.get? a = some q) (new : ObjOk X.prog X.w (upd H a ob) h' a ob) :
    Inv X pins σ (upd H a ob) { s with heap := h', toks := t' } :=
  I.write (x := a) (e := a) mu (.inl rfl) (fun b q hb z => (hs.2 b hb).trans z) he new
theorem dk_new {P : Program} {w : World} {H' : Hp} {h' : Heap} {kvs : List (Key × V)} {vs : List (Key × Value)} (z : kvs.length ≤ sizeLine) (hd : (a == sysModules) = false) (rel : KV kvs vs) (dd : h'.DictOf (mixKind P w) a vs) :
    ObjOk P w H' h' a (.dK kvs) := ⟨z, hd, vs, rel, dd⟩
theorem d_setItem {H' : Hp} {Q : Unit → Shared → Prop} (hu : A.units + 1 < cLine) (I : Inv X pins σ H s) (g : DPut H a y v H') (ry : RelV y u) (rv : RelV v r) (h : ∀ s', Inv X pins σ H' s' → Q () s') :
    wpAny (model X.prog X.w) A (setItem (.ref a) u r) Q E s := by
  rcases g with ⟨kvs, k, e, ey, l, eH⟩ | ⟨kvs, k, b, e, ey, eb, l, eH⟩
  · subst ey eH
    obtain ⟨z, hd, vs, rel, dd⟩ := dk_of I.hok e
    have hz : vs.length ≤ sizeLine := by rw [← rel.length]; exact z
    have hl : (putK kvs k v).length ≤ sizeLine := by have := length_putK kvs k v; omega
    refine wpAny_setItem_pairs (hsz := hz) (kV_is ry) dd fun h' dd' hs => h _ ?_
    have he : ∃ q, h'.get? a = some q := let ⟨q, _, _, hq, _⟩ := dd'; ⟨q, hq⟩
    exact d_write I (by rw [e]; exact True.intro) hs he (dk_new hl hd (rel.put k rv) dd')
  · subst ey eH
    cases (show u = Value.ref b from ry)
    obtain ⟨z, hd, xs, rel, dd⟩ := dt_of I.hok e
    have hz : xs.length ≤ sizeLine := by rw [← Paired.length rel]; exact z
    have hl : (putK kvs k v).length ≤ sizeLine := by have := length_putK kvs k v; omega
    refine wpAny_setItem_heap (hsz := hz) (tupleKind_room_in1 hu) (key_of I.hok eb) dd fun h' dd' hs => h _ ?_
    obtain ⟨q, es, ep, hq, h2, h3, h4, _, h5⟩ := dd'
    refine d_write I (by rw [e]; exact True.intro) hs ⟨q, hq⟩ ⟨hl, hd, _, (rel.put k eb rv).keeps fun c ys ec => ?_, q, es, ep, hq, h2, h3, h4, h5⟩
    rw [upd_ne (ne_of ec e (fun z => nomatch z))]
    exact ec
end
section
variable {X : Cx} {pins : List (Addr × Obj)} {σ : St} {H : Hp} {s : Shared} {a : Addr} {kvs : List (Key × V)} {k : Key} {u : Value} {A : Around} {E : Value → Shared → Prop}
end
def NoSl (i : Expr) : Prop := ∀ ov iv, subscripted i false ov iv = operate [ov, iv] (getItem ov iv)
theorem subD_of {prog : Program} {w : World} {A : Around} {E : Value → Shared → Prop} {s : Shared} {env : Env} {value slice : Expr} {pos : Pos} {T id : String} {Q : Value → Shared → Prop}
    (hl : typeLookup (.type T) "__getitem__" = pure (some (.builtin id))) (hs : NoSl slice)
    (h : wpAny (model prog w) A (eval value env) (fun o s₁ => wpAny (model prog w) A (eval slice env) (fun i s₂ => s₂.TypeIs o T ∧ wpAny (model prog w) A (getItem o i) Q E s₂) E s₁) E s) :
    wpAny (model prog w) A (eval (.Subscript value slice pos) env) Q E s := by
  refine Subscript_ (wpAny_mono h (fun o s₁ h₁ => wpAny_mono h₁ (fun i s₂ h₂ => ?_) fun _ _ x => x) fun _ _ x => x)
  obtain ⟨hT, h₂⟩ := h₂
  unfold subscriptTail
  refine wpAny_bind ?_
  rw [getitemInPython_of_ne hT.not_modules]
  refine wpAny_bind (wpAny_specialOf hT hl ?_)
  have fin : wpAny (model prog w) A (subscripted slice false o i) (fun r s₃ => wpAny (model prog w) A (letTemporaryGo value o r >>= fun _ => pure r) Q E s₃) E s₂ := by
    rw [hs o i]
    exact wpAny_operating (wpAny_mono h₂ (fun r s₃ h₃ => wpAny_bind (wpAny_letTemporaryGo (wpAny_pure h₃))) fun _ _ x => x)
  first
    | exact wpAny_pure (wpAny_bind fin)
    | exact wpAny_bind (wpAny_pure (wpAny_bind fin))
    | exact wpAny_bind fin
theorem dict_typeIs {X : Cx} {pins : List (Addr × Obj)} {σ : St} {H : Hp} {s : Shared} {a : Addr} {y : V} {o : Option V} (I : Inv X pins σ H s) (g : DGet H a y o) : s.TypeIs (.ref a) "dict" := by
  rcases g with ⟨kvs, k, e, _, _⟩ | ⟨kvs, k, b, e, _, _, _⟩
  · obtain ⟨_, _, vs, _, dd⟩ := dk_rd I.hok e
    exact dd.typeIs
  · obtain ⟨_, _, xs, _, dd⟩ := dt_rd I.hok e
    exact dd.typeIs
def tDGet (td ty : TE) : TE := fun σ H Q => td σ H fun x H1 => ty σ H1 fun y H2 => ∃ a v, x = .ref a ∧ DGet H2 a y (some v) ∧ Q v H2
def tDNotIn (ty td : TE) : TE := fun σ H Q => ty σ H fun y H1 => td σ H1 fun x H2 => ∃ a o, x = .ref a ∧ DGet H2 a y o ∧ Q (.bl (!o.isSome)) H2
def sDPut (td ty tv : TE) : TS := fun D σ H => tv σ H fun v H1 => td σ H1 fun x H2 => ty σ H2 fun y H3 => ∃ a H4, x = .ref a ∧ DPut H3 a y v H4 ∧ D.nx σ H4
section
variable {X : Cx} {o i e value : Expr} {pos pos' tpos : Pos} {td ty tv : TE}
theorem pe_dget (hu : X.A.units + 1 < cLine) (ho : PE X o td) (hi : PE X i ty) (hs : NoSl i) : PE X (.Subscript o i pos) (tDGet td ty) := by
  intro pins s σ H Q I h
  refine subD_of PySem.F.slot_dict_getitem.lookup hs (thn (ho pins s σ H _ I h) fun u s1 ⟨x, H1, I1, rx, q1⟩ => thn (hi pins s1 σ H1 _ I1 q1) fun iv s2 ⟨y, H2, I2, ry, a, v, ex, g, q2⟩ => ?_)
  subst ex
  obtain rfl : u = Value.ref a := rx
  exact ⟨dict_typeIs I2 g, d_getItem hu I2 g ry fun w' s3 I3 rw' => ⟨v, H2, I3, rw', q2⟩⟩
theorem pc_dnotin (hu : X.A.units + 1 < cLine) (hi : PE X i ty) (ho : PE X o td) : PC X .NotIn i o (tDNotIn ty td) := by
  intro pins s σ H Q I h
  refine thn (hi pins s σ H _ I h) fun iv s1 ⟨y, H1, I1, ry, q1⟩ => thn (ho pins s1 σ H1 _ I1 q1) fun u s2 ⟨x, H2, I2, rx, a, ov, ex, g, q2⟩ => ?_
  subst ex
  obtain rfl : u = Value.ref a := rx
  exact d_notIn hu I2 g ry fun s3 I3 => ⟨.bl (!ov.isSome), H2, I3, rfl, q2⟩
theorem ps_dput (hu : X.A.units + 1 < cLine) (ho : PE X o td) (hi : PE X i ty) (hv : PE X value tv) (hs : swapsWith value (some (.Subscript o i pos')) pos.line X.env = pure false) :
    PS X (.Assign [.Subscript o i pos'] value pos) (sDPut td ty tv) := by
  intro pins s σ H D I h
  refine wpAny_Assign_Subscript (thn (hv pins s σ H _ I h) fun r s1 ⟨v, H1, I1, rv, q1⟩ => thn (ho pins s1 σ H1 _ I1 q1) fun u s2 ⟨x, H2, I2, rx, q2⟩ => thn (hi pins s2 σ H2 _ I2 q2) fun iv s3 ⟨y, H3, I3, ry, a, H4, ex, g, q3⟩ => ?_) hs
  subst ex
  obtain rfl : u = Value.ref a := rx
  exact d_setItem hu I3 g ry rv fun s4 I4 => ⟨σ, H4, I4, q3⟩
end
theorem dk_empty {P : Program} {w : World} {H : Hp} (h : Heap) (hb : sysModules < h.objs.size) : ObjOk P w H (h.push { cls := .type "dict", data := .dict #[] }) h.objs.size (.dK []) :=
  ⟨Nat.zero_le _, beq_eq_false_iff_ne.mpr (Ne.symm (Nat.ne_of_lt hb)), [], .nil, Heap.DictOf.new h⟩
def tDNewK : TE := fun _ H Q => ∀ p, H p = none → Q (.ref p) (upd H p (.dK []))
section
variable {X : Cx} {pos : Pos}
theorem pe_dnewK : PE X (.Dict [] [] pos) tDNewK := fun pins s σ H Q I h =>
  wpAny_Dict_empty ⟨.ref s.heap.objs.size, _, I.laid (a := s.heap.objs.size) (o := .dK []) (t' := s.toks) (fun _ _ q => Heap.get?_push_of_some _ q) (Nat.le_refl _) (dk_empty s.heap I.big), rfl, h _ (I.hok.fresh (Nat.le_refl _))⟩
end
structure M1 (X : Cx) (o : Expr) (m : Str) (apos : Pos) (e : Expr) (cpos : Pos) : Prop where
  base : attributeBase o m X.env (eval o X.env) = eval o X.env
  few : ((backTo cpos (starEach [e] X.env)).all (fun x => !x.1) && (backToKw cpos (keywordEach [] X.env)).all (fun x => x.1.isSome)
    && decide (([e] : List Expr).length + ([] : List Keyword).length + (if ([] : List Keyword).isEmpty then 0 else 1) < 30)) = true
  line : (apos.endLine == cpos.line) = true
  trees : backTo cpos (starEach [e] X.env) = [(false, eval e X.env)]
structure M2 (X : Cx) (o : Expr) (m : Str) (apos : Pos) (e f : Expr) (cpos : Pos) : Prop where
  base : attributeBase o m X.env (eval o X.env) = eval o X.env
  few : ((backTo cpos (starEach [e, f] X.env)).all (fun x => !x.1) && (backToKw cpos (keywordEach [] X.env)).all (fun x => x.1.isSome)
    && decide (([e, f] : List Expr).length + ([] : List Keyword).length + (if ([] : List Keyword).isEmpty then 0 else 1) < 30)) = true
  line : (apos.endLine == cpos.line) = true
  trees : backTo cpos (starEach [e, f] X.env) = [(false, eval e X.env), (false, eval f X.env)]
def IsD (H : Hp) (a : Addr) : Prop := (∃ kvs, Rd H a (.dK kvs)) ∨ ∃ kvs, Rd H a (.dT kvs)
theorem isD_at {X : Cx} {pins : List (Addr × Obj)} {σ : St} {H : Hp} {s : Shared} {a : Addr} (I : Inv X pins σ H s) (d : IsD H a) :
    s.TypeIs (.ref a) "dict" ∧ (∀ b, Value.ref a = .ref b → ∃ ob, s.heap.get? b = some ob ∧ ob.dict = none) ∧ (a == sysModules) = false := by
  rcases d with ⟨kvs, e⟩ | ⟨kvs, e⟩
  · obtain ⟨_, hd, vs, _, dd⟩ := dk_rd I.hok e
    refine ⟨dd.typeIs, fun b q => ?_, hd⟩
    cases q
    obtain ⟨ob, _, _, h1, h2, _⟩ := dd
    exact ⟨ob, h1, h2.2.1⟩
  · obtain ⟨_, hd, xs, _, dd⟩ := dt_rd I.hok e
    refine ⟨dd.typeIs, fun b q => ?_, hd⟩
    cases q
    obtain ⟨ob, _, _, h1, h2, _⟩ := dd
    exact ⟨ob, h1, h2.2.1⟩
section
variable {X : Cx} {pins : List (Addr × Obj)} {σ : St} {H : Hp} {s : Shared} {a : Addr} {y d : V} {u r : Value} {o : Option V} {A : Around} {E : Value → Shared → Prop}
theorem d_get2 {Q : Value → Shared → Prop} (hu : A.units + 1 < cLine) (I : Inv X pins σ H s) (g : DGet H a y o) (ry : RelV y u) (rd : RelV d r) (h : ∀ w' s', Inv X pins σ H s' → RelV (o.getD d) w' → Q w' s') :
    wpAny (model X.prog X.w) A (call (.builtin "dict.get") [.ref a, u, r]) Q E s := by
  rcases g with ⟨kvs, k, e, ey, l⟩ | ⟨kvs, k, b, e, ey, eb, l⟩
  · subst ey
    obtain ⟨z, hd, vs, rel, dd⟩ := dk_rd I.hok e
    refine call_meetsIn PySem.F.slot_dict_get dd.typeIs PySem.F.entry_dict_get (PySem.F.args_dict_get_3 _ _ _) (meets_dict_get_default (mixKind X.prog X.w) a (kV_is ry) hd r) ⟨_, dd.mapOf, h _ _ (I.tok _) ?_⟩
    rw [l]
    exact (rel.val k).getD rd
  · subst ey
    cases (show u = Value.ref b from ry)
    obtain ⟨z, hd, xs, rel, dd⟩ := dt_rd I.hok e
    refine call_meetsIn PySem.F.slot_dict_get dd.typeIs PySem.F.entry_dict_get (PySem.F.args_dict_get_3 _ _ _) (meetsH_dict_get_default (tupleKind (mixKind X.prog X.w)) a b hd r) ⟨tupleKind_room_in1 hu, k, xs, key_of I.hok eb, dd, h _ _ (I.tok _) ?_⟩
    rw [l]
    exact (rel.val k).getD rd
end
def tDGet2 (td ty tx : TE) : TE := fun σ H Q => td σ H fun x H1 => ∃ a, x = .ref a ∧ IsD H1 a ∧ ty σ H1 fun y H2 => tx σ H2 fun z H3 => ∃ o, DGet H3 a y o ∧ Q (o.getD z) H3
section
variable {X : Cx} {o e f : Expr} {apos cpos : Pos} {td ty tx : TE}
theorem pe_dget2 (hu : X.A.units + 1 < cLine) (ho : PE X o td) (he : PE X e ty) (hf : PE X f tx) (m : M2 X o "get" apos e f cpos) : PE X (.Call (.Attribute o "get" apos) [e, f] [] cpos) (tDGet2 td ty tx) := by
  intro pins s σ H Q I h
  refine wpAny_Call_method m.base m.few m.line PySem.F.plainAttrs_dict PySem.F.slot_dict_get PySem.F.type_dict_get (thn (ho pins s σ H _ I h) fun u s1 ⟨x, H1, I1, rx, a, ex, d, q1⟩ => ?_)
  subst ex
  obtain rfl : u = Value.ref a := rx
  obtain ⟨t1, t2, _⟩ := isD_at I1 d
  refine ⟨t1, t2, ?_⟩
  rw [m.trees]
  refine Calls.callWith_builtin rfl (Calls.evalArgs_plain (Calls.spliced_cons (thn (he pins s1 σ H1 _ I1 q1) fun iv s2 ⟨y, H2, I2, ry, q2⟩ =>
    Calls.spliced_cons (thn (hf pins s2 σ H2 _ I2 q2) fun fv s3 ⟨z, H3, I3, rz, ov, g, q3⟩ => Calls.spliced_nil ?_))))
  exact d_get2 hu I3 g ry rz fun w' s4 I4 rw' => ⟨_, H3, I4, rw', q3⟩
end
section
variable {X : Cx} {pins : List (Addr × Obj)} {σ : St} {H : Hp} {s : Shared} {a : Addr} {kvs : List (Key × V)} {A : Around} {E : Value → Shared → Prop}
end
section
variable {X : Cx} {pins : List (Addr × Obj)} {σ : St} {H : Hp} {s : Shared} {a : Addr} {y : V} {u : Value} {A : Around} {E : Value → Shared → Prop}
end
end L2
namespace Att
open PySem PySem.W PySem.Calls PyProof.Rows
theorem ints_of_wellAll {P : Params} {h : Heap} : ∀ (ns : List Int) (vs : List Value), WellAll P h vs (ns.map WData.int) → IntsAre vs ns := by
  intro ns
  induction ns with
  | nil =>
    intro vs w
    rw [List.map_nil] at w
    cases w
    exact .nil
  | cons n ns ih =>
    intro vs w
    rw [List.map_cons] at w
    cases w with
    | cons a b =>
      cases a
      exact .cons _ _ (ih _ b)
theorem script_of {l : OpenLaw} {n : Nat} (hn : l.most = some n) {P : Params} {h : Heap} {args : List WData} {vals : List Value}
    (hpre : l.row.toRowW.claim.pre args = true) (hwl : WellAll P h vals args) :
    ∃ a vs ns, vals = [Value.ref a] ∧ args = [WData.list (ns.map WData.int)] ∧ h.get? a = some { cls := .type "list", data := .seq vs.toArray } ∧ IntsAre vs ns ∧ ns.length ≤ n := by
  have hsh : WShape.hasAll [] args [.list .int] = true := (pre_splitW hpre).1
  have hc : l.pre.holds [] { args := args } = true := (pre_splitW hpre).2
  obtain ⟨d, r, rfl, h1, h2⟩ := hasAllW_cons hsh
  obtain rfl := hasAllW_nil h2
  obtain ⟨xs, rfl, h3⟩ := hasW_list h1
  obtain ⟨ns, rfl⟩ := items_int h3
  have hlen : ns.length ≤ n := by
    unfold OpenLaw.pre at hc
    have h4 : (WTm.not (.lt (.lit (.int (n : Int))) (.len (.arg 0)))).holds [] { args := [.list (ns.map .int)] } = true := by
      have h4 := (holds_andW hc).1
      rw [hn] at h4
      exact h4
    have h5 := condW_of h4 (w_not (w_lt w_lit (w_len_list (w_arg rfl))))
    rw [List.length_map] at h5
    refine Nat.le_of_not_lt fun q => ?_
    have q' : (n : Int) < ((ns.length : Nat) : Int) := by omega
    first
      | (rw [decide_eq_true q'] at h5; exact absurd h5 (by decide))
      | (simp at h5; omega)
  cases hwl with
  | cons w1 w2 =>
    cases w2
    cases w1 with
    | list ho hall => exact ⟨_, _, ns, rfl, rfl, ho, ints_of_wellAll ns _ hall, hlen⟩
theorem post_true (l : OpenLaw) (args : List WData) : l.row.toRowW.claim.post args (.bool true) args = true :=
  postW_of (r := l.row.toRowW) (X := (true == true))
    (show WShape.has [] (.bool true) .bool = true by first | rfl | decide | simp [WShape.has, WShape.arms, WShape.armsAll])
    (show (WTm.eq .res (.lit (.bool true))).value [] { args := args, res := some (.bool true), after := args } = some (.bool (true == true)) from w_eq_bool (w_res rfl) w_lit) rfl
theorem attach_call {l : OpenLaw} {n : Nat} {q : Program} {loose : List Str} {XP : (Str → Option Value) → Heap → Prop} {YP : World → Heap → Prop} {d : DefRec}
    (hn : l.most = some n) (hdf : d.params.defaults = [])
    (call : ∀ (w : World) (s₀ s₁ : Shared) (mg mb : Str → Option Value) (fa : Addr) (o : Obj) (pm cd doc : Value) (a : Addr) (vs : List Value) (ns : List Int),
      Ground q loose [] XP w s₀ mg mb s₁.heap → YP w s₁.heap →
      s₁.heap.get? fa = some o → o.data = .func (docDef d.name d.params d.body d.scope pm cd doc) → s₁.heap.CodeRec cd d.name → mg d.name = some (.ref fa) →
      s₁.heap.get? a = some { cls := .type "list", data := .seq vs.toArray } → IntsAre vs ns → ns.length ≤ n → s₁.gens = #[] →
      codeAny (model l.prog w) callerA (.call (.ref fa) ⟨[.ref a], []⟩) (fun r s' => r = .ok (.ret (.bool true)) ∧ OldK s₁.heap s'.heap ∧ s'.os = s₁.os ∧ AllBare s'.gens) s₁) :
    WalkO q loose XP YP l.row.toRowW d [] (fun f vs => PySem.call f vs) := by
  intro w s₀ s₁ mg mb G Y fa o pm cd doc dV kV ho hd hcd hD hmg hg args vals as hpre hlay hrd hwl hlo
  obtain rfl : dV = .none := Dflts.none hD hdf
  obtain rfl : kV = .none := Dflts.noKw hD
  obtain ⟨a, vs, ns, rfl, rfl, hobj, hints, hlen⟩ := script_of hn hpre hwl
  refine enter_call (codeAny_mono (call w s₀ s₁ mg mb fa o pm cd doc a vs ns G Y ho (fd_plain hd) hcd hmg hobj hints hlen hg) fun r s' hq => ?_)
  obtain ⟨rfl, h2, h3, h4⟩ := hq
  exact ⟨.inl ⟨.bool true, .bool true, [], rfl, fun _ => rfl, .bool true, post_true l _, fun _ => ⟨List.Pairwise.nil, fun _ hm => (nomatch hm)⟩⟩, h2, h3, h4⟩
section
variable {prog : Program} {w : World} {A : Around} {E : Value → Shared → Prop} {s : Shared} {K : Frag}
end
end Att
namespace L2
open PySem PySem.Spec PyProof.Rows
theorem vals_ints : ∀ {vs : List Value} {ns : List Int}, IntsAre vs ns → Vals (ns.map V.int) vs
  | _, _, .nil => .nil
  | _, _, .cons n t h => .cons ⟨t, rfl⟩ (vals_ints h)
def Only (H : Hp) : Prop := ∀ b, H b = none ∨ ∃ o xs, H b = some (.frz o (.lst xs))
theorem law_call {P : Program} {w : World} {K : PySem.W.Frag} {mg mb : Str → Option Value} {CX : CXT} {k : Nat} {fa a : Addr} {fd : FuncData} {x : Str} {sp : Sp} {s₁ : Shared} {vs : List Value} {ns : List Int}
    (KX : K.In s₁.heap) (hns : s₁.heap.Ns mainGlobals mg) (hb : s₁.heap.Ns builtinsNs mb) (hbb : ∀ x : Str, x ≠ "__name__" → mb x = bootBuiltins x) (hlim : s₁.heap.NoLimit) (hg : s₁.gens = #[])
    (ha : s₁.heap.get? a = some { cls := .type "list", data := .seq vs.toArray }) (hi : IntsAre vs ns) (hl : ns.length ≤ sizeLine) (hr : Room k callerA)
    (F : ∀ base : Heap, K.In base → base.Ns mainGlobals mg → FnOk P w K mg base CX k fa fd [x] sp) (hbind : ∀ (s : Shared) (u : Value), BindsTo s fd ⟨[u], []⟩ [(x, u)])
    (hsp : ∀ H : Hp, Only H → SqL K H a (ns.map V.int) → sp [.ref a] H (fun v _ => v = .bl true) fun _ _ _ => False)
    (hCX : ∀ H e s', CX [] H s₁ (fun _ _ _ => False) e s' → False) :
    codeAny (model P w) callerA (.call (.ref fa) ⟨[.ref a], []⟩) (fun r s' => r = .ok (.ret (.bool true)) ∧ OldK s₁.heap s'.heap ∧ s'.os = s₁.os ∧ AllBare s'.gens) s₁ := by
  have rv := vals_ints hi
  have lenV := hi.length
  -- from an abstract heap in which nothing but the script may be tracked
  have core : ∀ H : Hp, Only H → SqL K H a (ns.map V.int) → HOk P w H s₁.heap → (∀ b, H b ≠ none → b = a) → (H a ≠ none → K.lookup a = none) →
      codeAny (model P w) callerA (.call (.ref fa) ⟨[.ref a], []⟩) (fun r s' => r = .ok (.ret (.bool true)) ∧ OldK s₁.heap s'.heap ∧ s'.os = s₁.os ∧ AllBare s'.gens) s₁ := by
    intro H hO hS hok hA hK
    have base_of : ∀ {b : Addr} {o : Obj}, s₁.heap.get? b = some o → H b = none → (hidT s₁.heap H).get? b = some o := fun e n => hidT_get e n
    have noA : ∀ {b : Addr} {o : Obj} {es : Array DictEntry} {ep : Nat}, s₁.heap.get? b = some o → o.data = .dict es ep → H b = none := fun {b o es ep} e d => by
      cases q : H b with
      | none => rfl
      | some u =>
        have e' : b = a := hA b (by rw [q]; simp)
        subst e'
        rw [ha] at e; cases e
        have d' : Data.seq vs.toArray _ = Data.dict es ep := d
        cases d'
    have nsK : ∀ {b : Addr} {m : Str → Option Value}, s₁.heap.Ns b m → (hidT s₁.heap H).Ns b m := fun {b m} ⟨o, es, ep, e, d, r⟩ => ⟨o, es, ep, base_of e (noA e d), d, r⟩
    have hKb : K.In (hidT s₁.heap H) := fun b o e => base_of (KX b o e) (by
      cases q : H b with
      | none => rfl
      | some u =>
        have e' : b = a := hA b (by rw [q]; simp)
        subst e'
        rw [hK (by rw [q]; simp)] at e; cases e)
    have hM : Mod K mg (hidT s₁.heap H) := ⟨hKb, nsK hns, ⟨mb, nsK hb, hbb⟩, let ⟨mc, h1, h2⟩ := hlim; ⟨mc, nsK h1, h2⟩⟩
    have e0 : Env0 P w K mg (hidT s₁.heap H) callerA [] s₁ H := ⟨rfl, hM, fun b o e => of_hidT e, Nat.le_of_eq (hidT_size _ _), trivial, fun b hb => absurd (show b ∈ ([] : List Addr) from hb) (by simp), hok, .of_eq hg⟩
    refine codeAny_mono ((F _ hKb (nsK hns)).run callerA [] s₁ H ⟨[.ref a], []⟩ [.ref a] [.ref a] _ _ hr e0 (hbind s₁ (.ref a)) (.cons rfl .nil) (hsp H hO hS)) fun r s' h => ?_
    cases r with
    | error e => exact (hCX H e s' h).elim
    | ok fl =>
      cases fl with
      | next => exact False.elim h
      | brk => exact False.elim h
      | cont => exact False.elim h
      | ret u =>
        obtain ⟨v, H', os, bare, un, hok', r', q⟩ := h
        have q' : v = .bl true := q
        subst q'
        obtain rfl : u = Value.bool true := r'
        refine ⟨rfl, OldK.of_keep fun b o e => ?_, os, bare⟩
        cases q : H b with
        | none => exact un.keep b o e q (by intro z; exact absurd (show b ∈ ([] : List Addr) from z) (by simp)) (by simp)
        | some u =>
          rcases hO b with z | ⟨ob, xs, z⟩
          · rw [q] at z; cases z
          · have z2 := un.frzs b ob _ z
            obtain ⟨e1, _⟩ := hok b _ z
            obtain ⟨e2, _⟩ := hok' b _ z2
            rw [e] at e1; cases e1
            exact e2
  cases hk : K.lookup a with
  | some o =>
    -- the script is one of the module's own objects
    have e := KX a o hk
    rw [ha] at e
    cases e
    refine core (fun _ => none) (fun _ => .inl rfl) (.inr ⟨_, vs.toArray, _, hk, rfl, rfl, rfl, by rw [List.size_toArray, lenV]; exact hl, by simpa using rv⟩) (fun b u z => by have z' : (none : Option HO) = some u := z; cases z') (fun b z => absurd rfl z) fun z => absurd rfl z
  | none =>
    refine core (fun b => if b = a then some (.frz { cls := .type "list", data := .seq vs.toArray } (.lst (ns.map V.int))) else none) (fun b => ?_) (.inl (.inr ⟨{ cls := .type "list", data := .seq vs.toArray }, if_pos rfl⟩)) (fun b u z => ?_) (fun b z => ?_) fun _ => hk
    · by_cases hb : b = a
      · exact .inr ⟨_, _, if_pos hb⟩
      · exact .inl (if_neg hb)
    · by_cases hb : b = a
      · have z' := (if_pos hb).symm.trans z
        cases z'
        subst hb
        exact ⟨ha, by rw [List.length_map]; exact hl, vs, _, rv, ha⟩
      · have z' := (if_neg hb).symm.trans z
        cases z'
    · by_cases hb : b = a
      · exact hb
      · exact absurd (if_neg hb) z
end L2
namespace L2
open PySem PySem.Spec PyProof.Rows
theorem walk_of {l : PySem.W.OpenLaw} {n k : Nat} {q : Program} {loose : List Str} {XP : (Str → Option Value) → Heap → Prop} {YP : World → Heap → Prop} {d : DefRec} {K : Params → PySem.W.Frag} {CX : World → CXT} {sp : World → Sp} {x : Str}
    (hn : l.most = some n) (hn2 : n ≤ sizeLine) (hdf : d.params.defaults = []) (hr : Room k callerA)
    (hY : ∀ (w : World) (h : Heap), YP w h → (K w.params).In h)
    (F : ∀ (w : World) (mg : Str → Option Value) (fa : Addr) (h : Heap), (K w.params).In h → h.Ns mainGlobals mg → mg d.name = some (.ref fa) →
      ∃ fd : FuncData, (∀ (s : Shared) (u : Value), BindsTo s fd ⟨[u], []⟩ [(x, u)]) ∧
        ∀ base : Heap, (K w.params).In base → base.Ns mainGlobals mg → FnOk l.prog w (K w.params) mg base (CX w) k fa fd [x] (sp w))
    (hsp : ∀ (w : World) (H : Hp) (a : Addr) (ns : List Int), ns.length ≤ n → Only H → SqL (K w.params) H a (ns.map V.int) → sp w [.ref a] H (fun v _ => v = .bl true) fun _ _ _ => False)
    (hCX : ∀ (w : World) (H : Hp) (s : Shared) (e : Value) (s' : Shared), CX w [] H s (fun _ _ _ => False) e s' → False) :
    PySem.W.WalkO q loose XP YP l.row.toRowW d [] (fun f vs => PySem.call f vs) := by
  refine Att.attach_call hn hdf fun w s₀ s₁ mg mb fa o pm cd doc a vs ns G Y ho hd hcd hmg hobj hints hlen hg => ?_
  have KX := hY w _ Y
  obtain ⟨fd, hb, hF⟩ := F w mg fa _ KX G.T.g hmg
  exact law_call KX G.T.g G.T.b G.T.builtins G.T.nolimit hg hobj hints (Nat.le_trans hlen hn2) hr hF hb (fun H hO hS => hsp w H a ns hlen hO hS) fun H e s' => hCX w H s₁ e s'
end L2
namespace L2
open PySem PySem.Spec PyProof.Rows
def defArgs (s : Stmt) : Arguments := match s with
  | .FunctionDef _ a _ _ _ _ _ _ _ _ => a
  | _ => { posonlyargs := [], args := [], vararg := none, kwonlyargs := [], kw_defaults := [], kwarg := none, defaults := [] }
def defBody (s : Stmt) : List Stmt := match s with
  | .FunctionDef _ _ b _ _ _ _ _ _ _ => b
  | _ => []
def defScope (s : Stmt) : Scope := match s with
  | .FunctionDef _ _ _ _ _ _ sc _ _ _ => sc
  | _ => { kind := .function, names := [], isGenerator := false, isCoroutine := false }
abbrev CX0 : CXT := fun _ _ _ _ _ _ => False
abbrev E0 : XK := fun _ _ _ => False
theorem pass0 {X : Cx} : Passes CX0 X E0 := fun _ _ _ _ _ _ _ h => h.elim
structure Fun (K : PySem.W.Frag) (x qual : Str) (st : Stmt) (f : Addr) (fd : FuncData) : Prop where
  ex : ∃ (oc : Value) (od : Option Addr) (kV doc pm : Value) (an : Option Addr) (cdv ct : Value) (osl : Array (Option Value)),
    fd = PySem.W.fnOf x qual (defArgs st) (defBody st) (defScope st) .none kV doc pm an cdv ct ∧ K.lookup f = some ⟨oc, od, .func fd, osl⟩ ∧ PySem.W.codeIn K cdv qual = true
  kp : PySem.W.keepIn K (.ref f) = true
section
variable {P : Program} {w : World} {K : PySem.W.Frag} {mg : Str → Option Value} {base : Heap}
theorem Fun.ok {x qual : Str} {st : Stmt} {f : Addr} {fd : FuncData} {N ps : List Str} {k : Nat} {sp : Sp} (F : Fun K x qual st f fd) (S : FnScope N ps (defScope st)) (len : ∀ vs H Q E, sp vs H Q E → vs.length = ps.length)
    (hbody : ∀ (cdv : Value) (A : Around) (outer : List Env) (s : Shared) (H : Hp) (vs : List V) (Q : VK) (E : XK), Room k (A.deeper (envOfC qual (defScope st) s.heap.objs.size f cdv)) → sp vs H Q E →
      ∃ t, PSs (cxOf CX0 P w K mg base N qual (defScope st) f cdv A outer s H E).nox (defBody st) t ∧ t { nx := fun _ H' => Q .non H', rt := Q } (start N vs) H) : FnOk P w K mg base CX0 (k + 1) f fd ps sp := by
  obtain ⟨oc, od, kV, doc, pm, an, cdv, ct, osl, rfl, lk, hcd⟩ := F.ex
  refine fn_of lk hcd S len fun A outer s H vs Q E hr hsp => ?_
  obtain ⟨t, h, q⟩ := hbody cdv A outer s H vs Q E hr hsp
  exact ⟨t, h.nox, q⟩
theorem Fun.binds {x qual : Str} {st : Stmt} {f : Addr} {fd : FuncData} {ps : List Str} (F : Fun K x qual st f fd)
    (h : ∀ (kV doc pm : Value) (an : Option Addr) (cdv ct : Value) (us : List Value), us.length = ps.length → bindArgs (PySem.W.fnOf x qual (defArgs st) (defBody st) (defScope st) .none kV doc pm an cdv ct) ⟨us, []⟩ = pure (ps.zip us)) : Binds K fd ps [] := by
  obtain ⟨oc, od, kV, doc, pm, an, cdv, ct, osl, rfl, lk, hcd⟩ := F.ex
  exact .all (h kV doc pm an cdv ct)
theorem fun_mk {x qual : Str} {st : Stmt} {f : Addr} {oc : Value} {od an : Option Addr} {osl : Array (Option Value)} {kV doc pm cdv ct : Value} (l : K.lookup f = some ⟨oc, od, .func (PySem.W.fnOf x qual (defArgs st) (defBody st) (defScope st) .none kV doc pm an cdv ct), osl⟩)
    (c : PySem.W.codeIn K cdv qual = true) (k : PySem.W.keepIn K (.ref f) = true) : Fun K x qual st f (PySem.W.fnOf x qual (defArgs st) (defBody st) (defScope st) .none kV doc pm an cdv ct) := ⟨⟨oc, od, kV, doc, pm, an, cdv, ct, osl, rfl, l, c⟩, k⟩
end
theorem hu_of {A : Around} {k : Nat} (hr : Room k A) : A.units + 1 < cLine := Nat.lt_of_le_of_lt (Nat.add_le_add_left (by decide : 1 ≤ 64) _) hr.units
section
variable {X : Cx}
theorem pv (i : Nat) {x : Str} {pos : Pos} (hN : X.N[i]? = some x := by rfl) (hv : Vis X.env.scope x := by first | exact Or.inl rfl | exact Or.inr (Or.inl rfl) | exact Or.inr (Or.inr rfl)) (hd : (x == ("__debug__" : Str)) = false := by decide)
    (hcd : (x == ("__classdict__" : Str)) = false := by decide) : PE X (.Name x pos) (tVar i) := pe_var hN hv hd hcd
end
theorem iteF {A B : Prop} (h : B) : if false = true then A else B := by
  rw [if_neg Bool.false_ne_true]
  exact h
theorem iteT {A B : Prop} (h : A) : if true = true then A else B := by
  rw [if_pos rfl]
  exact h
theorem ite2 {c A B : Prop} [Decidable c] (h1 : c → A) (h2 : ¬ c → B) : if c then A else B := by
  by_cases h : c
  · rw [if_pos h]
    exact h1 h
  · rw [if_neg h]
    exact h2 h
theorem iteNS {c A B : Prop} [Decidable c] (hc : c) (h : B) : if (!decide c) = true then A else B := by
  rw [decide_eq_true hc]
  exact iteF h
def Same (H H' : Hp) : Prop := ∀ b o, H b = some o → H' b = some o
theorem Same.refl (H : Hp) : Same H H := fun _ _ h => h
theorem Same.trans {H H1 H2 : Hp} (a : Same H H1) (b : Same H1 H2) : Same H H2 := fun c o h => b c o (a c o h)
theorem Same.free {H H' : Hp} (e : Same H H') {l : Addr} (h : H' l = Option.none) : H l = Option.none := by
  cases q : H l with
  | none => rfl
  | some o =>
    rw [e l o q] at h
    cases h
theorem Same.seq {K : PySem.W.Frag} {H H' : Hp} {a : Addr} {xs : List V} (e : Same H H') (h : SqL K H a xs) : SqL K H' a xs := by
  rcases h with (h | ⟨o, h⟩) | h
  · exact .inl (.inl (e _ _ h))
  · exact .inl (.inr ⟨o, e _ _ h⟩)
  · exact .inr h
end L2
namespace L2
open PySem PySem.Spec PyProof.Rows
section
variable {X : Cx}
end
section
variable {κ : Type} [DecidableEq κ]
end
end L2
set_option Elab.async false
set_option linter.all false
set_option maxRecDepth 100000
set_option maxHeartbeats 4000000
namespace L2
open PySem PySem.Spec PyProof.Rows
section
variable {X : Cx} {pins : List (Addr × Obj)} {σ : St} {H : Hp} {s : Shared} {h' : Heap}
theorem Inv.adopt {D : Addr} {o : HO} (I : Inv X pins σ H s) (hn : H D = none) (hL : D ≠ X.env.locals) (h0 : X.s₀.heap.objs.size ≤ D)
    (hc : ∀ x c, X.env.cells.lookup x = some c → c ≠ D) (hp : ∀ p ∈ X.pn ++ pins, p.1 ≠ D) (new : ObjOk X.prog X.w (upd H D o) s.heap D o) : Inv X pins σ (upd H D o) s := by
  have ne : ∀ b u, H b = some u → b ≠ D := fun b u e => ne_of_none e hn
  refine ⟨I.ok, I.os, I.bare, ⟨I.base.keep, I.base.slot, fun b u e n hx => ?_, I.base.there, fun b xs e => ?_, fun b u v e => ?_, fun b ps e => ?_⟩, I.loc, I.cell, ?_, fun x c e => ?_, fun p hp' => ?_, fun b u e => ?_, I.len⟩
  · rw [upd_ne (Nat.ne_of_lt (Nat.lt_of_lt_of_le (Heap.lt_size e) h0))]; exact I.base.free b u e n hx
  · have q := I.base.tups b xs e
    rw [upd_ne (ne _ _ q)]; exact q
  · have q := I.base.frzs b u v e
    rw [upd_ne (ne _ _ q)]; exact q
  · obtain ⟨m, q⟩ := I.base.tbls b ps e
    exact ⟨m, by rw [upd_ne (ne _ _ q)]; exact q⟩
  · rw [upd_ne (Ne.symm hL)]; exact I.free
  · rw [upd_ne (hc x c e)]; exact I.freeC x c e
  · obtain ⟨e, n, r⟩ := I.pin p hp'
    exact ⟨e, by rw [upd_ne (hp p hp')]; exact n, r⟩
  · by_cases hb : b = D
    · subst hb; rw [upd_same] at e; cases e; exact new
    · rw [upd_ne hb] at e
      exact (I.hok b u e).stay (fun _ _ _ q => q) (fun c q => by rw [upd_ne (ne _ _ q)]; exact q) fun c xs q => by rw [upd_ne (ne _ _ q)]; exact q
theorem Inv.turns {t' : Nat} {ch : List Addr} (I : Inv X pins σ H s) (k : ∀ b o, b ∉ ch → s.heap.get? b = some o → h'.get? b = some o) (hf : ∀ b ∈ ch, FpOk X pins H b) :
    Inv X pins σ H { s with heap := h', toks := t' } := by
  have nit : ∀ b u, H b = some u → b ∉ ch := fun b u e z => by rw [(hf b z).1] at e; cases e
  refine I.step (g' := s.gens) (d' := s.drawn) (ch := ch) (fun b hb => ?_) (fun b o _ _ hc e _ => k b o hc e) (fun b o _ _ hc e _ => ⟨o.slots, k b o hc e⟩) (fun _ _ _ _ n => n)
    (fun b o hc e => ⟨o, k b o hc e⟩) (fun _ _ e => e) (fun _ _ _ e => e) (fun b ps e => ⟨#[], by rw [e]; simp⟩) (fun m hm => ?_) (fun b u e => ?_) I.bare
  · obtain ⟨f0, f1, f2, f3, f4, f5⟩ := hf b hb
    exact ⟨f3, f1, f4, f5⟩
  · obtain ⟨o, es, ep, ho, r⟩ := hm
    exact ⟨o, es, ep, k _ o (fun z => (hf _ z).2.1 rfl) ho, r⟩
  · refine (I.hok b u e).stay (fun c v hc q => k c v ?_ q) (fun _ q => q) fun _ _ q => q
    rcases hc with z | z
    · rw [z]; exact nit b u e
    · exact nit c _ z
end
theorem closure_go {env : Env} (f : Str × NameKind → List (Str × Addr) → Sem (ForInStep (List (Str × Addr))))
    (hf : ∀ name kind cs, f (name, kind) cs = if kind == .free then (do let a ← cellOf env name; pure (.yield ((name, a) :: cs))) else pure (.yield cs)) :
    ∀ (names : List (Str × NameKind)) (cs : List (Str × Addr)), (∀ n, (n, NameKind.free) ∈ names → ∃ c, env.cells.lookup n = some c) → (∀ x c, cs.lookup x = some c → env.cells.lookup x = some c) →
      ∃ cl, forIn names cs f = pure cl ∧ (∀ x c, cl.lookup x = some c → env.cells.lookup x = some c) ∧ (∀ x, (∃ c, cs.lookup x = some c) ∨ (x, NameKind.free) ∈ names → ∃ c, cl.lookup x = some c)
  | [], cs, _, h => ⟨cs, rfl, h, fun x hx => hx.elim (fun z => z) fun z => nomatch z⟩
  | (n, k) :: r, cs, hn, h => by
    by_cases hk : k = .free
    · subst hk
      obtain ⟨c, hc⟩ := hn n List.mem_cons_self
      obtain ⟨cl, e, h1, h2⟩ := closure_go f hf r ((n, c) :: cs) (fun m hm => hn m (List.mem_cons_of_mem _ hm)) (fun x d hx => by
        by_cases hxn : x = n
        · subst hxn
          rw [List.lookup_cons, beq_self_eq_true] at hx
          cases hx
          exact hc
        · rw [List.lookup_cons, beq_eq_false_iff_ne.mpr hxn] at hx
          exact h x d hx)
      refine ⟨cl, ?_, h1, fun x hx => ?_⟩
      · rw [List.forIn_cons, hf]
        have e1 : cellOf env n = pure c := by unfold cellOf; rw [hc]
        rw [e1]
        exact e
      · rcases hx with ⟨d, hd⟩ | hx
        · refine h2 x (.inl ?_)
          by_cases hxn : x = n
          · subst hxn
            exact ⟨c, by rw [List.lookup_cons, beq_self_eq_true]⟩
          · exact ⟨d, by rw [List.lookup_cons, beq_eq_false_iff_ne.mpr hxn]; exact hd⟩
        · rcases List.mem_cons.mp hx with e2 | hx
          · obtain rfl : x = n := (Prod.mk.inj e2).1
            exact h2 x (.inl ⟨c, by rw [List.lookup_cons, beq_self_eq_true]⟩)
          · exact h2 x (.inr hx)
    · have hkb : (k == NameKind.free) = false := beq_eq_false_iff_ne.mpr hk
      obtain ⟨cl, e, h1, h2⟩ := closure_go f hf r cs (fun m hm => hn m (List.mem_cons_of_mem _ hm)) h
      refine ⟨cl, ?_, h1, fun x hx => h2 x ?_⟩
      · rw [List.forIn_cons, hf, hkb]
        exact e
      · rcases hx with hx | hx
        · exact .inl hx
        · rcases List.mem_cons.mp hx with e2 | hx
          · cases e2
            exact absurd rfl hk
          · exact .inr hx
theorem closure_of {env : Env} {scope : Scope} (hn : ∀ n, (n, NameKind.free) ∈ scope.names → ∃ c, env.cells.lookup n = some c) :
    ∃ cl, closureFor scope env = pure cl ∧ (∀ x c, cl.lookup x = some c → env.cells.lookup x = some c) ∧ ∀ x, (x, NameKind.free) ∈ scope.names → ∃ c, cl.lookup x = some c := by
  obtain ⟨cl, e, h1, h2⟩ := closure_go (env := env) (fun x cs => match x with | (name, kind) => if kind == .free then (do let a ← cellOf env name; pure (.yield ((name, a) :: cs))) else pure (.yield cs)) (fun _ _ _ => rfl) scope.names [] hn (fun x c z => nomatch z)
  refine ⟨cl, ?_, h1, fun x hx => h2 x (.inr hx)⟩
  unfold closureFor
  exact Eq.trans (congrArg (fun t : Sem (List (Str × Addr)) => t >>= fun r => pure r) e) rfl
end L2
set_option Elab.async false
set_option linter.all false
set_option maxRecDepth 100000
set_option maxHeartbeats 4000000
namespace L2
open PySem PySem.Spec PyProof.Rows
def compOk (sc scope : Scope) : Bool :=
  decide (scope.kind = .function) && (scope.names.all (fun p => decide (p.2 ≠ .cell)) && (scope.names.all (fun p => decide (p.2 = .local → scope.names.lookup p.1 = some .local)) &&
  scope.names.all (fun p => decide (p.2 = .free → (sc.names.lookup p.1 = some .cell ∨ sc.names.lookup p.1 = some .free)))))
def frOk (N : List Str) (scope : Scope) (fr : List (Str × Nat)) : Bool := fr.all fun p => decide (N[p.2]? = some p.1) && decide (scope.names.lookup p.1 = some .free)
structure CompOk (sc scope : Scope) : Prop where
  kind : scope.kind = .function
  cell : ∀ p ∈ scope.names, p.2 ≠ .cell
  loc : ∀ p ∈ scope.names, p.2 = .local → scope.names.lookup p.1 = some .local
  free : ∀ n, (n, NameKind.free) ∈ scope.names → sc.names.lookup n = some .cell ∨ sc.names.lookup n = some .free
theorem compOk_of {sc scope : Scope} (h : compOk sc scope = true) : CompOk sc scope := by
  unfold compOk at h
  rw [Bool.and_eq_true, Bool.and_eq_true, Bool.and_eq_true, List.all_eq_true, List.all_eq_true, List.all_eq_true] at h
  obtain ⟨h1, h2, h3, h4⟩ := h
  exact ⟨of_decide_eq_true h1, fun p hp => of_decide_eq_true (h2 p hp), fun p hp => of_decide_eq_true (h3 p hp), fun n hn => of_decide_eq_true (h4 (n, .free) hn) rfl⟩
theorem lookup_mem {α : Type} {x : Str} {v : α} : ∀ {l : List (Str × α)}, l.lookup x = some v → (x, v) ∈ l
  | [], h => nomatch h
  | (n, k) :: r, h => by
    rw [List.lookup_cons] at h
    by_cases hx : x = n
    · subst hx
      rw [beq_self_eq_true] at h
      cases h
      exact List.mem_cons_self
    · rw [beq_eq_false_iff_ne.mpr hx] at h
      exact List.mem_cons_of_mem _ (lookup_mem h)
theorem relabel_lookup {env : Env} {x : Str} : ∀ {names : List (Str × NameKind)} {k : NameKind},
    (names.map fun (n, k) => if (k == NameKind.free && env.scope.kind == .function && env.kindOf n == some .cell) then (n, NameKind.cell) else (n, k)).lookup x = some k →
    (k = .cell ∧ ((x, NameKind.free) ∈ names ∨ (x, NameKind.cell) ∈ names)) ∨ (x, k) ∈ names
  | [], _, h => nomatch h
  | (n, j) :: r, k, h => by
    have ih := @relabel_lookup env x r k
    rw [List.map_cons] at h
    by_cases hc : (j == NameKind.free && env.scope.kind == .function && env.kindOf n == some .cell) = true
    · simp only [hc, if_true] at h
      rw [List.lookup_cons] at h
      by_cases hx : x = n
      · subst hx
        rw [beq_self_eq_true] at h
        cases h
        have hj : j = .free := by
          rw [Bool.and_eq_true, Bool.and_eq_true] at hc
          exact beq_iff_eq.mp hc.1.1
        subst hj
        exact .inl ⟨rfl, .inl List.mem_cons_self⟩
      · rw [beq_eq_false_iff_ne.mpr hx] at h
        rcases ih h with ⟨e, z | z⟩ | z
        · exact .inl ⟨e, .inl (List.mem_cons_of_mem _ z)⟩
        · exact .inl ⟨e, .inr (List.mem_cons_of_mem _ z)⟩
        · exact .inr (List.mem_cons_of_mem _ z)
    · simp only [hc] at h
      rw [if_neg Bool.false_ne_true, List.lookup_cons] at h
      by_cases hx : x = n
      · subst hx
        rw [beq_self_eq_true] at h
        cases h
        exact .inr List.mem_cons_self
      · rw [beq_eq_false_iff_ne.mpr hx] at h
        rcases ih h with ⟨e, z | z⟩ | z
        · exact .inl ⟨e, .inl (List.mem_cons_of_mem _ z)⟩
        · exact .inl ⟨e, .inr (List.mem_cons_of_mem _ z)⟩
        · exact .inr (List.mem_cons_of_mem _ z)
theorem relabel_free {env : Env} {x : Str} : ∀ {names : List (Str × NameKind)}, names.lookup x = some .free →
    (names.map fun (n, k) => if (k == NameKind.free && env.scope.kind == .function && env.kindOf n == some .cell) then (n, NameKind.cell) else (n, k)).lookup x = some .cell ∨
    (names.map fun (n, k) => if (k == NameKind.free && env.scope.kind == .function && env.kindOf n == some .cell) then (n, NameKind.cell) else (n, k)).lookup x = some .free
  | [], h => nomatch h
  | (n, j) :: r, h => by
    have ih := @relabel_free env x r
    rw [List.map_cons]
    rw [List.lookup_cons] at h
    by_cases hx : x = n
    · subst hx
      rw [beq_self_eq_true] at h
      cases h
      by_cases hc : (NameKind.free == NameKind.free && env.scope.kind == .function && env.kindOf x == some .cell) = true
      · simp only [hc, if_true]
        rw [List.lookup_cons, beq_self_eq_true]
        exact .inl rfl
      · simp only [hc]
        rw [if_neg Bool.false_ne_true, List.lookup_cons, beq_self_eq_true]
        exact .inr rfl
    · rw [beq_eq_false_iff_ne.mpr hx] at h
      by_cases hc : (j == NameKind.free && env.scope.kind == .function && env.kindOf n == some .cell) = true
      · simp only [hc, if_true]
        rw [List.lookup_cons, beq_eq_false_iff_ne.mpr hx]
        exact ih h
      · simp only [hc]
        rw [if_neg Bool.false_ne_true, List.lookup_cons, beq_eq_false_iff_ne.mpr hx]
        exact ih h
end L2
set_option Elab.async false
set_option linter.all false
set_option maxRecDepth 100000
set_option maxHeartbeats 4000000
namespace L2
open PySem PySem.Spec PyProof.Rows
theorem compLoop_go {prog : Program} {w : World} {A : Around} {R : Result → Shared → Prop} {s : Shared} {elt target iter : Expr} {ifs : List Expr} {scope : Scope} {pos : Pos} {it acc : Value} {env : Env} (EW : Value → Shared → Prop) (hE : ∀ x s', EW x s' → notedBy (model prog w) A env (fun y s'' => R (.error y) s'') x s') (I : Nat → Shared → Prop)
    (turn : ∀ n s, I n s → wpAny (model prog w) A (pyNext it) (fun r s₁ => match r with
      | none => R (.ok .next) s₁
      | some v => wpAny (model prog w) A (letOwnedTupleGo target it v) (fun _ s₀ => wpAny (model prog w) A (assign target env v) (fun _ s₂ =>
          wpAny (model prog w) A (forIn ifs true fun c r => if r = true then do let ok ← isTrue c env (eval c env); pure (ForInStep.yield ok) else pure (ForInStep.yield r)) (fun ok s₃ =>
            if ok = true then wpAny (model prog w) A (eval elt env) (fun x s₄ =>
              wpAny (model prog w) A (call (.builtin "list.append") [acc, x]) (fun _ s₅ => ∃ m, m < n ∧ I m s₅) (fun _ _ => False) s₄) EW s₃
            else ∃ m, m < n ∧ I m s₃) EW s₂) EW s₀) (fun _ _ => False) s₁) (fun _ _ => False) s)
    (n : Nat) (h : I n s) : codeAny (model prog w) A (.compLoop (.ListComp elt [⟨target, iter, ifs, 0⟩] scope pos) 0 it acc env) R s := by
  refine codeAny_loop rfl I (fun n s hI => ?_) n h
  show wpAny _ A ((compTurn (.ListComp elt [⟨target, iter, ifs, 0⟩] scope pos) 0 it acc env).onRaise (fun x => do noteFrame x env; theTreesLotGoes x)) _ _ s
  refine wpAny_noted ?_
  rw [compTurn_list]
  refine wpAny_bind (wpAny_standAt (wpAny_bind (wpAny_mono (turn n s hI) (fun r s₁ h₁ => ?_) fun _ _ h' => h'.elim)))
  cases r with
  | none => exact wpAny_pure h₁
  | some v =>
    refine wpAny_bind (wpAny_mono h₁ (fun _ s₀ h₀ => ?_) fun _ _ h' => h'.elim)
    refine wpAny_bind (wpAny_mono h₀ (fun _ s₂ h₂ => wpAny_bind (wpAny_mono h₂ (fun ok s₃ h₃ => ?_) hE)) hE)
    cases ok with
    | false => exact wpAny_pure ⟨rfl, h₃⟩
    | true =>
      exact wpAny_bind (wpAny_bind (wpAny_mono h₃ (fun x s₄ h₄ => wpAny_bind (wpAny_mono h₄ (fun _ s₅ h₅ => wpAny_pure (wpAny_pure ⟨rfl, h₅⟩)) fun _ _ h' => h'.elim)) hE))
def cxComp (X : Cx) (scope : Scope) (N : List Str) (cl : List (Str × Addr)) (C : Addr) (s : Shared) (H : Hp) (fp : List Addr) (pins : List (Addr × Obj)) : Cx where
  prog := X.prog
  w := X.w
  K := X.K
  mg := X.mg
  base := X.base
  A := X.A
  N := N
  s₀ := s
  H₀ := H
  env := compEnvC scope cl C X.env
  outer := X.stack
  stack := X.stack
  ex := fp
  fn := fun _ => false
  calm := X.calm
  pn := X.pn ++ pins
  xe := fun _ _ => False
def PTs (Y : Cx) (ifs : List Expr) (tc : TT) : Prop :=
  ∀ (pins : List (Addr × Obj)) (s : Shared) (σ : St) (H : Hp) (Q : Bool → Hp → Prop), Inv Y pins σ H s → tc σ H Q →
    wpAny (model Y.prog Y.w) Y.A (forIn ifs true fun c r => if r = true then do let ok ← isTrue c Y.env (eval c Y.env); pure (ForInStep.yield ok) else pure (ForInStep.yield r)) (TP Y pins σ Q) Y.xe s
def tNoIf : TT := fun _ H Q => Q true H
theorem pts_nil {Y : Cx} : PTs Y [] tNoIf := fun pins s σ H Q I h => wpAny_tests_nil ⟨H, I, h⟩
def OwnG (n : Nat) (g : TG) : Prop := ∀ v σ H (Q Q' : St → Hp → Prop), (∀ σ2 H2, Q σ2 H2 → σ2.length = σ.length → (∀ j, n ≤ j → σ2[j]? = σ[j]?) → Q' σ2 H2) → g v σ H Q → g v σ H Q'
theorem own_name {n i : Nat} (h : i < n) : OwnG n (gName i) := fun v σ H Q Q' f q => f _ _ q (by simp) fun j hj => List.getElem?_set_ne (by omega)
structure CompR (Y : Cx) (tg : Expr) (ifs : List Expr) (elt : Expr) (g : TG) (tc : TT) (te : TE) : Prop where
  tg : PG Y tg g
  ts : PTs Y ifs tc
  el : PE Y elt te
def stC (n : Nat) (fr : List (Str × Nat)) (σ : St) : St := List.replicate n none ++ fr.map fun p => (σ[p.2]?).join
def tTurns (n : Nat) (fr : List (Str × Nat)) (g : TG) (tc : TT) (te : TE) (σ : St) (J : It) (H : Hp) (F : List V → Hp → Prop) : Prop :=
  ∃ W : Nat → Nat → List V → Hp → Prop, (∃ m, W 0 m [] H) ∧ ∀ i m ys H, W i m ys H →
    (J.stop i H ∧ F ys H) ∨ (J.go i H ∧ ∃ Nx : List V → Hp → Prop, (∀ ys' H', Nx ys' H' → ∃ m', m' < m ∧ W (i + 1) m' ys' H') ∧ ∀ x H', J.yld i H x H' → g x (stC n fr σ) H' fun σ2 H2 => tc σ2 H2 fun b H3 =>
      if b = true then te σ2 H3 fun y H4 => ys.length < sizeLine ∧ Nx (ys ++ [y]) H4 else Nx ys H3)
def tComp (n : Nat) (fr : List (Str × Nat)) (wi : TI) (g : TG) (tc : TT) (te : TE) : TE := fun σ H Q => wi σ H fun J H1 => tTurns n fr g tc te σ J H1 fun ys H2 => ∀ p, H2 p = none → Q (.ref p) (upd H2 p (.lst ys))
abbrev lobj (its : List Value) (n : Nat) : Obj := { cls := .type "list", data := .seq its.toArray n }
section
variable {X : Cx} {elt iter tg : Expr} {ifs : List Expr} {scope sc : Scope} {pos : Pos} {own N : List Str} {fr : List (Str × Nat)} {g : TG} {tc : TT} {te : TE} {wi : TI}
theorem comp_cxok {pins : List (Addr × Obj)} {σ : St} {H : Hp} {s : Shared} {cl : List (Str × Addr)} {C : Addr} {fp : List Addr} {N' : List Str} (I : Inv X pins σ H s) (ho : CompOk X.env.scope scope)
    (h1 : ∀ x c, cl.lookup x = some c → X.env.cells.lookup x = some c) (h2 : ∀ x, (x, NameKind.free) ∈ scope.names → ∃ c, cl.lookup x = some c) (hf : ∀ b ∈ fp, FpOk X pins H b) (hlt : ∀ b ∈ fp, b < s.heap.objs.size) (hC : s.heap.objs.size ≤ C) :
    (cxComp X scope N' cl C s H fp pins).Ok where
  mod := I.ok.mod
  kind := ho.kind
  glob := I.ok.glob
  blt := I.ok.blt
  above := hC
  inj := fun x y c e1 e2 => I.ok.inj x y c (h1 x c e1) (h1 y c e2)
  has := fun x hx => by
    have go : ∀ k, (k = .cell ∨ k = .free) → (relabel scope X.env).names.lookup x = some k → ∃ c, cl.lookup x = some c := fun k hk e => by
      rcases relabel_lookup (env := X.env) e with ⟨_, z | z⟩ | z
      · exact h2 x z
      · exact absurd rfl (ho.cell _ z)
      · rcases hk with rfl | rfl
        · exact absurd rfl (ho.cell _ z)
        · exact h2 x z
    rcases hx with hx | hx
    · exact go _ (.inl rfl) hx
    · exact go _ (.inr rfl) hx
  cab := fun x c e => absurd e Bool.false_ne_true
  hd := I.ok.hd
  frames := I.ok.frames
  stk := .inl rfl
  exf := fun b hb => ⟨Nat.ne_of_lt (Nat.lt_of_lt_of_le (hlt b hb) hC), fun x c e => (hf b hb).2.2.2.2.1 x c (h1 x c e)⟩
  bs := I.bs
  bsz := Nat.le_trans I.ok.bsz I.sz
  noex := fun b o e hb => by
    rcases (hf b hb).2.2.2.1 with z | z
    · exact I.ok.noex b o e z
    · exact absurd (Nat.lt_of_lt_of_le (Nat.lt_of_lt_of_le (Heap.lt_size e) I.ok.bsz) z) (Nat.lt_irrefl _)
  exfs := fun b hb z => by
    rcases List.mem_cons.mp (I.stkSub b z) with e | e
    · exact (hf b hb).2.1 e
    · exact (hf b hb).2.2.1 e
  funs := I.stack
  frf := I.stkFree
theorem comp_blockW {pins : List (Addr × Obj)} {σ : St} {H2 : Hp} {s2 : Shared} {cl : List (Str × Addr)} {fp : List Addr} {it : Addr} {tn : Nat → Heap → Prop} {J : It} {F : List V → Hp → Prop} {RR : Value → Addr → Result → Shared → Prop} {E : Value → Shared → Prop}
    (xw : Cx → Value → Shared → Prop) (hcalm : X.calm = true) (ho : CompOk X.env.scope scope) (hfr : ∀ p ∈ fr, X.N[p.2]? = some p.1 ∧ scope.names.lookup p.1 = some .free) (hG : OwnG own.length g)
    (hY : ∀ cl C s H fp pins, CompR ((cxComp X scope (own ++ fr.map (·.1)) cl C s H fp pins).wish (xw (cxComp X scope (own ++ fr.map (·.1)) cl C s H fp pins))) tg ifs elt g tc te)
    (I2 : Inv X pins σ H2 s2) (T : Turn X.prog X.w X.K tg J fp it tn) (st2 : tn 0 s2.heap) (f2 : ∀ b ∈ fp, FpOk X pins H2 b) (rd : tTurns own.length fr g tc te σ J H2 F)
    (h1 : ∀ x c, cl.lookup x = some c → X.env.cells.lookup x = some c) (h2 : ∀ x, (x, NameKind.free) ∈ scope.names → ∃ c, cl.lookup x = some c)
    (fin : ∀ D C s' H' ys its n' m, Inv X pins σ H' s' → FpOk X pins H' D → X.s₀.heap.objs.size ≤ D → s'.heap.get? D = some (lobj its n') → Vals ys its → ys.length ≤ sizeLine → FpOk X pins H' C → X.s₀.heap.objs.size ≤ C → C ≠ D → s'.heap.Ns C m → F ys H' → RR (.ref D) C (.ok .next) s')
    (hE : ∀ D C x s', s2.heap.objs.size ≤ C → xw (cxComp X scope (own ++ fr.map (·.1)) cl C s2 H2 fp pins) x s' → notedBy (model X.prog X.w) X.A (compEnvC scope cl C X.env) (fun y s'' => RR (.ref D) C (.error y) s'') x s') :
    wpAny (model X.prog X.w) X.A (newList []) (fun acc s₃ => wpAny (model X.prog X.w) X.A (newFunctionEnv scope X.env.globals cl [] X.env.qual none .none (some X.env)) (fun cenv s₄ =>
      codeAny (model X.prog X.w) X.A (.compStart (.ListComp elt [⟨tg, iter, ifs, 0⟩] scope pos) 0 (.ref it) acc { cenv with scope := relabel scope X.env }) (RR acc cenv.locals) s₄) E s₃) E s2 := by
  refine wpAny_newObj_type (wpAny_newFunctionEnv ho.cell (by intro y hy; simp at hy) (fun h₁ hns₁ hsb₁ => ?_) ho.kind)
  dsimp only at hns₁ hsb₁ ⊢
  generalize hHH : s2.heap.push { cls := .type "list", dict := none, data := .seq ([] : List Value).toArray } = HH at hns₁ hsb₁ ⊢
  have hC : HH.objs.size = s2.heap.objs.size + 1 := by rw [← hHH, Heap.size_push]
  have hDC : s2.heap.objs.size ≠ HH.objs.size := by rw [hC]; exact Nat.ne_of_lt (Nat.lt_succ_self _)
  have hCle : s2.heap.objs.size ≤ HH.objs.size := by rw [hC]; exact Nat.le_succ _
  have below : ∀ b, b < s2.heap.objs.size → b ≠ HH.objs.size := fun b hb => by rw [hC]; exact Nat.ne_of_lt (Nat.lt_succ_of_lt hb)
  have old : ∀ b o, s2.heap.get? b = some o → h₁.get? b = some o := fun b o e => hsb₁.extBut b o (below b (Heap.lt_size e)) (Heap.get?_push_of_some _ (hHH ▸ Heap.get?_push_of_some _ e))
  have hacc : h₁.get? s2.heap.objs.size = some (lobj [] 0) := hsb₁.extBut _ _ hDC (Heap.get?_push_of_some _ (hHH ▸ Heap.get?_push_size _ rfl))
  have hlt : ∀ b ∈ fp, b < s2.heap.objs.size := fun b hb => by
    obtain ⟨o, e, _⟩ := T.obj 0 _ st2 b hb
    exact Heap.lt_size e
  have okY := comp_cxok (N' := own ++ fr.map (·.1)) I2 ho h1 h2 f2 hlt hCle
  have hD0 : H2 s2.heap.objs.size = none := I2.hok.fresh (Nat.le_refl _)
  have hC0 : H2 HH.objs.size = none := I2.hok.fresh hCle
  have R' := hY cl HH.objs.size s2 H2 fp pins
  have hE' := hE s2.heap.objs.size HH.objs.size
  generalize hYe : cxComp X scope (own ++ fr.map (·.1)) cl HH.objs.size s2 H2 fp pins = Y at okY R' hE'
  -- the cells of the block
  have cellY : ∀ x c, cl.lookup x = some c → ∃ v, h₁.IsCell c v := fun x c e => by
    obtain ⟨v, o, q, d⟩ := I2.cell x c (h1 x c e)
    exact ⟨v, o, old c o q, d⟩
  have pinY : ∀ p ∈ X.pn ++ pins, h₁.get? p.1 = some p.2 ∧ H2 p.1 = none ∧ p.1 ≠ HH.objs.size ∧ p.1 ∉ frs X.stack ∧ ∀ v, p.2.data ≠ .cell v := fun p hp => by
    obtain ⟨e, n, ne, nf, d⟩ := I2.pin p hp
    refine ⟨old _ _ e, n, below _ (Heap.lt_size e), fun z => ?_, d⟩
    rcases List.mem_cons.mp (I2.stkSub _ z) with q | q
    · exact ne q
    · exact nf q
  have I0 : Inv Y [(s2.heap.objs.size, lobj [] 0)] (stC own.length fr σ) H2 { s2 with heap := h₁, toks := s2.toks + ([] : List (Str × Value)).length } := by
    subst hYe
    refine ⟨okY, rfl, I2.bare, Un.kept old, ⟨_, hns₁, fun i x v e1 e2 e3 => ?_⟩, cellY, hC0, fun x c e => I2.freeC x c (h1 x c e), fun p hp => ?_, I2.hok.kept old, ?_⟩
    · -- a slot that is set is a free name's
      have hi : own.length ≤ i := by
        rcases Nat.lt_or_ge i own.length with z | z
        · have q : (stC own.length fr σ)[i]? = some none := by
            unfold stC
            rw [List.getElem?_append_left (by simpa using z), List.getElem?_replicate, if_pos z]
          rw [q] at e2
          cases e2
        · exact z
      have e1' : (fr.map (·.1))[i - own.length]? = some x := by
        have : (own ++ fr.map (·.1))[i]? = some x := e1
        rwa [List.getElem?_append_right hi] at this
      have e2' : (fr.map fun p => (σ[p.2]?).join)[i - own.length]? = some (some v) := by
        unfold stC at e2
        rwa [List.getElem?_append_right (by simpa using hi), List.length_replicate] at e2
      rw [List.getElem?_map] at e1' e2'
      cases hp : fr[i - own.length]? with
      | none => rw [hp] at e1'; cases e1'
      | some p =>
        rw [hp] at e1' e2'
        have ep : p.1 = x := Option.some.inj e1'
        have ev : (σ[p.2]?).join = some v := Option.some.inj e2'
        obtain ⟨hN, hl⟩ := hfr p (List.mem_of_getElem? hp)
        rw [ep] at hN hl
        have hσ : σ[p.2]? = some (some v) := by
          cases q : σ[p.2]? with
          | none => rw [q] at ev; cases ev
          | some y => rw [q] at ev; exact congrArg some ev
        obtain ⟨m, hn, hloc⟩ := I2.loc
        have hk := ho.free x (lookup_mem hl)
        obtain ⟨u, r, l⟩ := hloc p.2 x v hN hσ (by rcases hk with z | z; exact .inr (.inl z); exact .inr (.inr z))
        refine ⟨u, r, ?_⟩
        rcases l with ⟨k, _⟩ | ⟨k, c, ec, hcell⟩
        · rcases hk with z | z
          · have k' : X.env.scope.names.lookup x = some .local := k
            rw [z] at k'; cases k'
          · have k' : X.env.scope.names.lookup x = some .local := k
            rw [z] at k'; cases k'
        · obtain ⟨c', ec'⟩ := h2 x (lookup_mem hl)
          have : c' = c := Option.some.inj ((h1 x c' ec').symm.trans ec)
          subst this
          obtain ⟨o, qo, qd⟩ := hcell
          exact .inr ⟨relabel_free (env := X.env) hl, c', ec', o, old _ _ qo, qd⟩
    · rcases List.mem_append.mp hp with z | z
      · exact pinY p z
      · have ep : p = (s2.heap.objs.size, lobj [] 0) := by simpa using z
        subst ep
        refine ⟨hacc, hD0, hDC, fun z => ?_, fun v z => nomatch z⟩
        rcases List.mem_cons.mp (I2.stkSub _ z) with q | q
        · exact absurd I2.lt (by rw [← q]; exact Nat.lt_irrefl _)
        · exact I2.nofs (Nat.le_refl _) q
    · show (List.replicate own.length none ++ fr.map fun p : Str × Nat => (σ[p.2]?).join).length = (own ++ fr.map (·.1)).length
      simp
  have Yp : Y.prog = X.prog ∧ Y.w = X.w ∧ Y.K = X.K ∧ Y.calm = true ∧ Y.A = X.A ∧ Y.env = compEnvC scope cl HH.objs.size X.env ∧ (Y.xe = fun _ _ => False) := by
    subst hYe
    exact ⟨rfl, rfl, rfl, hcalm, rfl, rfl, rfl⟩
  obtain ⟨y1, y2, y3, y4, y5, y6, y7⟩ := Yp
  have fpY : ∀ {H' : Hp} {its : List Value} {n' : Nat}, (∀ b ∈ fp, H' b = none) → ∀ b ∈ fp, FpOk Y [(s2.heap.objs.size, lobj its n')] H' b := fun {H' its n'} hn b hb => by
    subst hYe
    obtain ⟨f0, f1, f3, f4, f5, f6⟩ := f2 b hb
    refine ⟨hn b hb, below b (hlt b hb), okY.exfs b hb, .inl hb, fun x c e => f5 x c (h1 x c e), fun p hp => ?_⟩
    rcases List.mem_append.mp hp with z | z
    · exact f6 p z
    · have ep : p = (s2.heap.objs.size, lobj its n') := by simpa using z
      subst ep
      exact Nat.ne_of_gt (hlt b hb)
  have hYlen : ∀ {H' : Hp} {s' : Shared} {pl : List (Addr × Obj)} {σ' : St}, Inv Y pl σ' H' s' → σ'.length = (stC own.length fr σ).length → (∀ j, own.length ≤ j → σ'[j]? = (stC own.length fr σ)[j]?) → Inv Y pl (stC own.length fr σ) H' s' := fun I hl hk => by
    refine I.weak hl.symm fun i v e => ?_
    rcases Nat.lt_or_ge i own.length with z | z
    · have q : (stC own.length fr σ)[i]? = some none := by
        unfold stC
        rw [List.getElem?_append_left (by simpa using z), List.getElem?_replicate, if_pos z]
      rw [q] at e
      cases e
    · rw [hk i z]; exact e
  obtain ⟨W, ⟨m0, w0⟩, turn⟩ := rd
  have loop : ∀ s₃ : Shared, s₃ = { s2 with heap := h₁, toks := s2.toks + ([] : List (Str × Value)).length } →
      codeAny (model X.prog X.w) X.A (.compLoop (.ListComp elt [⟨tg, iter, ifs, 0⟩] scope pos) 0 (.ref it) (.ref s2.heap.objs.size) (compEnvC scope cl HH.objs.size X.env)) (RR (.ref s2.heap.objs.size) HH.objs.size) s₃ := by
    rintro s₃ rfl
    refine compLoop_go (xw Y) (fun x s' h => hE' x s' hCle h) (fun n s' => ∃ i ys its n' H', Inv Y [(s2.heap.objs.size, lobj its n')] (stC own.length fr σ) H' s' ∧ tn i s'.heap ∧ (∀ b ∈ fp, H' b = none) ∧ Vals ys its ∧ ys.length ≤ sizeLine ∧ W i n ys H') ?_ m0
      ⟨0, [], [], 0, H2, I0, T.keep _ _ _ st2 fun b _ o e => old b o e, fun b hb => (f2 b hb).1, .nil, Nat.zero_le _, w0⟩
    rintro n s3 ⟨i, ys, its, n', H3, I3, st3, fr3, rv, hz, w3⟩
    have pinD := I3.pin (s2.heap.objs.size, lobj its n') (List.mem_append_right _ (by simp))
    rcases turn i n ys H3 w3 with ⟨stop, qn⟩ | ⟨go, Nx, hNx, step⟩
    · have q := T.done Y y1 y2 y3 y4 i _ s3 _ H3 (fun _ _ => False) I3 (fpY fr3) st3 stop
      rw [y5] at q
      refine thn q fun r s4 ⟨hr, I4⟩ => ?_
      subst hr
      have pinD4 := I4.pin (s2.heap.objs.size, lobj its n') (List.mem_append_right _ (by simp))
      obtain ⟨m, hm, _⟩ := I4.loc
      have IX : Inv X pins σ H3 s4 := by
        subst hYe
        exact I2.call' (ch := fp) I4.os I4.base I4.hok I4.bare fun b hb => ⟨(f2 b hb).2.2.2.1, (f2 b hb).2.1, (f2 b hb).2.2.2.2.1, (f2 b hb).2.2.2.2.2⟩
      rw [y6] at hm
      have hCf : H3 HH.objs.size = none := by
        have z := I4.free
        rw [y6] at z
        exact z
      refine fin s2.heap.objs.size HH.objs.size s4 H3 ys its n' m IX (I2.fpOk (Nat.le_refl _) pinD4.2.1) I2.sz pinD4.1 rv hz (I2.fpOk hCle hCf) (Nat.le_trans I2.sz hCle) (Ne.symm hDC) hm qn
    · have q := T.item Y y1 y2 y3 y4 i _ s3 _ H3 (fun _ _ => False) I3 (fpY fr3) st3 go
      rw [y5] at q
      refine thn q fun r s4 ⟨u, hr, h4⟩ => ?_
      subst hr
      refine thn h4 fun _ s5 ⟨x, H5, I5, r5, y5', st5, fr5⟩ => ?_
      have I5' := I5.pinned (fpY fr5) (T.obj _ _ st5)
      have q6 : wpAny (model Y.prog Y.w) Y.A (assign tg Y.env u) _ (xw Y) s5 := R'.tg _ s5 _ H5 x u _ (I5'.wish _) r5 (hG _ _ _ _ _ (fun σ2 H2' qq l k => (⟨qq, l, k⟩ : _ ∧ _ ∧ _)) (step x H5 y5'))
      rw [y1, y2, y5, y6] at q6
      refine thn q6 fun _ s6 ⟨σ6, H6, I6, qt, hl6, hk6⟩ => ?_
      have q7 : wpAny (model Y.prog Y.w) Y.A (forIn ifs true fun c r => if r = true then do let ok ← isTrue c Y.env (eval c Y.env); pure (ForInStep.yield ok) else pure (ForInStep.yield r)) _ (xw Y) s6 := R'.ts _ s6 _ H6 _ I6 qt
      rw [y1, y2, y5, y6] at q7
      refine thn q7 fun ok s7 ⟨H7, I7, q7⟩ => ?_
      -- a turn's end: the iterator's records and the list are pinned as they were
      have again : ∀ {s8 : Shared} {H8 : Hp} {ys8 : List V} {its8 : List Value} {n8 : Nat}, Inv Y [(s2.heap.objs.size, lobj its8 n8)] σ6 H8 s8 → (∀ b ∈ fp, ∀ o, s5.heap.get? b = some o → s8.heap.get? b = some o) → (∀ b ∈ fp, H8 b = none) → Vals ys8 its8 → ys8.length ≤ sizeLine → Nx ys8 H8 →
          ∃ m, m < n ∧ ∃ i ys its n' H', Inv Y [(s2.heap.objs.size, lobj its n')] (stC own.length fr σ) H' s8 ∧ tn i s8.heap ∧ (∀ b ∈ fp, H' b = none) ∧ Vals ys its ∧ ys.length ≤ sizeLine ∧ W i m ys H' := fun {s8 H8 ys8 its8 n8} I8 kp fr8 rv8 hz8 nx => by
        obtain ⟨m', hm, w8⟩ := hNx ys8 H8 nx
        exact ⟨m', hm, i + 1, ys8, its8, n8, H8, hYlen I8 hl6 hk6, T.keep _ _ _ st5 kp, fr8, rv8, hz8, w8⟩
      cases ok with
      | false =>
        rw [if_neg Bool.false_ne_true] at q7 ⊢
        refine again I7.unwish.unpinned (fun b hb o e => (I7.pin (b, o) (List.mem_append_right _ (List.mem_append_right _ (mem_pinsAt hb e)))).1) (fun b hb => ?_) rv hz q7
        obtain ⟨o, e, d⟩ := T.obj _ _ st5 b hb
        exact (I7.pin (b, o) (List.mem_append_right _ (List.mem_append_right _ (mem_pinsAt hb e)))).2.1
      | true =>
        rw [if_pos rfl] at q7 ⊢
        have q8 : wpAny (model Y.prog Y.w) Y.A (eval elt Y.env) _ (xw Y) s7 := R'.el _ s7 _ H7 _ I7 q7
        rw [y1, y2, y5, y6] at q8
        refine thn q8 fun v s8 ⟨yv, H8, I8, r8, hsz, nx⟩ => ?_
        have pin8 := I8.pin (s2.heap.objs.size, lobj its n') (List.mem_append_right _ (List.mem_append_left _ (by simp)))
        refine wpAny_list_append_plain (hsz := by have := rv.length; simp only [List.size_toArray]; omega) ⟨n', pin8.1⟩ fun h9 ⟨n9, e9⟩ sb => ?_
        have Iu := I8.unwish.pins_of (pins' := []) (fun p hp => nomatch hp)
        have DF : FpOk Y [] H8 s2.heap.objs.size := by
          subst hYe
          refine ⟨pin8.2.1, hDC, pin8.2.2.2.1, .inr (Nat.le_refl _), fun x c e => ?_, fun p hp => ?_⟩
          · obtain ⟨w', o, qo, _⟩ := I2.cell x c (h1 x c e)
            exact Nat.ne_of_lt (Heap.lt_size qo)
          · have hp' : p ∈ X.pn ++ pins := by
              rw [List.append_nil] at hp
              exact hp
            exact Nat.ne_of_lt (Heap.lt_size (I2.pin p hp').1)
        have I9 : Inv Y [] σ6 H8 { s8 with heap := h9 } := Iu.turns (t' := s8.toks) (ch := [s2.heap.objs.size]) (fun b o hb e => (sb.2 b (by simpa using hb)).trans e) (fun b hb => by
          have e : b = s2.heap.objs.size := by simpa using hb
          subst e
          exact DF)
        have e9' : h9.get? s2.heap.objs.size = some (lobj (its ++ [v]) n9) := by
          rw [e9]
          simp
        have I10 : Inv Y [(s2.heap.objs.size, lobj (its ++ [v]) n9)] σ6 H8 { s8 with heap := h9 } := I9.pins_of fun p hp => by
          have ep : p = (s2.heap.objs.size, lobj (its ++ [v]) n9) := by simpa using hp
          subst ep
          exact ⟨e9', pin8.2.1, pin8.2.2.1, pin8.2.2.2.1, fun w' z => nomatch z⟩
        refine again I10 (fun b hb o e => (sb.2 b (Nat.ne_of_lt (hlt b hb))).trans (I8.pin (b, o) (List.mem_append_right _ (List.mem_append_right _ (mem_pinsAt hb e)))).1) (fun b hb => ?_) (rv.append (.cons r8 .nil)) (by simp; omega) nx
        obtain ⟨o, e, d⟩ := T.obj _ _ st5 b hb
        exact (I8.pin (b, o) (List.mem_append_right _ (List.mem_append_right _ (mem_pinsAt hb e)))).2.1
  exact codeAny_compStart_list (loop _ rfl) (T.self _ 0 _ _ _ (T.keep _ _ _ st2 fun b _ o e => old b o e) (loop _ rfl))
theorem comp_block {pins : List (Addr × Obj)} {σ : St} {H2 : Hp} {s2 : Shared} {cl : List (Str × Addr)} {fp : List Addr} {it : Addr} {tn : Nat → Heap → Prop} {J : It} {F : List V → Hp → Prop} {RR : Value → Addr → Result → Shared → Prop} {E : Value → Shared → Prop}
    (hcalm : X.calm = true) (ho : CompOk X.env.scope scope) (hfr : ∀ p ∈ fr, X.N[p.2]? = some p.1 ∧ scope.names.lookup p.1 = some .free) (hG : OwnG own.length g)
    (hY : ∀ cl C s H fp pins, CompR (cxComp X scope (own ++ fr.map (·.1)) cl C s H fp pins) tg ifs elt g tc te)
    (I2 : Inv X pins σ H2 s2) (T : Turn X.prog X.w X.K tg J fp it tn) (st2 : tn 0 s2.heap) (f2 : ∀ b ∈ fp, FpOk X pins H2 b) (rd : tTurns own.length fr g tc te σ J H2 F)
    (h1 : ∀ x c, cl.lookup x = some c → X.env.cells.lookup x = some c) (h2 : ∀ x, (x, NameKind.free) ∈ scope.names → ∃ c, cl.lookup x = some c)
    (fin : ∀ D C s' H' ys its n' m, Inv X pins σ H' s' → FpOk X pins H' D → X.s₀.heap.objs.size ≤ D → s'.heap.get? D = some (lobj its n') → Vals ys its → ys.length ≤ sizeLine → FpOk X pins H' C → X.s₀.heap.objs.size ≤ C → C ≠ D → s'.heap.Ns C m → F ys H' → RR (.ref D) C (.ok .next) s') :
    wpAny (model X.prog X.w) X.A (newList []) (fun acc s₃ => wpAny (model X.prog X.w) X.A (newFunctionEnv scope X.env.globals cl [] X.env.qual none .none (some X.env)) (fun cenv s₄ =>
      codeAny (model X.prog X.w) X.A (.compStart (.ListComp elt [⟨tg, iter, ifs, 0⟩] scope pos) 0 (.ref it) acc { cenv with scope := relabel scope X.env }) (RR acc cenv.locals) s₄) E s₃) E s2 :=
  comp_blockW (fun _ _ _ => False) hcalm ho hfr hG hY I2 T st2 f2 rd h1 h2 fin fun _ _ _ _ _ h => h.elim
theorem comp_setup {pins : List (Addr × Obj)} {σ : St} {H : Hp} {s : Shared} (I : Inv X pins σ H s) (hsc : X.env.scope = sc) (hok : compOk sc scope = true) (hNN : X.N = N) (hfr : frOk N scope fr = true) :
    CompOk X.env.scope scope ∧ (∀ p ∈ fr, X.N[p.2]? = some p.1 ∧ scope.names.lookup p.1 = some .free) ∧
    ∃ cl, closureFor scope X.env = pure cl ∧ (∀ x c, cl.lookup x = some c → X.env.cells.lookup x = some c) ∧ ∀ x, (x, NameKind.free) ∈ scope.names → ∃ c, cl.lookup x = some c := by
  subst hsc hNN
  have ho := compOk_of hok
  refine ⟨ho, fun p hp => ?_, closure_of fun n hn => I.ok.has n (ho.free n hn)⟩
  unfold frOk at hfr
  rw [List.all_eq_true] at hfr
  have q := hfr p hp
  rw [Bool.and_eq_true] at q
  exact ⟨of_decide_eq_true q.1, of_decide_eq_true q.2⟩
theorem pe_comp (sc : Scope) (N own : List Str) (fr : List (Str × Nat)) (hcalm : X.calm = true) (hi : PI X tg iter wi) (hG : OwnG own.length g)
    (hY : ∀ cl C s H fp pins, CompR (cxComp X scope (own ++ fr.map (·.1)) cl C s H fp pins) tg ifs elt g tc te)
    (hsc : X.env.scope = sc := by rfl) (hok : compOk sc scope = true := by decide +kernel) (hNN : X.N = N := by rfl) (hfr : frOk N scope fr = true := by decide +kernel)
    (hs : ∀ x, foldedSetIterable iter X.env x = pure x := by intro _; rfl) :
    PE X (.ListComp elt [⟨tg, iter, ifs, 0⟩] scope pos) (tComp own.length fr wi g tc te) := by
  intro pins s σ H Q I h
  obtain ⟨ho, hfr', cl, hcl, c1, c2⟩ := comp_setup I hsc hok hNN hfr
  rw [eval_ListComp]
  refine wpAny_comprehension_free (use := none) rfl hs hcl ho.kind ho.loc (thn (hi pins s σ H _ I h) fun v s1 q1 => thn q1 fun itv s2 q2 => ?_)
  obtain ⟨it, fp, tn, J, H2, e, I2, T, st2, f2, rd⟩ := q2
  subst e
  refine comp_block (RR := fun acc C => compPost (model X.prog X.w) X.A X.xe none (EP X pins σ Q) acc C) hcalm ho hfr' hG hY I2 T st2 f2 rd c1 c2 ?_
  intro D C s' H' ys its n' m I' fD zD eD rv hz fC zC hCD hm hF
  refine ⟨m, hm, fun h' sb => ?_⟩
  have I3 : Inv X pins σ H' { s' with heap := h' } := I'.turns (t' := s'.toks) (ch := [C]) (fun b o hb e => (sb.2 b (by simpa using hb)).trans e) (fun b hb => by
    have e : b = C := by simpa using hb
    subst e
    exact fC)
  exact ⟨.ref D, _, I3.adopt (o := .lst ys) fD.1 fD.2.1 zD fD.2.2.2.2.1 fD.2.2.2.2.2 ⟨hz, its, n', rv, (sb.2 D (Ne.symm hCD)).trans eD⟩, rfl, hF D fD.1⟩
theorem ps_setcomp {i : Nat} {x : Str} {pos' spos : Pos} (sc : Scope) (N own : List Str) (fr : List (Str × Nat)) (hcalm : X.calm = true) (hN : X.N.Nodup) (hx' : X.N[i]? = some x) (hx : X.env.scope.names.lookup x = some .local) (hi : PI X tg iter wi) (hG : OwnG own.length g)
    (hY : ∀ cl C s H fp pins, CompR (cxComp X scope (own ++ fr.map (·.1)) cl C s H fp pins) tg ifs elt g tc te)
    (hsw : swapsWith (.ListComp elt [⟨tg, iter, ifs, 0⟩] scope pos) (some (.Name x pos')) spos.line X.env = pure true := by rfl)
    (hsc : X.env.scope = sc := by rfl) (hok : compOk sc scope = true := by decide +kernel) (hNN : X.N = N := by rfl) (hfr : frOk N scope fr = true := by decide +kernel)
    (hs : ∀ x, foldedSetIterable iter X.env x = pure x := by intro _; rfl) :
    PS X (.Assign [.Name x pos'] (.ListComp elt [⟨tg, iter, ifs, 0⟩] scope pos) spos) (tAsg (tComp own.length fr wi g tc te) (gName i)) := by
  intro pins s σ H D0 I h
  obtain ⟨ho, hfr', cl, hcl, c1, c2⟩ := comp_setup I hsc hok hNN hfr
  rw [exec_Assign_Name_used _ _ _ _ hsw]
  refine wpAny_bind (wpAny_standAt (wpAny_bind ?_))
  show wpAny _ X.A (do let _ ← comprehension (.ListComp elt [⟨tg, iter, ifs, 0⟩] scope pos) scope X.env _ (newList []) false (eval iter X.env) (some (assign (.Name x pos') X.env))) _ _ s
  refine wpAny_bind (wpAny_mono (wpAny_comprehension_free (use := some (assign (.Name x pos') X.env)) (Q := fun _ s' => SP X pins D0 .next s') rfl hs hcl ho.kind ho.loc
    (thn (hi pins s σ H _ I h) fun v s1 q1 => thn q1 fun itv s2 q2 => ?_)) (fun _ s' hq => wpAny_pure (wpAny_pure hq)) fun _ _ e => e)
  obtain ⟨it, fp, tn, J, H2, e, I2, T, st2, f2, rd⟩ := q2
  subst e
  refine comp_block (RR := fun acc C => compPost (model X.prog X.w) X.A X.xe (some (assign (.Name x pos') X.env)) (fun _ s' => SP X pins D0 .next s') acc C) hcalm ho hfr' hG hY I2 T st2 f2 rd c1 c2 ?_
  intro D C s' H' ys its n' m I' fD zD eD rv hz fC zC hCD hm hF
  show wpAny _ X.A (assign (.Name x pos') X.env (.ref D)) _ _ _
  have I3 : Inv X pins σ (upd H' D (.lst ys)) s' := I'.adopt (o := .lst ys) fD.1 fD.2.1 zD fD.2.2.2.2.1 fD.2.2.2.2.2 ⟨hz, its, n', rv, eD⟩
  obtain ⟨oC, es, ep, hoC, dC, rC⟩ := id hm
  have nC : (upd H' D (.lst ys)) C = none := by rw [upd_ne hCD]; exact fC.1
  have I4 : Inv X (pins ++ [(C, oC)]) σ (upd H' D (.lst ys)) s' := I3.pins_of fun p hp => by
    rcases List.mem_append.mp hp with z | z
    · exact I3.pin p (List.mem_append_right _ z)
    · have e : p = (C, oC) := by simpa using z
      subst e
      exact ⟨hoC, nC, fC.2.1, fC.2.2.1, fun v z => by rw [dC] at z; cases z⟩
  refine wpAny_assign_Name (store_ok I4 hN hx' (.inl hx) (v := .ref D) rfl (fun s5 I5 => ?_) (.inr hx))
  have p5 := I5.pin (C, oC) (List.mem_append_right _ (List.mem_append_right _ (by simp)))
  refine ⟨m, ⟨oC, es, ep, p5.1, dC, rC⟩, fun h' sb => ?_⟩
  have I6 : Inv X pins (σ.set i (some (.ref D))) (upd H' D (.lst ys)) { s5 with heap := h' } := I5.unpinned.turns (t' := s5.toks) (ch := [C]) (fun b o hb e => (sb.2 b (by simpa using hb)).trans e) (fun b hb => by
    have e : b = C := by simpa using hb
    subst e
    exact ⟨nC, fC.2⟩)
  exact ⟨_, _, I6, hF D fD.1⟩
end
theorem turns_list {K : PySem.W.Frag} {a : Addr} {xs : List V} {n : Nat} {fr : List (Str × Nat)} {g : TG} {tc : TT} {te : TE} {σ : St} {H : Hp} {F : List V → Hp → Prop} (Pv : Nat → List V → Hp → Prop) (h0 : Pv 0 [] H) (hl : ∀ i ys H, i ≤ xs.length → Pv i ys H → SqL K H a xs)
    (hs : ∀ i x ys H, xs[i]? = some x → Pv i ys H → g x (stC n fr σ) H fun σ2 H2 => tc σ2 H2 fun b H3 => if b = true then te σ2 H3 fun y H4 => ys.length < sizeLine ∧ Pv (i + 1) (ys ++ [y]) H4 else Pv (i + 1) ys H3)
    (hd : ∀ ys H, Pv xs.length ys H → F ys H) : tTurns n fr g tc te σ (Itl K a) H F := by
  refine ⟨fun i m ys H => m = xs.length - i ∧ i ≤ xs.length ∧ Pv i ys H, ⟨xs.length, by simp, Nat.zero_le _, h0⟩, ?_⟩
  rintro i m ys H ⟨rfl, hi, p⟩
  have q := hl i ys H hi p
  by_cases hlt : i < xs.length
  · refine .inr ⟨⟨xs, xs[i], q, by simp [hlt]⟩, Pv (i + 1), fun ys' H' p' => ⟨xs.length - (i + 1), by omega, rfl, hlt, p'⟩, fun x H' y => ?_⟩
    obtain ⟨e, y⟩ := y
    subst e
    exact hs i x ys _ (y xs q) p
  · have e : i = xs.length := by omega
    subst e
    exact .inl ⟨⟨xs, q, Nat.le_refl _⟩, hd ys H p⟩
theorem turns_range {lo : Int} {k n : Nat} {fr : List (Str × Nat)} {g : TG} {tc : TT} {te : TE} {σ : St} {H : Hp} {F : List V → Hp → Prop} (Pv : Nat → List V → Hp → Prop) (h0 : Pv 0 [] H)
    (hs : ∀ i ys H, i < k → Pv i ys H → g (.int (lo + i)) (stC n fr σ) H fun σ2 H2 => tc σ2 H2 fun b H3 => if b = true then te σ2 H3 fun y H4 => ys.length < sizeLine ∧ Pv (i + 1) (ys ++ [y]) H4 else Pv (i + 1) ys H3)
    (hd : ∀ ys H, Pv k ys H → F ys H) : tTurns n fr g tc te σ (Itr lo k) H F := by
  refine ⟨fun i m ys H => m = k - i ∧ i ≤ k ∧ Pv i ys H, ⟨k, by simp, Nat.zero_le _, h0⟩, ?_⟩
  rintro i m ys H ⟨rfl, hi, p⟩
  by_cases hlt : i < k
  · refine .inr ⟨hlt, Pv (i + 1), fun ys' H' p' => ⟨k - (i + 1), by omega, rfl, hlt, p'⟩, fun x H' y => ?_⟩
    obtain ⟨e, y⟩ := y
    subst e y
    exact hs i ys _ hlt p
  · have e : i = k := by omega
    subst e
    exact .inl ⟨Nat.le_refl _, hd ys H p⟩
end L2
set_option Elab.async false
set_option linter.all false
set_option maxRecDepth 100000
set_option maxHeartbeats 4000000
namespace L2
open PySem PySem.Spec PyProof.Rows
end L2
set_option Elab.async false
set_option linter.all false
set_option maxRecDepth 100000
set_option maxHeartbeats 4000000
namespace L2
open PySem PySem.Spec PyProof.Rows
abbrev Cx.in1 (X : Cx) : Cx := { X with A := X.A.in1 }
theorem Inv.in1 {X : Cx} {pins : List (Addr × Obj)} {σ : St} {H : Hp} {s : Shared} (I : Inv X pins σ H s) : Inv X.in1 pins σ H s :=
  ⟨⟨I.ok.mod, I.ok.kind, I.ok.glob, I.ok.blt, I.ok.above, I.ok.inj, I.ok.has, I.ok.cab, I.ok.hd, I.ok.frames, I.ok.stk, I.ok.exf, I.ok.bs, I.ok.bsz, I.ok.noex, I.ok.exfs, I.ok.funs, I.ok.frf⟩, I.os, I.bare, I.base, I.loc, I.cell, I.free, I.freeC, I.pin, I.hok, I.len⟩
theorem Inv.out1 {X : Cx} {pins : List (Addr × Obj)} {σ : St} {H : Hp} {s : Shared} (I : Inv X.in1 pins σ H s) : Inv X pins σ H s :=
  ⟨⟨I.ok.mod, I.ok.kind, I.ok.glob, I.ok.blt, I.ok.above, I.ok.inj, I.ok.has, I.ok.cab, I.ok.hd, I.ok.frames, I.ok.stk, I.ok.exf, I.ok.bs, I.ok.bsz, I.ok.noex, I.ok.exfs, I.ok.funs, I.ok.frf⟩, I.os, I.bare, I.base, I.loc, I.cell, I.free, I.freeC, I.pin, I.hok, I.len⟩
def TruL (K : PySem.W.Frag) (H : Hp) (ys : List V) (ks : List Bool) : Prop := Paired (fun y k => TruV K y H k) ys ks
theorem paired_get {α β : Type} {F : α → β → Prop} : ∀ {l₁ : List α} {l₂ : List β} {i : Nat} {a : α}, Paired F l₁ l₂ → l₁[i]? = some a → ∃ b, l₂[i]? = some b ∧ F a b
  | _, _, _, _, .nil, e => by simp at e
  | _, _, 0, _, .cons r _, e => by simp at e; subst e; exact ⟨_, rfl, r⟩
  | _, _, i + 1, a, .cons _ t, e => by
    obtain ⟨b, h1, h2⟩ := paired_get (i := i) (a := a) t (by simpa using e)
    exact ⟨b, by simpa using h1, h2⟩
section
variable {X : Cx} {pins : List (Addr × Obj)} {σ : St} {H : Hp} {R : Result → Shared → Prop} {a it : Addr} {ys : List V} {ks : List Bool}
theorem all_loop (hc : X.calm = true) (hq : SqL X.K H a ys) (ht : TruL X.K H ys ks) (hR : ∀ s', Inv X pins σ H s' → R (.ok (.ret (.bool (ks.all id)))) s') : ∀ (k i : Nat) (s : Shared), ys.length - i = k → i ≤ ys.length → (ks.take i).all id = true →
    Inv X pins σ H s → FpOk X pins H it → s.heap.IsListIter it a i → codeAny (model X.prog X.w) X.A (.builtin "all.loop" ⟨[.ref it], []⟩) R s := by
  have hlen : ys.length = ks.length := Paired.length ht
  intro k
  induction k with
  | zero =>
    intro i s hk hi hn I hf st
    have hin : i = ys.length := by omega
    refine codeAny_builtin F.entry_all_loop ?_
    rw [Around.under_plainId F.plain_all_loop _]
    show wpAny _ X.A.in1 (pyNext (.ref it) >>= _) _ _ s
    have T := turn_list (P := X.prog) (w := X.w) (K := X.K) (tg := .Name "x" ⟨0, 0, 0, 0⟩) a it
    refine wpAny_bind (thn (T.done X.in1 rfl rfl rfl hc i pins s σ H _ I.in1 (fun b hb => by
      have e : b = it := by simpa using hb
      subst e
      exact hf) st ⟨ys, hq, by omega⟩) fun r s1 ⟨hr, I1⟩ => ?_)
    subst hr
    refine wpAny_bind (wpAny_rule (wpAny_pure ?_))
    have := hR s1 I1.out1
    rw [← List.take_of_length_le (l := ks) (i := i) (by omega), hn] at this
    exact this
  | succ k ih =>
    intro i s hk hi hn I hf st
    have hlt : i < ys.length := by omega
    have hx : ys[i]? = some ys[i] := List.getElem?_eq_getElem hlt
    obtain ⟨b, hb, htv⟩ := paired_get ht hx
    refine codeAny_builtin F.entry_all_loop ?_
    rw [Around.under_plainId F.plain_all_loop _]
    show wpAny _ X.A.in1 (pyNext (.ref it) >>= _) _ _ s
    obtain ⟨its, rv, p, _⟩ := I.list hq
    obtain ⟨u, hu, ru⟩ := rv.get hx
    refine wpAny_bind (wpAny_pyNext_list_item st p.isList (x := u) (by simpa using hu) fun h' st' sb => ?_)
    have I1 : Inv X pins σ H { s with heap := h' } := I.turns (t' := s.toks) (ch := [it]) (fun c o hc' e => (sb.2 c (by simpa using hc')).trans e) (fun c hc' => by
      have e : c = it := by simpa using hc'
      subst e
      exact hf)
    obtain ⟨oi, ei, ci, di⟩ := id st'
    have I1' : Inv X.in1 (pins ++ [(it, oi)]) σ H { s with heap := h' } := I1.in1.pins_of fun q hq' => by
      rcases List.mem_append.mp hq' with z | z
      · exact I1.pin q (List.mem_append_right _ z)
      · have e : q = (it, oi) := by simpa using z
        subst e
        exact ⟨ei, hf.1, hf.2.1, hf.2.2.1, fun v z => by rw [di] at z; cases z⟩
    refine wpAny_bind (wpAny_holding (wpAny_mono (tru_ok (X := X.in1.nox) _ _ σ H ys[i] u (fun k' H' => k' = b ∧ H' = H) (I1'.wish _) ru ⟨b, htv, rfl, rfl⟩) (fun kb s2 ⟨H2, I2', e1, e2⟩ => ?_) (fun _ _ z => z.elim)))
    subst e1 e2
    have I2 := I2'.unwish
    have st2 : s2.heap.IsListIter it a (i + 1) := ⟨oi, (I2.pin (it, oi) (List.mem_append_right _ (List.mem_append_right _ (by simp)))).1, ci, di⟩
    refine wpAny_bind (wpAny_letGo ?_)
    have hbk : ks[i]? = some kb := hb
    cases kb with
    | true =>
      simp only [if_true]
      refine wpAny_pure ⟨plainId_quiet F.plain_all_loop _, ih (i + 1) s2 (by omega) hlt ?_ I2.unpinned.out1 hf st2⟩
      rw [List.take_add_one, hbk, List.all_append, hn]
      rfl
    | false =>
      simp only [Bool.false_eq_true, if_false]
      refine wpAny_bind (wpAny_rule (wpAny_pure ?_))
      have := hR s2 I2.unpinned.out1
      have e : ks.all id = false := by
        rw [List.all_eq_false]
        exact ⟨false, List.mem_of_getElem? hbk, by simp⟩
      rw [e] at this
      exact this
end
section
variable {X : Cx}
theorem boot_all' : bootBuiltins "all" = some (.builtin "all") := by decide +kernel
theorem call_all (hc : X.calm = true) : CallR X (.builtin "all") (fun xs H Q => ∃ p ys ks, xs = [.ref p] ∧ SqL X.K H p ys ∧ TruL X.K H ys ks ∧ Q (.bl (ks.all id)) H) := by
  intro pins s σ H xs us Q I r h
  obtain ⟨p, ys, ks, rfl, hq, ht, q⟩ := h
  obtain ⟨u, rfl, ru⟩ := vals1 r
  cases ru
  refine call_function_tree F.kind_all F.plain_all F.entry_all (F.args_all1 _) ?_
  unfold Builtin.«all»
  refine wpAny_bind (m := oneArg "all" _) (wpAny_pure ?_)
  obtain ⟨its, rv, pl, hz⟩ := I.list hq
  refine wpAny_bind (wpAny_pyIter_list pl.isList ?_)
  refine wpAny_pure ⟨plainId_quiet F.plain_all_loop _, all_loop (it := s.heap.objs.size) hc hq ht ?_ ys.length 0 _ rfl (Nat.zero_le _) rfl (I.kept (t' := s.toks) fun b o e => Heap.get?_push_of_some _ e) (I.fpOk (Nat.le_refl _) (I.hok.fresh (Nat.le_refl _))) ⟨_, Heap.get?_push_size _ rfl, rfl, rfl⟩⟩
  exact fun s' I' => ⟨.bl _, H, I', rfl, q⟩
theorem call_isinst : CallR X (.builtin "isinstance") (fun xs H Q => ∃ x T t b, xs = [x, .ty T] ∧ TyOf X.K H x t ∧ PySem.W.kitOne X.K t (.type T) = some b ∧ Q (.bl b) H) := by
  intro pins s σ H xs us Q I r h
  obtain ⟨x, T, t, b, rfl, ty, e, q⟩ := h
  obtain ⟨u, w', rfl, ru, rw'⟩ := vals2 r
  cases rw'
  exact isinst_ok I ru ty e fun tk => ⟨.bl b, H, I.tok _, rfl, q⟩
end
end L2
set_option Elab.async false
set_option linter.all false
set_option maxRecDepth 100000
set_option maxHeartbeats 4000000
namespace L2
open PySem PySem.Spec PyProof.Rows
theorem turns_list0 {K : PySem.W.Frag} {a : Addr} {xs : List V} {n : Nat} {fr : List (Str × Nat)} {g : TG} {te : TE} {σ : St} {H : Hp} {F : List V → Hp → Prop} (Pv : Nat → List V → Hp → Prop) (h0 : Pv 0 [] H) (hl : ∀ i ys H, i ≤ xs.length → Pv i ys H → SqL K H a xs)
    (hs : ∀ i x ys H, xs[i]? = some x → Pv i ys H → g x (stC n fr σ) H fun σ2 H2 => te σ2 H2 fun y H4 => ys.length < sizeLine ∧ Pv (i + 1) (ys ++ [y]) H4)
    (hd : ∀ ys H, Pv xs.length ys H → F ys H) : tTurns n fr g tNoIf te σ (Itl K a) H F := turns_list Pv h0 hl (fun i x ys H hx p => hs i x ys H hx p) hd
theorem turns_range0 {lo : Int} {k n : Nat} {fr : List (Str × Nat)} {g : TG} {te : TE} {σ : St} {H : Hp} {F : List V → Hp → Prop} (Pv : Nat → List V → Hp → Prop) (h0 : Pv 0 [] H)
    (hs : ∀ i ys H, i < k → Pv i ys H → g (.int (lo + i)) (stC n fr σ) H fun σ2 H2 => te σ2 H2 fun y H4 => ys.length < sizeLine ∧ Pv (i + 1) (ys ++ [y]) H4)
    (hd : ∀ ys H, Pv k ys H → F ys H) : tTurns n fr g tNoIf te σ (Itr lo k) H F := turns_range Pv h0 (fun i ys H hi p => hs i ys H hi p) hd
end L2
set_option Elab.async false
set_option linter.all false
set_option maxRecDepth 100000
set_option maxHeartbeats 4000000
namespace L2
open PySem PySem.Spec PyProof.Rows
abbrev frA (l : List Env) : List Addr := l.filterMap (·.frame)
structure Flew (S ch : List Addr) (h h' : Heap) : Prop where
  keep : ∀ b o, b ∉ S → b ∉ ch → h.get? b = some o → h'.get? b = some o
  slot : ∀ b o, b ∉ ch → h.get? b = some o → ∃ sl, h'.get? b = some { o with slots := sl }
  size : h.objs.size ≤ h'.objs.size
theorem Flew.trans {S c1 c2 : List Addr} {h h1 h2 : Heap} (a : Flew S c1 h h1) (b : Flew S c2 h1 h2) : Flew S (c1 ++ c2) h h2 where
  keep := fun x o hs hc e => by
    rw [List.mem_append, not_or] at hc
    exact b.keep x o hs hc.2 (a.keep x o hs hc.1 e)
  slot := fun x o hc e => by
    rw [List.mem_append, not_or] at hc
    obtain ⟨s1, e1⟩ := a.slot x o hc.1 e
    obtain ⟨s2, e2⟩ := b.slot x _ hc.2 e1
    exact ⟨s2, e2⟩
  size := Nat.le_trans a.size b.size
theorem Flew.mono {S c1 c2 : List Addr} {h h1 : Heap} (a : Flew S c1 h h1) (k : ∀ b ∈ c1, b ∈ c2) : Flew S c2 h h1 :=
  ⟨fun x o hs hc e => a.keep x o hs (fun z => hc (k x z)) e, fun x o hc e => a.slot x o (fun z => hc (k x z)) e, a.size⟩
structure ExcNew (h : Heap) (e : Addr) (cls : Value) (dx : Option Addr) (oe : Obj) (vs : Array Value) : Prop where
  get : h.get? e = some oe
  cls : oe.cls = cls
  dict : oe.dict = dx
  data : oe.data = .fields vs
  tb : vs[1]? = some .none
structure ExcAt (h : Heap) (e : Addr) (cls : Value) (dx : Option Addr) (T : Addr) (fl : Value) (oe oT : Obj) (vs ts : Array Value) : Prop where
  get : h.get? e = some oe
  cls : oe.cls = cls
  dict : oe.dict = dx
  data : oe.data = .fields vs
  tb : vs[1]? = some (.ref T)
  ne : T ≠ e
  getT : h.get? T = some oT
  dataT : oT.data = .fields ts
  fl : ts[3]? = some fl
theorem dict_mapF (o : Obj) (f : Array Value → Array Value) : (o.mapFields f).dict = o.dict := by
  obtain ⟨c, d, dt, sl⟩ := o
  cases dt <;> rfl
section
variable {M : Model} {A : Around} {E : Value → Shared → Prop} {s : Shared} {base : Heap} {env : Env} {outer : List Env} {L e : Addr} {cls : Value} {dx : Option Addr} {Q : Unit → Shared → Prop}
theorem not_frame (hl : s.heap.FunFrames base (env :: outer)) {b : Addr} {o : Obj} {vs : Array Value} (e1 : s.heap.get? b = some o) (d : o.data = .fields vs) : b ∉ frA (env :: outer) := fun hm => by
  obtain ⟨_, o', ho, hnf⟩ := hl.mem hm
  rw [e1] at ho
  cases ho
  exact hnf vs d
theorem entryD {oe : Obj} {vs : Array Value} {head : Value} {hn : Bool} (hfr : A.frames = some (env :: outer)) (hl : s.heap.FunFrames base (env :: outer)) (hf : env.frame = some L)
    (he : s.heap.get? e = some oe) (hc : oe.cls = cls) (hx : oe.dict = dx) (hd : oe.data = .fields vs) (hsz : 1 < vs.size)
    (h : ∀ h' T oe' oT vs' ts, s.heap.objs.size ≤ T → Flew (frA (env :: outer)) [e] s.heap h' → ExcAt h' e cls dx T (rawInt L) oe' oT vs' ts → Q () { s with heap := h' }) :
    wpAny M A (do let a ← frameOf env; let pl ← entryPlaceOf L hn; let b ← EntryCells.newEntry head a .none (rawInt L) .none pl; setField (.ref e) 1 b) Q E s := by
  have ne := not_frame hl he hd
  refine wpAny_bind (wpAny_frameOf_fun hfr hl hf fun h1 so => wpAny_bind (wpAny_entryPlaceOf fun pl hpl => ?_))
  unfold EntryCells.newEntry newFields
  refine wpAny_bind (wpAny_newObj_type ?_ (hpl.sizeOk5 _ _ _ _ _))
  have e1 : h1.get? e = some oe := (so.2.1 e ne).trans he
  generalize hto : ({ cls := .type "traceback", dict := none, data := .fields ([head, .ref L, .none, rawInt L, .none] ++ (if pl.isEmpty then List.replicate 6 Value.none else pl)).toArray } : Obj) = tobj
  have hT3 : ∃ ts, tobj.data = .fields ts ∧ ts[3]? = some (rawInt L) ∧ tobj.isFreed = false := by
    subst hto
    exact ⟨_, rfl, by first | (simp; done) | (rcases hpl with rfl | ⟨_, _, _, _, _, _, _, rfl⟩ <;> simp), rfl⟩
  obtain ⟨ts, td, t3, tf⟩ := hT3
  have e2 : (h1.push tobj).get? e = some oe := Heap.get?_push_of_some tobj e1
  have sz1 : h1.objs.size = s.heap.objs.size := so.1
  have nT : h1.objs.size ≠ e := Nat.ne_of_gt (Heap.lt_size e1)
  have d3 := Obj.data_mapFields hd (·.setIfInBounds 1 (Value.ref h1.objs.size))
  refine wpAny_setField e2 hd hsz (h _ h1.objs.size _ tobj _ ts (Nat.le_of_eq sz1.symm) ⟨fun b o hs hc' q => ?_, fun b o hc' q => ?_, ?_⟩ ⟨Heap.get?_update_self _ e2 (Obj.isFreed_of_fields d3), (Obj.cls_mapFields _ _).trans hc, (dict_mapF _ _).trans hx, d3, by simp [hsz], nT, ?_, td, t3⟩)
  · rw [Heap.get?_update_other _ _ (Ne.symm (show b ≠ e by simpa using hc'))]
    exact Heap.get?_push_of_some _ ((so.2.1 b hs).trans q)
  · obtain ⟨sl, q1⟩ := so.2.2 b o q
    refine ⟨sl, ?_⟩
    rw [Heap.get?_update_other _ _ (Ne.symm (show b ≠ e by simpa using hc'))]
    exact Heap.get?_push_of_some _ q1
  · have z := Heap.size_push h1 tobj
    have z2 : ((h1.push tobj).update e (Obj.mapFields (·.setIfInBounds 1 (Value.ref h1.objs.size)))).objs.size = (h1.push tobj).objs.size := (Heap.SameBut.update (a := e) (h1.push tobj) (Obj.mapFields (·.setIfInBounds 1 (Value.ref h1.objs.size)))).1
    exact Nat.le_trans (Nat.le_of_eq sz1.symm) (Nat.le_trans (by rw [z]; exact Nat.le_succ _) (Nat.le_of_eq z2.symm))
  · rw [Heap.get?_update_other _ _ (Ne.symm nT)]
    exact Heap.get?_push_size h1 tf
theorem noteD_first {oe : Obj} {vs : Array Value} (hfr : A.frames = some (env :: outer)) (hl : s.heap.FunFrames base (env :: outer)) (hf : env.frame = some L) (x : ExcNew s.heap e cls dx oe vs)
    (h : ∀ h' T oe' oT vs' ts, s.heap.objs.size ≤ T → Flew (frA (env :: outer)) [e] s.heap h' → ExcAt h' e cls dx T (rawInt L) oe' oT vs' ts → Q () { s with heap := h' }) : wpAny M A (noteFrame (.ref e) env) Q E s := by
  unfold noteFrame
  simp only [hf]
  refine wpAny_bind (wpAny_field x.get x.data x.tb ?_)
  rw [if_neg (by decide)]
  exact entryD hfr hl hf x.get x.cls x.dict x.data (Array.getElem?_eq_some_iff.mp x.tb).1 h
theorem unflyD {T : Addr} {fl : Value} {oe oT : Obj} {vs ts : Array Value} (x : ExcAt s.heap e cls dx T fl oe oT vs ts) (S : List Addr) :
    Flew S [T] s.heap (s.heap.update T (Obj.mapFields (·.setIfInBounds 3 .none))) ∧ ∃ oT' ts', ExcAt (s.heap.update T (Obj.mapFields (·.setIfInBounds 3 .none))) e cls dx T .none oe oT' vs ts' := by
  have hsz : 3 < ts.size := (Array.getElem?_eq_some_iff.mp x.fl).1
  have d3 := Obj.data_mapFields x.dataT (·.setIfInBounds 3 Value.none)
  have oth : ∀ b, b ≠ T → (s.heap.update T (Obj.mapFields (·.setIfInBounds 3 .none))).get? b = s.heap.get? b := fun b hb => Heap.get?_update_other _ _ (Ne.symm hb)
  refine ⟨⟨fun b o _ hc q => (oth b (by simpa using hc)).trans q, fun b o hc q => ⟨o.slots, (oth b (by simpa using hc)).trans q⟩, Nat.le_of_eq (Heap.SameBut.update (a := T) s.heap _).1.symm⟩, _, _, (oth e (Ne.symm x.ne)).trans x.get, x.cls, x.dict, x.data, x.tb, x.ne, Heap.get?_update_self _ x.getT (Obj.isFreed_of_fields d3), d3, by simp [hsz]⟩
theorem flightD {T : Addr} {fl : Value} {oe oT : Obj} {vs ts : Array Value} (x : ExcAt s.heap e cls dx T fl oe oT vs ts) (S : List Addr)
    (h : ∀ h' oT' ts', Flew S [T] s.heap h' → ExcAt h' e cls dx T .none oe oT' vs ts' → Q () { s with heap := h' }) : wpAny M A (setFlight (.ref e) none) Q E s := by
  obtain ⟨k1, oT', ts', k2⟩ := unflyD (s := s) x S
  unfold setFlight
  refine wpAny_bind (wpAny_field x.get x.data x.tb ?_)
  rw [if_pos (show (Value.ref T != Value.none) = true from by simp)]
  exact wpAny_setField x.getT x.dataT (Array.getElem?_eq_some_iff.mp x.fl).1 (h _ _ _ k1 k2)
theorem noteD_next {T : Addr} {fl : Value} {oe oT : Obj} {vs ts : Array Value} (hfr : A.frames = some (env :: outer)) (hl : s.heap.FunFrames base (env :: outer)) (hf : env.frame = some L) (x : ExcAt s.heap e cls dx T fl oe oT vs ts) (hne : (fl == rawInt L) = false)
    (h : ∀ h' T' oe' oT' vs' ts', s.heap.objs.size ≤ T' → Flew (frA (env :: outer)) [e, T] s.heap h' → ExcAt h' e cls dx T' (rawInt L) oe' oT' vs' ts' → Q () { s with heap := h' }) : wpAny M A (noteFrame (.ref e) env) Q E s := by
  unfold noteFrame
  simp only [hf]
  refine wpAny_bind (wpAny_field x.get x.data x.tb ?_)
  rw [if_pos (show (Value.ref T != Value.none) = true from by simp)]
  refine wpAny_bind (wpAny_field x.getT x.dataT x.fl ?_)
  rw [if_neg (show ¬ ((fl == rawInt L) = true) by rw [hne]; exact Bool.false_ne_true)]
  refine wpAny_bind (wpAny_setField x.getT x.dataT (Array.getElem?_eq_some_iff.mp x.fl).1 ?_)
  obtain ⟨k1, oT', ts', k2⟩ := unflyD (s := s) x (frA (env :: outer))
  have nfT := not_frame hl x.getT x.dataT
  have hl2 : (s.heap.update T (Obj.mapFields (·.setIfInBounds 3 .none))).FunFrames base (env :: outer) := hl.of_keeps fun b o q hnf => by
    obtain ⟨sl, q'⟩ := k1.slot b o (fun z => by
      have z' : b = T := by simpa using z
      subst z'
      rw [x.getT] at q
      cases q
      exact hnf ts x.dataT) q
    exact ⟨_, q', rfl⟩
  refine entryD (s := { s with heap := s.heap.update T (Obj.mapFields (·.setIfInBounds 3 .none)) }) hfr hl2 hf k2.get k2.cls k2.dict k2.data (Array.getElem?_eq_some_iff.mp x.tb).1 fun h' T' oe' oT2 vs' ts2 hT' fl at' => ?_
  exact h h' T' oe' oT2 vs' ts2 (Nat.le_trans k1.size hT') ((k1.trans fl).mono (by intro b hb; simp at hb ⊢; rcases hb with z | z <;> simp [z])) at'
end
end L2
set_option Elab.async false
set_option linter.all false
set_option maxRecDepth 100000
set_option maxHeartbeats 4000000
namespace L2
open PySem PySem.Spec PyProof.Rows PySem.W
section
variable {prog : Program} {w : World} {A : Around} {R : Result → Shared → Prop} {E : Value → Shared → Prop} {h : Heap} {g : Array GenState} {d : Drawn} {t : Nat} {os : OsState}
variable {nm q : Str} {C N f : Addr} {bs bm bmB : List Value} {hdct : Bool} {sn : List Str} {sub : List Value} {ab : Bool} {col : Option Bool} {dd : Option Addr} {k0 k1 k2 k3 k5 : Option Value} {B Bn newId nid initId inN : String} {bmN : List Value}
end
end L2
set_option Elab.async false
set_option linter.all false
set_option maxRecDepth 100000
set_option maxHeartbeats 4000000
namespace L2
open PySem PySem.Spec PyProof.Rows
structure ExcOut (P : Program) (w : World) (outer : List Env) (H : Hp) (s : Shared) (cls : Value) (dx : Option Addr) (H' : Hp) (x : Addr) (s' : Shared) : Prop where
  os : s'.os = s.os
  bare : AllBare s'.gens
  un : Un (frs outer) [] H H' s.heap s'.heap
  hok : HOk P w H' s'.heap
  hx : H' x = none
  nx : s.heap.objs.size ≤ x
  fly : ∃ T oe oT vs ts, H' T = none ∧ s.heap.objs.size ≤ T ∧ ExcAt s'.heap x cls dx T .none oe oT vs ts
def CXE (P : Program) (w : World) : CXT := fun outer H s E e s' => ∃ x cls dx H', e = .ref x ∧ ExcOut P w outer H s cls dx H' x s' ∧ E cls dx H'
section
variable {X : Cx} {pins : List (Addr × Obj)} {σ : St} {H : Hp} {s : Shared} {h' : Heap} {ch : List Addr}
theorem Inv.flew {g : Array GenState} (I : Inv X pins σ H s) (fl : Flew (frs X.stack) ch s.heap h') (hc : ∀ b ∈ ch, H b = none) : HOk X.prog X.w H h' := fun a o e =>
  (I.hok a o e).stay (fun b u hb q => fl.keep b u (fun z => by
    rcases hb with rfl | hb
    · rw [I.stkFree b z] at e; cases e
    · rw [I.stkFree b z] at hb; cases hb) (fun z => by
    rcases hb with rfl | hb
    · rw [hc b z] at e; cases e
    · rw [hc b z] at hb; cases hb) q) (fun _ q => q) fun _ _ q => q
theorem Inv.unFlew (I : Inv X pins σ H s) (hx : X.ex = []) (hst : X.stack = X.env :: X.outer) (hfr : X.env.frame = some X.env.locals) (fl : Flew (frs X.stack) ch s.heap h') (hc : ∀ b ∈ ch, X.s₀.heap.objs.size ≤ b) : Un (frs X.outer) [] X.H₀ H X.s₀.heap h' := by
  have old : ∀ {b : Addr} {o : Obj}, X.s₀.heap.get? b = some o → b ∉ ch ∧ b ≠ X.env.locals := fun {b o} e => ⟨fun z => absurd (Nat.lt_of_lt_of_le (Heap.lt_size e) (hc b z)) (Nat.lt_irrefl _), Nat.ne_of_lt (Nat.lt_of_lt_of_le (Heap.lt_size e) I.ok.above)⟩
  have nex : ∀ b : Addr, b ∉ X.ex := fun b z => by rw [hx] at z; cases z
  have nst : ∀ {b : Addr}, b ∉ frs X.outer → b ≠ X.env.locals → b ∉ frs X.stack := fun {b} h1 h2 z => by
    rcases List.mem_cons.mp (I.stkSub b z) with q | q
    · exact h2 q
    · exact h1 q
  refine ⟨fun b o e n hb _ => fl.keep b o (nst hb (old e).2) (old e).1 (I.base.keep b o e n hb (nex b)), fun b o e n hb _ => ?_, fun b o e n _ => I.base.free b o e n (nex b), fun b o e _ => ?_, I.base.tups, I.base.frzs, I.base.tbls⟩
  · obtain ⟨sl, q⟩ := I.base.slot b o e n hb (nex b)
    obtain ⟨sl2, q2⟩ := fl.slot b _ (old e).1 q
    exact ⟨sl2, q2⟩
  · obtain ⟨o', q⟩ := I.base.there b o e (nex b)
    obtain ⟨sl, q2⟩ := fl.slot b o' (old e).1 q
    exact ⟨_, q2⟩
end
section
variable {P : Program} {w : World} {K : PySem.W.Frag} {mg : Str → Option Value} {base : Heap} {N : List Str} {qual : Str} {scope : Scope} {f : Addr} {cd : Value} {A : Around} {outer : List Env} {s₀ : Shared} {H₀ : Hp} {E : XK}
end
end L2
set_option Elab.async false
set_option linter.all false
set_option maxRecDepth 100000
set_option maxHeartbeats 4000000
namespace L2
open PySem PySem.Spec PyProof.Rows
def Flies (X : Cx) (h : Heap) (H : Hp) (x : Addr) (cls : Value) (dx : Option Addr) : Prop :=
  (∃ oe vs, ExcNew h x cls dx oe vs) ∨ ∃ T fl oe oT vs ts, FpOk X [] H T ∧ ExcAt h x cls dx T fl oe oT vs ts
abbrev XS := St → Value → Option Addr → Hp → Prop
def Wx (X : Cx) (E : XS) (e : Value) (s : Shared) : Prop := ∃ x cls dx H σ, e = .ref x ∧ Inv X [] σ H s ∧ FpOk X [] H x ∧ Flies X s.heap H x cls dx ∧ E σ cls dx H
structure Own (X : Cx) : Prop where
  ex : X.ex = []
  st : X.stack = X.env :: X.outer
  fr : X.env.frame = some X.env.locals
theorem FpOk.old {X : Cx} {pins : List (Addr × Obj)} {H : Hp} {b : Addr} (f : FpOk X pins H b) (o : X.ex = []) : X.s₀.heap.objs.size ≤ b := by
  rcases f.2.2.2.1 with z | z
  · rw [o] at z; cases z
  · exact z
section
variable {X : Cx} {pins : List (Addr × Obj)} {σ : St} {H : Hp} {s : Shared} {h' : Heap} {ch : List Addr}
theorem Inv.fly (I : Inv X [] σ H s) (fl : Flew (frs X.stack) ch s.heap h') (hf : ∀ b ∈ ch, FpOk X [] H b) : Inv X [] σ H { s with heap := h' } := by
  have nst : ∀ {b : Addr}, b ≠ X.env.locals → b ∉ X.fs → b ∉ frs X.stack := fun {b} h1 h2 z => by
    rcases List.mem_cons.mp (I.stkSub b z) with q | q
    · exact h1 q
    · exact h2 q
  refine I.step (g' := s.gens) (d' := s.drawn) (t' := s.toks) (ch := ch) (fun b hb => ?_) (fun b o h1 h2 hc e _ => fl.keep b o (nst h1 h2) hc e) (fun b o _ _ hc e _ => fl.slot b o hc e) (fun _ _ _ _ n => n)
    (fun b o hc e => ?_) (fun _ _ e => e) (fun _ _ _ e => e) (fun b ps e => ⟨#[], by rw [e]; simp⟩) (fun m hm => ?_) (I.flew (g := s.gens) fl fun b hb => (hf b hb).1) I.bare
  · obtain ⟨f0, f1, f2, f3, f4, f5⟩ := hf b hb
    exact ⟨f3, f1, f4, f5⟩
  · obtain ⟨sl, q⟩ := fl.slot b o hc e
    exact ⟨_, q⟩
  · obtain ⟨o, es, ep, ho, r⟩ := hm
    obtain ⟨sl, q⟩ := fl.slot _ o (fun z => (hf _ z).2.1 rfl) ho
    exact ⟨_, es, ep, q, r⟩
end
section
variable {X : Cx} {σ : St} {H : Hp} {s : Shared} {x : Addr} {cls : Value} {dx : Option Addr} {Q : Unit → Shared → Prop} {E : Value → Shared → Prop} {A : Around}
theorem noteX (ow : Own X) (hA : A.frames = some X.stack) (I : Inv X [] σ H s) (fx : FpOk X [] H x) (f : Flies X s.heap H x cls dx)
    (h : ∀ h' T oe oT vs ts, Inv X [] σ H { s with heap := h' } → FpOk X [] H T → ExcAt h' x cls dx T (rawInt X.env.locals) oe oT vs ts → Q () { s with heap := h' }) : wpAny (model X.prog X.w) A (noteFrame (.ref x) X.env) Q E s := by
  have hst := I.stack
  rw [ow.st] at hst hA
  have hone : ∀ b ∈ [x], FpOk X [] H b := fun b hb => by rw [List.mem_singleton.mp hb]; exact fx
  rcases f with ⟨oe, vs, n⟩ | ⟨T, fl, oe, oT, vs, ts, fT, a⟩
  · refine noteD_first hA hst ow.fr n fun h' T oe' oT vs' ts hT flw at' => ?_
    exact h h' T oe' oT vs' ts (I.fly (by rw [ow.st]; exact flw) hone) (I.fpOk hT (I.hok.fresh hT)) at'
  · by_cases hfl : fl = rawInt X.env.locals
    rotate_left
    · refine noteD_next hA hst ow.fr a (beq_eq_false_iff_ne.mpr hfl) fun h' T' oe' oT' vs' ts' hT flw at' => ?_
      refine h h' T' oe' oT' vs' ts' (I.fly (by rw [ow.st]; exact flw) fun b hb => ?_) (I.fpOk hT (I.hok.fresh hT)) at'
      simp only [List.mem_cons, List.not_mem_nil, or_false] at hb
      rcases hb with rfl | rfl
      · exact fx
      · exact fT
    · subst hfl
      unfold noteFrame
      simp only [ow.fr]
      refine wpAny_bind (wpAny_field a.get a.data a.tb ?_)
      rw [if_pos (show (Value.ref T != Value.none) = true from by simp)]
      refine wpAny_bind (wpAny_field a.getT a.dataT a.fl ?_)
      rw [if_pos (show (rawInt X.env.locals == rawInt X.env.locals) = true from by first | (simp; done) | exact beq_self_eq_true _)]
      exact wpAny_pure (h s.heap T oe oT vs ts I fT a)
end
section
variable {P : Program} {w : World} {K : PySem.W.Frag} {mg : Str → Option Value} {base : Heap} {N : List Str} {qual : Str} {scope : Scope} {f : Addr} {cd : Value} {A : Around} {outer : List Env} {s₀ : Shared} {H₀ : Hp} {E : XK}
theorem own_cx {CX : CXT} : Own (cxOf CX P w K mg base N qual scope f cd A outer s₀ H₀ E) := ⟨rfl, rfl, rfl⟩
theorem Wx.leaves {e : Value} {s : Shared} (h : Wx (cxOf (CXE P w) P w K mg base N qual scope f cd A outer s₀ H₀ E) (fun _ => E) e s) : (cxOf (CXE P w) P w K mg base N qual scope f cd A outer s₀ H₀ E).xe e s := by
  obtain ⟨x, cls, dx, H, σ, he, I, fx, fly, hE⟩ := h
  subst he
  have ow : Own (cxOf (CXE P w) P w K mg base N qual scope f cd A outer s₀ H₀ E) := own_cx
  show wpAny _ _ (leaving _ _) _ _ _
  unfold leaving
  refine wpAny_bind (noteX ow I.ok.frames I fx fly fun h1 T oe oT vs ts I1 fT a1 => ?_)
  refine flightD (s := { s with heap := h1 }) a1 (frs (cxOf (CXE P w) P w K mg base N qual scope f cd A outer s₀ H₀ E).stack) fun h2 oT' ts' flw a2 => ?_
  have hch : ∀ b ∈ [T], FpOk (cxOf (CXE P w) P w K mg base N qual scope f cd A outer s₀ H₀ E) [] H b := fun b hb => by rw [List.mem_singleton.mp hb]; exact fT
  refine ⟨x, cls, dx, H, rfl, ⟨I1.os, I1.bare, I1.unFlew rfl rfl rfl flw (fun b hb => (hch b hb).old rfl), I1.flew (g := s.gens) flw (fun b hb => (hch b hb).1), fx.1, fx.old rfl, T, oe, oT', vs, ts', fT.1, fT.old rfl, a2⟩, hE⟩
end
section
variable {X : Cx} {EX : XS} {k : Nat} {f C : Addr} {fd : FuncData} {ps : List Str} {sp : Sp} {dvs : List V} {ds : List Value} {x m : Str} {p pos apos : Pos} {e o : Expr} {es : List Expr} {ta : TE} {t : TA}
end
end L2
set_option Elab.async false
set_option linter.all false
set_option maxRecDepth 100000
set_option maxHeartbeats 4000000
namespace L2
open PySem PySem.Spec PyProof.Rows PySem.W
abbrev vMro : List Value := [.type "ValueError", .type "Exception", .type "BaseException", .type "object"]
structure ExcC (K : PySem.W.Frag) (C : Addr) (bm : List Value) : Prop where
  obj : ∃ nm q N bs hdct sn sub ab col dd k0 k1 k2 k3 k5, K.lookup C = some (excClassObj nm q C N bs bm hdct sn sub ab col dd k0 k1 k2 k3 k5 "ValueError.__new__")
  tail : ∀ h, K.In h → OwnTail h vMro bm
  kp : PySem.W.keepIn K (.ref C) = true
section
variable {prog : Program} {w : World} {A : Around} {R : Result → Shared → Prop} {E : Value → Shared → Prop} {s : Shared} {K : PySem.W.Frag} {C : Addr} {bm : List Value}
end
section
variable {M : Model} {A : Around} {E : Value → Shared → Prop} {s : Shared} {env : Env} {K : PySem.W.Frag} {C : Addr} {bm : List Value}
end
section
variable {X : Cx} {EX : XS} {C : Addr} {bm : List Value} {x : Str} {p pos cpos : Pos} {e : Expr} {es : List Expr} {t : TA}
end
end L2
set_option Elab.async false
set_option linter.all false
set_option maxRecDepth 100000
set_option maxHeartbeats 4000000
namespace L2
open PySem PySem.Spec PyProof.Rows
abbrev Cx.pinned (X : Cx) (pins : List (Addr × Obj)) : Cx := { X with pn := pins }
section
variable {X : Cx} {pins : List (Addr × Obj)} {σ : St} {H : Hp} {s : Shared}
end
def cxSuite (X : Cx) (x : Addr) (oe : Obj) : Cx := { X with A := X.A.mark (some (.ref x)), calm := false, pn := (x, oe) :: X.pn, xe := fun _ _ => False }
section
variable {X : Cx} {σ : St} {H : Hp} {s : Shared} {x : Addr} {oe : Obj}
theorem Inv.suite (I : Inv X [] σ H s) (fx : FpOk X [] H x) (g : s.heap.get? x = some oe) (d : ∀ v, oe.data ≠ .cell v) : Inv (cxSuite X x oe) [] σ H s :=
  ⟨⟨I.ok.mod, I.ok.kind, I.ok.glob, I.ok.blt, I.ok.above, I.ok.inj, I.ok.has, I.ok.cab, fun z => absurd z Bool.false_ne_true, I.ok.frames, I.ok.stk, I.ok.exf, I.ok.bs, I.ok.bsz, I.ok.noex, I.ok.exfs, I.ok.funs, I.ok.frf⟩, I.os, I.bare, I.base, I.loc, I.cell, I.free, I.freeC, fun p hp => by
    rw [List.append_nil] at hp
    rcases List.mem_cons.mp hp with rfl | hp
    · exact ⟨g, fx.1, fx.2.1, fx.2.2.1, d⟩
    · exact I.pin p (by rw [List.append_nil]; exact hp), I.hok, I.len⟩
end
section
variable {X : Cx} {EX : XS} {th : Ends → XS} {hs : List ExceptHandler} {C : Addr} {c : Str} {np pos : Pos} {b₀ : Stmt} {suite : List Stmt} {ts' : Addr → Obj → TS}
end
end L2
set_option Elab.async false
set_option linter.all false
set_option maxRecDepth 100000
set_option maxHeartbeats 4000000
namespace L2
open PySem PySem.Spec PyProof.Rows PySem.W
def rem (H : Hp) (x : Addr) : Hp := fun b => if b = x then none else H b
theorem rem_ne {H : Hp} {x b : Addr} (h : b ≠ x) : rem H x b = H b := if_neg h
theorem rem_same {H : Hp} {x : Addr} : rem H x x = none := if_pos rfl
theorem rem_none {H : Hp} {x b : Addr} (h : H b = none) : rem H x b = none := by
  unfold rem
  split
  · rfl
  · exact h
theorem Inv.drop {X : Cx} {pins : List (Addr × Obj)} {σ : St} {H : Hp} {s : Shared} {x : Addr} {φ : Heap → Prop} (I : Inv X pins σ H s) (hx : H x = some (.ext φ)) : Inv X pins σ (rem H x) s := by
  have ne : ∀ b o, H b = some o → (∀ ψ, o ≠ .ext ψ) → b ≠ x := fun b o e n z => by
    subst z
    rw [hx] at e
    exact n φ (Option.some.inj e).symm
  have ne' : ∀ {b o}, H b = some o → (∀ ψ, o ≠ .ext ψ) → rem H x b = some o := fun {b o} e n => by rw [rem_ne (ne b o e n)]; exact e
  refine ⟨I.ok, I.os, I.bare, ⟨I.base.keep, I.base.slot, fun b u e n hx' => rem_none (I.base.free b u e n hx'), I.base.there, fun b xs e => ne' (I.base.tups b xs e) (fun ψ z => nomatch z), fun b u v e => ne' (I.base.frzs b u v e) (fun ψ z => nomatch z), fun b ps e => ?_⟩, I.loc, I.cell, rem_none I.free, fun y c e => rem_none (I.freeC y c e), fun p hp => ?_, fun b u e => ?_, I.len⟩
  · obtain ⟨m, q⟩ := I.base.tbls b ps e
    exact ⟨m, ne' q (fun ψ z => nomatch z)⟩
  · obtain ⟨e, n, r⟩ := I.pin p hp
    exact ⟨e, rem_none n, r⟩
  · by_cases hb : b = x
    · subst hb
      rw [rem_same] at e
      cases e
    · rw [rem_ne hb] at e
      exact (I.hok b u e).stay (fun _ _ _ q => q) (fun c q => ne' q (fun ψ z => nomatch z)) fun c xs q => ne' q (fun ψ z => nomatch z)
section
variable {prog : Program} {w : World} {A : Around} {E : Value → Shared → Prop} {s : Shared} {K : PySem.W.Frag} {C x t : Addr} {bm : List Value} {name : Str} {v : Value}
end
end L2
set_option Elab.async false
set_option linter.all false
set_option maxRecDepth 100000
set_option maxHeartbeats 4000000
namespace L2
open PySem PySem.Spec PyProof.Rows PySem.W
structure XFld (K : PySem.W.Frag) (C : Addr) (f : Str) : Prop where
  sa : findIn K (.ref C) "__setattr__" = some (some (.builtin "object.__setattr__"))
  na : findIn K (.ref C) f = some none
  hd : hasDictIn K C = true
  ga : findIn K (.ref C) "__getattribute__" = some (some (.builtin "BaseException.__getattribute__"))
  gn : findIn K (.ref C) "__getattr__" = some none
  be : mroIn K C (.type "BaseException") = some true
section
variable {prog : Program} {w : World} {A : Around} {E : Value → Shared → Prop} {s : Shared} {K : PySem.W.Frag} {C x : Addr} {name : Str} {v : Value} {ox od : Obj} {expr : Bool}
end
section
variable {X : Cx} {o e value : Expr} {f : Str} {pos pos' : Pos} {ta tv : TE}
end
end L2
set_option Elab.async false
set_option linter.all false
set_option maxRecDepth 100000
set_option maxHeartbeats 4000000
namespace L2
open PySem PySem.Spec PyProof.Rows PySem.W
section
variable {X : Cx} {EX : XS} {C f : Addr} {bm : List Value} {fd : FuncData} {ps : List Str} {sp : Sp} {k : Nat} {x : Str} {p pos cpos : Pos} {e : Expr} {es : List Expr} {t : TA}
end
end L2
set_option Elab.async false
set_option linter.all false
set_option maxRecDepth 100000
set_option maxHeartbeats 4000000
namespace L2
open PySem PySem.Spec PyProof.Rows PySem.W
section
variable {X : Cx} {pins : List (Addr × Obj)} {σ : St} {H : Hp} {s : Shared} {M : Model} {A : Around} {E : Value → Shared → Prop}
end
section
variable {X : Cx} {σ : St} {H : Hp} {s : Shared} {x : Addr}
end
section
variable {X : Cx} {EX : XS} {th : Ends → XS} {hs : List ExceptHandler} {C : Addr} {c n : Str} {i : Nat} {np pos : Pos} {b₀ : Stmt} {suite : List Stmt} {tsu : TS}
end
end L2
set_option Elab.async false
set_option linter.all false
set_option maxRecDepth 100000
set_option maxHeartbeats 4000000
namespace L2
open PySem PySem.Spec PyProof.Rows PyProof.V PySem.SeqAt
mutual
inductive DV (K : PySem.W.Frag) (H : Hp) : V → PyData → Prop
  | non : DV K H .non .none
  | bl (b : Bool) : DV K H (.bl b) (.bool b)
  | int (i : Int) : DV K H (.int i) (.int i)
  | str (x : Str) : DV K H (.str x) (.str x)
  | lst {a : Addr} {xs : List V} {ds : List PyData} : SqL K H a xs → DVs K H xs ds → DV K H (.ref a) (.list ds)
  | tup {a : Addr} {xs : List V} {ds : List PyData} : SqT K H a xs → DVs K H xs ds → DV K H (.ref a) (.tuple ds)
inductive DVs (K : PySem.W.Frag) (H : Hp) : List V → List PyData → Prop
  | nil : DVs K H [] []
  | cons {x : V} {xs : List V} {d : PyData} {ds : List PyData} : DV K H x d → DVs K H xs ds → DVs K H (x :: xs) (d :: ds)
end
section
variable {X : Cx} {pins : List (Addr × Obj)} {σ : St} {H : Hp} {s : Shared}
mutual
theorem DV.reads (I : Inv X pins σ H s) : ∀ {v : V} {d : PyData} {u : Value}, DV X.K H v d → RelV v u → ∃ as, Reads s.heap u d as
  | _, _, _, .non, r => by cases r; exact ⟨_, .none⟩
  | _, _, _, .bl b, r => by cases r; exact ⟨_, .bool b⟩
  | _, _, _, .int i, r => by obtain ⟨t, rfl⟩ := r; exact ⟨_, .int i t⟩
  | _, _, _, .str x, r => by obtain ⟨t, rfl⟩ := r; exact ⟨_, .str x t⟩
  | _, _, _, .lst hq ds, r => by
    cases r
    obtain ⟨its, rv, p, _⟩ := I.list hq
    obtain ⟨as, ra⟩ := DVs.reads I ds rv
    obtain ⟨o, ho, hc, n, hd⟩ := p.isList
    exact ⟨_, Reads.list ho hc hd (by simpa using ra)⟩
  | _, _, _, .tup hq ds, r => by
    cases r
    obtain ⟨its, rv, p, _⟩ := I.tuple hq
    obtain ⟨as, ra⟩ := DVs.reads I ds rv
    obtain ⟨o, ho, hc, n, hd⟩ := p
    exact ⟨_, Reads.tuple ho hc hd (by simpa using ra)⟩
theorem DVs.reads (I : Inv X pins σ H s) : ∀ {vs : List V} {ds : List PyData} {us : List Value}, DVs X.K H vs ds → Vals vs us → ∃ as, ReadsAll s.heap us ds as
  | _, _, _, .nil, r => by cases r; exact ⟨_, .nil⟩
  | _, _, _, .cons d ds, r => by
    cases r with
    | cons r1 r2 =>
      obtain ⟨as, ra⟩ := DV.reads I d r1
      obtain ⟨bs, rb⟩ := DVs.reads I ds r2
      exact ⟨_, .cons ra rb⟩
end
end
def rDat (K : PySem.W.Frag) (neg : Bool) : R2 := fun x y H Q => ∃ d e, DV K H x d ∧ DV K H y e ∧ shaped d = true ∧ shaped e = true ∧ noMix d e = true ∧ Q (.bl (if neg then !same d e else same d e)) H
theorem op_neD {X : Cx} (hu : X.A.units + 64 < cLine) : OpR X (compareOp .NotEq) (rDat X.K true) := by
  intro pins s σ H x y v u Q I rx ry h
  obtain ⟨d, e, hd, he, sd, se, hm, q⟩ := h
  obtain ⟨as, ra⟩ := hd.reads I rx
  obtain ⟨bs, rb⟩ := he.reads I ry
  exact ne_dataH_same ra rb sd se hu hm ⟨.bl _, H, I, rfl, q⟩
mutual
def plainD : PyData → Bool
  | .none | .bool _ | .int _ => true
  | .str x => PyData.strOk x
  | .list xs | .tuple xs => plainDs xs
  | .dict _ => false
def plainDs : List PyData → Bool
  | [] => true
  | x :: xs => plainD x && plainDs xs
end
mutual
theorem same_self : ∀ d : PyData, plainD d = true → same d d = true ∧ noMix d d = true ∧ d.canLay0 = true
  | .none, _ => by simp [same, noMix, PyData.canLay0]
  | .bool b, _ => by simp [same, noMix, PyData.canLay0]
  | .int b, _ => by simp [same, noMix, PyData.canLay0]
  | .str b, h => by simp only [plainD] at h; simp [same, noMix, PyData.canLay0, h]
  | .list xs, h => by
    simp only [plainD] at h
    obtain ⟨a, b, c⟩ := sames_self xs h
    simp [same, noMix, PyData.canLay0, a, b, c]
  | .tuple xs, h => by
    simp only [plainD] at h
    obtain ⟨a, b, c⟩ := sames_self xs h
    simp [same, noMix, PyData.canLay0, a, b, c]
  | .dict xs, h => by simp [plainD] at h
theorem sames_self : ∀ ds : List PyData, plainDs ds = true → sameAll ds ds = true ∧ noMixAll ds ds = true ∧ PyData.canLayAll0 ds = true
  | [], _ => by simp [sameAll, noMixAll, PyData.canLayAll0]
  | x :: xs, h => by
    simp only [plainDs, Bool.and_eq_true] at h
    obtain ⟨a, b, c⟩ := same_self x h.1
    obtain ⟨a', b', c'⟩ := sames_self xs h.2
    simp [sameAll, noMixAll, PyData.canLayAll0, a, b, c, a', b', c']
end
theorem shaped_of {d : PyData} (h : plainD d = true) (hd : d.depth ≤ 64) : shaped d = true := by
  show (d.canLay0 && decide (d.depth ≤ 64)) = true
  rw [(same_self d h).2.2, decide_eq_true hd]
  rfl
end L2
set_option Elab.async false
set_option linter.all false
set_option maxRecDepth 100000
set_option maxHeartbeats 4000000
namespace L2
open PySem PySem.Spec PyProof.Rows
section
variable {prog : Program} {w : World} {A : Around} {E : Value → Shared → Prop} {s : Shared}
end
section
variable {X : Cx}
end
end L2
set_option Elab.async false
set_option linter.all false
set_option maxRecDepth 100000
set_option maxHeartbeats 4000000
namespace L2
open PySem PySem.Spec PyProof.Rows
section
variable {prog : Program} {w : World} {A : Around} {R : Result → Shared → Prop} {I : Addr} {fp wr : List Addr} {G : Array GenState → Array GenState → Prop} {n : Nat} {P : Nat → Value → Prop} {St : Nat → Shared → Prop}
end
section
variable {prog : Program} {w : World} {A : Around} {E : Value → Shared → Prop} {s : Shared}
end
section
variable {X : Cx}
end
end L2
set_option Elab.async false
set_option linter.all false
set_option maxRecDepth 100000
set_option maxHeartbeats 4000000
namespace L2
open PySem PySem.Spec PyProof.Rows
section
variable {X : Cx} {K : PySem.W.Frag} {a e : Expr} {ta te : TE}
def tTru (K : PySem.W.Frag) (ta : TE) : TT := fun σ H Q => ta σ H fun x H' => ∃ k, TruV K x H' k ∧ Q k H'
theorem pt_tru (ha : PE X a ta) (hK : X.K = K := by rfl) (he : ∀ whole, isTrue a X.env whole = (do let v ← whole; standAt a.pos; holding [v] (truthy v)) := by intro _; rfl) : PT X a (tTru K ta) := by
  subst hK
  exact pt_truth ha he
def rListOf (K : PySem.W.Frag) : List V → Hp → VK → Prop := fun xs H Q => ∃ p ys, xs = [.ref p] ∧ (SqL K H p ys ∨ SqT K H p ys) ∧ ∀ l, H l = none → Q (.ref l) (upd H l (.lst ys))
theorem call_listK (hK : X.K = K := by rfl) : CallR X (.type "list") (rListOf K) := by
  subst hK
  exact call_list_of
end
end L2
set_option Elab.async false
set_option linter.all false
set_option maxRecDepth 100000
set_option maxHeartbeats 4000000
namespace L2
open PySem PySem.Spec PyProof.Rows
section
variable {X : Cx}
end
section
variable {X : Cx} {EX : XS} {k : Nat} {f C : Addr} {fd : FuncData} {ps : List Str} {sp : Sp} {dvs : List V} {ds : List Value} {x m : Str} {p pos apos : Pos} {e o : Expr} {es : List Expr} {ta : TE} {t : TA}
end
end L2
set_option Elab.async false
set_option linter.all false
set_option maxRecDepth 100000
set_option maxHeartbeats 4000000
namespace L2
open PySem PySem.Spec PyProof.Rows
section
variable {X : Cx} {pins : List (Addr × Obj)} {σ : St} {H : Hp} {s : Shared} {d : Addr} {kvs : List (Key × V)} {o : Obj}
end
end L2
set_option Elab.async false
set_option linter.all false
set_option maxRecDepth 100000
set_option maxHeartbeats 4000000
namespace L2
open PySem PySem.Spec PyProof.Rows
theorem PE.imp {X : Cx} {e : Expr} {t t' : TE} (h : PE X e t) (i : ∀ σ H Q, t' σ H Q → t σ H Q) : PE X e t' := fun pins s σ H Q I hw => h pins s σ H Q I (i σ H Q hw)
theorem with_tail {X : Cx} {tail body : List Stmt} {G : TS → Prop} (Pr : TS → Prop) (h : ∃ tt, PSs X tail tt ∧ Pr tt) (k : ∀ tt, PSs X tail tt → Pr tt → ∃ t, PSs X body t ∧ G t) : ∃ t, PSs X body t ∧ G t := let ⟨tt, a, b⟩ := h; k tt a b
def fBody : Stmt → List Stmt
  | .For _ _ b _ _ => b
  | _ => []
structure FunD (K : PySem.W.Frag) (x qual : Str) (st : Stmt) (f : Addr) (fd : FuncData) (T : Addr) : Prop where
  ex : ∃ (oc : Value) (od : Option Addr) (kV doc pm : Value) (an : Option Addr) (cdv ct : Value) (osl : Array (Option Value)),
    fd = PySem.W.fnOf x qual (defArgs st) (defBody st) (defScope st) (.ref T) kV doc pm an cdv ct ∧ K.lookup f = some ⟨oc, od, .func fd, osl⟩ ∧ PySem.W.codeIn K cdv qual = true
  kp : PySem.W.keepIn K (.ref f) = true
section
variable {P : Program} {w : World} {K : PySem.W.Frag} {mg : Str → Option Value} {base : Heap}
theorem FunD.ok {x qual : Str} {st : Stmt} {f T : Addr} {fd : FuncData} {N ps : List Str} {k : Nat} {sp : Sp} (F : FunD K x qual st f fd T) (S : FnScope N ps (defScope st)) (len : ∀ vs H Q E, sp vs H Q E → vs.length = ps.length)
    (hbody : ∀ (cdv : Value) (A : Around) (outer : List Env) (s : Shared) (H : Hp) (vs : List V) (Q : VK) (E : XK), Room k (A.deeper (envOfC qual (defScope st) s.heap.objs.size f cdv)) → sp vs H Q E →
      ∃ t, PSs (cxOf CX0 P w K mg base N qual (defScope st) f cdv A outer s H E).nox (defBody st) t ∧ t { nx := fun _ H' => Q .non H', rt := Q } (start N vs) H) : FnOk P w K mg base CX0 (k + 1) f fd ps sp := by
  obtain ⟨oc, od, kV, doc, pm, an, cdv, ct, osl, rfl, lk, hcd⟩ := F.ex
  refine fn_of lk hcd S len fun A outer s H vs Q E hr hsp => ?_
  obtain ⟨t, h, q⟩ := hbody cdv A outer s H vs Q E hr hsp
  exact ⟨t, h.nox, q⟩
theorem FunD.binds {x qual : Str} {st : Stmt} {f T : Addr} {fd : FuncData} {ps : List Str} {ds : List Value} {o : Obj} {items : Array Value} {n : Nat} (F : FunD K x qual st f fd T) (ho : K.lookup T = some o) (hs : o.data = .seq items n) (m : Nat) (hm : m + ds.length = ps.length)
    (h : ∀ (kV doc pm : Value) (an : Option Addr) (cdv ct : Value) (us : List Value), us.length = m → ∃ k : Option (Array Value) → Sem (List (Str × Value)), bindArgs (PySem.W.fnOf x qual (defArgs st) (defBody st) (defScope st) (.ref T) kV doc pm an cdv ct) ⟨us, []⟩ = (seqItems? (.ref T) >>= k) ∧ k (some items) = pure (ps.zip (us ++ ds))) : Binds K fd ps ds := by
  obtain ⟨oc, od, kV, doc, pm, an, cdv, ct, osl, rfl, lk, hcd⟩ := F.ex
  intro s us KX hl
  obtain ⟨k, h1, h2⟩ := h kV doc pm an cdv ct us (by rw [List.length_append] at hl; omega)
  exact PySem.W.binds_K KX rfl ho hs h1 h2
end
end L2
set_option Elab.async false
set_option linter.all false
set_option maxRecDepth 100000
set_option maxHeartbeats 4000000
namespace L2
open PySem PySem.Spec PyProof.Rows
section
variable {X : Cx} {tg : Expr}
end
def KDic (P : Program) (w : World) (K : PySem.W.Frag) (a : Addr) (kvs : List (Key × V)) : Prop :=
  ∃ (o : Obj) (es : Array DictEntry) (ep : Nat) (vs : List (Key × Value)), K.lookup a = some o ∧ o.ExactDict ∧ o.data = .dict es ep ∧ KeysOf (mixKind P w) es ∧ Pairs (mixKind P w) es.toList vs ∧ (vs.map (·.1)).Nodup ∧ KV kvs vs ∧ (a == sysModules) = false
theorem KDic.at_ {X : Cx} {pins : List (Addr × Obj)} {σ : St} {H : Hp} {s : Shared} {a : Addr} {kvs : List (Key × V)} (I : Inv X pins σ H s) (d : KDic X.prog X.w X.K a kvs) : (a == sysModules) = false ∧ ∃ vs, KV kvs vs ∧ s.heap.DictOf (mixKind X.prog X.w) a vs := by
  obtain ⟨o, es, ep, vs, lk, x, da, hk, hp, hn, kv, sm⟩ := d
  exact ⟨sm, vs, kv, o, es, ep, I.kIn _ _ lk, x, da, hk, hp, hn⟩
end L2
set_option Elab.async false
set_option linter.all false
set_option maxRecDepth 100000
set_option maxHeartbeats 4000000
namespace L2
open PySem PySem.Spec PyProof.Rows
section
variable {prog : Program} {w : World} {A : Around} {E : Value → Shared → Prop} {s : Shared}
end
structure ZApart (n : Addr) (fp1 fp2 : List Addr) : Prop where
  m1 : ∀ c ∈ fp1, c = n ∨ (c ≠ n + 1 ∧ c ≠ n + 3 ∧ c ≠ n + 4)
  m2 : ∀ c ∈ fp2, c = n + 1 ∨ (c ≠ n ∧ c ≠ n + 3 ∧ c ≠ n + 4)
section
variable {prog : Program} {w : World} {A : Around} {E : Value → Shared → Prop} {s : Shared} {n : Addr} {fp1 fp2 : List Addr} {n1 n2 : Nat} {P1 P2 : Nat → Value → Prop} {S1 S2 : Nat → Heap → Prop}
end
end L2
set_option Elab.async false
set_option linter.all false
set_option maxRecDepth 100000
set_option maxHeartbeats 4000000
namespace L2
open PySem PySem.Spec PyProof.Rows
end L2
set_option Elab.async false
set_option linter.all false
set_option maxRecDepth 100000
set_option maxHeartbeats 4000000
namespace L2
open PySem PySem.Spec PyProof.Rows
section
variable {prog : Program} {w : World} {A : Around} {E : Value → Shared → Prop} {s : Shared} {n : Addr} {fp1 fp2 : List Addr} {n1 n2 : Nat} {P1 P2 : Nat → Value → Prop} {S1 S2 : Nat → Heap → Prop}
end
end L2
set_option Elab.async false
set_option linter.all false
set_option maxRecDepth 100000
set_option maxHeartbeats 4000000
namespace Rk
open PySem
def Ab (b : Nat) (n : Int) : Prop := n.natAbs ≤ 2 ^ b
theorem pow_mono {b c : Nat} (h : b ≤ c) : 2 ^ b ≤ 2 ^ c := Nat.pow_le_pow_right (by decide) h
theorem Ab.mono {b c : Nat} {n : Int} (h : Ab b n) (hc : b ≤ c) : Ab c n := Nat.le_trans h (pow_mono hc)
theorem Ab.add {b : Nat} {x y : Int} (hx : Ab b x) (hy : Ab b y) : Ab (b + 1) (x + y) := by
  unfold Ab at *
  have := Int.natAbs_add_le x y
  rw [Nat.pow_succ]
  omega
theorem Ab.neg {b : Nat} {x : Int} (hx : Ab b x) : Ab b (-x) := by
  unfold Ab at *
  rw [Int.natAbs_neg]
  exact hx
theorem Ab.sub {b : Nat} {x y : Int} (hx : Ab b x) (hy : Ab b y) : Ab (b + 1) (x - y) := by
  rw [Int.sub_eq_add_neg]
  exact hx.add hy.neg
theorem Ab.mul {b c : Nat} {x y : Int} (hx : Ab b x) (hy : Ab c y) : Ab (b + c) (x * y) := by
  unfold Ab at *
  rw [Int.natAbs_mul, Nat.pow_add]
  exact Nat.mul_le_mul hx hy
theorem Ab.up {b k : Nat} {x : Int} (hx : Ab b x) : Ab (b + k) (x * 2 ^ k) := by
  refine hx.mul ?_
  unfold Ab
  rw [Int.natAbs_pow]
  exact Nat.le_refl _
def In (b : Nat) (n : Int) : Prop := -((2 ^ b : Nat) : Int) ≤ n ∧ n < ((2 ^ b : Nat) : Int)
theorem In.ab {b : Nat} {x : Int} (h : In b x) : Ab b x := by
  unfold In at h
  unfold Ab
  generalize 2 ^ b = p at *
  omega
theorem In.not {b : Nat} {x : Int} (h : In b x) : In b (Builtin.bitNot x) := by
  unfold In at *
  unfold Builtin.bitNot
  generalize 2 ^ b = p at *
  omega
theorem In.nat {b : Nat} {x : Int} (h : In b x) : x.toNat < 2 ^ b := by
  have hp : 0 < 2 ^ b := Nat.pow_pos (by decide)
  unfold In at h
  generalize 2 ^ b = p at *
  omega
theorem and_nn {x : Int} {m : Nat} (h : 0 ≤ x) : (0 : Int) ≤ x - ((x.toNat &&& m : Nat) : Int) ∧ x - ((x.toNat &&& m : Nat) : Int) ≤ x := by
  have := Nat.and_le_left (n := x.toNat) (m := m)
  omega
theorem In.and {b : Nat} {x y : Int} (hx : In b x) (hy : In b y) : In b (Builtin.bitAnd x y) := by
  have h1 := hx.not.nat
  have h2 := hy.not.nat
  have hl := Nat.and_le_left (n := x.toNat) (m := y.toNat)
  have ho := Nat.or_lt_two_pow h1 h2
  unfold Builtin.bitAnd
  by_cases h : 0 ≤ x <;> by_cases g : 0 ≤ y
  · rw [decide_eq_true h, decide_eq_true g]
    unfold In at *
    show -_ ≤ ((x.toNat &&& y.toNat : Nat) : Int) ∧ ((x.toNat &&& y.toNat : Nat) : Int) < _
    generalize 2 ^ b = p at *
    omega
  · rw [decide_eq_true h, decide_eq_false g]
    have := and_nn (m := (Builtin.bitNot y).toNat) h
    unfold In at *
    show -_ ≤ x - ((x.toNat &&& (Builtin.bitNot y).toNat : Nat) : Int) ∧ x - ((x.toNat &&& (Builtin.bitNot y).toNat : Nat) : Int) < _
    generalize 2 ^ b = p at *
    omega
  · rw [decide_eq_false h, decide_eq_true g]
    have := and_nn (m := (Builtin.bitNot x).toNat) g
    unfold In at *
    show -_ ≤ y - ((y.toNat &&& (Builtin.bitNot x).toNat : Nat) : Int) ∧ y - ((y.toNat &&& (Builtin.bitNot x).toNat : Nat) : Int) < _
    generalize 2 ^ b = p at *
    omega
  · rw [decide_eq_false h, decide_eq_false g]
    show In b (Builtin.bitNot (((Builtin.bitNot x).toNat ||| (Builtin.bitNot y).toNat : Nat) : Int))
    refine In.not ?_
    unfold In
    generalize 2 ^ b = p at *
    omega
theorem In.or {b : Nat} {x y : Int} (hx : In b x) (hy : In b y) : In b (Builtin.bitOr x y) := (hx.not.and hy.not).not
end Rk
set_option Elab.async false
set_option linter.all false
set_option maxRecDepth 100000
set_option maxHeartbeats 4000000
namespace L2
open PySem PySem.Spec PyProof.Rows Rk
section
variable {X : Cx}
end
def cStrs : List Expr → Option (List Str)
  | [] => some []
  | .Constant (.str x) _ _ :: es => (cStrs es).map (x :: ·)
  | _ => none
def tVals (vs : List V) : TA := fun _ H Q => Q vs H
theorem pa_strs {X : Cx} : ∀ {es : List Expr} {xs : List Str}, cStrs es = some xs → PA X es (tVals (xs.map V.str))
  | [], xs, h => by
    cases h
    exact pa_nil
  | e :: es, xs, h => by
    cases e with
    | Constant c j p =>
      cases c with
      | str x =>
        have h' : (cStrs es).map (x :: ·) = some xs := h
        cases e : cStrs es with
        | none =>
          rw [e] at h'
          cases h'
        | some ys =>
          rw [e] at h'
          cases h'
          exact pa_cons pe_str (pa_strs e)
      | _ => cases h
    | _ => cases h
structure PSw (X : Cx) (st : Stmt) (t : TS) : Prop where
  ok : PS X st t
structure PAw (X : Cx) (es : List Expr) (t : TA) : Prop where
  ok : PA X es t
theorem paw_strs {X : Cx} {es : List Expr} {xs : List Str} (h : cStrs es = some xs) : PAw X es (tVals (xs.map V.str)) := ⟨pa_strs h⟩
theorem psw_lst {X : Cx} {i : Nat} {x : Str} {es : List Expr} {t : TA} {pos pos' p2 : Pos} (hN : X.N.Nodup) (hi : X.N[i]? = some x) (hx : Loc X.env.scope x) (h : PAw X es t) (hf : X.fn x = true ∨ X.env.scope.names.lookup x = some .local) : PSw X (.Assign [.Name x pos'] (.List es p2) pos) (tAsg (tLst t) (gName i)) := ⟨ps_set hN hi hx (pe_lst h.ok) rfl hf⟩
end L2
set_option Elab.async false
set_option linter.all false
namespace Ah
inductive Ld where
  | none | go (p : Nat)
inductive Stp where
  | ld (l : Ld) | ei (a b : Ld) | oth
inductive Nd where
  | ans (n : Nat) | una (n : Nat) | nev | need (p : Nat)
  deriving DecidableEq
abbrev Mp := Nat → Option Nd
def ldE (m : Mp) : Ld → Nd
  | .none => .una 0
  | .go p => (m p).getD (.need p)
def behE (c : Nat) : Nd → Nd
  | .ans n => .ans (c + n)
  | .una n => .una (c + n)
  | .nev => .nev
  | .need p => .need p
def eiE (x y : Nd) : Nd := match x with
  | .una n => behE n y
  | .ans n => .ans n
  | .nev => .nev
  | .need p => .need p
def stE (m : Mp) : Stp → Nd
  | .ld l => ldE m l
  | .ei a b => eiE (ldE m a) (ldE m b)
  | .oth => .ans 0
def rowE (m : Mp) : Nat → List Stp → Nd
  | c, [] => .ans c
  | c, s :: t => match stE m s with
    | .ans n => rowE m (c + n) t
    | .una n => .una (c + n)
    | .nev => .nev
    | .need p => .need p
def Out (x : Nd) : Prop := x = .nev ∨ ∃ p, x = .need p
section
variable {m m' : Mp} {B : Nd → Prop}
theorem ld_prop (h : ∀ q, m q = m' q ∨ B ((m q).getD (.need q))) : ∀ l, ldE m l = ldE m' l ∨ B (ldE m l)
  | .none => .inl rfl
  | .go p => by
    rcases h p with e | e
    · left
      show (m p).getD _ = (m' p).getD _
      rw [e]
    · exact .inr e
theorem st_prop (hB : ∀ x, B x → Out x) (h : ∀ q, m q = m' q ∨ B ((m q).getD (.need q))) : ∀ s, stE m s = stE m' s ∨ B (stE m s)
  | .ld l => ld_prop h l
  | .oth => .inl rfl
  | .ei a b => by
    show eiE (ldE m a) (ldE m b) = eiE (ldE m' a) (ldE m' b) ∨ B (eiE (ldE m a) (ldE m b))
    rcases ld_prop h a with ea | ea
    · rw [← ea]
      cases x : ldE m a with
      | una n =>
        rcases ld_prop h b with eb | eb
        · rw [← eb]; exact .inl rfl
        · right
          rcases hB _ eb with z | ⟨p, z⟩ <;> rw [z] at eb ⊢ <;> exact eb
      | ans n => exact .inl rfl
      | nev => exact .inl rfl
      | need p => exact .inl rfl
    · right
      rcases hB _ ea with z | ⟨p, z⟩ <;> rw [z] at ea ⊢ <;> exact ea
theorem row_prop (hB : ∀ x, B x → Out x) (h : ∀ q, m q = m' q ∨ B ((m q).getD (.need q))) : ∀ (r : List Stp) (c : Nat), rowE m c r = rowE m' c r ∨ B (rowE m c r)
  | [], _ => .inl rfl
  | s :: t, c => by
    rcases st_prop hB h s with es | es
    · unfold rowE
      rw [← es]
      cases x : stE m s with
      | ans n => exact row_prop hB h t (c + n)
      | una n => exact .inl rfl
      | nev => exact .inl rfl
      | need p => exact .inl rfl
    · right
      unfold rowE
      rcases hB _ es with z | ⟨p, z⟩ <;> rw [z] at es ⊢ <;> exact es
def Good (m m' : Mp) : Prop := ∀ x e, m x = some e → e ≠ .nev → m' x = some e
theorem row_good (hG : Good m m') (r : List Stp) (c : Nat) : rowE m c r = rowE m' c r ∨ rowE m c r = .nev ∨ ∃ p, rowE m c r = .need p ∧ m' p ≠ none := by
  refine row_prop (m := m) (m' := m') (B := fun y => y = .nev ∨ ∃ p, y = .need p ∧ m' p ≠ none) (fun x hx => ?_) (fun q => ?_) r c
  · rcases hx with z | ⟨p, z, _⟩
    · exact .inl z
    · exact .inr ⟨p, z⟩
  · cases e : m q with
    | none =>
      cases e' : m' q with
      | none => exact .inl rfl
      | some y => exact .inr (.inr ⟨q, rfl, by rw [e']; exact nofun⟩)
    | some y =>
      by_cases hy : y = .nev
      · exact .inr (.inl hy)
      · exact .inl (hG q y e hy).symm
theorem row_nev (hs : ∀ x e, m x = some e → m' x = some e) {r : List Stp} {c : Nat} (h : rowE m c r = .nev) : rowE m' c r = .nev := by
  have key : rowE m c r = rowE m' c r ∨ ∃ p, rowE m c r = .need p := row_prop (m := m) (m' := m') (B := fun y => ∃ p, y = .need p) (fun x hx => .inr hx) (fun q => by
    cases e : m q with
    | none => exact .inr ⟨q, rfl⟩
    | some y => exact .inl (hs q y e).symm) r c
  rcases key with e | ⟨p, e⟩
  · rw [← e]; exact h
  · rw [h] at e; cases e
def NoNeed (m : Mp) : Prop := ∀ x p, m x ≠ some (.need p)
def ldsL : Ld → List Nat
  | .none => []
  | .go p => [p]
def leads : Stp → List Nat
  | .ld l => ldsL l
  | .ei a b => ldsL a ++ ldsL b
  | .oth => []
theorem ld_need (hn : NoNeed m) {p : Nat} : ∀ {l : Ld}, ldE m l = .need p → m p = none ∧ p ∈ ldsL l
  | .none, h => nomatch h
  | .go q, h => by
    have h : (m q).getD (.need q) = .need p := h
    cases e : m q with
    | none =>
      rw [e] at h
      cases h
      exact ⟨e, List.mem_singleton.mpr rfl⟩
    | some y =>
      rw [e] at h
      have h : y = .need p := h
      subst h
      exact absurd e (hn q p)
theorem beh_need {c : Nat} {e : Nd} {p : Nat} (h : behE c e = .need p) : e = .need p := by
  cases e <;> first | exact h | cases h
theorem st_need (hn : NoNeed m) {p : Nat} : ∀ {s : Stp}, stE m s = .need p → m p = none ∧ p ∈ leads s
  | .ld l, h => ld_need hn h
  | .oth, h => nomatch h
  | .ei a b, h => by
    have h : eiE (ldE m a) (ldE m b) = .need p := h
    cases x : ldE m a with
    | una n =>
      rw [x] at h
      obtain ⟨h1, h2⟩ := ld_need hn (beh_need h)
      exact ⟨h1, List.mem_append_right _ h2⟩
    | ans n => rw [x] at h; cases h
    | nev => rw [x] at h; cases h
    | need q =>
      rw [x] at h
      cases h
      obtain ⟨h1, h2⟩ := ld_need hn x
      exact ⟨h1, List.mem_append_left _ h2⟩
theorem row_need (hn : NoNeed m) {p : Nat} : ∀ {r : List Stp} {c : Nat}, rowE m c r = .need p → m p = none ∧ ∃ s ∈ r, p ∈ leads s
  | [], _, h => nomatch h
  | s :: t, c, h => by
    unfold rowE at h
    cases x : stE m s with
    | ans n =>
      rw [x] at h
      obtain ⟨h1, u, hu, h2⟩ := row_need hn (r := t) h
      exact ⟨h1, u, List.mem_cons_of_mem _ hu, h2⟩
    | una n => rw [x] at h; cases h
    | nev => rw [x] at h; cases h
    | need q =>
      rw [x] at h
      cases h
      obtain ⟨h1, h2⟩ := st_need hn x
      exact ⟨h1, s, List.mem_cons_self .., h2⟩
theorem row_pos {m : Mp} : ∀ {r : List Stp} {c : Nat}, (∀ k, rowE m c r = .ans k → c ≤ k) ∧ ∀ k, rowE m c r = .una k → c ≤ k
  | [], c => ⟨fun k h => by cases h; exact Nat.le_refl _, fun k h => nomatch h⟩
  | s :: t, c => by
    unfold rowE
    cases x : stE m s with
    | ans n =>
      obtain ⟨h1, h2⟩ := row_pos (m := m) (r := t) (c := c + n)
      exact ⟨fun k h => Nat.le_trans (Nat.le_add_right _ _) (h1 k h), fun k h => Nat.le_trans (Nat.le_add_right _ _) (h2 k h)⟩
    | una n => exact ⟨(fun k h => nomatch h), fun k h => by cases h; exact Nat.le_add_right _ _⟩
    | nev => exact ⟨(fun k h => nomatch h), fun k h => nomatch h⟩
    | need q => exact ⟨(fun k h => nomatch h), fun k h => nomatch h⟩
def fN (p : Nat) (e : Nd) : Nd := if e = .need p then .nev else e
def setM (m : Mp) (q : Nat) (e : Nd) : Mp := fun x => if x = q then some e else m x
theorem setM_eq {q : Nat} {e : Nd} : setM m q e q = some e := if_pos rfl
theorem setM_ne {q x : Nat} {e : Nd} (h : x ≠ q) : setM m q e x = m x := if_neg h
theorem ld_set (hn : NoNeed m) {p : Nat} (hp : m p = none) : ∀ l, ldE (setM m p .nev) l = fN p (ldE m l)
  | .none => by show Nd.una 0 = fN p (.una 0); unfold fN; rw [if_neg (by exact nofun)]
  | .go q => by
    show (setM m p .nev q).getD (.need q) = fN p ((m q).getD (.need q))
    unfold fN
    by_cases h : q = p
    · subst h
      rw [setM_eq, hp]
      show Nd.nev = if Nd.need q = Nd.need q then Nd.nev else Nd.need q
      rw [if_pos rfl]
    · rw [setM_ne h]
      cases e : m q with
      | none =>
        show Nd.need q = if Nd.need q = Nd.need p then Nd.nev else Nd.need q
        rw [if_neg (fun z => h (Nd.need.inj z))]
      | some y =>
        show y = if y = Nd.need p then Nd.nev else y
        rw [if_neg (fun z => hn q p (by rw [e, z]))]
theorem fN_beh {p c : Nat} (e : Nd) : behE c (fN p e) = fN p (behE c e) := by
  cases e with
  | need q =>
    by_cases h : q = p
    · subst h
      unfold fN
      rw [if_pos rfl]
      show Nd.nev = if Nd.need q = Nd.need q then Nd.nev else Nd.need q
      rw [if_pos rfl]
    · unfold fN
      rw [if_neg (fun z => h (Nd.need.inj z))]
      show Nd.need q = if Nd.need q = Nd.need p then Nd.nev else Nd.need q
      rw [if_neg (fun z => h (Nd.need.inj z))]
  | ans n => rfl
  | una n => rfl
  | nev => rfl
theorem st_set (hn : NoNeed m) {p : Nat} (hp : m p = none) : ∀ s, stE (setM m p .nev) s = fN p (stE m s)
  | .ld l => ld_set hn hp l
  | .oth => rfl
  | .ei a b => by
    show eiE (ldE _ a) (ldE _ b) = fN p (eiE (ldE m a) (ldE m b))
    rw [ld_set hn hp a, ld_set hn hp b]
    cases x : ldE m a with
    | una n =>
      show behE n (fN p (ldE m b)) = fN p (behE n (ldE m b))
      exact fN_beh _
    | ans n => rfl
    | nev => rfl
    | need q =>
      by_cases h : q = p
      · subst h
        have e : fN q (.need q) = .nev := if_pos rfl
        rw [e]
        exact e.symm
      · have e : fN p (.need q) = .need q := if_neg (fun z => h (Nd.need.inj z))
        rw [e]
        exact e.symm
theorem row_set (hn : NoNeed m) {p : Nat} (hp : m p = none) : ∀ (r : List Stp) (c : Nat), rowE (setM m p .nev) c r = fN p (rowE m c r)
  | [], _ => rfl
  | s :: t, c => by
    unfold rowE
    rw [st_set hn hp s]
    cases x : stE m s with
    | ans n => exact row_set hn hp t (c + n)
    | una n => rfl
    | nev => rfl
    | need q =>
      by_cases h : q = p
      · subst h
        have e : fN q (.need q) = .nev := if_pos rfl
        rw [e]
      · have e : fN p (.need q) = .need q := if_neg (fun z => h (Nd.need.inj z))
        rw [e]
end
def er (m : Mp) (ps : List Nat) : Mp := fun q => if q ∈ ps then none else m q
theorem er_in {m : Mp} {ps : List Nat} {q : Nat} (h : q ∈ ps) : er m ps q = none := if_pos h
theorem er_out {m : Mp} {ps : List Nat} {q : Nat} (h : q ∉ ps) : er m ps q = m q := if_neg h
theorem er_some {m : Mp} {ps : List Nat} {q : Nat} {e : Nd} (h : er m ps q = some e) : q ∉ ps ∧ m q = some e := by
  by_cases z : q ∈ ps
  · rw [er_in z] at h; cases h
  · rw [er_out z] at h; exact ⟨z, h⟩
def Chain (row : Nat → List Stp) (m : Mp) : List Nat → Prop
  | [] => True
  | [_] => True
  | p :: q :: r => rowE (er m [p]) 1 (row q) = .need p ∧ Chain row m (q :: r)
theorem Chain.good {row : Nat → List Stp} {m m' : Mp} (h : Good m m') : ∀ {ps : List Nat}, Chain row m ps → Chain row m' ps
  | [], _ => trivial
  | [_], _ => trivial
  | p :: q :: r, c => by
    refine ⟨?_, Chain.good h c.2⟩
    have hG : Good (er m [p]) (er m' [p]) := fun x e hx he => by
      obtain ⟨h1, h2⟩ := er_some hx
      rw [er_out h1]
      exact h x e h2 he
    rcases row_good hG (row q) 1 with z | z | ⟨y, z, hy⟩
    · rw [← z]; exact c.1
    · rw [c.1] at z; cases z
    · rw [c.1] at z
      cases z
      exact absurd (er_in (List.mem_singleton.mpr rfl)) hy
theorem Chain.tail {row : Nat → List Stp} {m : Mp} {p : Nat} : ∀ {ps : List Nat}, Chain row m (p :: ps) → Chain row m ps
  | [], _ => trivial
  | _ :: _, c => c.2
structure Pil (row : Nat → List Stp) (n : Nat) (m : Mp) (ps : List Nat) : Prop where
  nd : ps.Nodup
  lt : ∀ p ∈ ps, p < n
  tl : ∀ p ∈ ps.tail, m p = some .nev
  hd : ∀ p, ps.head? = some p → m p = none ∨ m p = some .nev
  ky : ∀ p e, m p = some e → p < n
  nn : NoNeed m
  ch : Chain row m ps
  ph : (∀ x e, m x = some e → x ∉ ps → rowE (er m ps) 1 (row x) = e) ∨ ((∀ x e, m x = some e → x ∉ ps → rowE m 1 (row x) = e) ∧ ∀ q, ps.head? = some q → m q = some .nev ∧ rowE m 1 (row q) = .nev)
structure Told (row : Nat → List Stp) (n : Nat) (m : Mp) : Prop where
  ky : ∀ p e, m p = some e → p < n
  nn : NoNeed m
  fo : ∀ x e, m x = some e → rowE m 1 (row x) = e
theorem er_nil (m : Mp) : er m [] = m := by
  funext q
  exact er_out (by simp)
theorem Pil.done {row : Nat → List Stp} {n : Nat} {m : Mp} (h : Pil row n m []) : Told row n m := by
  refine ⟨h.ky, h.nn, fun x e hx => ?_⟩
  rcases h.ph with p | ⟨p, _⟩
  · have := p x e hx (by simp)
    rw [er_nil] at this
    exact this
  · exact p x e hx (by simp)
theorem Told.start {row : Nat → List Stp} {n : Nat} {m : Mp} (T : Told row n m) {p : Nat} (hp : m p = none) (hl : p < n) : Pil row n m [p] := by
  refine ⟨by simp, fun q hq => ?_, (fun q hq => nomatch hq), fun q hq => ?_, T.ky, T.nn, trivial, .inl fun x e hx hn => ?_⟩
  · rw [List.mem_singleton] at hq
    subst hq
    exact hl
  · cases hq
    exact .inl hp
  · have z : er m [p] = m := by
      funext q
      by_cases c : q = p
      · subst c
        rw [er_in (List.mem_singleton.mpr rfl), hp]
      · exact er_out (fun w => c (List.mem_singleton.mp w))
    rw [z]
    exact T.fo x e hx
section
variable {row : Nat → List Stp} {n : Nat} {m : Mp} {q : Nat} {ps : List Nat}
theorem Pil.nevs (P : Pil row n m (q :: ps)) : ∀ x ∈ q :: ps, setM m q .nev x = some .nev := by
  intro x hx
  by_cases h : x = q
  · subst h; exact setM_eq
  · rw [setM_ne h]
    rcases List.mem_cons.mp hx with z | z
    · exact absurd z h
    · exact P.tl x z
theorem Pil.goodN (P : Pil row n m (q :: ps)) : Good m (setM m q .nev) := fun x e hx he => by
  by_cases h : x = q
  · subst h
    rcases P.hd _ rfl with z | z
    · rw [z] at hx; cases hx
    · rw [z] at hx
      cases hx
      exact absurd rfl he
  · rw [setM_ne h]; exact hx
theorem Pil.nnN (P : Pil row n m (q :: ps)) : NoNeed (setM m q .nev) := fun x p h => by
  by_cases z : x = q
  · subst z; rw [setM_eq] at h; cases h
  · rw [setM_ne z] at h; exact P.nn x p h
theorem Pil.kyS (P : Pil row n m (q :: ps)) (e : Nd) : ∀ p x, setM m q e p = some x → p < n := fun p x h => by
  by_cases z : p = q
  · rw [z]; exact P.lt q (List.mem_cons_self ..)
  · rw [setM_ne z] at h; exact P.ky p x h
theorem Pil.push (P : Pil row n m (q :: ps)) {p : Nat} (he : rowE (setM m q .nev) 1 (row q) = .need p) (hl : p < n) : setM m q .nev p = none ∧ Pil row n (setM m q .nev) (p :: q :: ps) := by
  have hp := (row_need P.nnN he).1
  refine ⟨hp, ?_⟩
  have hnin : p ∉ q :: ps := fun z => by
    have := P.nevs p z
    rw [hp] at this
    cases this
  have e1 : er (setM m q .nev) [p] = setM m q .nev := by
    funext x
    by_cases c : x = p
    · subst c; rw [er_in (List.mem_singleton.mpr rfl), hp]
    · exact er_out (fun w => c (List.mem_singleton.mp w))
  refine ⟨List.nodup_cons.mpr ⟨hnin, P.nd⟩, fun x hx => ?_, fun x hx => P.nevs x hx, fun x hx => ?_, P.kyS _, P.nnN, ⟨by rw [e1]; exact he, P.ch.good P.goodN⟩, ?_⟩
  · rcases List.mem_cons.mp hx with z | z
    · rw [z]; exact hl
    · exact P.lt x z
  · cases hx
    exact .inl hp
  · left
    rcases P.ph with ph | ⟨ph, top⟩
    · intro x e hx hxn
      have hx1 : x ∉ q :: ps := fun z => hxn (List.mem_cons_of_mem _ z)
      have hxq : x ≠ q := fun z => hx1 (z ▸ List.mem_cons_self ..)
      rw [setM_ne hxq] at hx
      have e2 : er (setM m q .nev) (p :: q :: ps) = er m (q :: ps) := by
        funext y
        by_cases c : y ∈ q :: ps
        · rw [er_in c, er_in (List.mem_cons_of_mem _ c)]
        · have cq : y ≠ q := fun z => c (z ▸ List.mem_cons_self ..)
          by_cases c2 : y = p
          · subst c2
            rw [er_in (List.mem_cons_self ..), er_out c]
            rw [setM_ne cq] at hp
            exact hp.symm
          · rw [er_out c, er_out (fun z => (List.mem_cons.mp z).elim c2 c), setM_ne cq]
      rw [e2]
      exact ph x e hx hx1
    · obtain ⟨t1, t2⟩ := top q rfl
      have e3 : setM m q .nev = m := by
        funext x
        by_cases c : x = q
        · subst c; rw [setM_eq, t1]
        · exact setM_ne c
      rw [e3, t2] at he
      cases he
theorem Pil.pop (P : Pil row n m (q :: ps)) {e : Nd} (he : rowE (setM m q .nev) 1 (row q) = e) (hne : ∀ p, e ≠ .need p) : Pil row n (setM m q e) ps := by
  have hq : q ∉ ps := (List.nodup_cons.mp P.nd).1
  have nn : NoNeed (setM m q e) := fun x p h => by
    by_cases z : x = q
    · subst z; rw [setM_eq] at h; exact hne p (Option.some.inj h)
    · rw [setM_ne z] at h; exact P.nn x p h
  have hin : ∀ x ∈ ps, m x = some .nev := P.tl
  have hG : Good m (setM m q e) := fun x y hx hy => by
    by_cases h : x = q
    · subst h
      rcases P.hd _ rfl with z | z
      · rw [z] at hx; cases hx
      · rw [z] at hx
        cases hx
        exact absurd rfl hy
    · rw [setM_ne h]; exact hx
  refine ⟨(List.nodup_cons.mp P.nd).2, fun x hx => P.lt x (List.mem_cons_of_mem _ hx), fun x hx => ?_, fun x hx => ?_, P.kyS _, nn, P.ch.tail.good hG, ?_⟩
  · have hx := List.mem_of_mem_tail hx
    have hxq : x ≠ q := fun z => hq (by rw [← z]; exact hx)
    rw [setM_ne hxq]
    exact hin x hx
  · have hx : x ∈ ps := List.mem_of_mem_head? (by rw [hx]; exact rfl)
    have hxq : x ≠ q := fun z => hq (by rw [← z]; exact hx)
    rw [setM_ne hxq]
    exact .inr (hin x hx)
  · by_cases hv : e = .nev
    · subst hv
      right
      have sub : ∀ x y, er m (q :: ps) x = some y → setM m q .nev x = some y := fun x y h => by
        obtain ⟨h1, h2⟩ := er_some h
        have hxq : x ≠ q := fun z => h1 (by rw [z]; exact List.mem_cons_self ..)
        rw [setM_ne hxq]
        exact h2
      constructor
      · intro x y hx hxn
        by_cases c : x = q
        · subst c
          rw [setM_eq] at hx
          cases hx
          exact he
        · rw [setM_ne c] at hx
          have hx1 : x ∉ q :: ps := fun z => (List.mem_cons.mp z).elim c hxn
          rcases P.ph with ph | ⟨ph, top⟩
          · have r := ph x y hx hx1
            by_cases hy : y = .nev
            · subst hy
              exact row_nev sub r
            · rcases row_good (m := er m (q :: ps)) (m' := setM m q .nev) (fun a b h _ => sub a b h) (row x) 1 with z | z | ⟨p, z, _⟩
              · rw [← z]; exact r
              · rw [r] at z; exact absurd z hy
              · rw [r] at z; rw [z] at hx; exact absurd hx (P.nn x p)
          · obtain ⟨t1, t2⟩ := top q rfl
            have e3 : setM m q .nev = m := by
              funext x
              by_cases c : x = q
              · subst c; rw [setM_eq, t1]
              · exact setM_ne c
            rw [e3]
            exact ph x y hx hx1
      · intro x hx
        cases ps with
        | nil => cases hx
        | cons y r =>
          cases hx
          have hyq : x ≠ q := fun z => hq (z ▸ List.mem_cons_self ..)
          refine ⟨by rw [setM_ne hyq]; exact hin x (List.mem_cons_self ..), ?_⟩
          have c1 := P.ch.1
          have hz : er m [q] q = none := er_in (List.mem_singleton.mpr rfl)
          have hnn : NoNeed (er m [q]) := fun a b h => P.nn a b (er_some h).2
          have e4 : setM (er m [q]) q .nev = setM m q .nev := by
            funext a
            by_cases c : a = q
            · subst c; rw [setM_eq, setM_eq]
            · rw [setM_ne c, setM_ne c, er_out (fun w => c (List.mem_singleton.mp w))]
          rw [← e4, row_set hnn hz, c1]
          exact if_pos rfl
    · left
      have phA : ∀ x y, m x = some y → x ∉ q :: ps → rowE (er m (q :: ps)) 1 (row x) = y := by
        rcases P.ph with ph | ⟨ph, top⟩
        · exact ph
        · obtain ⟨t1, t2⟩ := top q rfl
          have e3 : setM m q .nev = m := by
            funext x
            by_cases c : x = q
            · subst c; rw [setM_eq, t1]
            · exact setM_ne c
          rw [e3, t2] at he
          exact absurd he.symm hv
      have sub : ∀ x y, er m (q :: ps) x = some y → er (setM m q e) ps x = some y := fun x y h => by
        obtain ⟨h1, h2⟩ := er_some h
        have hxq : x ≠ q := fun z => h1 (by rw [z]; exact List.mem_cons_self ..)
        rw [er_out (fun z => h1 (List.mem_cons_of_mem _ z)), setM_ne hxq]
        exact h2
      intro x y hx hxn
      by_cases c : x = q
      · subst c
        rw [setM_eq] at hx
        cases hx
        have hG2 : Good (setM m x .nev) (er (setM m x e) ps) := fun a b ha hb => by
          by_cases c : a ∈ x :: ps
          · rw [P.nevs a c] at ha
            cases ha
            exact absurd rfl hb
          · have ca : a ≠ x := fun z => c (z ▸ List.mem_cons_self ..)
            rw [setM_ne ca] at ha
            rw [er_out (fun z => c (List.mem_cons_of_mem _ z)), setM_ne ca]
            exact ha
        rcases row_good hG2 (row x) 1 with z | z | ⟨p, z, _⟩
        · rw [← z]; exact he
        · rw [he] at z; exact absurd z hv
        · rw [he] at z; exact absurd z (hne p)
      · rw [setM_ne c] at hx
        have hx1 : x ∉ q :: ps := fun z => (List.mem_cons.mp z).elim c hxn
        have r := phA x y hx hx1
        by_cases hy : y = .nev
        · subst hy
          exact row_nev sub r
        · rcases row_good (m := er m (q :: ps)) (m' := er (setM m q e) ps) (fun a b h _ => sub a b h) (row x) 1 with z | z | ⟨p, z, _⟩
          · rw [← z]; exact r
          · rw [r] at z; exact absurd z hy
          · rw [r] at z; rw [z] at hx; exact absurd hx (P.nn x p)
end
def cnt (m : Mp) (n : Nat) : Nat := (List.range n).countP fun p => (m p).isSome
theorem cnt_le (m : Mp) (n : Nat) : cnt m n ≤ n := by
  have := List.countP_le_length (p := fun p => (m p).isSome) (l := List.range n)
  rw [List.length_range] at this
  exact this
theorem cnt_succ (m : Mp) (n : Nat) : cnt m (n + 1) = cnt m n + (if (m n).isSome then 1 else 0) := by
  unfold cnt
  rw [List.range_succ, List.countP_append, List.countP_singleton]
theorem cnt_out {m m' : Mp} : ∀ {n : Nat}, (∀ p, p < n → (m p).isSome = (m' p).isSome) → cnt m n = cnt m' n
  | 0, _ => rfl
  | n + 1, h => by
    rw [cnt_succ, cnt_succ, cnt_out fun p hp => h p (Nat.lt_succ_of_lt hp), h n (Nat.lt_succ_self n)]
theorem cnt_old {m : Mp} {n q : Nat} {e : Nd} (h : (m q).isSome = true) : cnt (setM m q e) n = cnt m n := cnt_out fun p _ => by
  by_cases c : p = q
  · subst c; rw [setM_eq, h]; rfl
  · rw [setM_ne c]
theorem cnt_new {m : Mp} {q : Nat} {e : Nd} (h : m q = none) : ∀ {n : Nat}, q < n → cnt (setM m q e) n = cnt m n + 1
  | 0, hl => absurd hl (Nat.not_lt_zero _)
  | n + 1, hl => by
    rw [cnt_succ, cnt_succ]
    by_cases c : q = n
    · subst c
      rw [setM_eq, h, cnt_out (m := setM m q e) (m' := m) fun p hp => by rw [setM_ne (Nat.ne_of_lt hp)]]
      rfl
    · rw [cnt_new h (Nat.lt_of_le_of_ne (Nat.le_of_lt_succ hl) c), setM_ne (Ne.symm c)]
      omega
theorem Told.nil (row : Nat → List Stp) (n : Nat) : Told row n fun _ => none := ⟨(fun _ _ h => nomatch h), (fun _ _ h => nomatch h), (fun _ _ h => nomatch h)⟩
end Ah
set_option Elab.async false
set_option linter.all false
set_option maxRecDepth 100000
set_option maxHeartbeats 4000000
namespace Bk
open PySem L2
def top (i : Nat) : Stmt := PySem.Challenge.pw_elderline_k10_whole_ends.main.body.getD i (.Pass ⟨0, 0, 0, 0⟩)
abbrev sTold : Stmt := top 2
abbrev sTell : Stmt := top 3
abbrev sRowEnd : Stmt := top 4
abbrev sEndBeh : Stmt := top 5
abbrev sStepEnd : Stmt := top 6
abbrev sEither : Stmt := top 7
abbrev sCell : Stmt := top 9
abbrev sLead : Stmt := top 10
abbrev sStepBy : Stmt := top 11
abbrev sRowsBy : Stmt := top 12
abbrev sFits : Stmt := top 13
abbrev sLStep : Stmt := top 14
abbrev sLRow : Stmt := top 15
abbrev sLaw : Stmt := top 16
end Bk
set_option Elab.async false
set_option linter.all false
set_option maxRecDepth 100000
set_option maxHeartbeats 4000000
namespace L2
def KeepT (H H' : Hp) : Prop := ∀ b xs, H b = some (.tup xs) → H' b = some (.tup xs)
theorem Same.keepT {H H' : Hp} (h : Same H H') : KeepT H H' := fun b xs e => h _ _ e
end L2
namespace Bk
open PySem L2 Ah
/-- names of Python's own that the text leaves as they are -/
structure Txt (mg : Str → Option Value) : Prop where
  len : mg "len" = none
  range : mg "range" = none
  isi : mg "isinstance" = none
  list : mg "list" = none
  str : mg "str" = none
  all : mg "all" = none
  tup : mg "tuple" = none
  int : mg "int" = none
  bool : mg "bool" = none
theorem same_new {H : Hp} {p : Addr} (h : H p = none) (o : HO) : Same H (upd H p o) := fun b u q => by rw [upd_ne (ne_of_none q h)]; exact q
theorem len_put {kvs : List (Key × V)} {k : Key} {u v : V} (h : valV kvs k = some u) : (putK kvs k v).length = kvs.length := by
  unfold putK
  rw [valV_any, h, if_pos (show (some u).isSome = true from rfl), List.length_map]
theorem len_put0 {kvs : List (Key × V)} {k : Key} {v : V} (h : valV kvs k = none) : (putK kvs k v).length = kvs.length + 1 := by
  unfold putK
  rw [valV_any, h, if_neg (show ¬ (none : Option V).isSome = true from Bool.false_ne_true), List.length_append]
  rfl
theorem kit_self (K : PySem.W.Frag) (n : String) : PySem.W.kitOne K (.type n) (.type n) = some true := by
  unfold PySem.W.kitOne
  exact if_pos (by simp)
theorem de_str {a b : Str} (h : decide (V.str a = V.str b) = true) : a = b := V.str.inj (of_decide_eq_true h)
theorem dn_str {a b : Str} (h : ¬ decide (V.str a = V.str b) = true) : ¬ a = b := fun e => h (by rw [e]; exact decide_eq_true rfl)
theorem in2 {kd p q : Str} : inV (V.str kd) [V.str p, V.str q] = true ↔ kd = p ∨ kd = q := by
  show ((p == kd) || ((q == kd) || false)) = true ↔ _
  rw [Bool.or_false, Bool.or_eq_true, beq_iff_eq, beq_iff_eq]
  exact ⟨fun h => h.imp Eq.symm Eq.symm, fun h => h.imp Eq.symm Eq.symm⟩
theorem sqt_same {K : PySem.W.Frag} {H H' : Hp} {a : Addr} {xs : List V} (h : Same H H') (q : SqT K H a xs) : SqT K H' a xs := by
  rcases q with (q | ⟨o, q⟩) | q
  · exact .inl (.inl (h _ _ q))
  · exact .inl (.inr ⟨o, h _ _ q⟩)
  · exact .inr q
/-- all but d stays -/
def Fr (d : Addr) (H H' : Hp) : Prop := ∀ b o, H b = some o → b ≠ d → H' b = some o
theorem Fr.refl (d : Addr) (H : Hp) : Fr d H H := fun _ _ h _ => h
theorem Fr.same {d : Addr} {H H' H2 : Hp} (f : Fr d H H') (s : Same H' H2) : Fr d H H2 := fun b o h n => s _ _ (f b o h n)
theorem Fr.upd {d : Addr} {H H' : Hp} {o : HO} (f : Fr d H H') : Fr d H (upd H' d o) := fun b u h n => by rw [upd_ne n]; exact f b u h n
theorem sqt_fr {K : PySem.W.Frag} {H H' : Hp} {a d : Addr} {xs : List V} {kvs : List (Key × V)} (hd : H d = some (.dK kvs)) (h : Fr d H H') (q : SqT K H a xs) : SqT K H' a xs := by
  rcases q with (q | ⟨o, q⟩) | q
  · exact .inl (.inl (h _ _ q (ne_of q hd (by intro z; cases z))))
  · exact .inl (.inr ⟨o, h _ _ q (ne_of q hd (by intro z; cases z))⟩)
  · exact .inr q
/-! ### steps, ends, rows in the heap -/
def LdAt (H : Hp) (v : V) : Ld → Prop
  | .none => ∃ a, v = .ref a ∧ H a = some (.tup [.str "none"])
  | .go p => ∃ a, v = .ref a ∧ H a = some (.tup [.str "go", .int (p : Nat)])
def StAt (H : Hp) (v : V) : Stp → Prop
  | .ld l => LdAt H v l
  | .ei x y => ∃ a b c, v = .ref a ∧ H a = some (.tup [.str "either", b, c]) ∧ LdAt H b x ∧ LdAt H c y
  | .oth => ∃ (a : Addr) (k : Str) (r : List V), v = .ref a ∧ H a = some (.tup (.str k :: r)) ∧ ¬ k = "go" ∧ ¬ k = "none" ∧ ¬ k = "either" ∧ (r = [] ∨ ∃ n, r = [.int n]) ∧ PyData.strOk k = true
theorem LdAt.keep {H H' : Hp} (k : KeepT H H') {v : V} : ∀ {l : Ld}, LdAt H v l → LdAt H' v l
  | .none, ⟨a, e, h⟩ => ⟨a, e, k _ _ h⟩
  | .go _, ⟨a, e, h⟩ => ⟨a, e, k _ _ h⟩
theorem StAt.keep {H H' : Hp} (k : KeepT H H') {v : V} : ∀ {s : Stp}, StAt H v s → StAt H' v s
  | .ld _, h => LdAt.keep k h
  | .ei _ _, ⟨a, b, c, e, h, h1, h2⟩ => ⟨a, b, c, e, k _ _ h, h1.keep k, h2.keep k⟩
  | .oth, ⟨a, x, r, e, h, z⟩ => ⟨a, x, r, e, k _ _ h, z⟩
theorem StAt.tup {H : Hp} {v : V} : ∀ {s : Stp}, StAt H v s → ∃ (a : Addr) (k : Str) (r : List V), v = .ref a ∧ H a = some (.tup (.str k :: r))
  | .ld .none, ⟨a, e, h⟩ => ⟨a, _, _, e, h⟩
  | .ld (.go _), ⟨a, e, h⟩ => ⟨a, _, _, e, h⟩
  | .ei _ _, ⟨a, b, c, e, h, _⟩ => ⟨a, _, _, e, h⟩
  | .oth, ⟨a, x, r, e, h, _⟩ => ⟨a, _, _, e, h⟩
def StsAt (H : Hp) : List V → List Stp → Prop := Paired (StAt H)
structure RwsAt (H : Hp) (ra : Addr) (as : List Addr) (vss : List (List V)) (rows : List (List Stp)) : Prop where
  lst : H ra = some (.lst (as.map V.ref))
  len : as.length = rows.length
  lev : vss.length = rows.length
  row : ∀ (i : Nat) (a : Addr) (vs : List V), as[i]? = some a → vss[i]? = some vs → H a = some (.lst vs)
  sts : ∀ (i : Nat) (vs : List V) (r : List Stp), vss[i]? = some vs → rows[i]? = some r → StsAt H vs r
def wd : Nd → Str
  | .ans _ => "answers"
  | .una _ => "unanswered"
  | .nev => "never"
  | .need _ => "needs"
def ct : Nd → Int
  | .ans n => (n : Nat)
  | .una n => (n : Nat)
  | .nev => 0
  | .need p => (p : Nat)
def EndV (K : PySem.W.Frag) (H : Hp) (v : V) (e : Nd) : Prop := ∃ a, v = .ref a ∧ SqT K H a [.str (wd e), .int (ct e)]
theorem EndV.same {K : PySem.W.Frag} {H H' : Hp} {v : V} {e : Nd} (h : EndV K H v e) (s : Same H H') : EndV K H' v e := let ⟨a, z, q⟩ := h; ⟨a, z, sqt_same s q⟩
theorem EndV.fr {K : PySem.W.Frag} {H H' : Hp} {d : Addr} {kvs : List (Key × V)} {v : V} {e : Nd} (h : EndV K H v e) (hd : H d = some (.dK kvs)) (f : Fr d H H') : EndV K H' v e := let ⟨a, z, q⟩ := h; ⟨a, z, sqt_fr hd f q⟩
theorem EndV.new {K : PySem.W.Frag} {H : Hp} {a : Addr} {e : Nd} (h : H a = some (.tup [.str (wd e), .int (ct e)])) : EndV K H (.ref a) e := ⟨a, rfl, SqT.of h⟩
theorem at0 (x : V) (r : List V) : atI (x :: r) 0 = some x := atI_nat (j := 0) rfl
theorem at1 (x y : V) (r : List V) : atI (x :: y :: r) 1 = some y := atI_nat (j := 1) rfl
theorem at2 (x y z : V) (r : List V) : atI (x :: y :: z :: r) 2 = some z := atI_nat (j := 2) rfl
/-- the dict at d holds what is told -/
structure EndsAt (K : PySem.W.Frag) (H : Hp) (d : Addr) (kvs : List (Key × V)) (n : Nat) (m : Mp) : Prop where
  dic : H d = some (.dK kvs)
  len : kvs.length = cnt m n
  val : ∀ p : Nat, (m p = none ∧ valV kvs (Sum.inl (p : Int) : Key) = none) ∨ ∃ e v, m p = some e ∧ valV kvs (Sum.inl (p : Int) : Key) = some v ∧ EndV K H v e
theorem EndsAt.same {K : PySem.W.Frag} {H H' : Hp} {d : Addr} {kvs : List (Key × V)} {n : Nat} {m : Mp} (E : EndsAt K H d kvs n m) (s : Same H H') : EndsAt K H' d kvs n m :=
  ⟨s _ _ E.dic, E.len, fun p => (E.val p).imp id fun ⟨e, v, h1, h2, h3⟩ => ⟨e, v, h1, h2, h3.same s⟩⟩
theorem EndsAt.put {K : PySem.W.Frag} {H : Hp} {d : Addr} {kvs : List (Key × V)} {n q : Nat} {m : Mp} {v : V} {e : Nd} (E : EndsAt K H d kvs n m) (hq : q < n) (hv : EndV K H v e) : EndsAt K (upd H d (.dK (putK kvs (Sum.inl (q : Int)) v))) d (putK kvs (Sum.inl (q : Int)) v) n (setM m q e) := by
  have f : Fr d H (upd H d (.dK (putK kvs (Sum.inl (q : Int)) v))) := (Fr.refl d H).upd
  refine ⟨upd_same, ?_, fun p => ?_⟩
  · rcases E.val q with ⟨h1, h2⟩ | ⟨e', v', h1, h2, _⟩
    · rw [len_put0 h2, cnt_new h1 hq, E.len]
    · rw [len_put h2, cnt_old (by rw [h1]; rfl), E.len]
  · rw [valV_put]
    by_cases c : p = q
    · subst c
      rw [if_pos rfl, setM_eq]
      exact .inr ⟨e, v, rfl, rfl, hv.fr E.dic f⟩
    · rw [if_neg (fun z : (Sum.inl (p : Int) : Key) = Sum.inl (q : Int) => c (Int.ofNat.inj (Sum.inl.inj z))), setM_ne c]
      exact (E.val p).imp id fun ⟨e', v', h1, h2, h3⟩ => ⟨e', v', h1, h2, h3.fr E.dic f⟩
theorem sqt_lst {K : PySem.W.Frag} {H : Hp} {a l : Addr} {xs ys zs : List V} (hl : H l = some (.lst ys)) (q : SqT K H a xs) : SqT K (upd H l (.lst zs)) a xs := by
  rcases q with (q | ⟨o, q⟩) | q
  · exact .inl (.inl (by rw [upd_ne (ne_of q hl (by intro z; cases z))]; exact q))
  · exact .inl (.inr ⟨o, by rw [upd_ne (ne_of q hl (by intro z; cases z))]; exact q⟩)
  · exact .inr q
theorem EndsAt.other {K : PySem.W.Frag} {H : Hp} {d l : Addr} {kvs : List (Key × V)} {n : Nat} {m : Mp} {ys zs : List V} (E : EndsAt K H d kvs n m) (hl : H l = some (.lst ys)) (hd : l ≠ d) : EndsAt K (upd H l (.lst zs)) d kvs n m :=
  ⟨by rw [upd_ne (Ne.symm hd)]; exact E.dic, E.len, fun p => (E.val p).imp id fun ⟨e, v, h1, h2, a, z, h3⟩ => ⟨e, v, h1, h2, a, z, sqt_lst hl h3⟩⟩
theorem setM_setM {m : Mp} {q : Nat} {e e' : Nd} : setM (setM m q e) q e' = setM m q e' := by
  funext x
  by_cases h : x = q
  · subst h; rw [setM_eq, setM_eq]
  · rw [setM_ne h, setM_ne h, setM_ne h]
/-- places that differ, each below n, are n at most -/
theorem nodup_le : ∀ {n : Nat} {ps : List Nat}, ps.Nodup → (∀ p ∈ ps, p < n) → ps.length ≤ n
  | 0, ps, _, h => by
    cases ps with
    | nil => exact Nat.le_refl _
    | cons p _ => exact absurd (h p (List.mem_cons_self ..)) (Nat.not_lt_zero _)
  | n + 1, ps, nd, h => by
    have h1 : (ps.erase n).Nodup := nd.erase n
    have h2 : ∀ p ∈ ps.erase n, p < n := fun p hp => by
      have a1 := h p (List.mem_of_mem_erase hp)
      have a2 : p ≠ n := fun z => by rw [z] at hp; exact nd.not_mem_erase hp
      omega
    have h3 := nodup_le h1 h2
    rw [List.length_erase] at h3
    split at h3 <;> omega
theorem pil_small {row : Nat → List Stp} {n : Nat} {m : Mp} {ps : List Nat} (h : Pil row n m ps) : ps.length ≤ n := nodup_le h.nd h.lt
def spCell (K : PySem.W.Frag) : Sp := fun vs H Q _ => ∃ (a : Addr) (ns : List Int) (k : Nat), vs = [.ref a, .int (k : Int)] ∧ SqL K H a (ns.map V.int) ∧ Q (.int (ns.getD k 0)) H
section
variable {P : Program} {w : World} {K : PySem.W.Frag} {mg : Str → Option Value} {base : Heap} {f : Addr} {fd : FuncData}
theorem scCell : FnScope ["_law_script", "_law_k"] ["_law_script", "_law_k"] (defScope sCell) := ⟨rfl, rfl, rfl, by decide +kernel, rfl, by decide +kernel, by decide +kernel⟩
theorem ok_cell (F : Fun K "_law_cell_at" "_law_cell_at" sCell f fd) (T : Txt mg) : FnOk P w K mg base CX0 1 f fd ["_law_script", "_law_k"] (spCell K) := by
  refine F.ok scCell (fun vs H Q E h => ?_) (fun cdv A outer s H vs Q E hr h => ?_)
  · obtain ⟨a, ns, k, rfl, _⟩ := h
    rfl
  obtain ⟨a, ns, k, rfl, S, q⟩ := h
  refine ⟨_, pss_cons (ps_if (pt_cmpR op_lt (pv 1) (pe_callB call_len_seq rfl T.len PySem.boot_len (pa_cons (pv 0) pa_nil)) (nomark _)) (pss_one (ps_ret (pe_ix ix_list (pv 0) (pv 1) (fun _ _ => rfl)))) pss_nil) (pss_one (ps_ret pe_int)), ?_⟩
  refine ⟨_, rfl, _, rfl, a, _, rfl, .inl S, _, _, rfl, rfl, _, rfl, ?_⟩
  refine ite2 (fun c => ?_) (fun c => ?_)
  · have c' : (k : Int) < ((ns.map V.int).length : Int) := of_decide_eq_true c
    rw [List.length_map] at c'
    have c2 : k < ns.length := by omega
    refine ⟨_, rfl, _, rfl, a, _, _, _, rfl, rfl, S, atI_nat (v := .int ns[k]) (by rw [List.getElem?_map, List.getElem?_eq_getElem c2] <;> rfl), ?_⟩
    have e : ns.getD k 0 = ns[k] := by rw [List.getD_eq_getElem?_getD, List.getElem?_eq_getElem c2]; rfl
    rw [e] at q
    exact q
  · have c' : ¬ (k : Int) < ((ns.map V.int).length : Int) := of_decide_eq_false (Bool.eq_false_iff.mpr c)
    rw [List.length_map] at c'
    have e : ns.getD k 0 = 0 := by rw [List.getD_eq_getElem?_getD, List.getElem?_eq_none (by omega)]; rfl
    rw [e] at q
    exact q
end
end Bk
set_option Elab.async false
set_option linter.all false
set_option maxRecDepth 100000
set_option maxHeartbeats 4000000
namespace Bk
open PySem L2 Ah
def spEB (K : PySem.W.Frag) : Sp := fun vs H Q _ => ∃ (c : Nat) (v : V) (e : Nd), vs = [.int (c : Int), v] ∧ EndV K H v e ∧ ∀ v' H', Same H H' → EndV K H' v' (behE c e) → Q v' H'
def spLd (K : PySem.W.Frag) : Sp := fun vs H Q _ => ∃ (v : V) (d : Addr) (kvs : List (Key × V)) (n : Nat) (m : Mp) (l : Ld), vs = [v, .ref d] ∧ LdAt H v l ∧ EndsAt K H d kvs n m ∧ ∀ v' H', Same H H' → EndV K H' v' (ldE m l) → Q v' H'
def spEi (K : PySem.W.Frag) : Sp := fun vs H Q _ => ∃ (v u : V) (d : Addr) (kvs : List (Key × V)) (n : Nat) (m : Mp) (l r : Ld), vs = [v, u, .ref d] ∧ LdAt H v l ∧ LdAt H u r ∧ EndsAt K H d kvs n m ∧ ∀ v' H', Same H H' → EndV K H' v' (eiE (ldE m l) (ldE m r)) → Q v' H'
def spSE (K : PySem.W.Frag) : Sp := fun vs H Q _ => ∃ (v : V) (d : Addr) (kvs : List (Key × V)) (n : Nat) (m : Mp) (st : Stp), vs = [v, .ref d] ∧ StAt H v st ∧ EndsAt K H d kvs n m ∧ ∀ v' H', Same H H' → EndV K H' v' (stE m st) → Q v' H'
def spRE (K : PySem.W.Frag) : Sp := fun vs H Q _ => ∃ (a d : Addr) (us : List V) (kvs : List (Key × V)) (n : Nat) (m : Mp) (r : List Stp), vs = [.ref a, .ref d] ∧ H a = some (.lst us) ∧ StsAt H us r ∧ EndsAt K H d kvs n m ∧ ∀ v' H', Same H H' → EndV K H' v' (rowE m 1 r) → Q v' H'
theorem wd_in (e : Nd) : (wd e = "needs" ∨ wd e = "never") → ∀ c, behE c e = e := by
  intro h c
  cases e with
  | ans n => exact absurd h (by show ¬ (("answers" : Str) = "needs" ∨ ("answers" : Str) = "never"); decide +kernel)
  | una n => exact absurd h (by show ¬ (("unanswered" : Str) = "needs" ∨ ("unanswered" : Str) = "never"); decide +kernel)
  | nev => rfl
  | need p => rfl
theorem wd_out (e : Nd) (c : Nat) : ¬ (wd e = "needs" ∨ wd e = "never") → wd (behE c e) = wd e ∧ ct (behE c e) = c + ct e := by
  intro h
  cases e with
  | ans n => exact ⟨rfl, by show ((c + n : Nat) : Int) = c + (n : Int); omega⟩
  | una n => exact ⟨rfl, by show ((c + n : Nat) : Int) = c + (n : Int); omega⟩
  | nev => exact absurd (.inr rfl) h
  | need p => exact absurd (.inl rfl) h
theorem wd_una {e : Nd} (h : wd e = "unanswered") : ∃ n, e = .una n := by
  cases e with
  | ans n => exact absurd h (by show ¬ ("answers" : Str) = "unanswered"; decide +kernel)
  | una n => exact ⟨n, rfl⟩
  | nev => exact absurd h (by show ¬ ("never" : Str) = "unanswered"; decide +kernel)
  | need p => exact absurd h (by show ¬ ("needs" : Str) = "unanswered"; decide +kernel)
theorem wd_ans {e : Nd} (h : wd e = "answers") : ∃ n, e = .ans n := by
  cases e with
  | ans n => exact ⟨n, rfl⟩
  | una n => exact absurd h (by show ¬ ("unanswered" : Str) = "answers"; decide +kernel)
  | nev => exact absurd h (by show ¬ ("never" : Str) = "answers"; decide +kernel)
  | need p => exact absurd h (by show ¬ ("needs" : Str) = "answers"; decide +kernel)
theorem wd_need {e : Nd} (h : wd e = "needs") : ∃ p, e = .need p := by
  cases e with
  | ans n => exact absurd h (by show ¬ ("answers" : Str) = "needs"; decide +kernel)
  | una n => exact absurd h (by show ¬ ("unanswered" : Str) = "needs"; decide +kernel)
  | nev => exact absurd h (by show ¬ ("never" : Str) = "needs"; decide +kernel)
  | need p => exact ⟨p, rfl⟩
theorem eiE_out {x y : Nd} (h : ¬ wd x = "unanswered") : eiE x y = x := by
  cases x with
  | ans n => rfl
  | una n => exact absurd rfl h
  | nev => rfl
  | need p => rfl
section
variable {P : Program} {w : World} {K : PySem.W.Frag} {mg : Str → Option Value} {base : Heap} {f fB fS fE fR fT aN : Addr} {fd dB dS dE dR dT : FuncData}
theorem scEB : FnScope ["count", "last"] ["count", "last"] (defScope sEndBeh) := ⟨rfl, rfl, rfl, by decide +kernel, rfl, by decide +kernel, by decide +kernel⟩
theorem ok_eb (F : Fun K "end_behind" "end_behind" sEndBeh f fd) : FnOk P w K mg base CX0 1 f fd ["count", "last"] (spEB K) := by
  refine F.ok scEB (fun vs H Q E h => ?_) (fun cdv A outer s H vs Q E hr h => ?_)
  · obtain ⟨c, v, e, rfl, _⟩ := h
    rfl
  obtain ⟨c, v, e, rfl, ⟨a, rfl, hq⟩, q⟩ := h
  refine ⟨_, pss_cons (ps_if (pt_cmpR op_in_seq (pe_ix ix_tup (pv 1) pe_int (fun _ _ => rfl)) (pe_tup (pa_strs (xs := ["needs", "never"]) (by rfl))) rfl) (pss_one (ps_ret (pv 1))) pss_nil)
    (pss_one (ps_ret (pe_tup (pa_cons (pe_ix ix_tup (pv 1) pe_int (fun _ _ => rfl)) (pa_cons (pe_op op_add (pv 0) (pe_ix ix_tup (pv 1) pe_int (fun _ _ => rfl))) pa_nil))))), ?_⟩
  refine ⟨_, rfl, a, _, _, _, rfl, rfl, hq, at0 _ _, by show 2 ≤ sizeLine; decide, fun tp htp => ⟨tp, _, rfl, .inr (SqT.of upd_same), rfl, rfl, _, rfl, ite2 (fun c1 => ?_) (fun c1 => ?_)⟩⟩
  · have c2 := in2.mp (show inV (V.str (wd e)) [V.str "needs", V.str "never"] = true from c1)
    have s1 := same_new htp (.tup [V.str "needs", V.str "never"])
    refine ⟨_, rfl, q _ _ s1 ?_⟩
    rw [wd_in e c2]
    exact ⟨a, rfl, sqt_same s1 hq⟩
  · have c2 : ¬ (wd e = "needs" ∨ wd e = "never") := fun z => c1 (in2.mpr z)
    have s1 := same_new htp (.tup [V.str "needs", V.str "never"])
    refine ⟨_, rfl, a, _, _, _, rfl, rfl, sqt_same s1 hq, at0 _ _, _, rfl, _, rfl, a, _, _, _, rfl, rfl, sqt_same s1 hq, at1 _ _ _, _, _, rfl, rfl, by show 2 ≤ sizeLine; decide, fun t ht => ?_⟩
    refine q _ _ (s1.trans (same_new ht _)) (EndV.new ?_)
    obtain ⟨e1, e2⟩ := wd_out e c c2
    rw [e1, e2]
    exact upd_same
theorem scSE : FnScope ["step", "ends"] ["step", "ends"] (defScope sStepEnd) := ⟨rfl, rfl, rfl, by decide +kernel, rfl, by decide +kernel, by decide +kernel⟩
theorem ok_ld (F : Fun K "end_of_step" "end_of_step" sStepEnd f fd) : FnOk P w K mg base CX0 1 f fd ["step", "ends"] (spLd K) := by
  refine F.ok scSE (fun vs H Q E h => ?_) (fun cdv A outer s H vs Q E hr h => ?_)
  · obtain ⟨v, d, kvs, n, m, l, rfl, _⟩ := h
    rfl
  obtain ⟨v, d, kvs, n, m, l, rfl, hl, hE, q⟩ := h
  have hu := hu_of hr
  refine ⟨_, pss_cons (ps_if (pt_cmpR op_eq (pe_ix ix_tup (pv 0) pe_int (fun _ _ => rfl)) pe_str (nomark _)) (pss_one (ps_ret (pe_dget2 hu (pv 1) (pe_ix ix_tup (pv 0) pe_int (fun _ _ => rfl)) (pe_tup (pa_cons pe_str (pa_cons (pe_ix ix_tup (pv 0) pe_int (fun _ _ => rfl)) pa_nil))) ⟨rfl, rfl, rfl, rfl⟩))) pss_nil)
    (pss_cons (ps_if (pt_cmpR op_eq (pe_ix ix_tup (pv 0) pe_int (fun _ _ => rfl)) pe_str (nomark _)) (pss_one (ps_ret (pe_tup (pa_cons pe_str (pa_cons pe_int pa_nil))))) pss_nil) pss_never), ?_⟩
  cases l with
  | none =>
    obtain ⟨a, rfl, ha⟩ := hl
    refine ⟨_, rfl, a, _, _, _, rfl, rfl, SqT.of ha, at0 _ _, rfl, _, rfl, ite2 (fun c => ?_) (fun c => ?_)⟩
    · exact absurd (de_str c) (by decide +kernel)
    refine ⟨_, rfl, a, _, _, _, rfl, rfl, SqT.of ha, at0 _ _, rfl, _, rfl, ite2 (fun c => ?_) (fun c => absurd rfl (dn_str c))⟩
    refine ⟨by show 2 ≤ sizeLine; decide, fun t ht => ?_⟩
    exact q _ _ (same_new ht _) (EndV.new (e := .una 0) upd_same)
  | go p =>
    obtain ⟨a, rfl, ha⟩ := hl
    refine ⟨_, rfl, a, _, _, _, rfl, rfl, SqT.of ha, at0 _ _, rfl, _, rfl, ite2 (fun c => ?_) (fun c => absurd rfl (dn_str c))⟩
    refine ⟨_, rfl, d, rfl, .inl ⟨kvs, .inl hE.dic⟩, _, rfl, a, _, _, _, rfl, rfl, SqT.of ha, at1 _ _ _, _, rfl, a, _, _, _, rfl, rfl, SqT.of ha, at1 _ _ _, by show 2 ≤ sizeLine; decide, fun t ht => ?_⟩
    have s1 := same_new ht (.tup [.str "needs", .int (p : Nat)])
    refine ⟨_, DGet.k (k := Sum.inl (p : Int)) (s1 _ _ hE.dic), ?_⟩
    rcases hE.val p with ⟨h1, h2⟩ | ⟨e, v, h1, h2, h3⟩
    · rw [h2]
      refine q _ _ s1 ?_
      have e1 : ldE m (.go p) = .need p := by show (m p).getD _ = _; rw [h1]; rfl
      rw [e1]
      exact EndV.new upd_same
    · rw [h2]
      refine q _ _ s1 ?_
      have e1 : ldE m (.go p) = e := by show (m p).getD _ = _; rw [h1]; rfl
      rw [e1]
      exact h3.same s1
theorem scEi : FnScope ["one", "other", "ends", "first"] ["one", "other", "ends"] (defScope sEither) := ⟨rfl, rfl, rfl, by decide +kernel, rfl, by decide +kernel, by decide +kernel⟩
theorem ok_ei (F : Fun K "end_of_either" "end_of_either" sEither f fd) (GS : FnOk P w K mg base CX0 1 fS dS ["step", "ends"] (spLd K)) (kS : PySem.W.keepIn K (.ref fS) = true) (bS : Binds K dS ["step", "ends"] []) (mS : mg "end_of_step" = some (.ref fS))
    (GB : FnOk P w K mg base CX0 1 fB dB ["count", "last"] (spEB K)) (kB : PySem.W.keepIn K (.ref fB) = true) (bB : Binds K dB ["count", "last"] []) (mB : mg "end_behind" = some (.ref fB)) : FnOk P w K mg base CX0 2 f fd ["one", "other", "ends"] (spEi K) := by
  refine F.ok scEi (fun vs H Q E h => ?_) (fun cdv A outer s H vs Q E hr h => ?_)
  · obtain ⟨v, u, d, kvs, n, m, l, r, rfl, _⟩ := h
    rfl
  obtain ⟨v, u, d, kvs, n, m, l, r, rfl, hl, hrr, hE, q⟩ := h
  refine ⟨_, pss_cons (ps_set (i := 3) scEi.nd rfl (Or.inl rfl) (pe_call GS hr rfl mS kS bS .nil pass0 (pa_cons (pv 0) (pa_cons (pv 2) pa_nil))))
    (pss_cons (ps_if (pt_cmpR op_ne (pe_ix ix_tup (pv 3) pe_int (fun _ _ => rfl)) pe_str (nomark _)) (pss_one (ps_ret (pv 3))) pss_nil)
    (pss_one (ps_ret (pe_call GB hr rfl mB kB bB .nil pass0 (pa_cons (pe_ix ix_tup (pv 3) pe_int (fun _ _ => rfl)) (pa_cons (pe_call GS hr rfl mS kS bS .nil pass0 (pa_cons (pv 1) (pa_cons (pv 2) pa_nil))) pa_nil)))))), ?_⟩
  refine ⟨_, rfl, _, rfl, v, d, kvs, n, m, l, rfl, hl, hE, fun v1 H1 s1 h1 => ?_⟩
  obtain ⟨a1, rfl, q1⟩ := h1
  refine ⟨_, rfl, a1, _, _, _, rfl, rfl, q1, at0 _ _, rfl, _, rfl, ite2 (fun c => ?_) (fun c => ?_)⟩
  · have c2 : ¬ wd (ldE m l) = "unanswered" := fun z => by rw [z] at c; exact absurd c (by decide +kernel)
    refine ⟨_, rfl, q _ _ s1 ?_⟩
    rw [eiE_out c2]
    exact ⟨a1, rfl, q1⟩
  · have c2 : wd (ldE m l) = "unanswered" := by
      refine Classical.byContradiction fun z => c ?_
      rw [decide_eq_false (fun y => z (V.str.inj y))]
      rfl
    obtain ⟨k, hk⟩ := wd_una c2
    rw [hk] at q1 q
    refine ⟨_, rfl, a1, _, _, _, rfl, rfl, q1, at1 _ _ _, _, rfl, _, rfl, u, d, kvs, n, m, r, rfl, hrr.keep s1.keepT, hE.same s1, fun v2 H2 s2 h2 => ?_⟩
    exact ⟨k, v2, _, rfl, h2, fun v3 H3 s3 h3 => q _ _ ((s1.trans s2).trans s3) h3⟩
theorem ok_se (F : Fun K "end_of_step" "end_of_step" sStepEnd f fd) (GL : FnOk P w K mg base CX0 1 f fd ["step", "ends"] (spLd K)) (GE : FnOk P w K mg base CX0 2 fE dE ["one", "other", "ends"] (spEi K)) (kE : PySem.W.keepIn K (.ref fE) = true) (bE : Binds K dE ["one", "other", "ends"] []) (mE : mg "end_of_either" = some (.ref fE)) : FnOk P w K mg base CX0 3 f fd ["step", "ends"] (spSE K) := by
  refine F.ok scSE (fun vs H Q E h => ?_) (fun cdv A outer s H vs Q E hr h => ?_)
  · obtain ⟨v, d, kvs, n, m, st, rfl, _⟩ := h
    rfl
  obtain ⟨v, d, kvs, n, m, st, rfl, hs, hE, q⟩ := h
  have hu := hu_of hr
  refine ⟨_, pss_cons (ps_if (pt_cmpR op_eq (pe_ix ix_tup (pv 0) pe_int (fun _ _ => rfl)) pe_str (nomark _)) (pss_one (ps_ret (pe_dget2 hu (pv 1) (pe_ix ix_tup (pv 0) pe_int (fun _ _ => rfl)) (pe_tup (pa_cons pe_str (pa_cons (pe_ix ix_tup (pv 0) pe_int (fun _ _ => rfl)) pa_nil))) ⟨rfl, rfl, rfl, rfl⟩))) pss_nil)
    (pss_cons (ps_if (pt_cmpR op_eq (pe_ix ix_tup (pv 0) pe_int (fun _ _ => rfl)) pe_str (nomark _)) (pss_one (ps_ret (pe_tup (pa_cons pe_str (pa_cons pe_int pa_nil))))) pss_nil)
    (pss_cons (ps_if (pt_cmpR op_eq (pe_ix ix_tup (pv 0) pe_int (fun _ _ => rfl)) pe_str (nomark _)) (pss_one (ps_ret (pe_call GE hr rfl mE kE bE .nil pass0 (pa_cons (pe_ix ix_tup (pv 0) pe_int (fun _ _ => rfl)) (pa_cons (pe_ix ix_tup (pv 0) pe_int (fun _ _ => rfl)) (pa_cons (pv 1) pa_nil)))))) pss_nil)
    (pss_one (ps_ret (pe_tup (pa_cons pe_str (pa_cons pe_int pa_nil))))))), ?_⟩
  have skip : ∀ {x y : Str} {A B : Prop}, ¬ x = y → B → if decide (V.str x = V.str y) = true then A else B := fun hn hB => by
    rw [if_neg (fun z => hn (de_str z))]
    exact hB
  have take : ∀ {x : Str} {A B : Prop}, A → if decide (V.str x = V.str x) = true then A else B := fun hA => by
    rw [if_pos (decide_eq_true rfl)]
    exact hA
  cases st with
  | ld l =>
    cases l with
    | none =>
      obtain ⟨a, rfl, ha⟩ := hs
      refine ⟨_, rfl, a, _, _, _, rfl, rfl, SqT.of ha, at0 _ _, rfl, _, rfl, skip (by decide +kernel) ?_⟩
      refine ⟨_, rfl, a, _, _, _, rfl, rfl, SqT.of ha, at0 _ _, rfl, _, rfl, take ?_⟩
      refine ⟨by show 2 ≤ sizeLine; decide, fun t ht => ?_⟩
      exact q _ _ (same_new ht _) (EndV.new (e := .una 0) upd_same)
    | go p =>
      obtain ⟨a, rfl, ha⟩ := hs
      refine ⟨_, rfl, a, _, _, _, rfl, rfl, SqT.of ha, at0 _ _, rfl, _, rfl, take ?_⟩
      refine ⟨_, rfl, d, rfl, .inl ⟨kvs, .inl hE.dic⟩, _, rfl, a, _, _, _, rfl, rfl, SqT.of ha, at1 _ _ _, _, rfl, a, _, _, _, rfl, rfl, SqT.of ha, at1 _ _ _, by show 2 ≤ sizeLine; decide, fun t ht => ?_⟩
      have s1 := same_new ht (.tup [.str "needs", .int (p : Nat)])
      refine ⟨_, DGet.k (k := Sum.inl (p : Int)) (s1 _ _ hE.dic), ?_⟩
      rcases hE.val p with ⟨h1, h2⟩ | ⟨e, v, h1, h2, h3⟩
      · rw [h2]
        refine q _ _ s1 ?_
        have e1 : stE m (.ld (.go p)) = .need p := by show (m p).getD _ = _; rw [h1]; rfl
        rw [e1]
        exact EndV.new upd_same
      · rw [h2]
        refine q _ _ s1 ?_
        have e1 : stE m (.ld (.go p)) = e := by show (m p).getD _ = _; rw [h1]; rfl
        rw [e1]
        exact h3.same s1
  | ei x y =>
    obtain ⟨a, b, c, rfl, ha, hx, hy⟩ := hs
    refine ⟨_, rfl, a, _, _, _, rfl, rfl, SqT.of ha, at0 _ _, rfl, _, rfl, skip (by decide +kernel) ?_⟩
    refine ⟨_, rfl, a, _, _, _, rfl, rfl, SqT.of ha, at0 _ _, rfl, _, rfl, skip (by decide +kernel) ?_⟩
    refine ⟨_, rfl, a, _, _, _, rfl, rfl, SqT.of ha, at0 _ _, rfl, _, rfl, take ?_⟩
    exact ⟨_, rfl, a, _, _, _, rfl, rfl, SqT.of ha, at1 _ _ _, _, rfl, a, _, _, _, rfl, rfl, SqT.of ha, at2 _ _ _ _, _, rfl, b, c, d, kvs, n, m, x, y, rfl, hx, hy, hE, fun v' H' s' h' => q _ _ s' h'⟩
  | oth =>
    obtain ⟨a, k, r, rfl, ha, k1, k2, k3, _⟩ := hs
    refine ⟨_, rfl, a, _, _, _, rfl, rfl, SqT.of ha, at0 _ _, rfl, _, rfl, skip k1 ?_⟩
    refine ⟨_, rfl, a, _, _, _, rfl, rfl, SqT.of ha, at0 _ _, rfl, _, rfl, skip k2 ?_⟩
    refine ⟨_, rfl, a, _, _, _, rfl, rfl, SqT.of ha, at0 _ _, rfl, _, rfl, skip k3 ?_⟩
    refine ⟨by show 2 ≤ sizeLine; decide, fun t ht => ?_⟩
    exact q _ _ (same_new ht _) (EndV.new (e := .ans 0) upd_same)
end
end Bk
set_option Elab.async false
set_option linter.all false
set_option maxRecDepth 100000
set_option maxHeartbeats 4000000
namespace Bk
open PySem L2 Ah
theorem drop_cons {α : Type} {l : List α} {i : Nat} {x : α} (h : l[i]? = some x) : l.drop i = x :: l.drop (i + 1) := by
  obtain ⟨hi, rfl⟩ := List.getElem?_eq_some_iff.mp h
  exact List.drop_eq_getElem_cons hi
theorem row_ans {m : Mp} {c k : Nat} {s : Stp} {t : List Stp} (h : stE m s = .ans k) : rowE m c (s :: t) = rowE m (c + k) t := by
  show (match stE m s with | .ans n => rowE m (c + n) t | .una n => .una (c + n) | .nev => .nev | .need p => .need p) = _
  rw [h]
theorem row_out {m : Mp} {c : Nat} {s : Stp} {t : List Stp} (h : ¬ wd (stE m s) = "answers") : rowE m c (s :: t) = behE c (stE m s) := by
  show (match stE m s with | .ans n => rowE m (c + n) t | .una n => .una (c + n) | .nev => .nev | .need p => .need p) = _
  cases e : stE m s with
  | ans n => rw [e] at h; exact absurd rfl h
  | una n => rfl
  | nev => rfl
  | need p => rfl
theorem StsAt.keep {H H' : Hp} (k : KeepT H H') {us : List V} {r : List Stp} (h : StsAt H us r) : StsAt H' us r := Paired.mapP h fun _ _ z => z.keep k
theorem RwsAt.fr {H H' : Hp} {ra d : Addr} {as : List Addr} {vss : List (List V)} {rows : List (List Stp)} {kvs : List (Key × V)} (R : RwsAt H ra as vss rows) (hd : H d = some (.dK kvs)) (f : Fr d H H') : RwsAt H' ra as vss rows :=
  ⟨f _ _ R.lst (ne_of R.lst hd (by intro z; cases z)), R.len, R.lev, fun i a vs h1 h2 => f _ _ (R.row i a vs h1 h2) (ne_of (R.row i a vs h1 h2) hd (by intro z; cases z)), fun i vs r h1 h2 => (R.sts i vs r h1 h2).keep fun b xs e => f _ _ e (ne_of e hd (by intro z; cases z))⟩
theorem RwsAt.same {H H' : Hp} {ra : Addr} {as : List Addr} {vss : List (List V)} {rows : List (List Stp)} (R : RwsAt H ra as vss rows) (s : Same H H') : RwsAt H' ra as vss rows :=
  ⟨s _ _ R.lst, R.len, R.lev, fun i a vs h1 h2 => s _ _ (R.row i a vs h1 h2), fun i vs r h1 h2 => (R.sts i vs r h1 h2).keep s.keepT⟩
theorem RwsAt.get {H : Hp} {ra : Addr} {as : List Addr} {vss : List (List V)} {rows : List (List Stp)} (R : RwsAt H ra as vss rows) {p : Nat} (h : p < rows.length) : ∃ a us r, as[p]? = some a ∧ vss[p]? = some us ∧ rows[p]? = some r ∧ rows.getD p [] = r ∧ H a = some (.lst us) ∧ StsAt H us r := by
  have h1 : p < as.length := by rw [R.len]; exact h
  have h2 : p < vss.length := by rw [R.lev]; exact h
  refine ⟨as[p], vss[p], rows[p], List.getElem?_eq_getElem h1, List.getElem?_eq_getElem h2, List.getElem?_eq_getElem h, ?_, R.row p _ _ (List.getElem?_eq_getElem h1) (List.getElem?_eq_getElem h2), R.sts p _ _ (List.getElem?_eq_getElem h2) (List.getElem?_eq_getElem h)⟩
  rw [List.getD_eq_getElem?_getD, List.getElem?_eq_getElem h]
  rfl
def rowF (rows : List (List Stp)) : Nat → List Stp := fun i => rows.getD i []
def LeadsOk (rows : List (List Stp)) : Prop := ∀ r ∈ rows, ∀ s ∈ r, ∀ p ∈ leads s, p < rows.length
theorem LeadsOk.at {rows : List (List Stp)} (h : LeadsOk rows) {q p : Nat} {s : Stp} (hs : s ∈ rowF rows q) (hp : p ∈ leads s) : p < rows.length := by
  unfold rowF at hs
  rw [List.getD_eq_getElem?_getD] at hs
  cases e : rows[q]? with
  | none => rw [e] at hs; exact nomatch hs
  | some r =>
    rw [e] at hs
    exact h r (List.mem_of_getElem? e) s hs p hp
def pVs (ps : List Nat) : List V := ps.reverse.map fun p : Nat => V.int (p : Int)
theorem pVs_cons (q : Nat) (ps : List Nat) : pVs (q :: ps) = pVs ps ++ [.int (q : Int)] := by
  unfold pVs
  rw [List.reverse_cons, List.map_append]
  rfl
theorem pVs_len (ps : List Nat) : (pVs ps).length = ps.length := by
  unfold pVs
  rw [List.length_map, List.length_reverse]
theorem pVs_last (q : Nat) (ps : List Nat) : atI (pVs (q :: ps)) (-1) = some (.int (q : Int)) := by
  rw [pVs_cons]
  exact atI_last _ _
theorem pVs_pop (q : Nat) (ps : List Nat) : (pVs (q :: ps))[(pVs (q :: ps)).length - 1]? = some (.int (q : Int)) ∧ (pVs (q :: ps)).dropLast = pVs ps := by
  rw [pVs_cons]
  refine ⟨?_, List.dropLast_concat⟩
  rw [List.length_append, List.length_singleton, Nat.add_sub_cancel]
  exact List.getElem?_concat_length
def spTell (K : PySem.W.Frag) : Sp := fun vs H Q _ => ∃ (p : Nat) (ra d : Addr) (as : List Addr) (vss : List (List V)) (rows : List (List Stp)) (kvs : List (Key × V)) (m : Mp), vs = [.int (p : Int), .ref ra, .ref d] ∧ RwsAt H ra as vss rows ∧ EndsAt K H d kvs rows.length m ∧ Told (rowF rows) rows.length m ∧ m p = none ∧ p < rows.length ∧ LeadsOk rows ∧ rows.length ≤ 100000 ∧
  ∀ (H' : Hp) (kvs' : List (Key × V)) (m' : Mp), Fr d H H' → EndsAt K H' d kvs' rows.length m' → Told (rowF rows) rows.length m' → (∀ x, m x ≠ none ∨ x = p → m' x ≠ none) → Q .non H'
def cntH (n : Nat) (m : Mp) : List Nat → Nat
  | [] => cnt m n
  | q :: _ => cnt (setM m q .nev) n
section
variable {P : Program} {w : World} {K : PySem.W.Frag} {mg : Str → Option Value} {base : Heap} {f fB fS fE fR fT aN : Addr} {fd dB dS dE dR dT : FuncData}
theorem scRE : FnScope ["row", "ends", "count", "step", "end"] ["row", "ends"] (defScope sRowEnd) := ⟨rfl, rfl, rfl, by decide +kernel, rfl, by decide +kernel, by decide +kernel⟩
theorem ok_re (F : Fun K "end_of_row" "end_of_row" sRowEnd f fd) (GS : FnOk P w K mg base CX0 3 fS dS ["step", "ends"] (spSE K)) (kS : PySem.W.keepIn K (.ref fS) = true) (bS : Binds K dS ["step", "ends"] []) (mS : mg "end_of_step" = some (.ref fS))
    (GB : FnOk P w K mg base CX0 1 fB dB ["count", "last"] (spEB K)) (kB : PySem.W.keepIn K (.ref fB) = true) (bB : Binds K dB ["count", "last"] []) (mB : mg "end_behind" = some (.ref fB)) : FnOk P w K mg base CX0 4 f fd ["row", "ends"] (spRE K) := by
  refine F.ok scRE (fun vs H Q E h => ?_) (fun cdv A outer s H vs Q E hr h => ?_)
  · obtain ⟨a, d, us, kvs, n, m, r, rfl, _⟩ := h
    rfl
  obtain ⟨a, d, us, kvs, n, m, r, rfl, ha, hs, hE, q⟩ := h
  have hr1 : Room 1 _ := hr.mono (by decide)
  refine ⟨_, pss_cons (ps_set (i := 2) scRE.nd rfl (Or.inl rfl) pe_int)
    (pss_cons (ps_for PassesOwn.never rfl (pi_list (pv 0)) (pg_name (i := 3) scRE.nd rfl (Or.inl rfl))
      (pss_cons (ps_set (i := 4) scRE.nd rfl (Or.inl rfl) (pe_call GS hr rfl mS kS bS .nil pass0 (pa_cons (pv 3) (pa_cons (pv 1) pa_nil))))
      (pss_one (ps_if (pt_cmpR op_eq (pe_ix ix_tup (pv 4) pe_int (fun _ _ => rfl)) pe_str (nomark _)) (pss_one (ps_set (i := 2) scRE.nd rfl (Or.inl rfl) (pe_op op_add (pv 2) (pe_ix ix_tup (pv 4) pe_int (fun _ _ => rfl)))))
        (pss_one (ps_ret (pe_call GB hr1 rfl mB kB bB .nil pass0 (pa_cons (pv 2) (pa_cons (pv 4) pa_nil)))))))))
    (pss_one (ps_ret (pe_tup (pa_cons pe_str (pa_cons (pv 2) pa_nil)))))), ?_⟩
  refine ⟨_, rfl, a, rfl, ⟨_, SqL.of ha⟩, for_list (K := K) (a := a) (xs := us) (fun i σ H2 => ∃ (v3 v4 : Option V) (c : Nat), σ = [some (.ref a), some (.ref d), some (.int (c : Int)), v3, v4] ∧ Same H H2 ∧ rowE m 1 r = rowE m c (r.drop i))
    ⟨none, none, 1, rfl, Same.refl _, rfl⟩ (fun i σ H2 _ ⟨_, _, _, _, s2, _⟩ => SqL.of (s2 _ _ ha)) ?_ ?_⟩
  · rintro i x σ H2 hx ⟨v3, v4, c, rfl, s2, hp⟩
    obtain ⟨st, hst, hsa⟩ := paired_get hs hx
    rw [drop_cons hst] at hp
    refine ⟨_, rfl, _, rfl, x, d, kvs, n, m, st, rfl, hsa.keep s2.keepT, hE.same s2, fun v1 H3 s3 h3 => ?_⟩
    obtain ⟨a1, rfl, q1⟩ := h3
    refine ⟨_, rfl, a1, _, _, _, rfl, rfl, q1, at0 _ _, rfl, _, rfl, ite2 (fun c1 => ?_) (fun c1 => ?_)⟩
    · obtain ⟨k, hk⟩ := wd_ans (de_str c1)
      refine ⟨_, rfl, _, rfl, a1, _, _, _, rfl, rfl, q1, at1 _ _ _, _, _, rfl, rfl, ?_⟩
      rw [row_ans hk] at hp
      refine ⟨some x, some (.ref a1), c + k, ?_, s2.trans s3, hp⟩
      rw [hk]
      show [some (V.ref a), some (V.ref d), some (V.int ((c : Int) + (k : Int))), some x, some (V.ref a1)] = _
      rw [Int.natCast_add]
    · have c2 := dn_str c1
      rw [row_out c2] at hp
      refine ⟨_, rfl, _, rfl, c, _, _, rfl, ⟨a1, rfl, q1⟩, fun v' H' s' h' => ?_⟩
      rw [hp] at q
      exact q _ _ ((s2.trans s3).trans s') h'
  · rintro σ H2 ⟨v3, v4, c, rfl, s2, hp⟩
    have hl : r.drop us.length = [] := List.drop_eq_nil_of_le (by rw [Paired.length hs]; exact Nat.le_refl _)
    rw [hl] at hp
    refine ⟨_, rfl, by show 2 ≤ sizeLine; decide, fun t ht => ?_⟩
    rw [hp] at q
    exact q _ _ (s2.trans (same_new ht _)) (EndV.new (e := .ans c) upd_same)
theorem scTE : FnScope ["place", "rows", "ends", "pile", "end"] ["place", "rows", "ends"] (defScope sTell) := ⟨rfl, rfl, rfl, by decide +kernel, rfl, by decide +kernel, by decide +kernel⟩
theorem ok_te (F : Fun K "tell_end" "tell_end" sTell f fd) (GR : FnOk P w K mg base CX0 4 fR dR ["row", "ends"] (spRE K)) (kR : PySem.W.keepIn K (.ref fR) = true) (bR : Binds K dR ["row", "ends"] []) (mR : mg "end_of_row" = some (.ref fR))
    (mN : mg "NEVER" = some (.ref aN)) (hN : ∀ H, SqT K H aN [.str "never", .int 0]) : FnOk P w K mg base CX0 5 f fd ["place", "rows", "ends"] (spTell K) := by
  refine F.ok scTE (fun vs H Q E h => ?_) (fun cdv A outer s H vs Q E hr h => ?_)
  · obtain ⟨p, ra, d, as, vss, rows, kvs, m, rfl, _⟩ := h
    rfl
  obtain ⟨p, ra, d, as, vss, rows, kvs, m, rfl, R, hE, hT, hp, hpl, hL, hn, q⟩ := h
  have hu := hu_of hr
  refine ⟨_, pss_cons (ps_set (i := 3) scTE.nd rfl (Or.inl rfl) (pe_lst (pa_cons (pv 0) pa_nil)))
    (pss_one (ps_while PassesOwn.never (pt_tru (K := K) (pv 3)) (pss_cons (ps_dput hu (pv 2) (pe_ix ix_list (pv 3) (pe_un un_neg pe_int) (fun _ _ => rfl)) (pe_glob (v := .ref aN) rfl mN rfl) rfl) (pss_cons (ps_set (i := 4) scTE.nd rfl (Or.inl rfl) (pe_call GR hr rfl mR kR bR .nil pass0 (pa_cons (pe_ix ix_list (pv 1) (pe_ix ix_list (pv 3) (pe_un un_neg pe_int) (fun _ _ => rfl)) (fun _ _ => rfl)) (pa_cons (pv 2) pa_nil))))
      (pss_one (ps_if (pt_cmpR op_eq (pe_ix ix_tup (pv 4) pe_int (fun _ _ => rfl)) pe_str (nomark _)) 
        (pss_one (ps_expr (pe_bm PySem.F.plainAttrs_list PySem.F.slot_list_append PySem.F.type_list_append mt_append (pv 3) (pa_cons (pe_ix ix_tup (pv 4) pe_int (fun _ _ => rfl)) pa_nil)))) 
        (pss_one (ps_dput hu (pv 2) (pe_bm0 PySem.F.plainAttrs_list PySem.F.slot_list_pop PySem.F.type_list_pop mt_pop (pv 3)) (pv 4) rfl)))))))), ?_⟩
  refine ⟨_, rfl, by show 1 ≤ sizeLine; decide, fun l hl => ?_⟩
  have hdl : l ≠ d := fun z => by rw [z, hE.dic] at hl; cases hl
  have s0 := same_new hl (.lst [.int (p : Int)])
  refine ⟨fun μ σ H2 => ∃ (ps : List Nat) (kv : List (Key × V)) (m2 : Mp) (v4 : Option V), σ = [some (.int (p : Int)), some (.ref ra), some (.ref d), some (.ref l), v4] ∧ H2 l = some (.lst (pVs ps)) ∧ EndsAt K H2 d kv rows.length m2 ∧ Pil (rowF rows) rows.length m2 ps ∧ Fr d H H2 ∧ (∀ x, m x ≠ none ∨ x = p → x ∈ ps ∨ m2 x ≠ none) ∧ μ = 2 * (rows.length - cntH rows.length m2 ps) + ps.length,
    ⟨_, [p], kvs, m, none, rfl, upd_same, hE.same s0, hT.start hp hpl, (Fr.refl d H).same s0, fun x hx => hx.elim .inr fun z => .inl (List.mem_singleton.mpr z), rfl⟩, ?_⟩
  rintro μ σ H2 ⟨ps, kv, m2, v4, rfl, el, E2, PL, fr, dom, rfl⟩
  refine ⟨_, rfl, !(pVs ps).isEmpty, .inl ⟨_, SqL.of el, rfl⟩, ite2 (fun c => ?_) (fun c => ?_)⟩
  · cases ps with
    | nil => exact absurd c (by decide)
    | cons t ps =>
    have htn : t < rows.length := PL.lt t (List.mem_cons_self ..)
    have hkl : kv.length < sizeLine := by
      rw [E2.len, sizeLine_eq]
      have := cnt_le m2 rows.length
      omega
    refine ⟨fun σ' H' => ∃ μ', μ' < _ ∧ _, fun σ' H' h => h, ?_⟩
    refine ⟨_, rfl, _, rfl, _, rfl, l, _, _, _, rfl, rfl, SqL.of el, pVs_last t ps, d, _, rfl, DPut.k (k := Sum.inl (t : Int)) E2.dic hkl, ?_⟩
    have E3 := E2.put (v := .ref aN) (e := .nev) htn ⟨aN, rfl, hN _⟩
    have f3 : Fr d H2 (upd H2 d (.dK (putK kv (Sum.inl (t : Int)) (.ref aN)))) := (Fr.refl d H2).upd
    have el3 := f3 _ _ el hdl
    have R3 := (R.fr hE.dic (fr.upd (o := .dK (putK kv (Sum.inl (t : Int)) (.ref aN)))))
    generalize upd H2 d (.dK (putK kv (Sum.inl (t : Int)) (.ref aN))) = H3 at *
    obtain ⟨a, us, r, ha, hus, hr', hgr, har, hsr⟩ := R3.get htn
    refine ⟨_, rfl, _, rfl, _, rfl, l, _, _, _, rfl, rfl, SqL.of el3, pVs_last t ps, ra, _, _, _, rfl, rfl, SqL.of R3.lst, atI_nat (v := .ref a) (by rw [List.getElem?_map, ha]; rfl), _, rfl, a, d, us, _, _, _, r, rfl, har, hsr, E3, fun v1 H4 s4 h4 => ?_⟩
    obtain ⟨a1, rfl, q1⟩ := h4
    have hrow : rowF rows t = r := hgr
    have E4 := E3.same s4
    have el4 := s4 _ _ el3
    have fr4 : Fr d H H4 := fun b o hb hn => s4 _ _ (f3 _ _ (fr b o hb hn) hn)
    refine ⟨_, rfl, a1, _, _, _, rfl, rfl, q1, at0 _ _, rfl, _, rfl, ite2 (fun c1 => ?_) (fun c1 => ?_)⟩
    · obtain ⟨pp, hpp⟩ := wd_need (de_str c1)
      have hneed : rowE (setM m2 t .nev) 1 (rowF rows t) = .need pp := by rw [hrow]; exact hpp
      have hppl : pp < rows.length := by
        obtain ⟨_, s', hs', hp'⟩ := row_need PL.nnN hneed
        exact hL.at hs' hp'
      obtain ⟨hno, PL2⟩ := PL.push hneed hppl
      have hct : ct (rowE (setM m2 t .nev) 1 r) = (pp : Int) := by rw [hpp]; rfl
      rw [hct] at q1
      refine ⟨_, rfl, .inl ⟨rfl, _, SqL.of el4⟩, _, rfl, a1, _, _, _, rfl, rfl, q1, at1 _ _ _, l, _, _, rfl, rfl, el4, ?_, ?_⟩
      · rw [pVs_len, sizeLine_eq]
        have : (t :: ps).length ≤ rows.length := pil_small PL
        omega
      refine ⟨_, ?_, pp :: t :: ps, putK kv (Sum.inl (t : Int)) (.ref aN), setM m2 t .nev, some (.ref a1), rfl, ?_, ?_, PL2, ?_, ?_, rfl⟩
      · show 2 * (rows.length - cnt (setM (setM m2 t .nev) pp .nev) rows.length) + (pp :: t :: ps).length < 2 * (rows.length - cnt (setM m2 t .nev) rows.length) + (t :: ps).length
        have h1 := cnt_new (e := .nev) hno hppl
        have h2 := cnt_le (setM (setM m2 t .nev) pp .nev) rows.length
        rw [List.length_cons (a := pp)]
        omega
      · rw [upd_same, ← pVs_cons]
      · exact E4.other el4 hdl
      · exact fun b o hb hn => by rw [upd_ne (ne_of_none hb hl)]; exact fr4 b o hb hn
      · intro x hx
        rcases dom x hx with z | z
        · exact .inl (List.mem_cons_of_mem _ z)
        · by_cases c2 : x = t
          · exact .inl (by rw [c2]; exact List.mem_cons_of_mem _ (List.mem_cons_self ..))
          · exact .inr (by rw [setM_ne c2]; exact z)
    · have c2 := dn_str c1
      have hne : ∀ pp, rowE (setM m2 t .nev) 1 r ≠ .need pp := fun pp z => c2 (by rw [z]; rfl)
      have PL2 := PL.pop (e := rowE (setM m2 t .nev) 1 r) (by rw [hrow]) hne
      obtain ⟨hlast, hdrop⟩ := pVs_pop t ps
      refine ⟨_, rfl, _, rfl, _, rfl, .inl ⟨rfl, _, SqL.of el4⟩, l, _, _, rfl, rfl, el4, hlast, ?_⟩
      rw [hdrop]
      have E5 : EndsAt K (upd H4 l (.lst (pVs ps))) d _ rows.length (setM m2 t .nev) := E4.other el4 hdl
      have hkl5 : (putK kv (Sum.inl (t : Int)) (V.ref aN)).length < sizeLine := by
        rw [E5.len, sizeLine_eq]
        have := cnt_le (setM m2 t .nev) rows.length
        omega
      have hv5 : EndV K (upd H4 l (.lst (pVs ps))) (.ref a1) (rowE (setM m2 t .nev) 1 r) := ⟨a1, rfl, sqt_lst el4 q1⟩
      refine ⟨d, _, rfl, DPut.k (k := Sum.inl (t : Int)) E5.dic hkl5, ?_⟩
      have E6 := E5.put htn hv5
      rw [setM_setM] at E6
      refine ⟨_, ?_, ps, _, _, _, rfl, ?_, E6, PL2, ?_, ?_, rfl⟩
      · have h1 : cntH rows.length (setM m2 t (rowE (setM m2 t .nev) 1 r)) ps = cnt (setM m2 t .nev) rows.length := by
          have h2 : cnt (setM m2 t (rowE (setM m2 t .nev) 1 r)) rows.length = cnt (setM m2 t .nev) rows.length := cnt_out fun x _ => by
            by_cases z : x = t
            · subst z; rw [setM_eq, setM_eq]; rfl
            · rw [setM_ne z, setM_ne z]
          cases ps with
          | nil => exact h2
          | cons y ps2 =>
            show cnt (setM (setM m2 t _) y .nev) rows.length = _
            rw [cnt_old]
            · exact h2
            · have hyt : y ≠ t := fun z => (List.nodup_cons.mp PL.nd).1 (by rw [← z]; exact List.mem_cons_self ..)
              rw [setM_ne hyt, PL.tl y (List.mem_cons_self ..)]
              rfl
        rw [h1]
        show _ < 2 * (rows.length - cnt (setM m2 t .nev) rows.length) + (t :: ps).length
        rw [List.length_cons]
        omega
      · rw [upd_ne hdl, upd_same]
      · exact fun b o hb hn => by rw [upd_ne hn, upd_ne (ne_of_none hb hl)]; exact fr4 b o hb hn
      · intro x hx
        by_cases c3 : x = t
        · exact .inr (by rw [c3, setM_eq]; exact nofun)
        · rcases dom x hx with z | z
          · exact .inl ((List.mem_cons.mp z).resolve_left c3)
          · exact .inr (by rw [setM_ne c3]; exact z)
  · cases ps with
    | cons t ps => exact absurd (by rw [pVs_cons]; simp) c
    | nil =>
      refine q H2 kv m2 fr E2 PL.done fun x hx => ?_
      rcases dom x hx with z | z
      · exact nomatch z
      · exact z
end
end Bk
set_option Elab.async false
set_option linter.all false
set_option maxRecDepth 100000
set_option maxHeartbeats 4000000
namespace Bk
open PySem L2 Ah
def spTold (K : PySem.W.Frag) : Sp := fun vs H Q _ => ∃ (ra : Addr) (as : List Addr) (vss : List (List V)) (rows : List (List Stp)), vs = [.ref ra] ∧ RwsAt H ra as vss rows ∧ LeadsOk rows ∧ rows.length ≤ 100000 ∧
  ∀ (l : Addr) (us : List V) (H' : Hp) (m : Mp), H l = none → Same H H' → H' l = some (.lst us) → us.length = rows.length → Told (rowF rows) rows.length m → (∀ p, p < rows.length → ∃ v e, us[p]? = some v ∧ m p = some e ∧ EndV K H' v e) → Q (.ref l) H'
section
variable {P : Program} {w : World} {K : PySem.W.Frag} {mg : Str → Option Value} {base : Heap} {f fT : Addr} {fd dT : FuncData}
abbrev nTA : List Str := ["rows", "ends", "place"]
theorem ndp2 : (["place", "ends"] : List Str).Nodup := by decide +kernel
theorem scTA : FnScope ["rows", "ends", "place"] ["rows"] (defScope sTold) := ⟨rfl, rfl, rfl, by decide +kernel, rfl, by decide +kernel, by decide +kernel⟩
theorem ok_ta (F : Fun K "told_ahead" "told_ahead" sTold f fd) (T : Txt mg) (GT : FnOk P w K mg base CX0 5 fT dT ["place", "rows", "ends"] (spTell K)) (kT : PySem.W.keepIn K (.ref fT) = true) (bT : Binds K dT ["place", "rows", "ends"] []) (mT : mg "tell_end" = some (.ref fT)) : FnOk P w K mg base CX0 6 f fd ["rows"] (spTold K) := by
  refine F.ok scTA (fun vs H Q E h => ?_) (fun cdv A outer s H vs Q E hr h => ?_)
  · obtain ⟨ra, as, vss, rows, rfl, _⟩ := h
    rfl
  obtain ⟨ra, as, vss, rows, rfl, R, hL, hn, q⟩ := h
  have hu := hu_of hr
  refine ⟨_, pss_cons (ps_set (i := 1) scTA.nd rfl (Or.inr rfl) pe_dnewK)
    (pss_cons (ps_for PassesOwn.never rfl (pi_range1 rfl T.range (pa_cons (pe_callB call_len_seq rfl T.len PySem.boot_len (pa_cons (pv 0) pa_nil)) pa_nil)) (pg_name (i := 2) scTA.nd rfl (Or.inl rfl))
      (pss_one (ps_if (pt_cmp (pc_dnotin hu (pv 2) (pv 1))) (pss_one (ps_expr (pe_call GT hr rfl mT kT bT .nil pass0 (pa_cons (pv 2) (pa_cons (pv 0) (pa_cons (pv 1) pa_nil)))))) pss_nil)))
    (pss_one (ps_ret (pe_comp (defScope sTold) nTA ["place"] [("ends", 1)] rfl (pi_range1 rfl T.range (pa_cons (pe_callB call_len_seq rfl T.len PySem.boot_len (pa_cons (pv 0) pa_nil)) pa_nil)) (own_name (i := 0) (by decide))
      (fun _ _ _ _ _ _ => ⟨pg_name (i := 0) ndp2 rfl (Or.inl rfl), pts_nil, pe_dget hu (pv 1) (pv 0) (fun _ _ => rfl)⟩))))), ?_⟩
  intro d hd
  have s0 := same_new hd (.dK [])
  have R0 := R.same s0
  have ed : (upd H d (.dK [])) d = some (.dK []) := upd_same
  have frH : ∀ b o, H b = some o → b ≠ d := fun b o hb => ne_of_none hb hd
  generalize upd H d (.dK []) = H0 at *
  have hln : (as.map V.ref).length = rows.length := by rw [List.length_map, R.len]
  have E0 : EndsAt K H0 d [] rows.length (fun _ => none) := ⟨ed, by
    have : cnt (fun _ => none) rows.length = 0 := by unfold cnt; rw [List.countP_eq_zero]; exact fun _ _ => Bool.false_ne_true
    rw [this]; rfl, fun p => .inl ⟨rfl, rfl⟩⟩
  refine ⟨_, rfl, ra, _, rfl, .inl (SqL.of R0.lst), _, rfl, by rw [hln]; omega, by rw [hln]; omega, for_range (n := ((as.map V.ref).length : Int).toNat) (fun i σ H2 => ∃ (v2 : Option V) (kv : List (Key × V)) (m : Mp), σ = [some (.ref ra), some (.ref d), v2] ∧ Fr d H0 H2 ∧ EndsAt K H2 d kv rows.length m ∧ Told (rowF rows) rows.length m ∧ ∀ p, p < i → m p ≠ none)
    ⟨none, [], fun _ => none, rfl, Fr.refl _ _, E0, Told.nil _ _, fun p hp => absurd hp (Nat.not_lt_zero _)⟩ ?_ ?_⟩
  · rintro i σ H2 hi ⟨v2, kv, m, rfl, fr, E2, T2, hm⟩
    rw [Int.toNat_natCast, hln] at hi
    have e0 : (0 : Int) + (i : Int) = (i : Int) := by omega
    rw [e0]
    refine ⟨_, rfl, _, rfl, d, _, rfl, DGet.k (k := Sum.inl (i : Int)) E2.dic, _, rfl, ?_⟩
    rcases E2.val i with ⟨h1, h2⟩ | ⟨e, v, h1, h2, h3⟩
    · rw [h2]
      refine iteT ?_
      refine ⟨_, rfl, _, rfl, _, rfl, i, ra, d, as, vss, rows, kv, m, rfl, R0.fr ed fr, E2, T2, h1, hi, hL, hn, fun H3 kv3 m3 f3 E3 T3 d3 => ?_⟩
      refine ⟨_, kv3, m3, rfl, fun b o hb hn => f3 _ _ (fr _ _ hb hn) hn, E3, T3, fun p hp => ?_⟩
      by_cases c : p = i
      · exact d3 p (.inr c)
      · exact d3 p (.inl (hm p (by omega)))
    · rw [h2]
      refine iteF ?_
      refine ⟨_, kv, m, rfl, fr, E2, T2, fun p hp => ?_⟩
      by_cases c : p = i
      · rw [c, h1]; exact nofun
      · exact hm p (by omega)
  · rintro σ H2 ⟨v2, kv, m, rfl, fr, E2, T2, hm⟩
    rw [Int.toNat_natCast, hln] at hm
    have R2 := R0.fr ed fr
    refine ⟨_, rfl, ra, _, rfl, .inl (SqL.of R2.lst), _, rfl, by rw [hln]; omega, by rw [hln]; omega, turns_range0 (k := ((as.map V.ref).length : Int).toNat) (fun i ys H3 => H3 = H2 ∧ ys.length = i ∧ ∀ p, p < i → ∃ v e, ys[p]? = some v ∧ m p = some e ∧ EndV K H2 v e)
      ⟨rfl, rfl, fun p hp => absurd hp (Nat.not_lt_zero _)⟩ ?_ ?_⟩
    · rintro i ys H3 hi ⟨rfl, hy, hall⟩
      rw [Int.toNat_natCast, hln] at hi
      have e0 : (0 : Int) + (i : Int) = (i : Int) := by omega
      rw [e0]
      rcases E2.val i with ⟨h1, h2⟩ | ⟨e, v, h1, h2, h3⟩
      · exact absurd h1 (hm i hi)
      refine ⟨_, rfl, _, rfl, d, v, rfl, by rw [← h2]; exact DGet.k (k := Sum.inl (i : Int)) E2.dic, by rw [hy, sizeLine_eq]; omega, rfl, by rw [List.length_append, hy]; rfl, fun p hp => ?_⟩
      by_cases c : p < i
      · obtain ⟨v', e', a1, a2, a3⟩ := hall p c
        exact ⟨v', e', by rw [List.getElem?_append_left (by omega)]; exact a1, a2, a3⟩
      · obtain rfl : p = i := by omega
        refine ⟨v, e, ?_, h1, h3⟩
        rw [← hy]
        exact List.getElem?_concat_length
    · rintro ys H3 ⟨rfl, hy, hall⟩
      rw [Int.toNat_natCast, hln] at hy hall
      intro l hl
      have hl0 : H l = none := by
        cases e : H l with
        | none => rfl
        | some o => rw [fr _ _ (s0 _ _ e) (frH _ _ e)] at hl; cases hl
      have s3 := same_new hl (.lst ys)
      refine q l ys _ m hl0 (fun b o hb => s3 _ _ (fr _ _ (s0 _ _ hb) (frH _ _ hb))) upd_same hy T2 fun p hp => ?_
      obtain ⟨v, e, a1, a2, a3⟩ := hall p hp
      exact ⟨v, e, a1, a2, a3.same s3⟩
end
end Bk
set_option Elab.async false
set_option linter.all false
set_option maxRecDepth 100000
set_option maxHeartbeats 4000000
namespace Bk
open PySem L2 Ah
/-! ### the law's rows -/
def spLead : Sp := fun vs H Q _ => ∃ (x : Int) (a n : Nat), vs = [.int x, .int (a : Int), .int (n : Int)] ∧ ∀ v H' l, Same H H' → LdAt H' v l → (∀ p ∈ ldsL l, p < n) → Q v H'
def spStepBy : Sp := fun vs H Q _ => ∃ (x : Int) (a n : Nat), vs = [.int x, .int (a : Int), .int (n : Int)] ∧ ∀ v H' st, Same H H' → StAt H' v st → (∀ p ∈ leads st, p < n) → Q v H'
def srtA : List Str := ["say", "go", "go", "go", "go", "go", "either", "either", "either", "either"]
def srtB : List Str := ["put", "part", "plus", "times", "both", "any", "odd", "over", "up", "down"]
def kdAt (c : Int) : Str := (srtA ++ srtB).getD (c % 20).toNat "say"
theorem kdAt_at (c : Int) : atI (srtA.map V.str ++ srtB.map V.str) (c % 20) = some (.str (kdAt c)) := by
  have h : (c % 20).toNat < (srtA ++ srtB).length := by
    show (c % 20).toNat < 20
    omega
  obtain ⟨n, hn⟩ := Int.eq_ofNat_of_zero_le (Int.emod_nonneg c (show (20 : Int) ≠ 0 by decide))
  unfold kdAt
  rw [hn] at h ⊢
  rw [show ((n : Int)).toNat = n from Int.toNat_natCast n] at h ⊢
  refine atI_nat ?_
  rw [← List.map_append, List.getElem?_map, List.getElem?_eq_getElem h, List.getD_eq_getElem?_getD, List.getElem?_eq_getElem h]
  rfl
theorem kdAt_mem (c : Int) : kdAt c ∈ srtA ++ srtB := by
  unfold kdAt
  have h : (c % 20).toNat < (srtA ++ srtB).length := by
    show (c % 20).toNat < 20
    omega
  rw [List.getD_eq_getElem?_getD, List.getElem?_eq_getElem h]
  exact List.getElem_mem h
theorem kds_ok : ∀ x ∈ srtA ++ srtB, ¬ x = "none" ∧ PyData.strOk x = true := by decide +kernel
def sA : Stmt := (defBody sStepBy).getD 2 (.Pass ⟨0, 0, 0, 0⟩)
def sB : Stmt := (defBody sStepBy).getD 3 (.Pass ⟨0, 0, 0, 0⟩)
theorem psw_cat {X : Cx} {i : Nat} {x y : Str} {es : List Expr} {t : TA} {tn : TE} {pos pos' p1 p2 p3 : Pos} (hN : X.N.Nodup) (hi : X.N[i]? = some x) (hx : Loc X.env.scope x) (hv : PE X (.Name y p1) tn) (h : PAw X es t) (hf : X.fn x = true ∨ X.env.scope.names.lookup x = some .local)
    (hs : swapsWith (.BinOp (.Name y p1) .Add (.List es p2) p3) (some (.Name x pos')) pos.line X.env = pure false) : PSw X (.Assign [.Name x pos'] (.BinOp (.Name y p1) .Add (.List es p2) p3) pos) (tAsg (tOp rCat tn (tLst t)) (gName i)) := ⟨ps_set hN hi hx (pe_op op_cat hv (pe_lst h.ok)) hs hf⟩
theorem sA_st {X : Cx} {tail : List Stmt} {t : TS} (_ : PSs X tail t) (hN : X.N = (["_law_cell", "_law_at", "_law_many", "_law_mixed", "_law_sorts", "_law_sort"] : List Str)) (hs : X.env.scope = defScope sStepBy) : PSw X sA (tAsg (tLst (tVals (srtA.map V.str))) (gName 4)) := by
  refine psw_lst (x := "_law_sorts") ?_ ?_ ?_ (paw_strs (xs := srtA) (by rfl)) ?_
  · rw [hN]; decide +kernel
  · rw [hN]; rfl
  · rw [hs]; exact Or.inl rfl
  · rw [hs]; exact Or.inr rfl
theorem sB_st {X : Cx} {tail : List Stmt} {t : TS} {tn : TE} (_ : PSs X tail t) (hN : X.N = (["_law_cell", "_law_at", "_law_many", "_law_mixed", "_law_sorts", "_law_sort"] : List Str)) (hs : X.env.scope = defScope sStepBy) (hv : ∀ p1, PE X (.Name "_law_sorts" p1) tn) : PSw X sB (tAsg (tOp rCat tn (tLst (tVals (srtB.map V.str)))) (gName 4)) := by
  refine psw_cat (x := "_law_sorts") (y := "_law_sorts") ?_ ?_ ?_ (hv _) (paw_strs (xs := srtB) (by rfl)) ?_ ?_
  · rw [hN]; decide +kernel
  · rw [hN]; rfl
  · rw [hs]; exact Or.inl rfl
  · rw [hs]; exact Or.inr rfl
  · rfl
abbrev nSB : List Str := ["_law_cell", "_law_at", "_law_many", "_law_mixed", "_law_sorts", "_law_sort"]
section
variable {P : Program} {w : World} {K : PySem.W.Frag} {mg : Str → Option Value} {base : Heap} {f fL fS : Addr} {fd dL dS : FuncData}
theorem scLead : FnScope ["_law_mixed", "_law_at", "_law_many"] ["_law_mixed", "_law_at", "_law_many"] (defScope sLead) := ⟨rfl, rfl, rfl, by decide +kernel, rfl, by decide +kernel, by decide +kernel⟩
theorem ok_lead (F : Fun K "_law_lead_by" "_law_lead_by" sLead f fd) : FnOk P w K mg base CX0 1 f fd ["_law_mixed", "_law_at", "_law_many"] spLead := by
  refine F.ok scLead (fun vs H Q E h => ?_) (fun cdv A outer s H vs Q E hr h => ?_)
  · obtain ⟨x, a, n, rfl, _⟩ := h
    rfl
  obtain ⟨x, a, n, rfl, q⟩ := h
  refine ⟨_, pss_cons (ps_if (PW.pt (pw_or (pt_cmpR op_eq (pe_op op_mod (pv 0) pe_int) pe_int (nomark _)) (pw_or1 (pt_cmpR op_ge (pv 1) (pv 2) (nomark _))))) (pss_one (ps_ret (pe_tup (pa_cons pe_str pa_nil)))) pss_nil)
    (pss_one (ps_ret (pe_tup (pa_cons pe_str (pa_cons (pe_op op_add (pv 1) (pe_op op_mod (pe_op op_fdiv (pv 0) pe_int) (pe_op op_sub (pv 2) (pv 1)))) pa_nil))))), ?_⟩
  have no : ∀ t, H t = none → Q (.ref t) (upd H t (.tup [.str "none"])) := fun t ht => q _ _ .none (same_new ht _) ⟨t, rfl, upd_same⟩ fun p hp => nomatch hp
  refine ⟨_, rfl, _, _, rfl, rfl, (by show (0 : Int) < 7; decide), rfl, _, rfl, ite2 (fun c => ?_) (fun c => ?_)⟩
  · exact ⟨by show 1 ≤ sizeLine; decide, fun t ht => no t ht⟩
  refine ⟨_, rfl, _, rfl, _, _, rfl, rfl, _, rfl, ite2 (fun c2 => ?_) (fun c2 => ?_)⟩
  · exact ⟨by show 1 ≤ sizeLine; decide, fun t ht => no t ht⟩
  have c3 : ¬ (n : Int) ≤ (a : Int) := fun z => c2 (decide_eq_true z)
  refine ⟨_, rfl, _, rfl, _, _, rfl, rfl, ⟨by decide, by decide⟩, _, rfl, _, rfl, _, _, rfl, rfl, _, _, rfl, rfl, (by show (0 : Int) < (n : Int) - (a : Int); omega), _, _, rfl, rfl, by show 2 ≤ sizeLine; decide, fun t ht => ?_⟩
  have b0 : 0 ≤ x / 7 % ((n : Int) - (a : Int)) := Int.emod_nonneg _ (by omega)
  have b1 : x / 7 % ((n : Int) - (a : Int)) < (n : Int) - (a : Int) := Int.emod_lt_of_pos _ (by omega)
  obtain ⟨k, hk⟩ := Int.eq_ofNat_of_zero_le b0
  rw [hk] at b1
  refine q _ _ (.go (a + k)) (same_new ht _) ⟨t, rfl, ?_⟩ fun p hp => ?_
  · rw [upd_same, hk]
    show some (HO.tup [V.str "go", V.int ((a : Int) + (k : Int))]) = some (HO.tup [V.str "go", V.int ((a + k : Nat) : Int)])
    rw [Int.natCast_add]
  · have hp : p = a + k := List.mem_singleton.mp hp
    omega
theorem scSB : FnScope ["_law_cell", "_law_at", "_law_many", "_law_mixed", "_law_sorts", "_law_sort"] ["_law_cell", "_law_at", "_law_many"] (defScope sStepBy) := ⟨rfl, rfl, rfl, by decide +kernel, rfl, by decide +kernel, by decide +kernel⟩
theorem ok_sb (F : Fun K "_law_step_by" "_law_step_by" sStepBy f fd) (GL : FnOk P w K mg base CX0 1 fL dL ["_law_mixed", "_law_at", "_law_many"] spLead) (kL : PySem.W.keepIn K (.ref fL) = true) (bL : Binds K dL ["_law_mixed", "_law_at", "_law_many"] []) (mL : mg "_law_lead_by" = some (.ref fL)) : FnOk P w K mg base CX0 2 f fd ["_law_cell", "_law_at", "_law_many"] spStepBy := by
  refine F.ok scSB (fun vs H Q E h => ?_) (fun cdv A outer s H vs Q E hr h => ?_)
  · obtain ⟨x, a, n, rfl, _⟩ := h
    rfl
  obtain ⟨x, a, n, rfl, q⟩ := h
  have lead1 : ∀ (σ : Nat), True := fun _ => trivial
  -- what stands behind the two rows of texts
  refine with_tail (tail := (defBody sStepBy).drop 4) (fun tt => ∀ (D : L2.Ends) (H1 : Hp) (l : Addr) (c : Int), D.rt = Q → Same H H1 → H1 l = some (.lst (srtA.map V.str ++ srtB.map V.str)) → tt D [some (.int x), some (.int (a : Int)), some (.int (n : Int)), some (.int c), some (.ref l), none] H1) ?_ ?_
  · refine ⟨_, pss_cons (ps_set (i := 5) scSB.nd rfl (Or.inl rfl) (pe_ix ix_list (pv 4) (pe_op op_mod (pv 3) pe_int) (fun _ _ => rfl)))
      (pss_cons (ps_if (pt_cmpR op_eq (pv 5) pe_str (nomark _)) (pss_one (ps_ret (pe_tup (pa_cons (pv 5) pa_nil)))) pss_nil)
      (pss_cons (ps_if (pt_cmpR op_eq (pv 5) pe_str (nomark _)) (pss_one (ps_ret (pe_call GL hr rfl mL kL bL .nil pass0 (pa_cons (pe_op op_fdiv (pv 3) pe_int) (pa_cons (pv 1) (pa_cons (pv 2) pa_nil)))))) pss_nil)
      (pss_cons (ps_if (pt_cmpR op_eq (pv 5) pe_str (nomark _)) (pss_one (ps_ret (pe_tup (pa_cons (pv 5) (pa_cons (pe_call GL hr rfl mL kL bL .nil pass0 (pa_cons (pe_op op_fdiv (pv 3) pe_int) (pa_cons (pv 1) (pa_cons (pv 2) pa_nil)))) (pa_cons (pe_call GL hr rfl mL kL bL .nil pass0 (pa_cons (pe_op op_fdiv (pv 3) pe_int) (pa_cons (pv 1) (pa_cons (pv 2) pa_nil)))) pa_nil)))))) pss_nil)
      (pss_one (ps_ret (pe_tup (pa_cons (pv 5) (pa_cons (pe_op op_add pe_int (pe_op op_mod (pe_op op_fdiv (pv 3) pe_int) pe_int)) pa_nil)))))))), fun D H1 l c hD s1 el => ?_⟩
    refine ⟨_, rfl, _, rfl, _, _, rfl, rfl, (by show (0 : Int) < 20; decide), l, _, _, _, rfl, rfl, SqL.of el, kdAt_at c, ?_⟩
    obtain ⟨k2, kok⟩ := kds_ok _ (kdAt_mem c)
    generalize kdAt c = kd at *
    refine ⟨_, rfl, rfl, _, rfl, ite2 (fun c1 => ?_) (fun c1 => ?_)⟩
    · have e := de_str c1
      refine ⟨_, rfl, by show 1 ≤ sizeLine; decide, fun t ht => ?_⟩
      rw [hD]
      exact q _ _ .oth (s1.trans (same_new ht _)) ⟨t, kd, [], rfl, upd_same, by rw [e]; decide +kernel, k2, by rw [e]; decide +kernel, .inl rfl, kok⟩ fun p hp => nomatch hp
    refine ⟨_, rfl, rfl, _, rfl, ite2 (fun c2 => ?_) (fun c2 => ?_)⟩
    · refine ⟨_, rfl, _, _, rfl, rfl, ⟨by decide, by decide⟩, _, rfl, _, rfl, c / 20, a, n, rfl, fun v H' ld s' h1 h2 => ?_⟩
      rw [hD]
      exact q _ _ (.ld ld) (s1.trans s') h1 h2
    refine ⟨_, rfl, rfl, _, rfl, ite2 (fun c3 => ?_) (fun c3 => ?_)⟩
    · have e := de_str c3
      refine ⟨_, rfl, _, rfl, _, _, rfl, rfl, ⟨by decide, by decide⟩, _, rfl, _, rfl, c / 20, a, n, rfl, fun v1 H2 l1 s2 h1 h2 => ?_⟩
      refine ⟨_, rfl, _, _, rfl, rfl, ⟨by decide, by decide⟩, _, rfl, _, rfl, c / 140, a, n, rfl, fun v2 H3 l2 s3 h3 h4 => ⟨by show 3 ≤ sizeLine; decide, fun t ht => ?_⟩⟩
      rw [hD]
      have s4 := same_new ht (.tup [.str kd, v1, v2])
      refine q _ _ (.ei l1 l2) (((s1.trans s2).trans s3).trans s4) ⟨t, v1, v2, rfl, by rw [upd_same, e], (h1.keep s3.keepT).keep s4.keepT, h3.keep s4.keepT⟩ fun p hp => ?_
      exact (List.mem_append.mp hp).elim (h2 p) (h4 p)
    · refine ⟨_, rfl, _, rfl, _, _, rfl, rfl, ⟨by decide, by decide⟩, _, _, rfl, rfl, (by show (0 : Int) < 9; decide), _, _, rfl, rfl, by show 2 ≤ sizeLine; decide, fun t ht => ?_⟩
      rw [hD]
      exact q _ _ .oth (s1.trans (same_new ht _)) ⟨t, kd, _, rfl, upd_same, dn_str c2, k2, dn_str c3, .inr ⟨_, rfl⟩, kok⟩ fun p hp => nomatch hp
  intro t4 h4 p4
  have hA := sA_st h4 rfl rfl
  have hB := sB_st h4 rfl rfl (fun _ => pv 4)
  refine ⟨_, pss_cons (ps_set (i := 3) scSB.nd rfl (Or.inl rfl) (pe_op op_mod (pe_op op_mul (pv 0) pe_int) pe_int))
    (pss_cons (ps_set (i := 3) scSB.nd rfl (Or.inl rfl) (pe_op op_mod (pe_op op_mul (pv 3) (pv 3)) pe_int))
    (pss_cons hA.ok (pss_cons hB.ok h4))), ?_⟩
  refine ⟨_, rfl, _, _, rfl, rfl, .inr ⟨by decide, by decide⟩, _, _, rfl, rfl, (by show (0 : Int) < 2147483647; decide), ?_⟩
  have b0 : 0 ≤ x * 69621 % 2147483647 := Int.emod_nonneg _ (by decide)
  have b1 : x * 69621 % 2147483647 < 2147483647 := Int.emod_lt_of_pos _ (by decide)
  generalize x * 69621 % 2147483647 = y at *
  refine ⟨_, rfl, _, rfl, _, _, rfl, rfl, .inl ⟨by omega, by omega⟩, _, _, rfl, rfl, (by show (0 : Int) < 2147483629; decide), ?_⟩
  refine ⟨by show 10 ≤ sizeLine; decide, fun l1 hl1 => ?_⟩
  refine ⟨_, rfl, by show 10 ≤ sizeLine; decide, fun l2 hl2 => ?_⟩
  have n12 : l1 ≠ l2 := fun z => by rw [← z, upd_same] at hl2; cases hl2
  have s1 := same_new hl1 (.lst (srtA.map V.str))
  have s2 := same_new hl2 (.lst (srtB.map V.str))
  refine ⟨l1, l2, _, _, rfl, rfl, by rw [upd_ne n12]; exact upd_same, upd_same, by show 20 ≤ sizeLine; decide, fun l3 hl3 => ?_⟩
  exact p4 _ _ l3 _ rfl ((s1.trans s2).trans (same_new hl3 _)) upd_same
end
end Bk
set_option Elab.async false
set_option linter.all false
set_option maxRecDepth 100000
set_option maxHeartbeats 4000000
namespace Bk
open PySem L2 Ah
def spRowsBy (K : PySem.W.Frag) : Sp := fun vs H Q _ => ∃ (a : Addr) (ns : List Int) (n : Nat) (b : Bool), vs = [.ref a, .int (n : Int), .bl b] ∧ SqL K H a (ns.map V.int) ∧ ns.length ≤ 63 ∧ n ≤ 1000 ∧
  ∀ (ra : Addr) (as : List Addr) (vss : List (List V)) (rows : List (List Stp)) (H' : Hp), Same H H' → RwsAt H' ra as vss rows → rows.length = n → LeadsOk rows → Q (.ref ra) H'
theorem cut_ints (ns : List Int) (lo hi : Option Int) : ∃ ms : List Int, cutV (ns.map V.int) lo hi = ms.map V.int ∧ ms.length ≤ ns.length := by
  refine ⟨(ns.drop (HT.sIx (ns.map V.int).length 0 lo)).take (HT.sIx (ns.map V.int).length (ns.map V.int).length hi - HT.sIx (ns.map V.int).length 0 lo), ?_, ?_⟩
  · unfold cutV
    rw [List.map_take, List.map_drop]
  · rw [List.length_take, List.length_drop]
    omega
theorem RwsAt.snoc {H H' : Hp} {l r : Addr} {as : List Addr} {vss : List (List V)} {rows : List (List Stp)} {vs : List V} {st : List Stp} (R : RwsAt H l as vss rows) (k : ∀ b o, H b = some o → b ≠ l → H' b = some o) (hn : ∀ a ∈ as, a ≠ l) (el : H' l = some (.lst (as.map V.ref ++ [.ref r]))) (er : H' r = some (.lst vs)) (hs : StsAt H' vs st) : RwsAt H' l (as ++ [r]) (vss ++ [vs]) (rows ++ [st]) := by
  refine ⟨by rw [el, List.map_append]; rfl, by rw [List.length_append, List.length_append, R.len]; rfl, by rw [List.length_append, List.length_append, R.lev]; rfl, fun i a us h1 h2 => ?_, fun i us q h1 h2 => ?_⟩
  · by_cases hi : i < as.length
    · rw [List.getElem?_append_left hi] at h1
      rw [List.getElem?_append_left (by rw [R.lev, ← R.len]; exact hi)] at h2
      exact k _ _ (R.row i a us h1 h2) (hn a (List.mem_of_getElem? h1))
    · have hl : i < (as ++ [r]).length := (List.getElem?_eq_some_iff.mp h1).1
      rw [List.length_append, List.length_singleton] at hl
      obtain rfl : i = as.length := by omega
      rw [List.getElem?_concat_length] at h1
      cases h1
      rw [show as.length = vss.length from by rw [R.lev, R.len], List.getElem?_concat_length] at h2
      cases h2
      exact er
  · by_cases hi : i < vss.length
    · rw [List.getElem?_append_left hi] at h1
      rw [List.getElem?_append_left (by rw [← R.lev]; exact hi)] at h2
      exact (R.sts i us q h1 h2).keep fun b xs e => k _ _ e (ne_of e R.lst (by intro z; cases z))
    · have hl : i < (vss ++ [vs]).length := (List.getElem?_eq_some_iff.mp h1).1
      rw [List.length_append, List.length_singleton] at hl
      obtain rfl : i = vss.length := by omega
      rw [List.getElem?_concat_length] at h1
      cases h1
      rw [R.lev, List.getElem?_concat_length] at h2
      cases h2
      exact hs
section
variable {P : Program} {w : World} {K : PySem.W.Frag} {mg : Str → Option Value} {base : Heap} {f fS : Addr} {fd dS : FuncData}
abbrev nRB : List Str := ["_law_script", "_law_many", "_law_later", "_law_cells", "_law_rows", "_law_k", "_law_cell", "_law_at"]
theorem ndj4 : (["_law_j", "_law_at", "_law_cell", "_law_many"] : List Str).Nodup := by decide +kernel
theorem scRB : FnScope ["_law_script", "_law_many", "_law_later", "_law_cells", "_law_rows", "_law_k", "_law_cell", "_law_at"] ["_law_script", "_law_many", "_law_later"] (defScope sRowsBy) := ⟨rfl, rfl, rfl, by decide +kernel, rfl, by decide +kernel, by decide +kernel⟩
theorem ok_rb (F : Fun K "_law_rows_by" "_law_rows_by" sRowsBy f fd) (T : Txt mg) (GS : FnOk P w K mg base CX0 2 fS dS ["_law_cell", "_law_at", "_law_many"] spStepBy) (kS : PySem.W.keepIn K (.ref fS) = true) (bS : Binds K dS ["_law_cell", "_law_at", "_law_many"] []) (mS : mg "_law_step_by" = some (.ref fS)) : FnOk P w K mg base CX0 3 f fd ["_law_script", "_law_many", "_law_later"] (spRowsBy K) := by
  refine F.ok scRB (fun vs H Q E h => ?_) (fun cdv A outer s H vs Q E hr h => ?_)
  · obtain ⟨a, ns, n, b, rfl, _⟩ := h
    rfl
  obtain ⟨a, ns, n, b, rfl, S, h63, hn, q⟩ := h
  -- the loop's last deed, one row more
  refine with_tail (tail := (fBody ((defBody sRowsBy).getD 2 (.Pass ⟨0, 0, 0, 0⟩))).drop 3) (fun tt => ∀ (D : L2.Ends) (H2 : Hp) (vs0 vc vb : V) (l : Addr) (xs : List V) (k at_ : Nat) (c : Int), H2 l = some (.lst xs) → xs.length ≤ 1000 →
      (∀ (r : Addr) (vs : List V) (st : List Stp) (H3 : Hp), Same H2 H3 → H2 r = none → H3 r = some (.lst vs) → StsAt H3 vs st → (∀ s ∈ st, ∀ p ∈ leads s, p < n) → H3 l = some (.lst xs) → D.nx [some vs0, some (.int (n : Int)), some vb, some vc, some (.ref l), some (.int (k : Int)), some (.int c), some (.int (at_ : Int))] (upd H3 l (.lst (xs ++ [.ref r])))) →
      tt D [some vs0, some (.int (n : Int)), some vb, some vc, some (.ref l), some (.int (k : Int)), some (.int c), some (.int (at_ : Int))] H2) ?_ ?_
  · refine ⟨_, pss_one (ps_expr (pe_bm PySem.F.plainAttrs_list PySem.F.slot_list_append PySem.F.type_list_append mt_append (pv 4) (pa_cons (pe_comp (defScope sRowsBy) nRB ["_law_j"] [("_law_at", 7), ("_law_cell", 6), ("_law_many", 1)] rfl (pi_range1 rfl T.range (pa_cons (pe_op op_mod (pv 6) pe_int) pa_nil)) (own_name (i := 0) (by decide))
      (fun _ _ _ _ _ _ => ⟨pg_name (i := 0) ndj4 rfl (Or.inl rfl), pts_nil, pe_call GS hr rfl mS kS bS .nil pass0 (pa_cons (pe_op op_add (pe_op op_fdiv (pv 2) pe_int) (pe_op op_mul pe_int (pv 0))) (pa_cons (pv 1) (pa_cons (pv 3) pa_nil)))⟩)) pa_nil))), fun D H2 vs0 vc vb l xs k at_ c el hx hD => ?_⟩
    have b0 : 0 ≤ c % 5 := Int.emod_nonneg _ (by decide)
    have b1 : c % 5 < 5 := Int.emod_lt_of_pos _ (by decide)
    refine ⟨_, rfl, .inl ⟨rfl, _, SqL.of el⟩, _, rfl, _, _, rfl, rfl, (by show (0 : Int) < 5; decide), _, rfl, by omega, by omega, turns_range0 (k := (c % 5).toNat) (fun i ys H3 => Same H2 H3 ∧ ys.length = i ∧ ∃ st, StsAt H3 ys st ∧ ∀ s ∈ st, ∀ p ∈ leads s, p < n) ⟨Same.refl _, rfl, [], .nil, fun s hs => nomatch hs⟩ ?_ ?_⟩
    · rintro i ys H3 hi ⟨s3, hy, st, hst, hlt⟩
      refine ⟨_, rfl, _, _, rfl, rfl, ⟨by decide, by decide⟩, _, rfl, _, _, rfl, rfl, .inl ⟨by decide, by decide⟩, _, _, rfl, rfl, _, rfl, _, rfl, _, at_, n, rfl, fun v H4 s1 s4 h4 h5 => ⟨by rw [hy, sizeLine_eq]; omega, s3.trans s4, by rw [List.length_append, hy]; rfl, st ++ [s1], Paired.snoc (hst.keep s4.keepT) h4, fun s hs => ?_⟩⟩
      rcases List.mem_append.mp hs with z | z
      · exact hlt s z
      · rw [List.mem_singleton.mp z]; exact h5
    · rintro ys H3 ⟨s3, hy, st, hst, hlt⟩ r hr0
      have s4 := same_new hr0 (.lst ys)
      have el4 := s4 _ _ (s3 _ _ el)
      refine ⟨l, xs, _, rfl, rfl, el4, by rw [sizeLine_eq]; omega, ?_⟩
      exact hD r ys st _ (s3.trans s4) (s3.free hr0) upd_same (hst.keep s4.keepT) hlt el4
  intro tt htt ptt
  refine ⟨_, pss_cons (ps_set (i := 3) scRB.nd rfl (Or.inl rfl) (pe_op op_cat (pe_slice sl_list (pv 0) (po_some pe_int) (po_some pe_int)) (pe_lst (pa_cons pe_int (pa_cons pe_int pa_nil)))))
    (pss_cons (ps_set (i := 4) scRB.nd rfl (Or.inl rfl) (pe_lst pa_nil))
    (pss_cons (ps_for PassesOwn.never rfl (pi_range1 rfl T.range (pa_cons (pv 1) pa_nil)) (pg_name (i := 5) scRB.nd rfl (Or.inl rfl))
      (pss_cons (ps_set (i := 6) scRB.nd rfl (Or.inr rfl) (pe_op op_add (pe_ix ix_list (pv 3) (pe_op op_mod (pv 5) (pe_callB call_len_seq rfl T.len PySem.boot_len (pa_cons (pv 3) pa_nil))) (fun _ _ => rfl)) (pe_op op_mul pe_int (pv 5))))
      (pss_cons (ps_set (i := 7) scRB.nd rfl (Or.inr rfl) pe_int)
      (pss_cons (ps_if (pt_val (pv 2)) (pss_one (ps_set (i := 7) scRB.nd rfl (Or.inr rfl) (pe_op op_add (pv 5) pe_int))) pss_nil) htt))))
    (pss_one (ps_ret (pv 4))))), ?_⟩
  refine ⟨_, rfl, _, rfl, _, rfl, a, _, rfl, S, fun p1 hp1 => ?_⟩
  obtain ⟨ms, ems, hms⟩ := cut_ints ns (some _) (some _)
  rw [ems]
  refine ⟨by show 2 ≤ sizeLine; decide, fun p2 hp2 => ?_⟩
  have n12 : p1 ≠ p2 := fun z => by rw [← z, upd_same] at hp2; cases hp2
  refine ⟨p1, p2, _, _, rfl, rfl, by rw [upd_ne n12]; exact upd_same, upd_same, by rw [List.length_map, sizeLine_eq]; show ms.length + 2 ≤ _; omega, fun p3 hp3 => ?_⟩
  have s1 := ((same_new hp1 (.lst (ms.map V.int))).trans (same_new hp2 (.lst [.int 7, .int 4]))).trans (same_new hp3 (.lst (ms.map V.int ++ [.int 7, .int 4])))
  have ec : (upd (upd (upd H p1 (.lst (ms.map V.int))) p2 (.lst [.int 7, .int 4])) p3 (.lst (ms.map V.int ++ [.int 7, .int 4]))) p3 = some (.lst ((ms ++ [7, 4]).map V.int)) := by rw [upd_same, List.map_append]; rfl
  generalize upd (upd (upd H p1 (.lst (ms.map V.int))) p2 (.lst [.int 7, .int 4])) p3 (.lst (ms.map V.int ++ [.int 7, .int 4])) = H1 at *
  have hcl : 0 < (ms ++ [7, 4]).length := by rw [List.length_append]; show 0 < _ + 2; omega
  generalize ms ++ [7, 4] = cs at *
  refine ⟨by show 0 ≤ sizeLine; decide, fun l hl => ?_⟩
  have s2 := same_new hl (.lst [])
  have hcl3 : l ≠ p3 := fun z => by rw [z, ec] at hl; cases hl
  refine ⟨_, rfl, _, rfl, by omega, by omega, for_range (n := (n : Int).toNat) (fun i σ H2 => ∃ (v5 v6 v7 : Option V) (as : List Addr) (vss : List (List V)) (rows : List (List Stp)), σ = [some (.ref a), some (.int (n : Int)), some (.bl b), some (.ref p3), some (.ref l), v5, v6, v7] ∧ RwsAt H2 l as vss rows ∧ rows.length = i ∧ (∀ r ∈ rows, ∀ s ∈ r, ∀ p ∈ leads s, p < n) ∧ (∀ b ∈ as, b ≠ l) ∧ (∀ b o, H1 b = some o → H2 b = some o))
    ⟨none, none, none, [], [], [], rfl, ⟨upd_same, rfl, rfl, fun i a vs h => by simp at h, fun i vs r h => by simp at h⟩, rfl, (fun r hr => nomatch hr), (fun b hb => nomatch hb), s2⟩ ?_ ?_⟩
  · rintro i σ H2 hi ⟨v5, v6, v7, as, vss, rows, rfl, R, hl2, hlt, hne, k2⟩
    rw [Int.toNat_natCast] at hi
    have e0 : (0 : Int) + (i : Int) = (i : Int) := by omega
    rw [e0]
    have ec2 := k2 _ _ ec
    have hcl' : (0 : Int) < ((cs.map V.int).length : Int) := by rw [List.length_map]; omega
    have hi0 : 0 ≤ (i : Int) % ((cs.map V.int).length : Int) := Int.emod_nonneg _ (by omega)
    have hi1 : (i : Int) % ((cs.map V.int).length : Int) < ((cs.map V.int).length : Int) := Int.emod_lt_of_pos _ hcl'
    obtain ⟨j, hj⟩ := Int.eq_ofNat_of_zero_le hi0
    have hjl : j < cs.length := by rw [hj, List.length_map] at hi1; omega
    refine ⟨_, rfl, _, rfl, _, rfl, p3, _, rfl, .inl (SqL.of ec2), _, _, rfl, rfl, hcl', p3, _, _, .int cs[j], rfl, rfl, SqL.of ec2, (by rw [hj]; exact atI_nat (by rw [List.getElem?_map, List.getElem?_eq_getElem hjl]; rfl)), ?_⟩
    refine ⟨_, rfl, _, _, rfl, rfl, .inl ⟨by decide, by decide⟩, _, _, rfl, rfl, ?_⟩
    have hxl : (as.map V.ref).length ≤ 1000 := by rw [List.length_map, R.len, hl2]; omega
    have fin : ∀ (at_ : Nat) (D : L2.Ends), (∀ σ H', (∃ (v5 v6 v7 : Option V) (as : List Addr) (vss : List (List V)) (rows : List (List Stp)), σ = [some (V.ref a), some (V.int (n : Int)), some (V.bl b), some (V.ref p3), some (V.ref l), v5, v6, v7] ∧ RwsAt H' l as vss rows ∧ rows.length = i + 1 ∧ (∀ r ∈ rows, ∀ s ∈ r, ∀ p ∈ leads s, p < n) ∧ (∀ b ∈ as, b ≠ l) ∧ (∀ b o, H1 b = some o → H' b = some o)) → D.nx σ H') →
        tt D [some (V.ref a), some (V.int (n : Int)), some (V.bl b), some (V.ref p3), some (V.ref l), some (V.int (i : Int)), some (V.int (cs[j] + 31 * (i : Int))), some (V.int (at_ : Int))] H2 := by
      intro at_ D hD
      refine ptt D H2 _ _ _ l _ i at_ _ R.lst hxl fun r vs st H3 s3 hr0 er hs hlt3 el3 => hD _ _ ⟨_, _, _, as ++ [r], vss ++ [vs], rows ++ [st], rfl, ?_, ?_, ?_, ?_, ?_⟩
      · have hrl : r ≠ l := fun z => by rw [z, R.lst] at hr0; cases hr0
        refine R.snoc (fun b o hb hn => by rw [upd_ne hn]; exact s3 _ _ hb) hne upd_same (by rw [upd_ne hrl]; exact er) (hs.keep fun b xs e => ?_)
        rw [upd_ne (ne_of e el3 (by intro z; cases z))]
        exact e
      · rw [List.length_append, hl2]; rfl
      · intro x hx
        rcases List.mem_append.mp hx with z | z
        · exact hlt x z
        · rw [List.mem_singleton.mp z]; exact hlt3
      · intro x hx
        rcases List.mem_append.mp hx with z | z
        · exact hne x z
        · rw [List.mem_singleton.mp z]
          exact fun z => by rw [z, R.lst] at hr0; cases hr0
      · intro x o hx
        have hxl : x ≠ l := ne_of_none hx hl
        rw [upd_ne hxl]
        exact s3 _ _ (k2 _ _ hx)
    refine ⟨_, rfl, _, rfl, ?_⟩
    cases b with
    | false => exact iteF (fin 0 _ fun σ H' h => h)
    | true =>
      refine iteT ⟨_, rfl, _, _, rfl, rfl, ?_⟩
      exact fin (i + 1) _ fun σ H' h => h
  · rintro σ H2 ⟨v5, v6, v7, as, vss, rows, rfl, R, hl2, hlt, hne, k2⟩
    rw [Int.toNat_natCast] at hl2
    refine ⟨_, rfl, q l as vss rows H2 (s1.trans k2) R hl2 ?_⟩
    unfold LeadsOk
    rw [hl2]
    exact hlt
end
end Bk
set_option Elab.async false
set_option linter.all false
set_option maxRecDepth 100000
set_option maxHeartbeats 4000000
namespace L2
open PySem PySem.Spec PyProof.Rows
/-- isinstance(x, T) of a tuple, tracked or of the text's top -/
def rIsiT (K : PySem.W.Frag) : List V → Hp → VK → Prop := fun xs H Q => ∃ p ys T b, xs = [.ref p, .ty T] ∧ SqT K H p ys ∧ PySem.W.kitOne K (.type "tuple") (.type T) = some b ∧ Q (.bl b) H
theorem call_isiT {X : Cx} : CallR X (.builtin "isinstance") (rIsiT X.K) := by
  intro pins s σ H xs us Q I r h
  obtain ⟨p, ys, T, b, rfl, hq, e, q⟩ := h
  obtain ⟨u, w', rfl, ru, rw'⟩ := vals2 r
  cases ru
  cases rw'
  obtain ⟨its, rv, ⟨o, h1, h2, _⟩, _⟩ := I.tuple hq
  exact PySem.W.kia_one PySem.W.kitx_tuple I.kIn ⟨o, h1, h2⟩ e (fun z => nomatch z) fun tk => ⟨.bl b, H, I.tok _, rfl, q⟩
end L2
namespace Bk
open PySem L2 Ah
/-- the list at la holds what is told -/
structure LEnds (K : PySem.W.Frag) (H : Hp) (la : Addr) (us : List V) (n : Nat) (m : Mp) : Prop where
  lst : H la = some (.lst us)
  val : ∀ p, p < n → ∃ v e, us[p]? = some v ∧ m p = some e ∧ EndV K H v e
theorem LEnds.same {K : PySem.W.Frag} {H H' : Hp} {la : Addr} {us : List V} {n : Nat} {m : Mp} (L : LEnds K H la us n m) (s : Same H H') : LEnds K H' la us n m :=
  ⟨s _ _ L.lst, fun p hp => let ⟨v, e, h1, h2, h3⟩ := L.val p hp; ⟨v, e, h1, h2, h3.same s⟩⟩
def spFits (K : PySem.W.Frag) : Sp := fun vs H Q _ => ∃ (v : V) (e : Nd), vs = [v] ∧ EndV K H v e ∧ (∀ p, e ≠ .need p) ∧ (e = .nev ∨ 0 < ct e) ∧ ∀ H', Same H H' → Q (.bl true) H'
def spLL (K : PySem.W.Frag) : Sp := fun vs H Q _ => ∃ (v : V) (la : Addr) (us : List V) (n : Nat) (m : Mp) (l : Ld), vs = [v, .ref la] ∧ LdAt H v l ∧ (∀ p ∈ ldsL l, p < n) ∧ LEnds K H la us n m ∧ ∀ v' H', Same H H' → EndV K H' v' (ldE m l) → Q v' H'
def spLS (K : PySem.W.Frag) : Sp := fun vs H Q _ => ∃ (v : V) (la : Addr) (us : List V) (n : Nat) (m : Mp) (st : Stp), vs = [v, .ref la] ∧ StAt H v st ∧ (∀ p ∈ leads st, p < n) ∧ NoNeed m ∧ LEnds K H la us n m ∧ ∀ v' H', Same H H' → EndV K H' v' (stE m st) → Q v' H'
def spLR (K : PySem.W.Frag) : Sp := fun vs H Q _ => ∃ (a la : Addr) (us ws : List V) (n : Nat) (m : Mp) (r : List Stp), vs = [.ref a, .ref la] ∧ H a = some (.lst ws) ∧ StsAt H ws r ∧ (∀ s ∈ r, ∀ p ∈ leads s, p < n) ∧ NoNeed m ∧ LEnds K H la us n m ∧ ∀ v' H', Same H H' → EndV K H' v' (rowE m 1 r) → Q v' H'
theorem ld_noneed {m : Mp} {n : Nat} (hn : NoNeed m) (hm : ∀ p, p < n → m p ≠ none) {l : Ld} (h : ∀ p ∈ ldsL l, p < n) (p : Nat) : ldE m l ≠ .need p := fun z => by
  obtain ⟨h1, h2⟩ := ld_need hn z
  exact hm p (h p h2) h1
theorem st_noneed {m : Mp} {n : Nat} (hn : NoNeed m) (hm : ∀ p, p < n → m p ≠ none) {s : Stp} (h : ∀ p ∈ leads s, p < n) (p : Nat) : stE m s ≠ .need p := fun z => by
  obtain ⟨h1, h2⟩ := st_need hn z
  exact hm p (h p h2) h1
theorem wd_nev {e : Nd} (h : wd e = "never") : e = .nev := by
  cases e with
  | ans n => exact absurd h (by show ¬ ("answers" : Str) = "never"; decide +kernel)
  | una n => exact absurd h (by show ¬ ("unanswered" : Str) = "never"; decide +kernel)
  | nev => rfl
  | need p => exact absurd h (by show ¬ ("needs" : Str) = "never"; decide +kernel)
section
variable {P : Program} {w : World} {K : PySem.W.Frag} {mg : Str → Option Value} {base : Heap} {f fS : Addr} {fd dS : FuncData}
theorem scFits : FnScope ["_law_end"] ["_law_end"] (defScope sFits) := ⟨rfl, rfl, rfl, by decide +kernel, rfl, by decide +kernel, by decide +kernel⟩
theorem ok_fits (F : Fun K "_law_end_fits" "_law_end_fits" sFits f fd) (T : Txt mg) : FnOk P w K mg base CX0 1 f fd ["_law_end"] (spFits K) := by
  refine F.ok scFits (fun vs H Q E h => ?_) (fun cdv A outer s H vs Q E hr h => ?_)
  · obtain ⟨v, e, rfl, _⟩ := h
    rfl
  obtain ⟨v, e, rfl, ⟨a, rfl, hq⟩, hne, hpos, q⟩ := h
  refine ⟨_, pss_cons (ps_if (PW.pt (pw_or (pt_not (pt_val (pe_callB call_isiT rfl T.isi PyProof.Rows.boot_isinstance (pa_cons (pv 0) (pa_cons (pe_bltn (v := .ty "tuple") rfl T.tup PyProof.Rows.boot_tuple rfl) pa_nil)))))
      (pw_or (pt_cmpR op_ne (pe_callB call_len_seq rfl T.len PySem.boot_len (pa_cons (pv 0) pa_nil)) pe_int (nomark _))
      (pw_or1 (pt_not (pt_val (pe_callB call_isinst rfl T.isi PyProof.Rows.boot_isinstance (pa_cons (pe_ix ix_tup (pv 0) pe_int (fun _ _ => rfl)) (pa_cons (pe_bltn (v := .ty "str") rfl T.str PyProof.Rows.boot_str rfl) pa_nil))))))))) pss_never pss_nil)
    (pss_cons (ps_if (PW.pt (pw_or (pt_not (pt_val (pe_callB call_isinst rfl T.isi PyProof.Rows.boot_isinstance (pa_cons (pe_ix ix_tup (pv 0) pe_int (fun _ _ => rfl)) (pa_cons (pe_bltn (v := .ty "int") rfl T.int PyProof.Rows.boot_int rfl) pa_nil)))))
      (pw_or1 (pt_val (pe_callB call_isinst rfl T.isi PyProof.Rows.boot_isinstance (pa_cons (pe_ix ix_tup (pv 0) pe_int (fun _ _ => rfl)) (pa_cons (pe_bltn (v := .ty "bool") rfl T.bool PyProof.Rows.boot_bool rfl) pa_nil))))))) pss_never pss_nil)
    (pss_cons (ps_if (pt_cmpR op_eq (pe_ix ix_tup (pv 0) pe_int (fun _ _ => rfl)) pe_str (nomark _)) (pss_one (ps_ret (pe_cmpR op_eq (pe_ix ix_tup (pv 0) pe_int (fun _ _ => rfl)) pe_int (nomark _)))) pss_nil)
    (pss_one (ps_ret (pe_and (pe_cmpR op_in_seq (pe_ix ix_tup (pv 0) pe_int (fun _ _ => rfl)) (pe_tup (pa_strs (xs := ["answers", "unanswered"]) (by rfl))) rfl) (pe_one (pe_cmpR op_gt (pe_ix ix_tup (pv 0) pe_int (fun _ _ => rfl)) pe_int (nomark _)))))))), ?_⟩
  refine ⟨_, rfl, a, _, _, _, rfl, hq, kit_self K "tuple", _, rfl, iteF ?_⟩
  refine ⟨_, rfl, a, _, rfl, .inr hq, rfl, _, rfl, iteF ?_⟩
  refine ⟨_, rfl, a, _, _, _, rfl, rfl, hq, at0 _ _, _, _, _, _, rfl, .str _, kit_self K "str", _, rfl, iteF ?_⟩
  refine ⟨_, rfl, a, _, _, _, rfl, rfl, hq, at1 _ _ _, _, _, _, _, rfl, .int _, kit_self K "int", _, rfl, iteF ?_⟩
  refine ⟨_, rfl, a, _, _, _, rfl, rfl, hq, at1 _ _ _, _, _, _, _, rfl, .int _, (show PySem.W.kitOne K (.type "int") (.type "bool") = some false from rfl), _, rfl, iteF ?_⟩
  refine ⟨_, rfl, a, _, _, _, rfl, rfl, hq, at0 _ _, rfl, _, rfl, ite2 (fun c => ?_) (fun c => ?_)⟩
  · have e1 := wd_nev (de_str c)
    subst e1
    exact ⟨_, rfl, a, _, _, _, rfl, rfl, hq, at1 _ _ _, rfl, q _ (Same.refl _)⟩
  · have c1 := dn_str c
    have hpos : 0 < ct e := hpos.resolve_left fun z => c1 (by rw [z]; rfl)
    refine ⟨_, rfl, a, _, _, _, rfl, rfl, hq, at0 _ _, by show 2 ≤ sizeLine; decide, fun tp htp => ⟨tp, _, rfl, .inr (SqT.of upd_same), rfl, rfl, _, rfl, ?_⟩⟩
    have s1 := same_new htp (.tup [V.str "answers", V.str "unanswered"])
    have c2 : inV (V.str (wd e)) [V.str "answers", V.str "unanswered"] = true := in2.mpr (by
      cases e with
      | ans n => exact .inl rfl
      | una n => exact .inr rfl
      | nev => exact absurd rfl c1
      | need p => exact absurd rfl (hne p))
    refine ite2 (fun _ => ?_) (fun z => absurd c2 z)
    refine ⟨_, rfl, a, _, _, _, rfl, rfl, sqt_same s1 hq, at1 _ _ _, _, _, rfl, rfl, ?_⟩
    show Q (.bl (decide (0 < ct e))) _
    rw [decide_eq_true hpos]
    exact q _ s1
theorem scLS : FnScope ["_law_step", "_law_ends", "_law_first", "_law_second"] ["_law_step", "_law_ends"] (defScope sLStep) := ⟨rfl, rfl, rfl, by decide +kernel, rfl, by decide +kernel, by decide +kernel⟩
theorem skipS {x y : Str} {A B : Prop} (hn : ¬ x = y) (hB : B) : if decide (V.str x = V.str y) = true then A else B := by
  rw [if_neg (fun z => hn (de_str z))]
  exact hB
theorem takeS {x : Str} {A B : Prop} (hA : A) : if decide (V.str x = V.str x) = true then A else B := by
  rw [if_pos (decide_eq_true rfl)]
  exact hA
theorem ok_ll (F : Fun K "_law_step_end" "_law_step_end" sLStep f fd) : FnOk P w K mg base CX0 1 f fd ["_law_step", "_law_ends"] (spLL K) := by
  refine F.ok scLS (fun vs H Q E h => ?_) (fun cdv A outer s H vs Q E hr h => ?_)
  · obtain ⟨v, la, us, n, m, l, rfl, _⟩ := h
    rfl
  obtain ⟨v, la, us, n, m, l, rfl, hl, hlt, hE, q⟩ := h
  refine ⟨_, pss_cons (ps_if (pt_cmpR op_eq (pe_ix ix_tup (pv 0) pe_int (fun _ _ => rfl)) pe_str (nomark _)) (pss_one (ps_ret (pe_ix ix_list (pv 1) (pe_ix ix_tup (pv 0) pe_int (fun _ _ => rfl)) (fun _ _ => rfl)))) pss_nil)
    (pss_cons (ps_if (pt_cmpR op_eq (pe_ix ix_tup (pv 0) pe_int (fun _ _ => rfl)) pe_str (nomark _)) (pss_one (ps_ret (pe_tup (pa_cons pe_str (pa_cons pe_int pa_nil))))) pss_nil) pss_never), ?_⟩
  cases l with
  | none =>
    obtain ⟨a, rfl, ha⟩ := hl
    refine ⟨_, rfl, a, _, _, _, rfl, rfl, SqT.of ha, at0 _ _, rfl, _, rfl, skipS (by decide +kernel) ?_⟩
    refine ⟨_, rfl, a, _, _, _, rfl, rfl, SqT.of ha, at0 _ _, rfl, _, rfl, takeS ?_⟩
    exact ⟨by show 2 ≤ sizeLine; decide, fun t ht => q _ _ (same_new ht _) (EndV.new (e := .una 0) upd_same)⟩
  | go p =>
    obtain ⟨a, rfl, ha⟩ := hl
    obtain ⟨v, e, h1, h2, h3⟩ := hE.val p (hlt p (List.mem_singleton.mpr rfl))
    refine ⟨_, rfl, a, _, _, _, rfl, rfl, SqT.of ha, at0 _ _, rfl, _, rfl, takeS ?_⟩
    refine ⟨_, rfl, _, rfl, a, _, _, _, rfl, rfl, SqT.of ha, at1 _ _ _, la, _, _, _, rfl, rfl, SqL.of hE.lst, atI_nat h1, q _ _ (Same.refl _) ?_⟩
    have e1 : ldE m (.go p) = e := by show (m p).getD _ = _; rw [h2]; rfl
    rw [e1]
    exact h3
theorem ok_ls (F : Fun K "_law_step_end" "_law_step_end" sLStep f fd) (GS : FnOk P w K mg base CX0 1 f fd ["_law_step", "_law_ends"] (spLL K)) (kS : PySem.W.keepIn K (.ref f) = true) (bS : Binds K fd ["_law_step", "_law_ends"] []) (mS : mg "_law_step_end" = some (.ref f)) : FnOk P w K mg base CX0 2 f fd ["_law_step", "_law_ends"] (spLS K) := by
  refine F.ok scLS (fun vs H Q E h => ?_) (fun cdv A outer s H vs Q E hr h => ?_)
  · obtain ⟨v, la, us, n, m, st, rfl, _⟩ := h
    rfl
  obtain ⟨v, la, us, n, m, st, rfl, hs, hlt, hn, hE, q⟩ := h
  have hm : ∀ p, p < n → m p ≠ none := fun p hp => let ⟨_, _, _, h2, _⟩ := hE.val p hp; by rw [h2]; exact nofun
  refine ⟨_, pss_cons (ps_if (pt_cmpR op_eq (pe_ix ix_tup (pv 0) pe_int (fun _ _ => rfl)) pe_str (nomark _)) (pss_one (ps_ret (pe_ix ix_list (pv 1) (pe_ix ix_tup (pv 0) pe_int (fun _ _ => rfl)) (fun _ _ => rfl)))) pss_nil)
    (pss_cons (ps_if (pt_cmpR op_eq (pe_ix ix_tup (pv 0) pe_int (fun _ _ => rfl)) pe_str (nomark _)) (pss_one (ps_ret (pe_tup (pa_cons pe_str (pa_cons pe_int pa_nil))))) pss_nil)
    (pss_cons (ps_if (pt_cmpR op_eq (pe_ix ix_tup (pv 0) pe_int (fun _ _ => rfl)) pe_str (nomark _))
      (pss_cons (ps_set (i := 2) scLS.nd rfl (Or.inl rfl) (pe_call GS hr rfl mS kS bS .nil pass0 (pa_cons (pe_ix ix_tup (pv 0) pe_int (fun _ _ => rfl)) (pa_cons (pv 1) pa_nil))))
      (pss_cons (ps_if (pt_cmpR op_ne (pe_ix ix_tup (pv 2) pe_int (fun _ _ => rfl)) pe_str (nomark _)) (pss_one (ps_ret (pv 2))) pss_nil)
      (pss_cons (ps_set (i := 3) scLS.nd rfl (Or.inl rfl) (pe_call GS hr rfl mS kS bS .nil pass0 (pa_cons (pe_ix ix_tup (pv 0) pe_int (fun _ _ => rfl)) (pa_cons (pv 1) pa_nil))))
      (pss_cons (ps_if (pt_cmpR op_eq (pe_ix ix_tup (pv 3) pe_int (fun _ _ => rfl)) pe_str (nomark _)) (pss_one (ps_ret (pv 3))) pss_nil)
      (pss_one (ps_ret (pe_tup (pa_cons (pe_ix ix_tup (pv 3) pe_int (fun _ _ => rfl)) (pa_cons (pe_op op_add (pe_ix ix_tup (pv 2) pe_int (fun _ _ => rfl)) (pe_ix ix_tup (pv 3) pe_int (fun _ _ => rfl))) pa_nil))))))))) pss_nil)
    (pss_one (ps_ret (pe_tup (pa_cons pe_str (pa_cons pe_int pa_nil))))))), ?_⟩
  cases st with
  | ld l =>
    cases l with
    | none =>
      obtain ⟨a, rfl, ha⟩ := hs
      refine ⟨_, rfl, a, _, _, _, rfl, rfl, SqT.of ha, at0 _ _, rfl, _, rfl, skipS (by decide +kernel) ?_⟩
      refine ⟨_, rfl, a, _, _, _, rfl, rfl, SqT.of ha, at0 _ _, rfl, _, rfl, takeS ?_⟩
      exact ⟨by show 2 ≤ sizeLine; decide, fun t ht => q _ _ (same_new ht _) (EndV.new (e := .una 0) upd_same)⟩
    | go p =>
      obtain ⟨a, rfl, ha⟩ := hs
      obtain ⟨v, e, h1, h2, h3⟩ := hE.val p (hlt p (List.mem_singleton.mpr rfl))
      refine ⟨_, rfl, a, _, _, _, rfl, rfl, SqT.of ha, at0 _ _, rfl, _, rfl, takeS ?_⟩
      refine ⟨_, rfl, _, rfl, a, _, _, _, rfl, rfl, SqT.of ha, at1 _ _ _, la, _, _, _, rfl, rfl, SqL.of hE.lst, atI_nat h1, q _ _ (Same.refl _) ?_⟩
      have e1 : stE m (.ld (.go p)) = e := by show (m p).getD _ = _; rw [h2]; rfl
      rw [e1]
      exact h3
  | ei x y =>
    obtain ⟨a, b, c, rfl, ha, hx, hy⟩ := hs
    refine ⟨_, rfl, a, _, _, _, rfl, rfl, SqT.of ha, at0 _ _, rfl, _, rfl, skipS (by decide +kernel) ?_⟩
    refine ⟨_, rfl, a, _, _, _, rfl, rfl, SqT.of ha, at0 _ _, rfl, _, rfl, skipS (by decide +kernel) ?_⟩
    refine ⟨_, rfl, a, _, _, _, rfl, rfl, SqT.of ha, at0 _ _, rfl, _, rfl, takeS ?_⟩
    refine ⟨_, rfl, a, _, _, _, rfl, rfl, SqT.of ha, at1 _ _ _, _, rfl, b, la, us, n, m, x, rfl, hx, fun p hp => hlt p (List.mem_append_left _ hp), hE, fun v1 H1 s1 h1 => ?_⟩
    obtain ⟨a1, rfl, q1⟩ := h1
    refine ⟨_, rfl, a1, _, _, _, rfl, rfl, q1, at0 _ _, rfl, _, rfl, ite2 (fun c1 => ?_) (fun c1 => ?_)⟩
    · have c2 : ¬ wd (ldE m x) = "unanswered" := fun z => by rw [z] at c1; exact absurd c1 (by decide +kernel)
      refine ⟨_, rfl, q _ _ s1 ?_⟩
      show EndV K H1 _ (eiE (ldE m x) (ldE m y))
      rw [eiE_out c2]
      exact ⟨a1, rfl, q1⟩
    · have c2 : wd (ldE m x) = "unanswered" := by
        refine Classical.byContradiction fun z => c1 ?_
        rw [decide_eq_false (fun y => z (V.str.inj y))]
        rfl
      obtain ⟨k, hk⟩ := wd_una c2
      rw [hk] at q1
      have q' : ∀ v' H', Same H H' → EndV K H' v' (behE k (ldE m y)) → Q v' H' := fun v' H' s' h' => q v' H' s' (by show EndV K H' v' (eiE (ldE m x) (ldE m y)); rw [hk]; exact h')
      refine ⟨_, rfl, a, _, _, _, rfl, rfl, SqT.of (s1 _ _ ha), at2 _ _ _ _, _, rfl, c, la, us, n, m, y, rfl, hy.keep s1.keepT, fun p hp => hlt p (List.mem_append_right _ hp), hE.same s1, fun v2 H2 s2 h2 => ?_⟩
      obtain ⟨a2, rfl, q2⟩ := h2
      refine ⟨_, rfl, a2, _, _, _, rfl, rfl, q2, at0 _ _, rfl, _, rfl, ite2 (fun c3 => ?_) (fun c3 => ?_)⟩
      · have e2 := wd_nev (de_str c3)
        rw [e2] at q2 q'
        exact ⟨_, rfl, q' _ _ (s1.trans s2) ⟨a2, rfl, q2⟩⟩
      · have c4 := dn_str c3
        refine ⟨_, rfl, a2, _, _, _, rfl, rfl, q2, at0 _ _, _, rfl, a1, _, _, _, rfl, rfl, sqt_same s2 q1, at1 _ _ _, _, rfl, a2, _, _, _, rfl, rfl, q2, at1 _ _ _, _, _, rfl, rfl, by show 2 ≤ sizeLine; decide, fun t ht => ?_⟩
        refine q' _ _ ((s1.trans s2).trans (same_new ht _)) (EndV.new ?_)
        obtain ⟨e1, e2⟩ := wd_out (ldE m y) k (fun z => z.elim (fun z => let ⟨p, hp⟩ := wd_need z; ld_noneed hn hm (fun p hp => hlt p (List.mem_append_right _ hp)) p hp) c4)
        rw [e1, e2]
        exact upd_same
  | oth =>
    obtain ⟨a, k, r, rfl, ha, k1, k2, k3, _⟩ := hs
    refine ⟨_, rfl, a, _, _, _, rfl, rfl, SqT.of ha, at0 _ _, rfl, _, rfl, skipS k1 ?_⟩
    refine ⟨_, rfl, a, _, _, _, rfl, rfl, SqT.of ha, at0 _ _, rfl, _, rfl, skipS k2 ?_⟩
    refine ⟨_, rfl, a, _, _, _, rfl, rfl, SqT.of ha, at0 _ _, rfl, _, rfl, skipS k3 ?_⟩
    exact ⟨by show 2 ≤ sizeLine; decide, fun t ht => q _ _ (same_new ht _) (EndV.new (e := .ans 0) upd_same)⟩
theorem scLR : FnScope ["_law_row", "_law_ends", "_law_count", "_law_step", "_law_end"] ["_law_row", "_law_ends"] (defScope sLRow) := ⟨rfl, rfl, rfl, by decide +kernel, rfl, by decide +kernel, by decide +kernel⟩
theorem ok_lr (F : Fun K "_law_row_end" "_law_row_end" sLRow f fd) (GS : FnOk P w K mg base CX0 2 fS dS ["_law_step", "_law_ends"] (spLS K)) (kS : PySem.W.keepIn K (.ref fS) = true) (bS : Binds K dS ["_law_step", "_law_ends"] []) (mS : mg "_law_step_end" = some (.ref fS)) : FnOk P w K mg base CX0 3 f fd ["_law_row", "_law_ends"] (spLR K) := by
  refine F.ok scLR (fun vs H Q E h => ?_) (fun cdv A outer s H vs Q E hr h => ?_)
  · obtain ⟨a, la, us, ws, n, m, r, rfl, _⟩ := h
    rfl
  obtain ⟨a, la, us, ws, n, m, r, rfl, ha, hs, hlt, hn, hE, q⟩ := h
  have hm : ∀ p, p < n → m p ≠ none := fun p hp => let ⟨_, _, _, h2, _⟩ := hE.val p hp; by rw [h2]; exact nofun
  refine ⟨_, pss_cons (ps_set (i := 2) scLR.nd rfl (Or.inl rfl) pe_int)
    (pss_cons (ps_for PassesOwn.never rfl (pi_list (pv 0)) (pg_name (i := 3) scLR.nd rfl (Or.inl rfl))
      (pss_cons (ps_set (i := 4) scLR.nd rfl (Or.inl rfl) (pe_call GS hr rfl mS kS bS .nil pass0 (pa_cons (pv 3) (pa_cons (pv 1) pa_nil))))
      (pss_cons (ps_if (pt_cmpR op_eq (pe_ix ix_tup (pv 4) pe_int (fun _ _ => rfl)) pe_str (nomark _)) (pss_one (ps_ret (pv 4))) pss_nil)
      (pss_cons (ps_set (i := 2) scLR.nd rfl (Or.inl rfl) (pe_op op_add (pv 2) (pe_ix ix_tup (pv 4) pe_int (fun _ _ => rfl))))
      (pss_one (ps_if (pt_cmpR op_eq (pe_ix ix_tup (pv 4) pe_int (fun _ _ => rfl)) pe_str (nomark _)) (pss_one (ps_ret (pe_tup (pa_cons pe_str (pa_cons (pv 2) pa_nil))))) pss_nil))))))
    (pss_one (ps_ret (pe_tup (pa_cons pe_str (pa_cons (pv 2) pa_nil)))))), ?_⟩
  refine ⟨_, rfl, a, rfl, ⟨_, SqL.of ha⟩, for_list (K := K) (a := a) (xs := ws) (fun i σ H2 => ∃ (v3 v4 : Option V) (c : Nat), σ = [some (.ref a), some (.ref la), some (.int (c : Int)), v3, v4] ∧ Same H H2 ∧ rowE m 1 r = rowE m c (r.drop i))
    ⟨none, none, 1, rfl, Same.refl _, rfl⟩ (fun i σ H2 _ ⟨_, _, _, _, s2, _⟩ => SqL.of (s2 _ _ ha)) ?_ ?_⟩
  · rintro i x σ H2 hx ⟨v3, v4, c, rfl, s2, hp⟩
    obtain ⟨st, hst, hsa⟩ := paired_get hs hx
    rw [drop_cons hst] at hp
    have hmem : st ∈ r := List.mem_of_getElem? hst
    refine ⟨_, rfl, _, rfl, x, la, us, n, m, st, rfl, hsa.keep s2.keepT, hlt st hmem, hn, hE.same s2, fun v1 H3 s3 h3 => ?_⟩
    obtain ⟨a1, rfl, q1⟩ := h3
    refine ⟨_, rfl, a1, _, _, _, rfl, rfl, q1, at0 _ _, rfl, _, rfl, ite2 (fun c1 => ?_) (fun c1 => ?_)⟩
    · have e1 := wd_nev (de_str c1)
      rw [row_out (by rw [e1]; show ¬ ("never" : Str) = "answers"; decide +kernel), e1] at hp
      rw [e1] at q1
      refine ⟨_, rfl, ?_⟩
      rw [hp] at q
      exact q _ _ (s2.trans s3) ⟨a1, rfl, q1⟩
    · have c2 := dn_str c1
      refine ⟨_, rfl, _, rfl, a1, _, _, _, rfl, rfl, q1, at1 _ _ _, _, _, rfl, rfl, ?_⟩
      refine ⟨_, rfl, a1, _, _, _, rfl, rfl, q1, at0 _ _, rfl, _, rfl, ite2 (fun c3 => ?_) (fun c3 => ?_)⟩
      · obtain ⟨k, hk⟩ := wd_una (de_str c3)
        rw [row_out (by rw [hk]; show ¬ ("unanswered" : Str) = "answers"; decide +kernel), hk] at hp
        refine ⟨_, rfl, by show 2 ≤ sizeLine; decide, fun t ht => ?_⟩
        rw [hp] at q
        refine q _ _ ((s2.trans s3).trans (same_new ht _)) (EndV.new ?_)
        rw [upd_same, hk]
        show some (HO.tup [V.str "unanswered", V.int ((c : Int) + (k : Int))]) = some (HO.tup [V.str "unanswered", V.int ((c + k : Nat) : Int)])
        rw [Int.natCast_add]
      · have c4 := dn_str c3
        cases e : stE m st with
        | ans k =>
          rw [row_ans e] at hp
          refine ⟨some x, some (.ref a1), c + k, ?_, s2.trans s3, hp⟩
          show [some (V.ref a), some (V.ref la), some (V.int ((c : Int) + (k : Int))), some x, some (V.ref a1)] = _
          rw [Int.natCast_add]
        | una k => rw [e] at c4; exact absurd rfl c4
        | nev => rw [e] at c2; exact absurd rfl c2
        | need p => exact absurd e (st_noneed hn hm (hlt st hmem) p)
  · rintro σ H2 ⟨v3, v4, c, rfl, s2, hp⟩
    have hl : r.drop ws.length = [] := List.drop_eq_nil_of_le (by rw [Paired.length hs]; exact Nat.le_refl _)
    rw [hl] at hp
    refine ⟨_, rfl, by show 2 ≤ sizeLine; decide, fun t ht => ?_⟩
    rw [hp] at q
    exact q _ _ (s2.trans (same_new ht _)) (EndV.new (e := .ans c) upd_same)
end
end Bk
set_option Elab.async false
set_option linter.all false
set_option maxRecDepth 100000
set_option maxHeartbeats 4000000
namespace Bk
open PySem L2 Ah PySem.SeqAt
/-! ### rows as data -/
theorem LdAt.dat (K : PySem.W.Frag) {H : Hp} {v : V} : ∀ {l : Ld}, LdAt H v l → ∃ d, DV K H v d ∧ plainD d = true ∧ d.depth ≤ 1
  | .none, ⟨a, e, h⟩ => ⟨.tuple [.str "none"], by rw [e]; exact .tup (SqT.of h) (.cons (.str _) .nil), by decide +kernel, by decide +kernel⟩
  | .go p, ⟨a, e, h⟩ => ⟨.tuple [.str "go", .int (p : Nat)], by rw [e]; exact .tup (SqT.of h) (.cons (.str _) (.cons (.int _) .nil)), by simp only [plainD, plainDs, Bool.and_true, Bool.and_eq_true]; decide +kernel, by simp [PyData.depth, PyData.depthAll]⟩
theorem StAt.dat (K : PySem.W.Frag) {H : Hp} {v : V} : ∀ {s : Stp}, StAt H v s → ∃ d, DV K H v d ∧ plainD d = true ∧ d.depth ≤ 2
  | .ld _, h => let ⟨d, h1, h2, h3⟩ := LdAt.dat K h; ⟨d, h1, h2, Nat.le_succ_of_le h3⟩
  | .ei _ _, ⟨a, b, c, e, h, hx, hy⟩ => by
    obtain ⟨d1, a1, a2, a3⟩ := hx.dat K
    obtain ⟨d2, b1, b2, b3⟩ := hy.dat K
    refine ⟨.tuple [.str "either", d1, d2], by rw [e]; exact .tup (SqT.of h) (.cons (.str _) (.cons a1 (.cons b1 .nil))), ?_, ?_⟩
    · simp only [plainD, plainDs, a2, b2, Bool.and_true]
      decide +kernel
    · simp only [PyData.depth, PyData.depthAll]
      omega
  | .oth, ⟨a, k, r, e, h, _, _, _, hr, hk⟩ => by
    rcases hr with rfl | ⟨n, rfl⟩
    · exact ⟨.tuple [.str k], by rw [e]; exact .tup (SqT.of h) (.cons (.str _) .nil), by simp [plainD, plainDs, hk], by simp [PyData.depth, PyData.depthAll]⟩
    · exact ⟨.tuple [.str k, .int n], by rw [e]; exact .tup (SqT.of h) (.cons (.str _) (.cons (.int _) .nil)), by simp [plainD, plainDs, hk], by simp [PyData.depth, PyData.depthAll]⟩
theorem StsAt.dat (K : PySem.W.Frag) {H : Hp} {vs : List V} {st : List Stp} (h : StsAt H vs st) : ∃ ds, DVs K H vs ds ∧ plainDs ds = true ∧ PyData.depthAll ds ≤ 2 := by
  induction h with
  | nil => exact ⟨[], .nil, by simp [plainDs], by simp [PyData.depthAll]⟩
  | cons r t ih =>
    obtain ⟨d, a1, a2, a3⟩ := r.dat K
    obtain ⟨ds, b1, b2, b3⟩ := ih
    exact ⟨d :: ds, .cons a1 b1, by simp [plainDs, a2, b2], by simp only [PyData.depthAll]; omega⟩
/-- two lists of rows with the same steps are the same data -/
theorem rows_dat (K : PySem.W.Frag) {H : Hp} {vss : List (List V)} {rows : List (List Stp)} (hl : vss.length = rows.length) (hs : ∀ (i : Nat) (vs : List V) (r : List Stp), vss[i]? = some vs → rows[i]? = some r → StsAt H vs r) :
    ∃ ds, plainDs ds = true ∧ PyData.depthAll ds ≤ 3 ∧ ∀ as : List Addr, as.length = vss.length → (∀ (i : Nat) (a : Addr) (vs : List V), as[i]? = some a → vss[i]? = some vs → H a = some (.lst vs)) → DVs K H (as.map V.ref) ds := by
  induction vss generalizing rows with
  | nil => exact ⟨[], by simp [plainDs], by simp [PyData.depthAll], fun as h _ => by
      cases as with
      | nil => exact .nil
      | cons _ _ => cases h⟩
  | cons vs vss ih =>
    cases rows with
    | nil => cases hl
    | cons r rows =>
      obtain ⟨ds, b1, b2, b3⟩ := ih (rows := rows) (by simpa using hl) fun i us q h1 h2 => hs (i + 1) us q h1 h2
      obtain ⟨d, a1, a2, a3⟩ := (hs 0 vs r rfl rfl).dat K
      refine ⟨.list d :: ds, by simp [plainDs, plainD, a2, b1], by simp only [PyData.depthAll, PyData.depth]; omega, fun as h hr => ?_⟩
      cases as with
      | nil => cases h
      | cons a as => exact .cons (.lst (SqL.of (hr 0 a vs rfl rfl)) a1) (b3 as (by simpa using h) fun i a us h1 h2 => hr (i + 1) a us h1 h2)
theorem rows_same (K : PySem.W.Frag) {H : Hp} {ra rb : Addr} {as bs : List Addr} {vss : List (List V)} {rows : List (List Stp)} (R : RwsAt H ra as vss rows) (S : RwsAt H rb bs vss rows) : ∃ d, DV K H (.ref ra) d ∧ DV K H (.ref rb) d ∧ shaped d = true ∧ noMix d d = true ∧ Spec.same d d = true := by
  obtain ⟨ds, h1, h2, h3⟩ := rows_dat K R.lev R.sts
  have hp : plainD (.list ds) = true := by simp only [plainD]; exact h1
  refine ⟨.list ds, .lst (SqL.of R.lst) (h3 as (by rw [R.len, R.lev]) R.row), .lst (SqL.of S.lst) (h3 bs (by rw [S.len, S.lev]) S.row), shaped_of hp (by simp only [PyData.depth]; omega), (same_self _ hp).2.1, (same_self _ hp).1⟩
theorem wd_ok : ∀ e : Nd, PyData.strOk (wd e) = true
  | .ans _ => by show PyData.strOk "answers" = true; decide +kernel
  | .una _ => by show PyData.strOk "unanswered" = true; decide +kernel
  | .nev => by show PyData.strOk "never" = true; decide +kernel
  | .need _ => by show PyData.strOk "needs" = true; decide +kernel
theorem EndV.dat {K : PySem.W.Frag} {H : Hp} {v : V} {e : Nd} (h : EndV K H v e) : DV K H v (.tuple [.str (wd e), .int (ct e)]) := by
  obtain ⟨a, rfl, q⟩ := h
  exact .tup q (.cons (.str _) (.cons (.int _) .nil))
theorem end_plain (e : Nd) : shaped (.tuple [.str (wd e), .int (ct e)]) = true ∧ noMix (.tuple [.str (wd e), .int (ct e)]) (.tuple [.str (wd e), .int (ct e)]) = true ∧ Spec.same (.tuple [.str (wd e), .int (ct e)]) (.tuple [.str (wd e), .int (ct e)]) = true := by
  have hp : plainD (.tuple [.str (wd e), .int (ct e)]) = true := by simp [plainD, plainDs, wd_ok e]
  exact ⟨shaped_of hp (by simp [PyData.depth, PyData.depthAll]), (same_self _ hp).2.1, (same_self _ hp).1⟩
theorem truL_trues {K : PySem.W.Frag} {H : Hp} : ∀ n : Nat, TruL K H (List.replicate n (.bl true)) (List.replicate n true)
  | 0 => .nil
  | n + 1 => .cons rfl (truL_trues n)
def spLaw (K : PySem.W.Frag) : Sp := fun vs H Q _ => ∃ (a : Addr) (ns : List Int), vs = [.ref a] ∧ SqL K H a (ns.map V.int) ∧ ns.length ≤ 63 ∧ ∀ H', Q (.bl true) H'
abbrev nLaw : List Str := ["_law_script", "_law_many", "_law_rows", "_law_handed", "_law_ends", "_law_k"]
theorem ndr1 : (["_law_row"] : List Str).Nodup := by decide +kernel
theorem nde1 : (["_law_end"] : List Str).Nodup := by decide +kernel
section
variable {P : Program} {w : World} {K : PySem.W.Frag} {mg : Str → Option Value} {base : Heap} {f fC fB fT fF fR : Addr} {fd dC dB dT dF dR : FuncData}
theorem scLaw : FnScope ["_law_script", "_law_many", "_law_rows", "_law_handed", "_law_ends", "_law_k"] ["_law_script"] (defScope sLaw) := ⟨rfl, rfl, rfl, by decide +kernel, rfl, by decide +kernel, by decide +kernel⟩
theorem ok_law (F : Fun K "law" "law" sLaw f fd) (Tx : Txt mg) (GC : FnOk P w K mg base CX0 1 fC dC ["_law_script", "_law_k"] (spCell K)) (kC : PySem.W.keepIn K (.ref fC) = true) (bC : Binds K dC ["_law_script", "_law_k"] []) (mC : mg "_law_cell_at" = some (.ref fC))
    (GB : FnOk P w K mg base CX0 3 fB dB ["_law_script", "_law_many", "_law_later"] (spRowsBy K)) (kB : PySem.W.keepIn K (.ref fB) = true) (bB : Binds K dB ["_law_script", "_law_many", "_law_later"] []) (mB : mg "_law_rows_by" = some (.ref fB))
    (GT : FnOk P w K mg base CX0 6 fT dT ["rows"] (spTold K)) (kT : PySem.W.keepIn K (.ref fT) = true) (bT : Binds K dT ["rows"] []) (mT : mg "told_ahead" = some (.ref fT))
    (GF : FnOk P w K mg base CX0 1 fF dF ["_law_end"] (spFits K)) (kF : PySem.W.keepIn K (.ref fF) = true) (bF : Binds K dF ["_law_end"] []) (mF : mg "_law_end_fits" = some (.ref fF))
    (GR : FnOk P w K mg base CX0 3 fR dR ["_law_row", "_law_ends"] (spLR K)) (kR : PySem.W.keepIn K (.ref fR) = true) (bR : Binds K dR ["_law_row", "_law_ends"] []) (mR : mg "_law_row_end" = some (.ref fR)) : FnOk P w K mg base CX0 7 f fd ["_law_script"] (spLaw K) := by
  refine F.ok scLaw (fun vs H Q E h => ?_) (fun cdv A outer s H vs Q E hr h => ?_)
  · obtain ⟨a, ns, rfl, _⟩ := h
    rfl
  obtain ⟨a, ns, rfl, S, h63, q⟩ := h
  have hr1 : Room 1 _ := hr.mono (by decide)
  have hr3 : Room 3 _ := hr.mono (by decide)
  have hu := hr.units
  refine with_tail (tail := (defBody sLaw).drop 2) (fun tt => ∀ (D : L2.Ends) (n : Nat), n ≤ 60 → D.rt = Q → tt D [some (.ref a), some (.int (n : Int)), none, none, none, none] H) ?_ ?_
  · refine ⟨_, pss_cons (ps_set (i := 2) scLaw.nd rfl (Or.inl rfl) (pe_call GB hr3 rfl mB kB bB .nil pass0 (pa_cons (pv 0) (pa_cons (pv 1) (pa_cons (pe_cmpR op_eq (pe_op op_mod (pe_op op_fdiv (pe_call GC hr1 rfl mC kC bC .nil pass0 (pa_cons (pv 0) (pa_cons pe_int pa_nil))) pe_int) pe_int) pe_int (nomark _)) pa_nil)))))
      (pss_cons (ps_setcomp (i := 3) (defScope sLaw) nLaw ["_law_row"] [] rfl scLaw.nd rfl rfl (pi_list (pv 2)) (own_name (i := 0) (by decide)) (fun _ _ _ _ _ _ => ⟨pg_name (i := 0) ndr1 rfl (Or.inl rfl), pts_nil, pe_callTy (call_listK (K := K)) rfl Tx.list PyProof.Rows.boot_list (pa_cons (pv 0) pa_nil)⟩))
      (pss_cons (ps_set (i := 4) scLaw.nd rfl (Or.inl rfl) (pe_call GT hr rfl mT kT bT .nil pass0 (pa_cons (pv 3) pa_nil)))
      (pss_cons (ps_if (PW.pt (pw_or (pt_cmpR (op_neD hu) (pv 3) (pv 2) (nomark _)) (pw_or (pt_not (pt_val (pe_callB call_isinst rfl Tx.isi PyProof.Rows.boot_isinstance (pa_cons (pv 4) (pa_cons (pe_bltn (v := .ty "list") rfl Tx.list PyProof.Rows.boot_list rfl) pa_nil)))))
        (pw_or1 (pt_cmpR op_ne (pe_callB call_len_seq rfl Tx.len PySem.boot_len (pa_cons (pv 4) pa_nil)) (pv 1) (nomark _)))))) pss_never pss_nil)
      (pss_cons (ps_if (pt_not (pt_val (pe_callB (call_all rfl) rfl Tx.all boot_all' (pa_cons (pe_comp (defScope sLaw) nLaw ["_law_end"] [] rfl (pi_list (pv 4)) (own_name (i := 0) (by decide)) (fun _ _ _ _ _ _ => ⟨pg_name (i := 0) nde1 rfl (Or.inl rfl), pts_nil, pe_call GF hr1 rfl mF kF bF .nil pass0 (pa_cons (pv 0) pa_nil)⟩)) pa_nil)))) pss_never pss_nil)
      (pss_cons (ps_for PassesOwn.never rfl (pi_range1 rfl Tx.range (pa_cons (pv 1) pa_nil)) (pg_name (i := 5) scLaw.nd rfl (Or.inl rfl))
        (pss_one (ps_if (pt_cmpR (op_neD hu) (pe_call GR hr3 rfl mR kR bR .nil pass0 (pa_cons (pe_ix ix_list (pv 2) (pv 5) (fun _ _ => rfl)) (pa_cons (pv 4) pa_nil))) (pe_ix ix_list (pv 4) (pv 5) (fun _ _ => rfl)) (nomark _)) pss_never pss_nil)))
      (pss_one (ps_ret pe_bl))))))), fun D n hn hD => ?_⟩
    refine ⟨_, rfl, _, rfl, _, rfl, a, ns, 0, rfl, S, _, _, rfl, rfl, ⟨by decide, by decide⟩, _, _, rfl, rfl, (by show (0 : Int) < 2; decide), rfl, a, ns, n, _, rfl, S, h63, by omega, fun ra as vss rows H1 s1 R hlen hL => ?_⟩
    -- the copies
    refine ⟨_, rfl, ra, rfl, ⟨_, SqL.of R.lst⟩, turns_list0 (K := K) (a := ra) (xs := as.map V.ref) (fun i ys H2 => Same H1 H2 ∧ ∃ bs : List Addr, ys = bs.map V.ref ∧ bs.length = i ∧ ∀ (j : Nat) (b : Addr) (vs : List V), bs[j]? = some b → vss[j]? = some vs → H2 b = some (.lst vs)) ⟨Same.refl _, [], rfl, rfl, fun j b vs h => by simp at h⟩ (fun i ys H2 _ h => SqL.of (h.1 _ _ R.lst)) ?_ ?_⟩
    · rintro i v ys H2 hi ⟨s2, bs, rfl, hbl, hbs⟩
      have hil : i < rows.length := by rw [← R.len]; have := (List.getElem?_eq_some_iff.mp hi).1; rwa [List.length_map] at this
      obtain ⟨b, us, r, hb, hus, hr', _, hbu, _⟩ := R.get hil
      rw [List.getElem?_map, hb] at hi
      cases hi
      refine ⟨_, rfl, b, us, rfl, .inl (SqL.of (s2 _ _ hbu)), fun p hp => ⟨by rw [List.length_map, hbl, sizeLine_eq]; omega, s2.trans (same_new hp _), bs ++ [p], by rw [List.map_append]; rfl, by rw [List.length_append, hbl]; rfl, fun j c vs h1 h2 => ?_⟩⟩
      by_cases hj : j < bs.length
      · rw [List.getElem?_append_left hj] at h1
        exact same_new hp _ _ _ (hbs j c vs h1 h2)
      · have hjl : j < (bs ++ [p]).length := (List.getElem?_eq_some_iff.mp h1).1
        rw [List.length_append, List.length_singleton] at hjl
        obtain rfl : j = bs.length := by omega
        rw [List.getElem?_concat_length] at h1
        cases h1
        rw [hbl, hus] at h2
        cases h2
        exact upd_same
    rintro ys H2 ⟨s2, bs, rfl, hbl, hbs⟩ hb hhb
    rw [List.length_map] at hbl
    have s3 := same_new hhb (.lst (bs.map V.ref))
    have RB : RwsAt (upd H2 hb (.lst (bs.map V.ref))) hb bs vss rows := ⟨upd_same, by rw [hbl, R.len], R.lev, fun i b vs h1 h2 => s3 _ _ (hbs i b vs h1 h2), fun i vs r h1 h2 => (R.sts i vs r h1 h2).keep (s2.trans s3).keepT⟩
    have R3 := R.same (s2.trans s3)
    generalize upd H2 hb (.lst (bs.map V.ref)) = H3 at *
    refine ⟨_, rfl, hb, bs, vss, rows, rfl, RB, hL, by omega, fun le us H4 m hle s4 el hul T4 hv => ?_⟩
    have R4 := R3.same s4
    have RB4 := RB.same s4
    obtain ⟨d, d1, d2, d3, d4, d5⟩ := rows_same K RB4 R4
    refine ⟨_, rfl, _, rfl, d, d, d1, d2, d3, d3, d4, _, rfl, ?_⟩
    rw [if_pos rfl, d5]
    refine iteF ?_
    refine ⟨_, rfl, _, _, _, _, rfl, .lst el, kit_self K "list", _, rfl, iteF ?_⟩
    refine ⟨_, rfl, le, _, rfl, .inl (SqL.of el), _, rfl, rfl, _, rfl, ?_⟩
    refine iteNS (by rw [hul, hlen]) ?_
    have LE : LEnds K H4 le us rows.length m := ⟨el, hv⟩
    -- each one fits
    refine ⟨_, rfl, le, rfl, ⟨_, SqL.of el⟩, turns_list0 (K := K) (a := le) (xs := us) (fun i ys H5 => Same H4 H5 ∧ ys = List.replicate i (.bl true)) ⟨Same.refl _, rfl⟩ (fun i ys H5 _ h => SqL.of (h.1 _ _ el)) ?_ ?_⟩
    · rintro i v ys H5 hi ⟨s5, rfl⟩
      have hil : i < rows.length := by rw [← hul]; exact (List.getElem?_eq_some_iff.mp hi).1
      obtain ⟨v', e, a1, a2, a3⟩ := hv i hil
      rw [hi] at a1
      cases a1
      have hf := T4.fo i e a2
      refine ⟨_, rfl, v, e, rfl, a3.same s5, fun p z => T4.nn i p (by rw [a2, z]), ?_, fun H6 s6 => ⟨by rw [List.length_replicate, sizeLine_eq]; omega, s5.trans s6, by rw [List.replicate_succ']⟩⟩
      obtain ⟨p1, p2⟩ := row_pos (m := m) (r := rowF rows i) (c := 1)
      cases e with
      | ans k =>
        have := p1 k hf
        exact .inr (by show (0 : Int) < (k : Int); omega)
      | una k =>
        have := p2 k hf
        exact .inr (by show (0 : Int) < (k : Int); omega)
      | nev => exact .inl rfl
      | need p => exact absurd a2 (T4.nn i p)
    rintro ys H5 ⟨s5, rfl⟩ lb hlb
    refine ⟨lb, _, _, rfl, SqL.of upd_same, truL_trues us.length, ?_⟩
    have hall : (List.replicate us.length true).all id = true := by
      rw [List.all_eq_true]
      intro x hx
      rw [(List.mem_replicate.mp hx).2]
      rfl
    rw [hall]
    refine ⟨_, rfl, iteF ?_⟩
    have s6 := s5.trans (same_new hlb (.lst (List.replicate us.length (.bl true))))
    generalize upd H5 lb (.lst (List.replicate us.length (.bl true))) = H6 at *
    -- each one follows
    refine ⟨_, rfl, _, rfl, by omega, by omega, for_range (n := (n : Int).toNat) (fun i σ H7 => ∃ v5 : Option V, σ = [some (.ref a), some (.int (n : Int)), some (.ref ra), some (.ref hb), some (.ref le), v5] ∧ Same H4 H7) ⟨none, rfl, s6⟩ ?_ ?_⟩
    · rintro i σ H7 hi ⟨v5, rfl, s7⟩
      rw [Int.toNat_natCast, ← hlen] at hi
      have e0 : (0 : Int) + (i : Int) = (i : Int) := by omega
      rw [e0]
      obtain ⟨b, ws, r, hb1, hus, hr', hgr, hbu, hst⟩ := (R4.same s7).get hi
      obtain ⟨v', e, a1, a2, a3⟩ := hv i hi
      have hf := T4.fo i e a2
      have hrow : rowF rows i = r := hgr
      rw [hrow] at hf
      refine ⟨_, rfl, _, rfl, ra, _, _, _, rfl, rfl, SqL.of (s7 _ _ R4.lst), atI_nat (v := .ref b) (by rw [List.getElem?_map, hb1]; rfl), _, rfl, b, le, us, ws, rows.length, m, r, rfl, hbu, hst, fun s' hs' p hp => hL r (List.mem_of_getElem? hr') s' hs' p hp, T4.nn, LE.same s7, fun v1 H8 s8 h8 => ?_⟩
      rw [hf] at h8
      have a3' := a3.same (s7.trans s8)
      obtain ⟨e1, e2, e3⟩ := end_plain e
      refine ⟨_, rfl, _, rfl, le, _, _, _, rfl, rfl, SqL.of (s8 _ _ (s7 _ _ el)), atI_nat a1, _, _, h8.dat, a3'.dat, e1, e1, e2, _, rfl, ?_⟩
      rw [if_pos rfl, e3]
      exact iteF ⟨_, rfl, s7.trans s8⟩
    · rintro σ H7 ⟨v5, rfl, s7⟩
      show D.rt _ _
      rw [hD]
      exact q _
  intro tt htt ptt
  refine ⟨_, pss_cons (ps_set (i := 1) scLaw.nd rfl (Or.inl rfl) (pe_op op_mod (pe_call GC hr1 rfl mC kC bC .nil pass0 (pa_cons (pv 0) (pa_cons pe_int pa_nil))) pe_int))
    (pss_cons (ps_if (pt_cmpR op_eq (pe_op op_mod (pe_op op_fdiv (pe_call GC hr1 rfl mC kC bC .nil pass0 (pa_cons (pv 0) (pa_cons pe_int pa_nil))) pe_int) pe_int) pe_int (nomark _)) (pss_one (ps_set (i := 1) scLaw.nd rfl (Or.inl rfl) (pe_op op_mod (pe_op op_fdiv (pe_call GC hr1 rfl mC kC bC .nil pass0 (pa_cons (pv 0) (pa_cons pe_int pa_nil))) pe_int) pe_int))) pss_nil) htt), ?_⟩
  have b0 : 0 ≤ ns.getD 0 0 % 10 := Int.emod_nonneg _ (by decide)
  have b1 : ns.getD 0 0 % 10 < 10 := Int.emod_lt_of_pos _ (by decide)
  have b2 : 0 ≤ ns.getD 0 0 / 80 % 61 := Int.emod_nonneg _ (by decide)
  have b3 : ns.getD 0 0 / 80 % 61 < 61 := Int.emod_lt_of_pos _ (by decide)
  obtain ⟨n1, e1⟩ := Int.eq_ofNat_of_zero_le b0
  obtain ⟨n2, e2⟩ := Int.eq_ofNat_of_zero_le b2
  refine ⟨_, rfl, a, ns, 0, rfl, S, _, _, rfl, rfl, (by show (0 : Int) < 10; decide), ?_⟩
  refine ⟨_, rfl, a, ns, 0, rfl, S, _, _, rfl, rfl, ⟨by decide, by decide⟩, _, _, rfl, rfl, (by show (0 : Int) < 4; decide), rfl, _, rfl, ite2 (fun c => ?_) (fun c => ?_)⟩
  · refine ⟨_, rfl, a, ns, 0, rfl, S, _, _, rfl, rfl, ⟨by decide, by decide⟩, _, _, rfl, rfl, (by show (0 : Int) < 61; decide), ?_⟩
    have z := ptt { nx := fun _ H' => Q .non H', rt := Q } n2 (by omega) rfl
    rw [← e2] at z
    exact z
  · have z := ptt { nx := fun _ H' => Q .non H', rt := Q } n1 (by omega) rfl
    rw [← e1] at z
    exact z
end
end Bk
set_option Elab.async false
set_option linter.all false
set_option maxRecDepth 100000
set_option maxHeartbeats 4000000
namespace Bk
open PySem L2  PySem.W
theorem all_mk {l : PySem.W.OpenLaw} {w : World} {K : PySem.W.Frag} {h : Heap} {mg : Str → Option Value} {fa f1 f2 f3 f4 f5 f6 f7 f8 f9 f10 f11 f12 f13 f14   : Addr} (X : K.In h) (G : h.Ns mainGlobals mg) (hfa : mg "law" = some (.ref fa))
    {od1 an1 od2 an2 od3 an3 od4 an4 od5 an5 od6 an6 od7 an7 od8 an8 od9 an9 od10 an10 od11 an11 od12 an12 od13 an13 od14 an14 : Option Addr} {sl1 sl2 sl3 sl4 sl5 sl6 sl7 sl8 sl9 sl10 sl11 sl12 sl13 sl14 : Array (Option Value)} {oc1 kV1 dc1 pm1 cd1 ct1 oc2 kV2 dc2 pm2 cd2 ct2 oc3 kV3 dc3 pm3 cd3 ct3 oc4 kV4 dc4 pm4 cd4 ct4 oc5 kV5 dc5 pm5 cd5 ct5 oc6 kV6 dc6 pm6 cd6 ct6 oc7 kV7 dc7 pm7 cd7 ct7 oc8 kV8 dc8 pm8 cd8 ct8 oc9 kV9 dc9 pm9 cd9 ct9 oc10 kV10 dc10 pm10 cd10 ct10 oc11 kV11 dc11 pm11 cd11 ct11 oc12 kV12 dc12 pm12 cd12 ct12 oc13 kV13 dc13 pm13 cd13 ct13 oc14 kV14 dc14 pm14 cd14 ct14 : Value}
    {aN : Addr} {tkN tkM : Tok} {oqN : Option Addr} {nqN : Nat} {sqN : Array (Option Value)}
    (a1 : nsIn K mainGlobals "told_ahead" = some (some (.ref f1)))
    (l1 : K.lookup f1 = some ⟨oc1, od1, .func (fnOf "told_ahead" "told_ahead" (defArgs sTold) (defBody sTold) (defScope sTold) .none kV1 dc1 pm1 an1 cd1 ct1), sl1⟩)
    (c1 : codeIn K cd1 "told_ahead" = true)
    (k1 : keepIn K (.ref f1) = true)
    (a2 : nsIn K mainGlobals "tell_end" = some (some (.ref f2)))
    (l2 : K.lookup f2 = some ⟨oc2, od2, .func (fnOf "tell_end" "tell_end" (defArgs sTell) (defBody sTell) (defScope sTell) .none kV2 dc2 pm2 an2 cd2 ct2), sl2⟩)
    (c2 : codeIn K cd2 "tell_end" = true)
    (k2 : keepIn K (.ref f2) = true)
    (a3 : nsIn K mainGlobals "end_of_row" = some (some (.ref f3)))
    (l3 : K.lookup f3 = some ⟨oc3, od3, .func (fnOf "end_of_row" "end_of_row" (defArgs sRowEnd) (defBody sRowEnd) (defScope sRowEnd) .none kV3 dc3 pm3 an3 cd3 ct3), sl3⟩)
    (c3 : codeIn K cd3 "end_of_row" = true)
    (k3 : keepIn K (.ref f3) = true)
    (a4 : nsIn K mainGlobals "end_behind" = some (some (.ref f4)))
    (l4 : K.lookup f4 = some ⟨oc4, od4, .func (fnOf "end_behind" "end_behind" (defArgs sEndBeh) (defBody sEndBeh) (defScope sEndBeh) .none kV4 dc4 pm4 an4 cd4 ct4), sl4⟩)
    (c4 : codeIn K cd4 "end_behind" = true)
    (k4 : keepIn K (.ref f4) = true)
    (a5 : nsIn K mainGlobals "end_of_step" = some (some (.ref f5)))
    (l5 : K.lookup f5 = some ⟨oc5, od5, .func (fnOf "end_of_step" "end_of_step" (defArgs sStepEnd) (defBody sStepEnd) (defScope sStepEnd) .none kV5 dc5 pm5 an5 cd5 ct5), sl5⟩)
    (c5 : codeIn K cd5 "end_of_step" = true)
    (k5 : keepIn K (.ref f5) = true)
    (a6 : nsIn K mainGlobals "end_of_either" = some (some (.ref f6)))
    (l6 : K.lookup f6 = some ⟨oc6, od6, .func (fnOf "end_of_either" "end_of_either" (defArgs sEither) (defBody sEither) (defScope sEither) .none kV6 dc6 pm6 an6 cd6 ct6), sl6⟩)
    (c6 : codeIn K cd6 "end_of_either" = true)
    (k6 : keepIn K (.ref f6) = true)
    (a7 : nsIn K mainGlobals "_law_cell_at" = some (some (.ref f7)))
    (l7 : K.lookup f7 = some ⟨oc7, od7, .func (fnOf "_law_cell_at" "_law_cell_at" (defArgs sCell) (defBody sCell) (defScope sCell) .none kV7 dc7 pm7 an7 cd7 ct7), sl7⟩)
    (c7 : codeIn K cd7 "_law_cell_at" = true)
    (k7 : keepIn K (.ref f7) = true)
    (a8 : nsIn K mainGlobals "_law_lead_by" = some (some (.ref f8)))
    (l8 : K.lookup f8 = some ⟨oc8, od8, .func (fnOf "_law_lead_by" "_law_lead_by" (defArgs sLead) (defBody sLead) (defScope sLead) .none kV8 dc8 pm8 an8 cd8 ct8), sl8⟩)
    (c8 : codeIn K cd8 "_law_lead_by" = true)
    (k8 : keepIn K (.ref f8) = true)
    (a9 : nsIn K mainGlobals "_law_step_by" = some (some (.ref f9)))
    (l9 : K.lookup f9 = some ⟨oc9, od9, .func (fnOf "_law_step_by" "_law_step_by" (defArgs sStepBy) (defBody sStepBy) (defScope sStepBy) .none kV9 dc9 pm9 an9 cd9 ct9), sl9⟩)
    (c9 : codeIn K cd9 "_law_step_by" = true)
    (k9 : keepIn K (.ref f9) = true)
    (a10 : nsIn K mainGlobals "_law_rows_by" = some (some (.ref f10)))
    (l10 : K.lookup f10 = some ⟨oc10, od10, .func (fnOf "_law_rows_by" "_law_rows_by" (defArgs sRowsBy) (defBody sRowsBy) (defScope sRowsBy) .none kV10 dc10 pm10 an10 cd10 ct10), sl10⟩)
    (c10 : codeIn K cd10 "_law_rows_by" = true)
    (k10 : keepIn K (.ref f10) = true)
    (a11 : nsIn K mainGlobals "law" = some (some (.ref f11)))
    (l11 : K.lookup f11 = some ⟨oc11, od11, .func (fnOf "law" "law" (defArgs sLaw) (defBody sLaw) (defScope sLaw) .none kV11 dc11 pm11 an11 cd11 ct11), sl11⟩)
    (c11 : codeIn K cd11 "law" = true)
    (k11 : keepIn K (.ref f11) = true)
    (a12 : nsIn K mainGlobals "_law_end_fits" = some (some (.ref f12)))
    (l12 : K.lookup f12 = some ⟨oc12, od12, .func (fnOf "_law_end_fits" "_law_end_fits" (defArgs sFits) (defBody sFits) (defScope sFits) .none kV12 dc12 pm12 an12 cd12 ct12), sl12⟩)
    (c12 : codeIn K cd12 "_law_end_fits" = true)
    (k12 : keepIn K (.ref f12) = true)
    (a13 : nsIn K mainGlobals "_law_step_end" = some (some (.ref f13)))
    (l13 : K.lookup f13 = some ⟨oc13, od13, .func (fnOf "_law_step_end" "_law_step_end" (defArgs sLStep) (defBody sLStep) (defScope sLStep) .none kV13 dc13 pm13 an13 cd13 ct13), sl13⟩)
    (c13 : codeIn K cd13 "_law_step_end" = true)
    (k13 : keepIn K (.ref f13) = true)
    (a14 : nsIn K mainGlobals "_law_row_end" = some (some (.ref f14)))
    (l14 : K.lookup f14 = some ⟨oc14, od14, .func (fnOf "_law_row_end" "_law_row_end" (defArgs sLRow) (defBody sLRow) (defScope sLRow) .none kV14 dc14 pm14 an14 cd14 ct14), sl14⟩)
    (c14 : codeIn K cd14 "_law_row_end" = true)
    (k14 : keepIn K (.ref f14) = true)
    (z1 : nsIn K mainGlobals "len" = some none)
    (z2 : nsIn K mainGlobals "range" = some none)
    (z3 : nsIn K mainGlobals "isinstance" = some none)
    (z4 : nsIn K mainGlobals "list" = some none)
    (z5 : nsIn K mainGlobals "str" = some none)
    (z6 : nsIn K mainGlobals "all" = some none)
    (z7 : nsIn K mainGlobals "tuple" = some none)
    (z8 : nsIn K mainGlobals "int" = some none)
    (z9 : nsIn K mainGlobals "bool" = some none)
    (gN : nsIn K mainGlobals "NEVER" = some (some (.ref aN)))
    (lN : K.lookup aN = some ⟨.type "tuple", oqN, .seq #[.str "never" tkN, .int 0 tkM] nqN, sqN⟩) :
    ∃ fd : FuncData, (∀ (s : Shared) (v : Value), BindsTo s fd ⟨[v], []⟩ [("_law_script", v)]) ∧ ∀ base : Heap, K.In base → base.Ns mainGlobals mg → FnOk l.prog w K mg base CX0 7 fa fd ["_law_script"] (spLaw K) := by
  have e := hfa.symm.trans (mg_of X G a11)
  cases e
  have Tx : Txt mg := ⟨mg_none_of X G z1, mg_none_of X G z2, mg_none_of X G z3, mg_none_of X G z4, mg_none_of X G z5, mg_none_of X G z6, mg_none_of X G z7, mg_none_of X G z8, mg_none_of X G z9⟩
  have F1 := fun_mk (st := sTold) l1 c1 k1
  have b1 := F1.binds (ps := ["rows"]) fun _ _ _ _ _ _ us hl => match us, hl with | [_], _ => rfl
  have F2 := fun_mk (st := sTell) l2 c2 k2
  have b2 := F2.binds (ps := ["place", "rows", "ends"]) fun _ _ _ _ _ _ us hl => match us, hl with | [_, _, _], _ => rfl
  have F3 := fun_mk (st := sRowEnd) l3 c3 k3
  have b3 := F3.binds (ps := ["row", "ends"]) fun _ _ _ _ _ _ us hl => match us, hl with | [_, _], _ => rfl
  have F4 := fun_mk (st := sEndBeh) l4 c4 k4
  have b4 := F4.binds (ps := ["count", "last"]) fun _ _ _ _ _ _ us hl => match us, hl with | [_, _], _ => rfl
  have F5 := fun_mk (st := sStepEnd) l5 c5 k5
  have b5 := F5.binds (ps := ["step", "ends"]) fun _ _ _ _ _ _ us hl => match us, hl with | [_, _], _ => rfl
  have F6 := fun_mk (st := sEither) l6 c6 k6
  have b6 := F6.binds (ps := ["one", "other", "ends"]) fun _ _ _ _ _ _ us hl => match us, hl with | [_, _, _], _ => rfl
  have F7 := fun_mk (st := sCell) l7 c7 k7
  have b7 := F7.binds (ps := ["_law_script", "_law_k"]) fun _ _ _ _ _ _ us hl => match us, hl with | [_, _], _ => rfl
  have F8 := fun_mk (st := sLead) l8 c8 k8
  have b8 := F8.binds (ps := ["_law_mixed", "_law_at", "_law_many"]) fun _ _ _ _ _ _ us hl => match us, hl with | [_, _, _], _ => rfl
  have F9 := fun_mk (st := sStepBy) l9 c9 k9
  have b9 := F9.binds (ps := ["_law_cell", "_law_at", "_law_many"]) fun _ _ _ _ _ _ us hl => match us, hl with | [_, _, _], _ => rfl
  have F10 := fun_mk (st := sRowsBy) l10 c10 k10
  have b10 := F10.binds (ps := ["_law_script", "_law_many", "_law_later"]) fun _ _ _ _ _ _ us hl => match us, hl with | [_, _, _], _ => rfl
  have F11 := fun_mk (st := sLaw) l11 c11 k11
  have F12 := fun_mk (st := sFits) l12 c12 k12
  have b12 := F12.binds (ps := ["_law_end"]) fun _ _ _ _ _ _ us hl => match us, hl with | [_], _ => rfl
  have F13 := fun_mk (st := sLStep) l13 c13 k13
  have b13 := F13.binds (ps := ["_law_step", "_law_ends"]) fun _ _ _ _ _ _ us hl => match us, hl with | [_, _], _ => rfl
  have F14 := fun_mk (st := sLRow) l14 c14 k14
  have b14 := F14.binds (ps := ["_law_row", "_law_ends"]) fun _ _ _ _ _ _ us hl => match us, hl with | [_, _], _ => rfl
  refine ⟨fnOf "law" "law" (defArgs sLaw) (defBody sLaw) (defScope sLaw) .none kV11 dc11 pm11 an11 cd11 ct11, fun s v => .of_eq rfl, fun base _ _ => ?_⟩
  have hN : ∀ H, SqT K H aN [.str "never", .int 0] := fun H => .inr ⟨_, _, _, lN, rfl, rfl, by show 2 ≤ sizeLine; decide, .cons ⟨_, rfl⟩ (.cons ⟨_, rfl⟩ .nil)⟩
  have G4 : FnOk l.prog w K mg base CX0 1 f4 _ ["count", "last"] (spEB K) := ok_eb F4
  have G5 : FnOk l.prog w K mg base CX0 1 f5 _ ["step", "ends"] (spLd K) := ok_ld F5
  have G6 : FnOk l.prog w K mg base CX0 2 f6 _ ["one", "other", "ends"] (spEi K) := ok_ei F6 G5 k5 b5 (mg_of X G a5) G4 k4 b4 (mg_of X G a4)
  have G5b : FnOk l.prog w K mg base CX0 3 f5 _ ["step", "ends"] (spSE K) := ok_se F5 G5 G6 k6 b6 (mg_of X G a6)
  have G3 : FnOk l.prog w K mg base CX0 4 f3 _ ["row", "ends"] (spRE K) := ok_re F3 G5b k5 b5 (mg_of X G a5) G4 k4 b4 (mg_of X G a4)
  have G2 : FnOk l.prog w K mg base CX0 5 f2 _ ["place", "rows", "ends"] (spTell K) := ok_te F2 G3 k3 b3 (mg_of X G a3) (mg_of X G gN) hN
  have G1 : FnOk l.prog w K mg base CX0 6 f1 _ ["rows"] (spTold K) := ok_ta F1 Tx G2 k2 b2 (mg_of X G a2)
  have G7 : FnOk l.prog w K mg base CX0 1 f7 _ ["_law_script", "_law_k"] (spCell K) := ok_cell F7 Tx
  have G8 : FnOk l.prog w K mg base CX0 1 f8 _ ["_law_mixed", "_law_at", "_law_many"] spLead := ok_lead F8
  have G9 : FnOk l.prog w K mg base CX0 2 f9 _ ["_law_cell", "_law_at", "_law_many"] spStepBy := ok_sb F9 G8 k8 b8 (mg_of X G a8)
  have G10 : FnOk l.prog w K mg base CX0 3 f10 _ ["_law_script", "_law_many", "_law_later"] (spRowsBy K) := ok_rb F10 Tx G9 k9 b9 (mg_of X G a9)
  have G12 : FnOk l.prog w K mg base CX0 1 f12 _ ["_law_end"] (spFits K) := ok_fits F12 Tx
  have G13 : FnOk l.prog w K mg base CX0 1 f13 _ ["_law_step", "_law_ends"] (spLL K) := ok_ll F13
  have G13b : FnOk l.prog w K mg base CX0 2 f13 _ ["_law_step", "_law_ends"] (spLS K) := ok_ls F13 G13 k13 b13 (mg_of X G a13)
  have G14 : FnOk l.prog w K mg base CX0 3 f14 _ ["_law_row", "_law_ends"] (spLR K) := ok_lr F14 G13b k13 b13 (mg_of X G a13)
  exact ok_law F11 Tx G7 k7 b7 (mg_of X G a7) G10 k10 b10 (mg_of X G a10) G1 k1 b1 (mg_of X G a1) G12 k12 b12 (mg_of X G a12) G14 k14 b14 (mg_of X G a14)
theorem walk {l : PySem.W.OpenLaw} {q : Program} {loose : List Str} {XP : (Str → Option Value) → Heap → Prop} {YP : World → Heap → Prop} {d : DefRec} {K : Params → PySem.W.Frag} (hn : l.most = some 63) (hdf : d.params.defaults = [])
    (hY : ∀ (w : World) (h : Heap), YP w h → (K w.params).In h)
    (F : ∀ (w : World) (mg : Str → Option Value) (fa : Addr) (h : Heap), (K w.params).In h → h.Ns mainGlobals mg → mg d.name = some (.ref fa) →
      ∃ fd : FuncData, (∀ (s : Shared) (u : Value), BindsTo s fd ⟨[u], []⟩ [("_law_script", u)]) ∧ ∀ base : Heap, (K w.params).In base → base.Ns mainGlobals mg → FnOk l.prog w (K w.params) mg base CX0 7 fa fd ["_law_script"] (spLaw (K w.params))) :
    PySem.W.WalkO q loose XP YP l.row.toRowW d [] (fun f vs => PySem.call f vs) :=
  L2.walk_of (n := 63) (k := 7) (x := "_law_script") (CX := fun _ => CX0) (sp := fun w => spLaw (K w.params)) hn (by decide) hdf ⟨rfl, by decide, by decide⟩ hY F (fun _ _ a ns hl _ hS => ⟨a, ns, rfl, hS, hl, fun _ => rfl⟩) fun _ _ _ _ _ z => z
end Bk
open PySem PySem.W PyProof.Rows
set_option maxRecDepth 100000 in
set_option maxHeartbeats 0 in
theorem PySem.Challenge.cw_elderline_k10_whole_ends_holds : PySem.Challenge.rw_elderline_k10_whole_ends.Holds := by
  w_on; o_law; k_head; (case hw => w_witness2)
  k_fill
  refine Bk.walk (l := PySem.Challenge.rw_elderline_k10_whole_ends) rfl rfl (fun w h Y => PySem.W.kIn_of Y) ?F
  case F =>
    intro w mg fa h KX G hmg
    refine' Bk.all_mk KX G hmg ?a1 ?l1 ?c1 ?k1 ?a2 ?l2 ?c2 ?k2 ?a3 ?l3 ?c3 ?k3 ?a4 ?l4 ?c4 ?k4 ?a5 ?l5 ?c5 ?k5 ?a6 ?l6 ?c6 ?k6 ?a7 ?l7 ?c7 ?k7 ?a8 ?l8 ?c8 ?k8 ?a9 ?l9 ?c9 ?k9 ?a10 ?l10 ?c10 ?k10 ?a11 ?l11 ?c11 ?k11 ?a12 ?l12 ?c12 ?k12 ?a13 ?l13 ?c13 ?k13 ?a14 ?l14 ?c14 ?k14 ?z1 ?z2 ?z3 ?z4 ?z5 ?z6 ?z7 ?z8 ?z9 ?gN ?lN
    (case a1 => k_is)
    (case l1 => k_is)
    (case c1 => k_is)
    (case k1 => k_is)
    (case a2 => k_is)
    (case l2 => k_is)
    (case c2 => k_is)
    (case k2 => k_is)
    (case a3 => k_is)
    (case l3 => k_is)
    (case c3 => k_is)
    (case k3 => k_is)
    (case a4 => k_is)
    (case l4 => k_is)
    (case c4 => k_is)
    (case k4 => k_is)
    (case a5 => k_is)
    (case l5 => k_is)
    (case c5 => k_is)
    (case k5 => k_is)
    (case a6 => k_is)
    (case l6 => k_is)
    (case c6 => k_is)
    (case k6 => k_is)
    (case a7 => k_is)
    (case l7 => k_is)
    (case c7 => k_is)
    (case k7 => k_is)
    (case a8 => k_is)
    (case l8 => k_is)
    (case c8 => k_is)
    (case k8 => k_is)
    (case a9 => k_is)
    (case l9 => k_is)
    (case c9 => k_is)
    (case k9 => k_is)
    (case a10 => k_is)
    (case l10 => k_is)
    (case c10 => k_is)
    (case k10 => k_is)
    (case a11 => k_is)
    (case l11 => k_is)
    (case c11 => k_is)
    (case k11 => k_is)
    (case a12 => k_is)
    (case l12 => k_is)
    (case c12 => k_is)
    (case k12 => k_is)
    (case a13 => k_is)
    (case l13 => k_is)
    (case c13 => k_is)
    (case k13 => k_is)
    (case a14 => k_is)
    (case l14 => k_is)
    (case c14 => k_is)
    (case k14 => k_is)
    (case z1 => k_is)
    (case z2 => k_is)
    (case z3 => k_is)
    (case z4 => k_is)
    (case z5 => k_is)
    (case z6 => k_is)
    (case z7 => k_is)
    (case z8 => k_is)
    (case z9 => k_is)
    (case gN => k_is)
    (case lN => k_is)
