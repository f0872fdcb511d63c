import PyProof.Rows.All
import Wide.All
import OpenK.AllK
import Wide.FinOn
import Lean
import PyProof.EqAt
import PyProof.EqKinds
import PyProof.TupleCall
import PySem.Challenge.RW_elderline_k15_refused
noncomputable section
set_option Elab.async false
set_option linter.all false
set_option maxRecDepth 100000
namespace L2
open PySem PySem.Spec PyProof.Rows
abbrev Key := Sum Int Str
def keyIs : Key → Value → Bool
  | .inl k, v => Value.isInt k v
  | .inr x, v => Value.isStrOf x v
def keyH (w : World) : Key → Int
  | .inl k => hashInt k
  | .inr x => hashStr w x
theorem keyIs_shape : ∀ {k : Key} {v : Value}, keyIs k v = true → (∃ i t, k = Sum.inl i ∧ v = Value.int i t) ∨ (∃ x t, k = Sum.inr x ∧ v = Value.str x t)
  | .inl i, v, h => by
    obtain ⟨t, e⟩ := Value.isInt_shape (k := i) (v := v) h
    exact .inl ⟨i, t, rfl, e⟩
  | .inr x, v, h => by
    obtain ⟨t, e⟩ := Value.isStrOf_shape (x := x) (v := v) h
    exact .inr ⟨x, t, rfl, e⟩
theorem keyIs_int (i : Int) (t : Tok) : keyIs (.inl i) (.int i t) = true := by simp [keyIs, Value.isInt]
theorem keyIs_str (x : Str) (t : Tok) : keyIs (.inr x) (.str x t) = true := by simp [keyIs, Value.isStrOf]
theorem key_ll (a b : Int) : decide ((Sum.inl a : Key) = Sum.inl b) = (a == b) := by
  by_cases e : a = b
  · subst e; simp
  · have h : ¬ (Sum.inl a : Key) = Sum.inl b := fun q => e (Sum.inl.inj q)
    rw [decide_eq_false h]
    exact (beq_eq_false_iff_ne.mpr e).symm
theorem key_rr (a b : Str) : decide ((Sum.inr a : Key) = Sum.inr b) = decide (a = b) := by
  by_cases e : a = b
  · subst e; simp
  · have h : ¬ (Sum.inr a : Key) = Sum.inr b := fun q => e (Sum.inr.inj q)
    rw [decide_eq_false h, decide_eq_false e]
theorem key_lr (a : Int) (b : Str) : decide ((Sum.inl a : Key) = Sum.inr b) = false := decide_eq_false (fun q => nomatch q)
theorem key_rl (a : Str) (b : Int) : decide ((Sum.inr a : Key) = Sum.inl b) = false := decide_eq_false (fun q => nomatch q)
def mixKind (prog : Program) (w : World) : PySem.KeyKind prog w Key where
  is := keyIs
  hash := keyH w
  inj := fun v a b ha hb => by
    rcases keyIs_shape ha with ⟨i, t, rfl, rfl⟩ | ⟨x, t, rfl, rfl⟩
    · rcases keyIs_shape hb with ⟨j, u, rfl, e⟩ | ⟨y, u, rfl, e⟩
      · injection e with e1 _; rw [e1]
      · exact nomatch e
    · rcases keyIs_shape hb with ⟨j, u, rfl, e⟩ | ⟨y, u, rfl, e⟩
      · exact nomatch e
      · injection e with e1 _; rw [e1]
  byValue := fun k v h => by
    rcases keyIs_shape h with ⟨i, t, rfl, rfl⟩ | ⟨x, t, rfl, rfl⟩ <;> rfl
  pyHash := fun hv h => by
    rcases keyIs_shape hv with ⟨i, t, rfl, rfl⟩ | ⟨x, t, rfl, rfl⟩
    · exact wpAny_pyHash_int h
    · exact wpAny_pyHash_str h
  eqBool := fun hu hv h => by
    rcases keyIs_shape hu with ⟨i, t, rfl, rfl⟩ | ⟨x, t, rfl, rfl⟩
    · rcases keyIs_shape hv with ⟨j, u, rfl, rfl⟩ | ⟨y, u, rfl, rfl⟩
      · rw [key_ll] at h; exact wpAny_eqBool_int h
      · rw [key_lr] at h; exact SeqAt.EqAt.int_str i t y u _ _ _ _ h
    · rcases keyIs_shape hv with ⟨j, u, rfl, rfl⟩ | ⟨y, u, rfl, rfl⟩
      · rw [key_rl] at h; exact SeqAt.EqAt.str_int x t j u _ _ _ _ h
      · rw [key_rr] at h; exact wpAny_eqBool_str h
  «strs» := fun k x t v h => by
    rcases keyIs_shape h with ⟨i, u, rfl, e⟩ | ⟨y, u, rfl, e⟩
    · exact nomatch e
    · injection e with e1 _
      subst e1
      cases v <;> rfl
theorem mixKind_int (prog : Program) (w : World) (i : Int) (t : Tok) : (mixKind prog w).is (.inl i) (.int i t) = true := keyIs_int i t
theorem mixKind_str (prog : Program) (w : World) (x : Str) (t : Tok) : (mixKind prog w).is (.inr x) (.str x t) = true := keyIs_str x t
inductive V where
  | non | bl (b : Bool) | int (i : Int) | str (x : Str) | byt (b : Array UInt8) | flt (b : UInt64) | ref (a : Addr) | ty (n : String)
  deriving DecidableEq
def RelV : V → Value → Prop
  | .non, u => u = Value.none
  | .bl b, u => u = Value.bool b
  | .int i, u => ∃ t, u = Value.int i t
  | .str x, u => ∃ t, u = Value.str x t
  | .byt b, u => ∃ t, u = Value.bytes b t
  | .flt b, u => ∃ t, u = Value.float b t
  | .ref a, u => u = Value.ref a
  | .ty n, u => u = Value.type n
abbrev Vals : List V → List Value → Prop := Paired RelV
theorem Vals.length {xs : List V} {us : List Value} (r : Vals xs us) : xs.length = us.length := Paired.length r
theorem Vals.get : ∀ {xs : List V} {us : List Value} {i : Nat} {x : V}, Vals xs us → xs[i]? = some x → ∃ u, us[i]? = some u ∧ RelV x u
  | _, _, _, _, .nil, e => by simp at e
  | _, _, 0, _, .cons r _, e => by simp at e; subst e; exact ⟨_, rfl, r⟩
  | _, _, i + 1, x, .cons _ t, e => by
    obtain ⟨u, h1, h2⟩ := Vals.get (i := i) (x := x) t (by simpa using e)
    exact ⟨u, by simpa using h1, h2⟩
theorem Vals.set {x : V} {u : Value} (r : RelV x u) : ∀ {xs : List V} {us : List Value} (i : Nat), Vals xs us → Vals (xs.set i x) (us.set i u)
  | _, _, _, .nil => .nil
  | _, _, 0, .cons _ t => .cons r t
  | _, _, i + 1, .cons q t => .cons q (Vals.set r i t)
theorem Vals.append : ∀ {xs ys : List V} {us ws : List Value}, Vals xs us → Vals ys ws → Vals (xs ++ ys) (us ++ ws)
  | _, _, _, _, .nil, s => s
  | _, _, _, _, .cons r t, s => .cons r (Vals.append t s)
theorem Vals.take : ∀ {xs : List V} {us : List Value} (n : Nat), Vals xs us → Vals (xs.take n) (us.take n)
  | _, _, 0, _ => .nil
  | _, _, _ + 1, .nil => .nil
  | _, _, n + 1, .cons r t => .cons r (Vals.take n t)
theorem Vals.drop : ∀ {xs : List V} {us : List Value} (n : Nat), Vals xs us → Vals (xs.drop n) (us.drop n)
  | _, _, 0, r => r
  | _, _, _ + 1, .nil => .nil
  | _, _, n + 1, .cons _ t => Vals.drop n t
def RelO : Option V → Option Value → Prop
  | some v, some u => RelV v u
  | none, none => True
  | _, _ => False
def KV {κ : Type} : List (κ × V) → List (κ × Value) → Prop := Paired fun (p : κ × V) (q : κ × Value) => p.1 = q.1 ∧ RelV p.2 q.2
def kV : Key → V
  | .inl i => .int i
  | .inr x => .str x
inductive HO where
  /-- a list -/
  | lst (xs : List V)
  /-- a tuple (never changes) -/
  | tup (xs : List V)
  /-- a dict whose keys are ints and texts; one whose keys are tuples of ints and texts (the empty one is both) -/
  | dK (kvs : List (Key × V)) | dT (kvs : List (List Key × V))
  /-- a set of ints: its members, its size -/
  | set (S : Int → Bool) (n : Nat)
  /-- an instance of the class at C, its dict at dx, its attributes -/
  | ins (C dx : Addr) (fs : List (Str × V))
  /-- the dict of the instance at x -/
  | own (x : Addr)
  /-- the dict of an exception -/
  | xd (fs : List (Str × V))
  /-- a bound method, f of x -/
  | met (f x : Addr)
  /-- a range object lo, lo + 1, .. below hi -/
  | rng (lo hi : Int)
  /-- a thing that is known to the object (the script; a dict while a loop walks it): read, never written while it is so -/
  | frz (o : Obj) (u : HO)
  /-- a code object's table -/
  | tbl (ps : Array Value)
  /-- any other thing, by what is true of its one object (a def of one's own: SetO a S n := HO.ext fun h => ..) -/
  | ext (φ : Heap → Prop)
abbrev Hp := Addr → Option HO
def upd (H : Hp) (a : Addr) (o : HO) : Hp := fun b => if b = a then some o else H b
theorem upd_same {H : Hp} {a : Addr} {o : HO} : upd H a o a = some o := by unfold upd; rw [if_pos rfl]
theorem upd_ne {H : Hp} {a b : Addr} {o : HO} (h : b ≠ a) : upd H a o b = H b := by unfold upd; rw [if_neg h]
theorem ne_of {H : Hp} {a b : Addr} {o u : HO} (h : H a = some o) (h' : H b = some u) (d : o ≠ u) : a ≠ b := by
  intro e; subst e; rw [h] at h'; exact d (Option.some.inj h')
theorem ne_of_none {H : Hp} {a b : Addr} {o : HO} (h : H a = some o) (h' : H b = none) : a ≠ b := by
  intro e; subst e; rw [h] at h'; cases h'
section
variable (P : Program) (w : World)
def ObjOk (H : Hp) (h : Heap) (a : Addr) : HO → Prop
  | .lst xs => xs.length ≤ sizeLine ∧ ∃ (its : List Value) (n : Nat), Vals xs its ∧ h.get? a = some { cls := .type "list", data := .seq its.toArray n }
  | .tup xs => xs.length ≤ sizeLine ∧ ∃ its : List Value, Vals xs its ∧ IsTup h a its.toArray
  | .dK kvs => kvs.length ≤ sizeLine ∧ (a == sysModules) = false ∧ ∃ vs, KV kvs vs ∧ h.DictOf (mixKind P w) a vs
  | .dT kvs => kvs.length ≤ sizeLine ∧ (a == sysModules) = false ∧ ∃ xs : List (List Key × Addr × Value),
      Paired (fun (p : List Key × V) (q : List Key × Addr × Value) => p.1 = q.1 ∧ H q.2.1 = some (.tup (p.1.map kV)) ∧ RelV p.2 q.2.2) kvs xs ∧
      ∃ o es ep, h.get? a = some o ∧ o.ExactDict ∧ o.data = .dict es ep ∧ es.toList = xs.map (entryOfKey (tupleKind (mixKind P w))) ∧ (xs.map (·.1)).Nodup
  | .set S n => h.SetOf (intKind P w) a S n
  | .ins C dx fs => H dx = some (.own a) ∧ fs.length ≤ 1000 ∧ dx ≠ a ∧ h.get? a = some (PySem.W.instObj C dx) ∧
      ∃ mA, h.Ns1 dx mA ∧ (∀ f, RelO (fs.lookup f) (mA f)) ∧ PySem.Within mA (fs.map (·.1))
  | .own _ => ∃ o, h.get? a = some o
  | .xd fs => ∃ mA, h.Ns1 a mA ∧ ∀ f, RelO (fs.lookup f) (mA f)
  | .rng lo hi => ∃ t u v, h.get? a = some { cls := .type "range", data := .fields #[.int lo t, .int hi u, .int 1 v] }
  | .frz o u => h.get? a = some o ∧ ObjOk H h a u
  | .tbl ps => h.get? a = some { cls := .none, data := .fields ps }
  | .met f x => h.get? a = some (PySem.W.methodObj (.ref f) (.ref x))
  | .ext φ => φ h ∧ (∃ o, h.get? a = some o) ∧ ∀ h1 h2 : Heap, φ h1 → (∀ o, h1.get? a = some o → h2.get? a = some o) → φ h2
def HOk (H : Hp) (h : Heap) : Prop := ∀ a o, H a = some o → ObjOk P w H h a o
end
section
variable {P : Program} {w : World} {H H' : Hp} {h h' : Heap} {a : Addr} {o : HO}
theorem ObjOk.lt (x : ObjOk P w H h a o) : a < h.objs.size := by
  cases o with
  | lst xs => obtain ⟨_, _, _, _, e⟩ := x; exact Heap.lt_size e
  | tup xs => obtain ⟨_, _, _, p⟩ := x; exact p.lt
  | dK kvs => obtain ⟨_, _, _, _, o, _, _, e, _⟩ := x; exact Heap.lt_size e
  | dT kvs => obtain ⟨_, _, _, _, o, _, _, e, _⟩ := x; exact Heap.lt_size e
  | set S n => obtain ⟨o, _, _, _, e, _⟩ := x; exact Heap.lt_size e
  | ins C dx fs => obtain ⟨_, _, _, e, _⟩ := x; exact Heap.lt_size e
  | own y => obtain ⟨_, e⟩ := x; exact Heap.lt_size e
  | xd fs => obtain ⟨_, ⟨_, _, _, e, _⟩, _⟩ := x; exact Heap.lt_size e
  | rng lo hi => obtain ⟨_, _, _, e⟩ := x; exact Heap.lt_size e
  | frz ob u => obtain ⟨e, _⟩ := x; exact Heap.lt_size e
  | tbl ps => exact Heap.lt_size (show h.get? a = some _ from x)
  | met f y => exact Heap.lt_size (show h.get? a = some _ from x)
  | ext φ => obtain ⟨_, ⟨_, e⟩, _⟩ := x; exact Heap.lt_size e
theorem Paired.mapP {α β : Type} {F G : α → β → Prop} : ∀ {l₁ : List α} {l₂ : List β}, Paired F l₁ l₂ → (∀ a b, F a b → G a b) → Paired G l₁ l₂
  | _, _, .nil, _ => .nil
  | _, _, .cons r t, f => .cons (f _ _ r) (Paired.mapP t f)
theorem ObjOk.stay (x : ObjOk P w H h a o) (k : ∀ b u, (b = a ∨ H b = some (.own a)) → h.get? b = some u → h'.get? b = some u)
    (ho : ∀ b, H b = some (.own a) → H' b = some (.own a)) (ht : ∀ b xs, H b = some (.tup xs) → H' b = some (.tup xs)) : ObjOk P w H' h' a o := by
  induction o with
  | lst xs => obtain ⟨z, its, n, r, e⟩ := x; exact ⟨z, its, n, r, k _ _ (.inl rfl) e⟩
  | tup xs => obtain ⟨z, its, r, ob, e, c⟩ := x; exact ⟨z, its, r, ob, k _ _ (.inl rfl) e, c⟩
  | dK kvs => obtain ⟨z, y, vs, r, ob, es, ep, e, c⟩ := x; exact ⟨z, y, vs, r, ob, es, ep, k _ _ (.inl rfl) e, c⟩
  | dT kvs =>
    obtain ⟨z, y, xs, r, ob, es, ep, e, c⟩ := x
    exact ⟨z, y, xs, Paired.mapP r fun p q z => ⟨z.1, ht _ _ z.2.1, z.2.2⟩, ob, es, ep, k _ _ (.inl rfl) e, c⟩
  | set S n => obtain ⟨ob, es, ep, t, e, c⟩ := x; exact ⟨ob, es, ep, t, k _ _ (.inl rfl) e, c⟩
  | ins C dx fs =>
    obtain ⟨d, z, ne, e, mA, ⟨od, es, ep, e2, c⟩, r⟩ := x
    exact ⟨ho _ d, z, ne, k _ _ (.inl rfl) e, mA, ⟨od, es, ep, k _ _ (.inr d) e2, c⟩, r⟩
  | own y => obtain ⟨ob, e⟩ := x; exact ⟨ob, k _ _ (.inl rfl) e⟩
  | xd fs => obtain ⟨mA, ⟨od, es, ep, e, c⟩, r⟩ := x; exact ⟨mA, ⟨od, es, ep, k _ _ (.inl rfl) e, c⟩, r⟩
  | rng lo hi => obtain ⟨t, u, v, e⟩ := x; exact ⟨t, u, v, k _ _ (.inl rfl) e⟩
  | frz ob u ih => obtain ⟨e, q⟩ := x; exact ⟨k _ _ (.inl rfl) e, ih q⟩
  | tbl ps =>
    have e : h.get? a = some { cls := .none, data := .fields ps } := x
    show h'.get? a = some { cls := .none, data := .fields ps }
    exact k a _ (.inl rfl) e
  | met f y =>
    have e : h.get? a = some (PySem.W.methodObj (.ref f) (.ref y)) := x
    show h'.get? a = some (PySem.W.methodObj (.ref f) (.ref y))
    exact k a _ (.inl rfl) e
  | ext φ => obtain ⟨p, ⟨o, e⟩, st⟩ := x; exact ⟨st _ _ p fun o q => k _ _ (.inl rfl) q, ⟨o, k _ _ (.inl rfl) e⟩, st⟩
theorem HOk.lt (x : HOk P w H h) (e : H a = some o) : a < h.objs.size := (x a o e).lt
theorem HOk.fresh (x : HOk P w H h) (e : h.objs.size ≤ a) : H a = none := by
  cases q : H a with
  | none => rfl
  | some u => exact absurd (Nat.lt_of_lt_of_le (x.lt q) e) (Nat.lt_irrefl _)
theorem HOk.kept (x : HOk P w H h) (k : ∀ b u, h.get? b = some u → h'.get? b = some u) : HOk P w H h' := fun a o e =>
  (x a o e).stay (fun b u _ q => k b u q) (fun _ q => q) fun _ _ q => q
theorem HOk.laid (x : HOk P w H h) (k : ∀ b u, h.get? b = some u → h'.get? b = some u) (hp : h.objs.size ≤ a) (new : ObjOk P w (upd H a o) h' a o) : HOk P w (upd H a o) h' := fun b u e => by
  have hn := x.fresh hp
  by_cases hb : b = a
  · subst hb; rw [upd_same] at e; cases e; exact new
  · rw [upd_ne hb] at e
    exact (x b u e).stay (fun c v _ q => k c v q) (fun c q => by rw [upd_ne (ne_of_none q hn)]; exact q) fun c xs q => by rw [upd_ne (ne_of_none q hn)]; exact q
end
def Rd (H : Hp) (a : Addr) (u : HO) : Prop := H a = some u ∨ ∃ o, H a = some (.frz o u)
theorem Rd.of {H : Hp} {a : Addr} {u : HO} (h : H a = some u) : Rd H a u := .inl h
theorem Rd.ok {P : Program} {w : World} {H : Hp} {h : Heap} {a : Addr} {u : HO} (r : Rd H a u) (x : HOk P w H h) : ObjOk P w H h a u := by
  rcases r with r | ⟨o, r⟩
  · exact x a u r
  · obtain ⟨_, q⟩ := x a _ r
    exact q
def Mut : Option HO → Prop
  | some (.lst _) => True
  | some (.dK _) => True
  | some (.dT _) => True
  | some (.set _ _) => True
  | some (.ins _ _ _) => True
  | some (.ext _) => True
  | _ => False
section
variable {P : Program} {w : World} {H : Hp} {h h' : Heap} {x e : Addr} {o' : HO}
theorem HOk.write (ok : HOk P w H h) (mu : Mut (H x)) (he : e = x ∨ H e = some (.own x)) (k : ∀ b u, b ≠ e → h.get? b = some u → h'.get? b = some u) (heo : ∃ u, h'.get? e = some u)
    (new : ObjOk P w (upd H x o') h' x o') : HOk P w (upd H x o') h' := fun b u q => by
  have nown : ∀ c y, H c = some (.own y) → c ≠ x := fun c y r z => by subst z; rw [r] at mu; exact mu
  have ntup : ∀ c xs, H c = some (.tup xs) → c ≠ x := fun c xs r z => by subst z; rw [r] at mu; exact mu
  by_cases hb : b = x
  · subst hb; rw [upd_same] at q; cases q; exact new
  · rw [upd_ne hb] at q
    by_cases hbe : b = e
    · have q' : H b = some (.own x) := by
        rcases he with z | z
        · exact absurd (hbe.trans z) hb
        · rw [hbe]; exact z
      rw [q] at q'; cases q'
      obtain ⟨v, hv⟩ := heo
      exact ⟨v, by rw [hbe]; exact hv⟩
    · refine (ok b u q).stay (fun c v hc r => k c v ?_ r) (fun c r => by rw [upd_ne (nown c b r)]; exact r) fun c xs r => by rw [upd_ne (ntup c xs r)]; exact r
      rcases hc with rfl | hc
      · exact hbe
      · rintro rfl
        rcases he with z | z
        · exact nown c b hc z
        · rw [hc] at z; cases z; exact hb rfl
end
structure Un (fs ex : List Addr) (H H' : Hp) (h h' : Heap) : Prop where
  keep : ∀ b o, h.get? b = some o → H b = none → b ∉ fs → b ∉ ex → h'.get? b = some o
  slot : ∀ b o, h.get? b = some o → H b = none → b ∈ fs → b ∉ ex → ∃ sl, h'.get? b = some { o with slots := sl }
  free : ∀ b o, h.get? b = some o → H b = none → b ∉ ex → H' b = none
  there : ∀ b o, h.get? b = some o → b ∉ ex → ∃ o', h'.get? b = some o'
  tups : ∀ b xs, H b = some (.tup xs) → H' b = some (.tup xs)
  frzs : ∀ b o u, H b = some (.frz o u) → H' b = some (.frz o u)
  tbls : ∀ b ps, H b = some (.tbl ps) → ∃ more, H' b = some (.tbl (ps ++ more))
section
variable {fs fs' ex ex' : List Addr} {H H1 H2 : Hp} {h h1 h2 h' : Heap} {a x e : Addr} {o : HO}
theorem Un.any (u : Un fs ex H H1 h h1) {b : Addr} {ob : Obj} (q : h.get? b = some ob) (n : H b = none) (hx : b ∉ ex) : ∃ sl, h1.get? b = some { ob with slots := sl } := by
  by_cases hb : b ∈ fs
  · exact u.slot b ob q n hb hx
  · exact ⟨ob.slots, u.keep b ob q n hb hx⟩
theorem Un.kept (k : ∀ b u, h.get? b = some u → h'.get? b = some u) : Un fs ex H H h h' :=
  ⟨fun b ob q _ _ _ => k b ob q, fun b ob q _ _ _ => ⟨ob.slots, k b ob q⟩, fun _ _ _ n _ => n, fun b ob q _ => ⟨ob, k b ob q⟩, fun _ _ q => q, fun _ _ _ q => q, fun _ ps q => ⟨#[], by rw [q]; simp⟩⟩
theorem Un.refl : Un fs ex H H h h := Un.kept fun _ _ q => q
theorem Un.laid (k : ∀ b u, h.get? b = some u → h'.get? b = some u) (hp : h.objs.size ≤ a) (hn : H a = none) : Un fs ex H (upd H a o) h h' where
  keep := fun b u q _ _ _ => k b u q
  slot := fun b u q _ _ _ => ⟨u.slots, k b u q⟩
  free := fun b u q n _ => by rw [upd_ne (Nat.ne_of_lt (Nat.lt_of_lt_of_le (Heap.lt_size q) hp))]; exact n
  there := fun b u q _ => ⟨u, k b u q⟩
  tups := fun b xs q => by rw [upd_ne (ne_of_none q hn)]; exact q
  frzs := fun b u xs q => by rw [upd_ne (ne_of_none q hn)]; exact q
  tbls := fun b ps q => ⟨#[], by rw [upd_ne (ne_of_none q hn), q]; simp⟩
theorem Un.write (mu : Mut (H x)) (he : e = x ∨ H e = some (.own x)) (k : ∀ b u, b ≠ e → h.get? b = some u → h'.get? b = some u) (heo : ∃ u, h'.get? e = some u) : Un fs ex H (upd H x o) h h' := by
  have hx : ∀ b, H b = none → b ≠ x := fun b n z => by subst z; rw [n] at mu; exact mu
  have hb : ∀ b, H b = none → b ≠ e := fun b n z => by
    subst z
    rcases he with r | r
    · exact hx b n r
    · rw [n] at r; cases r
  have hm : ∀ b u, H b = some u → ¬ Mut (some u) → b ≠ x := fun b u q nm z => by subst z; rw [q] at mu; exact nm mu
  refine ⟨fun b u q n _ _ => k b u (hb b n) q, fun b u q n _ _ => ⟨u.slots, k b u (hb b n) q⟩, fun b u q n _ => by rw [upd_ne (hx b n)]; exact n, fun b u q _ => ?_,
    fun b xs q => by rw [upd_ne (hm b _ q fun z => z)]; exact q, fun b u xs q => by rw [upd_ne (hm b _ q fun z => z)]; exact q, fun b ps q => ⟨#[], by rw [upd_ne (hm b _ q fun z => z), q]; simp⟩⟩
  by_cases hbe : b = e
  · subst hbe; exact heo
  · exact ⟨u, k b u hbe q⟩
end
def trk (h : Heap) (H : Hp) : List Addr := (List.range h.objs.size).filter fun a => (H a).isSome
def hidT (h : Heap) (H : Hp) : Heap := PySem.W.hideAll h (trk h H)
theorem hidT_size (h : Heap) (H : Hp) : (hidT h H).objs.size = h.objs.size := PySem.W.hideAll_size _ _
theorem hidT_get {h : Heap} {H : Hp} {b : Addr} {o : Obj} (e : h.get? b = some o) (n : H b = none) : (hidT h H).get? b = some o :=
  PySem.W.hideAll_get _ e fun hm => by
    have q : (H b).isSome = true := (List.mem_filter.mp hm).2
    rw [n] at q; simp at q
theorem of_hidT {h : Heap} {H : Hp} {b : Addr} {o : Obj} (e : (hidT h H).get? b = some o) : h.get? b = some o ∧ H b = none := by
  have e' : h.get? b = some o := PySem.W.of_hideAll (trk h H) e
  refine ⟨e', ?_⟩
  cases q : H b with
  | none => rfl
  | some x =>
    have hm : b ∈ trk h H := List.mem_filter.mpr ⟨List.mem_range.mpr (Heap.lt_size e'), by simp [q]⟩
    have z : (hidT h H).get? b = none := PySem.W.hideAll_none (trk h H) hm
    rw [z] at e; cases e
structure Mod (K : PySem.W.Frag) (mg : Str → Option Value) (base : Heap) : Prop where
  kin : K.In base
  glob : base.Ns mainGlobals mg
  blt : ∃ mb, base.Ns builtinsNs mb ∧ ∀ x : Str, x ≠ "__name__" → mb x = bootBuiltins x
  nolimit : base.NoLimit
structure Cx where
  prog : Program
  w : World
  K : PySem.W.Frag
  mg : Str → Option Value
  base : Heap
  A : Around
  N : List Str
  s₀ : Shared
  H₀ : Hp
  env : Env
  outer : List Env
  stack : List Env
  ex : List Addr
  fn : Str → Bool
  calm : Bool
  pn : List (Addr × Obj)
  xe : Value → Shared → Prop
def frs (l : List Env) : List Addr := l.filterMap (·.frame)
abbrev Cx.fs (X : Cx) : List Addr := frs X.outer
def Vis (sc : Scope) (x : Str) : Prop := sc.names.lookup x = some .local ∨ sc.names.lookup x = some .cell ∨ sc.names.lookup x = some .free
def Loc (sc : Scope) (x : Str) : Prop := sc.names.lookup x = some .local ∨ sc.names.lookup x = some .cell
def Look (env : Env) (h : Heap) (m : Str → Option Value) (x : Str) (u : Value) : Prop :=
  (env.kindOf x = some .local ∧ m x = some u) ∨ ((env.kindOf x = some .cell ∨ env.kindOf x = some .free) ∧ ∃ c, env.cells.lookup x = some c ∧ h.IsCell c (some u))
structure Cx.Ok (X : Cx) : Prop where
  mod : Mod X.K X.mg X.base
  kind : X.env.scope.kind = .function
  glob : X.env.globals = mainGlobals
  blt : X.env.builtins = builtinsNs
  above : X.s₀.heap.objs.size ≤ X.env.locals
  inj : ∀ x y c, X.env.cells.lookup x = some c → X.env.cells.lookup y = some c → x = y
  has : ∀ x, (X.env.kindOf x = some .cell ∨ X.env.kindOf x = some .free) → ∃ c, X.env.cells.lookup x = some c
  cab : ∀ x c, X.fn x = true → X.env.cells.lookup x = some c → X.s₀.heap.objs.size ≤ c
  hd : X.calm = true → X.A.handled = none
  frames : X.A.frames = some X.stack
  stk : X.stack = X.outer ∨ (X.stack = X.env :: X.outer ∧ X.env.frame = some X.env.locals)
  exf : ∀ b ∈ X.ex, b ≠ X.env.locals ∧ ∀ x c, X.env.cells.lookup x = some c → c ≠ b
  bs : ∀ b o, X.base.get? b = some o → X.s₀.heap.get? b = some o ∧ X.H₀ b = none
  bsz : X.base.objs.size ≤ X.s₀.heap.objs.size
  noex : ∀ b o, X.base.get? b = some o → b ∉ X.ex
  exfs : ∀ b ∈ X.ex, b ∉ X.fs
  funs : X.s₀.heap.FunFrames X.base X.outer
  frf : ∀ b ∈ X.fs, X.H₀ b = none
structure Inv (X : Cx) (pins : List (Addr × Obj)) (σ : List (Option V)) (H : Hp) (s : Shared) : Prop where
  ok : X.Ok
  os : s.os = X.s₀.os
  bare : AllBare s.gens
  base : Un X.fs X.ex X.H₀ H X.s₀.heap s.heap
  loc : ∃ m, s.heap.Ns X.env.locals m ∧ ∀ (i : Nat) (x : Str) (v : V), X.N[i]? = some x → σ[i]? = some (some v) → Vis X.env.scope x → ∃ u, RelV v u ∧ Look X.env s.heap m x u
  cell : ∀ x c, X.env.cells.lookup x = some c → ∃ v, s.heap.IsCell c v
  free : H X.env.locals = none
  freeC : ∀ x c, X.env.cells.lookup x = some c → H c = none
  pin : ∀ p ∈ X.pn ++ pins, s.heap.get? p.1 = some p.2 ∧ H p.1 = none ∧ p.1 ≠ X.env.locals ∧ p.1 ∉ X.fs ∧ ∀ v, p.2.data ≠ .cell v
  hok : HOk X.prog X.w H s.heap
  len : σ.length = X.N.length
section
variable {X : Cx} {pins : List (Addr × Obj)} {σ : List (Option V)} {H H' : Hp} {s : Shared} {h' : Heap}
theorem Cx.Ok.nofr (ok : X.Ok) {b : Addr} {o : Obj} (e : X.base.get? b = some o) : b ∉ X.fs := fun hb => by
  have := (ok.funs.mem hb).1
  rw [e] at this; cases this
theorem Inv.bs (I : Inv X pins σ H s) : ∀ b o, X.base.get? b = some o → s.heap.get? b = some o ∧ H b = none := fun b o e =>
  ⟨I.base.keep b o (I.ok.bs b o e).1 (I.ok.bs b o e).2 (I.ok.nofr e) (I.ok.noex b o e), I.base.free b o (I.ok.bs b o e).1 (I.ok.bs b o e).2 (I.ok.noex b o e)⟩
theorem Inv.bk (I : Inv X pins σ H s) : ∀ b o, X.base.get? b = some o → s.heap.get? b = some o := fun b o e => (I.bs b o e).1
theorem Inv.mod (I : Inv X pins σ H s) : Mod X.K X.mg X.base := I.ok.mod
theorem Inv.kIn (I : Inv X pins σ H s) : X.K.In s.heap := I.ok.mod.kin.keeps I.bk
theorem Inv.fr (I : Inv X pins σ H s) : ∃ m, Fr X.base X.env.locals s.heap m :=
  let ⟨m, hn, _⟩ := I.loc
  ⟨m, hn, I.bk, Nat.le_trans I.ok.bsz I.ok.above⟩
theorem Inv.lt (I : Inv X pins σ H s) : X.env.locals < s.heap.objs.size := let ⟨_, hn, _⟩ := I.loc; hn.lt
theorem Inv.sz (I : Inv X pins σ H s) : X.s₀.heap.objs.size ≤ s.heap.objs.size := Nat.le_trans I.ok.above (Nat.le_of_lt I.lt)
theorem Inv.nofs (I : Inv X pins σ H s) {a : Addr} (h : s.heap.objs.size ≤ a) : a ∉ X.fs := fun hb => by
  obtain ⟨_, o, ho, _⟩ := I.ok.funs.mem hb
  exact absurd (Nat.lt_of_lt_of_le (Heap.lt_size ho) (Nat.le_trans I.sz h)) (Nat.lt_irrefl _)
theorem Inv.cne (I : Inv X pins σ H s) : ∀ x c, X.env.cells.lookup x = some c → c ≠ X.env.locals := fun x c e z => by
  obtain ⟨v, o, ho, hd⟩ := I.cell x c e
  obtain ⟨m, ⟨o', es, ep, ho', hd', _⟩, _⟩ := I.loc
  rw [z, ho'] at ho; cases ho; rw [hd'] at hd; cases hd
theorem Inv.funs (I : Inv X pins σ H s) : s.heap.FunFrames X.base X.outer := by
  have all : ∀ (l : List Env), (∀ b ∈ frs l, b ∈ X.fs) → X.s₀.heap.FunFrames X.base l → s.heap.FunFrames X.base l := by
    intro l
    induction l with
    | nil => intro _ _; trivial
    | cons env r ih =>
      intro hs hl
      obtain ⟨hk, ⟨L, o, hf, hn, ho, hd⟩, hr⟩ := hl
      have hL : L ∈ X.fs := hs L (by unfold frs; rw [List.filterMap_cons, hf]; exact List.mem_cons_self)
      obtain ⟨sl, e⟩ := I.base.slot L o ho (I.ok.frf L hL) hL fun z => I.ok.exfs L z hL
      exact ⟨hk, ⟨L, _, hf, hn, e, hd⟩, ih (fun b hb => hs b (by unfold frs; rw [List.filterMap_cons, hf]; exact List.mem_cons_of_mem _ hb)) hr⟩
  exact all X.outer (fun _ hb => hb) I.ok.funs
theorem Inv.stack (I : Inv X pins σ H s) : s.heap.FunFrames X.base X.stack := by
  rcases I.ok.stk with e | ⟨e, hf⟩
  · rw [e]; exact I.funs
  · rw [e]
    obtain ⟨m, hn, _⟩ := I.loc
    refine .cons (by rw [I.ok.kind]; decide) hf hn ?_ I.funs
    exact Heap.get?_none_of_le (Nat.le_trans I.ok.bsz I.ok.above)
theorem Inv.stkSub (I : Inv X pins σ H s) : ∀ b ∈ frs X.stack, b ∈ X.env.locals :: X.fs := fun b hb => by
  rcases I.ok.stk with e | ⟨e, hf⟩
  · rw [e] at hb; exact List.mem_cons_of_mem _ hb
  · rw [e] at hb
    unfold frs at hb
    rw [List.filterMap_cons, hf] at hb
    exact hb
theorem Inv.stkFree (I : Inv X pins σ H s) : ∀ b ∈ frs X.stack, H b = none := fun b hb => by
  rcases List.mem_cons.mp (I.stkSub b hb) with e | hb
  · rw [e]; exact I.free
  · obtain ⟨_, o, ho, _⟩ := I.ok.funs.mem hb
    exact I.base.free b o ho (I.ok.frf b hb) fun z => I.ok.exfs b z hb
theorem Inv.step {g' : Array GenState} {t' : Nat} {d' : Drawn} {ch : List Addr} (I : Inv X pins σ H s)
    (hch : ∀ b ∈ ch, (b ∈ X.ex ∨ X.s₀.heap.objs.size ≤ b) ∧ b ≠ X.env.locals ∧ (∀ x c, X.env.cells.lookup x = some c → c ≠ b) ∧ ∀ p ∈ X.pn ++ pins, p.1 ≠ b)
    (keep : ∀ b o, b ≠ X.env.locals → b ∉ X.fs → b ∉ ch → s.heap.get? b = some o → H b = none → h'.get? b = some o)
    (slot : ∀ b o, b ≠ X.env.locals → b ∈ X.fs → b ∉ ch → s.heap.get? b = some o → H b = none → ∃ sl, h'.get? b = some { o with slots := sl }) (free : ∀ b o, b ∉ ch → s.heap.get? b = some o → H b = none → H' b = none)
    (there : ∀ b o, b ∉ ch → s.heap.get? b = some o → ∃ o', h'.get? b = some o')
    (tups : ∀ b xs, H b = some (.tup xs) → H' b = some (.tup xs)) (frzs : ∀ b o u, H b = some (.frz o u) → H' b = some (.frz o u)) (tbls : ∀ b ps, H b = some (.tbl ps) → ∃ more, H' b = some (.tbl (ps ++ more)))
    (ns : ∀ m, s.heap.Ns X.env.locals m → h'.Ns X.env.locals m) (hok : HOk X.prog X.w H' h') (hg : AllBare g') :
    Inv X pins σ H' { s with heap := h', gens := g', drawn := d', toks := t' } := by
  have neL : ∀ b o, X.s₀.heap.get? b = some o → b ≠ X.env.locals := fun b o e => Nat.ne_of_lt (Nat.lt_of_lt_of_le (Heap.lt_size e) I.ok.above)
  have neC : ∀ b o, X.s₀.heap.get? b = some o → b ∉ X.ex → b ∉ ch := fun b o e hx hb => by
    rcases (hch b hb).1 with z | z
    · exact hx z
    · exact absurd (Nat.lt_of_lt_of_le (Heap.lt_size e) z) (Nat.lt_irrefl _)
  have cellK : ∀ x c, X.env.cells.lookup x = some c → ∀ v, s.heap.IsCell c v → h'.IsCell c v := fun x c e v ⟨o, ho, hd⟩ => by
    have nch : c ∉ ch := fun z => (hch c z).2.2.1 x c e rfl
    by_cases hc : c ∈ X.fs
    · obtain ⟨sl, q⟩ := slot c o (I.cne x c e) hc nch ho (I.freeC x c e)
      exact ⟨_, q, hd⟩
    · exact ⟨o, keep c o (I.cne x c e) hc nch ho (I.freeC x c e), hd⟩
  refine ⟨I.ok, I.os, hg, ⟨fun b o e n hb hx => ?_, fun b o e n hb hx => ?_, fun b o e n hx => ?_, fun b o e hx => ?_, fun b xs e => tups b xs (I.base.tups b xs e), fun b o xs e => frzs b o xs (I.base.frzs b o xs e), fun b ps e => ?_⟩, ?_, fun x c e => ?_, ?_, fun x c e => ?_, fun p hp => ?_, hok, I.len⟩
  · exact keep b o (neL b o e) hb (neC b o e hx) (I.base.keep b o e n hb hx) (I.base.free b o e n hx)
  · obtain ⟨sl, e1⟩ := I.base.slot b o e n hb hx
    obtain ⟨sl', e2⟩ := slot b _ (neL b o e) hb (neC b o e hx) e1 (I.base.free b o e n hx)
    exact ⟨sl', e2⟩
  · obtain ⟨o', e1⟩ := I.base.there b o e hx
    exact free b o' (neC b o e hx) e1 (I.base.free b o e n hx)
  · obtain ⟨o', e1⟩ := I.base.there b o e hx
    exact there b o' (neC b o e hx) e1
  · obtain ⟨m1, e1⟩ := I.base.tbls b ps e
    obtain ⟨m2, e2⟩ := tbls b _ e1
    exact ⟨m1 ++ m2, by rw [e2, Array.append_assoc]⟩
  · obtain ⟨m, hn, hl⟩ := I.loc
    refine ⟨m, ns m hn, fun i x v e1 e2 e3 => ?_⟩
    obtain ⟨u, r, l⟩ := hl i x v e1 e2 e3
    refine ⟨u, r, ?_⟩
    rcases l with l | ⟨k, c, e, z⟩
    · exact .inl l
    · exact .inr ⟨k, c, e, cellK x c e _ z⟩
  · obtain ⟨v, z⟩ := I.cell x c e
    exact ⟨v, cellK x c e v z⟩
  · obtain ⟨m, ⟨o, _, _, ho, _⟩, _⟩ := I.loc
    exact free _ o (fun z => (hch _ z).2.1 rfl) ho I.free
  · obtain ⟨v, o, ho, hd⟩ := I.cell x c e
    exact free c o (fun z => (hch c z).2.2.1 x c e rfl) ho (I.freeC x c e)
  · obtain ⟨e, n, ne, nf, d⟩ := I.pin p hp
    have nch : p.1 ∉ ch := fun z => (hch p.1 z).2.2.2 p hp rfl
    exact ⟨keep p.1 p.2 ne nf nch e n, free p.1 p.2 nch e n, ne, nf, d⟩
theorem Inv.un {t' : Nat} (I : Inv X pins σ H s) (u : Un X.fs [] H H' s.heap h') (hok : HOk X.prog X.w H' h') : Inv X pins σ H' { s with heap := h', toks := t' } := by
  obtain ⟨m, ⟨o, es, ep, ho, r⟩, _⟩ := id I.loc
  obtain ⟨sl, hL⟩ := u.any ho I.free (by simp)
  exact I.step (g' := s.gens) (d' := s.drawn) (ch := []) (fun _ z => nomatch z) (fun b o _ hb _ e n => u.keep b o e n hb (by simp)) (fun b o _ hb _ e n => u.slot b o e n hb (by simp)) (fun b o _ e n => u.free b o e n (by simp)) (fun b o _ e => u.there b o e (by simp)) u.tups u.frzs u.tbls (fun m' hm => by
    obtain ⟨o', es', ep', ho', r'⟩ := hm
    rw [ho] at ho'; cases ho'
    exact ⟨_, es', ep', hL, r'⟩) hok I.bare
theorem Inv.call {g' : Array GenState} {t' : Nat} {d' : Drawn} {ch : List Addr} (I : Inv X pins σ H s) (u : Un (frs X.stack) ch H H' s.heap h') (hok : HOk X.prog X.w H' h') (hg : AllBare g')
    (hch : ∀ b ∈ ch, (b ∈ X.ex ∨ X.s₀.heap.objs.size ≤ b) ∧ b ≠ X.env.locals ∧ (∀ x c, X.env.cells.lookup x = some c → c ≠ b) ∧ ∀ p ∈ X.pn ++ pins, p.1 ≠ b) :
    Inv X pins σ H' { s with heap := h', gens := g', drawn := d', toks := t' } := by
  obtain ⟨m, ⟨o, es, ep, ho, r⟩, _⟩ := id I.loc
  obtain ⟨sl, hL⟩ := u.any ho I.free fun z => (hch _ z).2.1 rfl
  exact I.step (ch := ch) hch (fun b o hL hb hc e n => u.keep b o e n (fun z => (List.mem_cons.mp (I.stkSub b z)).elim hL hb) hc) (fun b o _ _ hc e n => u.any e n hc) (fun b o hc e n => u.free b o e n hc) (fun b o hc e => u.there b o e hc) u.tups u.frzs u.tbls (fun m' hm => by
    obtain ⟨o', es', ep', ho', r'⟩ := hm
    rw [ho] at ho'; cases ho'
    exact ⟨_, es', ep', hL, r'⟩) hok hg
theorem Inv.turned {t' : Nat} {it : Addr} (I : Inv X pins σ H s) (k : ∀ b o, b ≠ it → s.heap.get? b = some o → h'.get? b = some o) (hn : H it = none) (hL : it ≠ X.env.locals)
    (h1 : it ∈ X.ex ∨ X.s₀.heap.objs.size ≤ it) (h2 : ∀ x c, X.env.cells.lookup x = some c → c ≠ it) (h3 : ∀ p ∈ X.pn ++ pins, p.1 ≠ it) : Inv X pins σ H { s with heap := h', toks := t' } := by
  have nit : ∀ b u, H b = some u → b ≠ it := fun b u e z => by rw [z, hn] at e; cases e
  refine I.step (g' := s.gens) (d' := s.drawn) (ch := [it]) (fun b hb => ?_) (fun b o _ _ hc e _ => k b o (fun z => hc (by simp [z])) e) (fun b o _ _ hc e _ => ⟨o.slots, k b o (fun z => hc (by simp [z])) e⟩) (fun _ _ _ _ n => n)
    (fun b o hc e => ⟨o, k b o (fun z => hc (by simp [z])) e⟩) (fun _ _ e => e) (fun _ _ _ e => e) (fun b ps e => ⟨#[], by rw [e]; simp⟩) (fun m hm => ?_) (fun b u e => ?_) I.bare
  · have e : b = it := by simpa using hb
    subst e
    exact ⟨h1, hL, h2, h3⟩
  · obtain ⟨o, es, ep, ho, r⟩ := hm
    exact ⟨o, es, ep, k _ o (Ne.symm hL) ho, r⟩
  · refine (I.hok b u e).stay (fun c v hc q => k c v ?_ q) (fun _ q => q) fun _ _ q => q
    rcases hc with z | z
    · rw [z]; exact nit b u e
    · exact nit c _ z
theorem Inv.tok (I : Inv X pins σ H s) (t : Nat) : Inv X pins σ H { s with toks := t } := I.un (h' := s.heap) (t' := t) Un.refl I.hok
theorem Inv.kept {t' : Nat} (I : Inv X pins σ H s) (k : ∀ b u, s.heap.get? b = some u → h'.get? b = some u) : Inv X pins σ H { s with heap := h', toks := t' } := I.un (Un.kept k) (I.hok.kept k)
theorem Inv.laid {a : Addr} {o : HO} {t' : Nat} (I : Inv X pins σ H s) (k : ∀ b u, s.heap.get? b = some u → h'.get? b = some u) (hp : s.heap.objs.size ≤ a) (new : ObjOk X.prog X.w (upd H a o) h' a o) :
    Inv X pins σ (upd H a o) { s with heap := h', toks := t' } := I.un (Un.laid k hp (I.hok.fresh hp)) (I.hok.laid k hp new)
theorem Inv.write {x e : Addr} {o : HO} {t' : Nat} (I : Inv X pins σ H s) (mu : Mut (H x)) (he : e = x ∨ H e = some (.own x)) (k : ∀ b u, b ≠ e → s.heap.get? b = some u → h'.get? b = some u) (heo : ∃ u, h'.get? e = some u)
    (new : ObjOk X.prog X.w (upd H x o) h' x o) : Inv X pins σ (upd H x o) { s with heap := h', toks := t' } := I.un (Un.write mu he k heo) (I.hok.write mu he k heo new)
theorem Inv.weak {σ' : List (Option V)} (I : Inv X pins σ H s) (hl : σ'.length = σ.length) (w : ∀ (i : Nat) v, σ'[i]? = some (some v) → σ[i]? = some (some v)) : Inv X pins σ' H s :=
  ⟨I.ok, I.os, I.bare, I.base, let ⟨m, hn, hl'⟩ := I.loc; ⟨m, hn, fun i x v e1 e2 e3 => hl' i x v e1 (w i v e2) e3⟩, I.cell, I.free, I.freeC, I.pin, I.hok, hl.trans I.len⟩
theorem Inv.pins_of {pins' : List (Addr × Obj)} (I : Inv X pins σ H s) (h : ∀ p ∈ pins', s.heap.get? p.1 = some p.2 ∧ H p.1 = none ∧ p.1 ≠ X.env.locals ∧ p.1 ∉ X.fs ∧ ∀ v, p.2.data ≠ .cell v) : Inv X pins' σ H s :=
  ⟨I.ok, I.os, I.bare, I.base, I.loc, I.cell, I.free, I.freeC, fun p hp => (List.mem_append.mp hp).elim (fun z => I.pin p (List.mem_append_left _ z)) (h p), I.hok, I.len⟩
theorem nodup_ix {N : List Str} (hN : N.Nodup) {i j : Nat} {x : Str} (a : N[i]? = some x) (b : N[j]? = some x) : i = j := by
  obtain ⟨h1, e1⟩ := List.getElem?_eq_some_iff.mp a
  obtain ⟨h2, e2⟩ := List.getElem?_eq_some_iff.mp b
  exact (List.getElem_inj hN).mp (e1.trans e2.symm)
theorem store_ok2 {M : Model} {A : Around} {E : Value → Shared → Prop} {i : Nat} {x : Str} {v : V} {u : Value} {Q : Unit → Shared → Prop} (I : Inv X pins σ H s) (hN : X.N.Nodup) (hi : X.N[i]? = some x) (hx : Loc X.env.scope x) (r : RelV v u)
    (h : ∀ s', Inv X pins (σ.set i (some v)) H s' → (∃ a, Heap.SameBut a s.heap s'.heap ∧ (a = X.env.locals ∨ X.env.cells.lookup x = some a)) → Q () s') (hf : X.fn x = true ∨ X.env.scope.names.lookup x = some .local := by first | exact .inl rfl | exact .inr rfl | assumption) : wpAny M A (storeName X.env x u) Q E s := by
  obtain ⟨m, hn, hl⟩ := id I.loc
  have hcls : (X.env.scope.kind == .class || (X.env.scope.kind == .module && X.env.locals != X.env.globals)) = false := by rw [I.ok.kind]; rfl
  have hiσ : i < σ.length := by rw [I.len]; exact (List.getElem?_eq_some_iff.mp hi).1
  have cne := I.cne
  have tracked : ∀ {a : Addr} {h' : Heap}, (∃ o, s.heap.get? a = some o ∧ H a = none) → Heap.SameBut a s.heap h' → HOk X.prog X.w H h' := fun {a h'} ha hs b ob e => by
    obtain ⟨_, _, hfree⟩ := ha
    refine (I.hok b ob e).stay (fun c w' hc q => (hs.2 c ?_).trans q) (fun _ q => q) fun _ _ q => q
    rintro rfl
    rcases hc with rfl | hc
    · rw [hfree] at e; cases e
    · rw [hfree] at hc; cases hc
  rcases hx with hk | hk
  · refine wpAny_storeName_local hk hn (fun h' hn' hs => ?_) hcls
    obtain ⟨oL, _, _, hoL, _⟩ := id hn
    refine h _ ⟨I.ok, I.os, I.bare, ⟨fun b o e n hb hx => ?_, fun b o e n hb hx => ?_, I.base.free, fun b o e hx => ?_, I.base.tups, I.base.frzs, I.base.tbls⟩, ⟨_, hn', fun j y v' e1 e2 e3 => ?_⟩, fun y c e => ?_, I.free, I.freeC, fun p hp => ?_, tracked ⟨oL, hoL, I.free⟩ hs, by simpa using I.len⟩ ⟨_, hs, .inl rfl⟩
    · exact (hs.2 b (Nat.ne_of_lt (Nat.lt_of_lt_of_le (Heap.lt_size e) I.ok.above))).trans (I.base.keep b o e n hb hx)
    · obtain ⟨sl, e1⟩ := I.base.slot b o e n hb hx
      exact ⟨sl, (hs.2 b (Nat.ne_of_lt (Nat.lt_of_lt_of_le (Heap.lt_size e) I.ok.above))).trans e1⟩
    · obtain ⟨o', e1⟩ := I.base.there b o e hx
      exact ⟨o', (hs.2 b (Nat.ne_of_lt (Nat.lt_of_lt_of_le (Heap.lt_size e) I.ok.above))).trans e1⟩
    · by_cases hj : j = i
      · subst hj
        rw [hi] at e1; cases e1
        rw [List.getElem?_set_self hiσ] at e2
        cases e2
        exact ⟨u, r, .inl ⟨hk, by simp⟩⟩
      · rw [List.getElem?_set_ne (Ne.symm hj)] at e2
        obtain ⟨u', r', q⟩ := hl j y v' e1 e2 e3
        refine ⟨u', r', ?_⟩
        rcases q with ⟨k, e⟩ | ⟨k, c, e, z⟩
        · refine .inl ⟨k, ?_⟩
          have : y ≠ x := fun e => hj (nodup_ix hN e1 (e ▸ hi))
          simp [this, e]
        · exact .inr ⟨k, c, e, z.sameBut hs (cne y c e)⟩
    · obtain ⟨w', z⟩ := I.cell y c e
      exact ⟨w', z.sameBut hs (cne y c e)⟩
    · obtain ⟨e, n, ne, nf, d⟩ := I.pin p hp
      exact ⟨(hs.2 p.1 ne).trans e, n, ne, nf, d⟩
  · have hfn : X.fn x = true := by
      rcases hf with z | z
      · exact z
      · rw [z] at hk; cases hk
    obtain ⟨c, hc⟩ := I.ok.has x (.inl hk)
    obtain ⟨w', z⟩ := I.cell x c hc
    refine wpAny_storeName_cell I.ok.kind hk hc z (fun h' hc' hs => ?_)
    obtain ⟨oc, hoc, hocd⟩ := id z
    refine h { s with heap := h' } ⟨I.ok, I.os, I.bare, ⟨fun b o e n hb hx => ?_, fun b o e n hb hx => ?_, I.base.free, fun b o e hx => ?_, I.base.tups, I.base.frzs, I.base.tbls⟩, ⟨m, hn.sameBut hs (Ne.symm (cne x c hc)), fun j y v' e1 e2 e3 => ?_⟩, fun y c' e => ?_, I.free, I.freeC, fun p hp => ?_, tracked ⟨oc, hoc, I.freeC x c hc⟩ hs, by simpa using I.len⟩ ⟨c, hs, .inr hc⟩
    · exact (hs.2 b (Nat.ne_of_lt (Nat.lt_of_lt_of_le (Heap.lt_size e) (I.ok.cab x c hfn hc)))).trans (I.base.keep b o e n hb hx)
    · obtain ⟨sl, e1⟩ := I.base.slot b o e n hb hx
      exact ⟨sl, (hs.2 b (Nat.ne_of_lt (Nat.lt_of_lt_of_le (Heap.lt_size e) (I.ok.cab x c hfn hc)))).trans e1⟩
    · obtain ⟨o', e1⟩ := I.base.there b o e hx
      exact ⟨o', (hs.2 b (Nat.ne_of_lt (Nat.lt_of_lt_of_le (Heap.lt_size e) (I.ok.cab x c hfn hc)))).trans e1⟩
    · by_cases hj : j = i
      · subst hj
        rw [hi] at e1; cases e1
        rw [List.getElem?_set_self hiσ] at e2
        cases e2
        exact ⟨u, r, .inr ⟨.inl hk, c, hc, hc'⟩⟩
      · rw [List.getElem?_set_ne (Ne.symm hj)] at e2
        obtain ⟨u', r', q⟩ := hl j y v' e1 e2 e3
        refine ⟨u', r', ?_⟩
        rcases q with q | ⟨k, c', e, z'⟩
        · exact .inl q
        · refine .inr ⟨k, c', e, z'.sameBut hs ?_⟩
          rintro rfl
          exact hj (nodup_ix hN e1 (I.ok.inj _ _ _ e hc ▸ hi))
    · by_cases hcc : c' = c
      · subst hcc; exact ⟨_, hc'⟩
      · obtain ⟨w2, z2⟩ := I.cell y c' e
        exact ⟨w2, z2.sameBut hs hcc⟩
    · obtain ⟨e, n, ne, nf, d⟩ := I.pin p hp
      refine ⟨(hs.2 p.1 ?_).trans e, n, ne, nf, d⟩
      intro q
      rw [q, hoc] at e
      have q' : oc = p.2 := Option.some.inj e
      exact d w' (by rw [← q']; exact hocd)
theorem store_ok {M : Model} {A : Around} {E : Value → Shared → Prop} {i : Nat} {x : Str} {v : V} {u : Value} {Q : Unit → Shared → Prop} (I : Inv X pins σ H s) (hN : X.N.Nodup) (hi : X.N[i]? = some x) (hx : Loc X.env.scope x) (r : RelV v u)
    (h : ∀ s', Inv X pins (σ.set i (some v)) H s' → Q () s') (hf : X.fn x = true ∨ X.env.scope.names.lookup x = some .local := by first | exact .inl rfl | exact .inr rfl | assumption) : wpAny M A (storeName X.env x u) Q E s :=
  store_ok2 I hN hi hx r (fun s' I' _ => h s' I') hf
theorem Inv.call' {s' : Shared} {ch : List Addr} (I : Inv X pins σ H s) (ho : s'.os = s.os) (u : Un (frs X.stack) ch H H' s.heap s'.heap) (hok : HOk X.prog X.w H' s'.heap) (hg : AllBare s'.gens)
    (hch : ∀ b ∈ ch, (b ∈ X.ex ∨ X.s₀.heap.objs.size ≤ b) ∧ b ≠ X.env.locals ∧ (∀ x c, X.env.cells.lookup x = some c → c ≠ b) ∧ ∀ p ∈ X.pn ++ pins, p.1 ≠ b) : Inv X pins σ H' s' := by
  obtain ⟨h', g', d', t', o'⟩ := s'
  have e : o' = s.os := ho
  subst e
  exact I.call (g' := g') (t' := t') (d' := d') u hok hg hch
end
abbrev XK := Value → Option Addr → Hp → Prop
abbrev St := List (Option V)
abbrev VK := V → Hp → Prop
abbrev TE := St → Hp → VK → Prop
abbrev TT := St → Hp → (Bool → Hp → Prop) → Prop
abbrev TA := St → Hp → (List V → Hp → Prop) → Prop
structure Ends where
  nx : St → Hp → Prop
  rt : VK
  bk : St → Hp → Prop := fun _ _ => False
  ct : St → Hp → Prop := fun _ _ => False
abbrev TS := Ends → St → Hp → Prop
def EP (X : Cx) (pins : List (Addr × Obj)) (σ : St) (Q : VK) (u : Value) (s' : Shared) : Prop := ∃ v H', Inv X pins σ H' s' ∧ RelV v u ∧ Q v H'
def TP (X : Cx) (pins : List (Addr × Obj)) (σ : St) (Q : Bool → Hp → Prop) (b : Bool) (s' : Shared) : Prop := ∃ H', Inv X pins σ H' s' ∧ Q b H'
def AP (X : Cx) (pins : List (Addr × Obj)) (σ : St) (Q : List V → Hp → Prop) (us : List Value) (s' : Shared) : Prop := ∃ vs H', Inv X pins σ H' s' ∧ Vals vs us ∧ Q vs H'
def SP (X : Cx) (pins : List (Addr × Obj)) (D : Ends) (f : Flow) (s' : Shared) : Prop :=
  match f with
  | .next => ∃ σ' H', Inv X pins σ' H' s' ∧ D.nx σ' H'
  | .brk => ∃ σ' H', Inv X pins σ' H' s' ∧ D.bk σ' H'
  | .cont => ∃ σ' H', Inv X pins σ' H' s' ∧ D.ct σ' H'
  | .ret u => ∃ v σ' H', Inv X pins σ' H' s' ∧ RelV v u ∧ D.rt v H'
def PE (X : Cx) (e : Expr) (t : TE) : Prop :=
  ∀ (pins : List (Addr × Obj)) (s : Shared) (σ : St) (H : Hp) (Q : VK), Inv X pins σ H s → t σ H Q → wpAny (model X.prog X.w) X.A (eval e X.env) (EP X pins σ Q) X.xe s
def PT (X : Cx) (e : Expr) (t : TT) : Prop :=
  ∀ (pins : List (Addr × Obj)) (s : Shared) (σ : St) (H : Hp) (Q : Bool → Hp → Prop), Inv X pins σ H s → t σ H Q → wpAny (model X.prog X.w) X.A (isTrue e X.env (eval e X.env)) (TP X pins σ Q) X.xe s
def PW (X : Cx) (e : Expr) (t : TT) : Prop :=
  ∀ (whole : Sem Value) (pins : List (Addr × Obj)) (s : Shared) (σ : St) (H : Hp) (Q : Bool → Hp → Prop), Inv X pins σ H s → t σ H Q → wpAny (model X.prog X.w) X.A (isTrue e X.env whole) (TP X pins σ Q) X.xe s
theorem PW.pt {X : Cx} {e : Expr} {t : TT} (h : PW X e t) : PT X e t := h _
def PA (X : Cx) (es : List Expr) (t : TA) : Prop :=
  ∀ (pos : Pos) (pins : List (Addr × Obj)) (s : Shared) (σ : St) (H : Hp) (Q : List V → Hp → Prop), Inv X pins σ H s → t σ H Q → wpAny (model X.prog X.w) X.A (spliced (backTo pos (starEach es X.env))) (AP X pins σ Q) X.xe s
def PS (X : Cx) (st : Stmt) (t : TS) : Prop :=
  ∀ (pins : List (Addr × Obj)) (s : Shared) (σ : St) (H : Hp) (D : Ends), Inv X pins σ H s → t D σ H → wpAny (model X.prog X.w) X.A (exec st X.env) (SP X pins D) X.xe s
def PSs (X : Cx) (st : List Stmt) (t : TS) : Prop :=
  ∀ (pins : List (Addr × Obj)) (s : Shared) (σ : St) (H : Hp) (D : Ends), Inv X pins σ H s → t D σ H → wpAny (model X.prog X.w) X.A (execs st X.env) (SP X pins D) X.xe s
theorem thn {α : Type} {t : Sem α} {Q Q' : α → Shared → Prop} {M : Model} {A : Around} {E : Value → Shared → Prop} {s : Shared} (h : wpAny M A t Q E s) (hQ : ∀ a s, Q a s → Q' a s) : wpAny M A t Q' E s := wpAny_mono h hQ fun _ _ x => x
section
variable {X : Cx}
theorem bin {a b : Expr} {ta tb : TE} (ha : PE X a ta) (hb : PE X b tb) {pins : List (Addr × Obj)} {s : Shared} {σ : St} {H : Hp} {R : V → V → Hp → Prop} (I : Inv X pins σ H s) (h : ta σ H fun x H1 => tb σ H1 fun y H2 => R x y H2)
    {α : Type} {Q : α → Shared → Prop} {f : Value → Value → Sem α}
    (hf : ∀ v u s2 x y H2, Inv X pins σ H2 s2 → RelV x v → RelV y u → R x y H2 → wpAny (model X.prog X.w) X.A (f v u) Q X.xe s2) :
    wpAny (model X.prog X.w) X.A (eval a X.env) (fun v s₁ => wpAny (model X.prog X.w) X.A (eval b X.env) (fun u s₂ => wpAny (model X.prog X.w) X.A (f v u) Q X.xe s₂) X.xe s₁) X.xe s := by
  refine thn (ha pins s σ H _ I h) fun v s1 ⟨x, H1, I1, r1, q1⟩ => ?_
  refine thn (hb pins s1 σ H1 _ I1 q1) fun u s2 ⟨y, H2, I2, r2, q2⟩ => ?_
  exact hf v u s2 x y H2 I2 r1 r2 q2
def tVar (i : Nat) : TE := fun σ H Q => ∃ v, σ[i]? = some (some v) ∧ Q v H
def tC (v : V) : TE := fun _ H Q => Q v H
theorem pe_var {i : Nat} {x : Str} {pos : Pos} (hN : X.N[i]? = some x) (hv : Vis X.env.scope x) (hd : (x == ("__debug__" : Str)) = false := by decide) (hcd : (x == ("__classdict__" : Str)) = false := by decide) : PE X (.Name x pos) (tVar i) := by
  intro pins s σ H Q I h
  obtain ⟨v, e, h⟩ := h
  obtain ⟨m, hn, hl⟩ := I.loc
  obtain ⟨u, r, l⟩ := hl i x v hN e hv
  have fin : EP X pins σ Q u s := ⟨v, H, I, r, h⟩
  rcases l with ⟨hk, hm⟩ | ⟨hk, c, hc, hcell⟩
  · exact wpAny_Name (wpAny_loadName_local I.ok.kind hk hn hm fin) hd
  · rcases hk with hk | hk
    · exact wpAny_Name (wpAny_loadName_cell I.ok.kind hk hc hcell fin) hd
    · exact wpAny_Name (wpAny_loadName_free I.ok.kind hk hc hcell fin hcd) hd
theorem pe_int {i j pos} : PE X (.Constant (.int i) j pos) (tC (.int i)) := fun _ _ _ H _ I h => wpAny_Constant_int ⟨.int i, H, I.tok _, ⟨_, rfl⟩, h⟩
theorem pe_bl {b j pos} : PE X (.Constant (.bool b) j pos) (tC (.bl b)) := fun _ _ _ H _ I h => Constant_bool ⟨.bl b, H, I, rfl, h⟩
theorem pe_non {j pos} : PE X (.Constant .none j pos) (tC .non) := fun _ _ _ H _ I h => Constant_none ⟨.non, H, I, rfl, h⟩
theorem pe_str {x j pos} : PE X (.Constant (.str x) j pos) (tC (.str x)) := fun _ _ _ H _ I h => Calls.Constant_str ⟨.str x, H, I.tok _, ⟨_, rfl⟩, h⟩
def Gl (X : Cx) (x : Str) : Prop := X.env.kindOf x = some .globalImplicit
theorem ld_glob {E : Value → Shared → Prop} {pins : List (Addr × Obj)} {s : Shared} {σ : St} {H : Hp} {x : Str} {u : Value} {pos : Pos} {Q : Value → Shared → Prop} (I : Inv X pins σ H s) (hg : Gl X x) (hm : X.mg x = some u) (h : Q u s)
    (hd : (x == ("__debug__" : Str)) = false := by decide) : wpAny (model X.prog X.w) X.A (eval (.Name x pos) X.env) Q E s :=
  Calls.Name_function_global I.ok.kind hg (Calls.loadGlobal_global (by rw [I.ok.glob]; exact I.mod.glob.keeps I.bk) hm h) hd
theorem ld_blt {E : Value → Shared → Prop} {pins : List (Addr × Obj)} {s : Shared} {σ : St} {H : Hp} {x : Str} {u : Value} {pos : Pos} {Q : Value → Shared → Prop} (I : Inv X pins σ H s) (hg : Gl X x) (hm : X.mg x = none) (hv : bootBuiltins x = some u) (h : Q u s)
    (hn : x ≠ "__name__" := by decide) (hd : (x == ("__debug__" : Str)) = false := by decide) : wpAny (model X.prog X.w) X.A (eval (.Name x pos) X.env) Q E s := by
  obtain ⟨mb, h1, h2⟩ := I.mod.blt
  exact Calls.Name_function_global I.ok.kind hg (Calls.loadGlobal_builtin (by rw [I.ok.glob]; exact I.mod.glob.keeps I.bk) hm (by rw [I.ok.blt]; exact h1.keeps I.bk) ((h2 x hn).trans hv) h) hd
theorem pe_glob {x : Str} {v : V} {u : Value} {pos : Pos} (hg : Gl X x) (hm : X.mg x = some u) (r : RelV v u) (hd : (x == ("__debug__" : Str)) = false := by decide) : PE X (.Name x pos) (tC v) :=
  fun _ _ _ H _ I h => ld_glob I hg hm ⟨v, H, I, r, h⟩ hd
theorem pe_bltn {x : Str} {v : V} {u : Value} {pos : Pos} (hg : Gl X x) (hm : X.mg x = none) (hv : bootBuiltins x = some u) (r : RelV v u) (hn : x ≠ "__name__" := by decide) (hd : (x == ("__debug__" : Str)) = false := by decide) : PE X (.Name x pos) (tC v) :=
  fun _ _ _ H _ I h => ld_blt I hg hm hv ⟨v, H, I, r, h⟩ hn hd
variable {a b : Expr} {ta tb : TE} {pos : Pos}
def PC (X : Cx) (op : CmpOp) (a b : Expr) (t : TE) : Prop :=
  ∀ (pins : List (Addr × Obj)) (s : Shared) (σ : St) (H : Hp) (Q : VK), Inv X pins σ H s → t σ H Q →
    wpAny (model X.prog X.w) X.A (eval a X.env) (fun v s₁ => wpAny (model X.prog X.w) X.A (eval b X.env) (fun u s₂ => wpAny (model X.prog X.w) X.A (compareOp op v u) (EP X pins σ Q) X.xe s₂) X.xe s₁) X.xe s
theorem nobehind (b : Expr) {op : CmpOp} (h : op ≠ .In) (h2 : op ≠ .NotIn) : behindInMarks op b = false := by
  have e1 : (op == CmpOp.In) = false := by cases op <;> first | rfl | exact absurd rfl h
  have e2 : (op == CmpOp.NotIn) = false := by cases op <;> first | rfl | exact absurd rfl h2
  cases b <;> simp [behindInMarks, e1, e2]
def tIsN (ta : TE) : TE := fun σ H Q => ta σ H fun x H1 => Q (.bl (decide (x = .non))) H1
def tNotN (ta : TE) : TE := fun σ H Q => ta σ H fun x H1 => Q (.bl (!decide (x = .non))) H1
theorem RelV.none_iff {x : V} {v : Value} (r : RelV x v) : (v == Value.none) = decide (x = .non) := by
  cases x with
  | non => cases r; rfl
  | bl _ => cases r; rfl
  | int _ => obtain ⟨t, rfl⟩ := r; rfl
  | str _ => obtain ⟨t, rfl⟩ := r; rfl
  | byt _ => obtain ⟨t, rfl⟩ := r; rfl
  | flt _ => obtain ⟨t, rfl⟩ := r; rfl
  | ref _ => cases r; rfl
  | ty _ => cases r; rfl
theorem pc_isN {j pos'} (ha : PE X a ta) : PC X .Is a (.Constant .none j pos') (tIsN ta) := by
  intro pins s σ H Q I h
  refine thn (ha pins s σ H _ I h) fun v s1 ⟨x, H1, I1, r1, q1⟩ => ?_
  exact Constant_none (is_none_gen ⟨.bl _, H1, I1, by rw [r1.none_iff]; rfl, q1⟩)
theorem pc_notN {j pos'} (ha : PE X a ta) : PC X .IsNot a (.Constant .none j pos') (tNotN ta) := by
  intro pins s σ H Q I h
  refine thn (ha pins s σ H _ I h) fun v s1 ⟨x, H1, I1, r1, q1⟩ => ?_
  exact Constant_none (isnot_none_gen ⟨.bl _, H1, I1, by rw [r1.none_iff]; rfl, q1⟩)
def tB (t : TE) : TT := fun σ H Q => t σ H fun x H1 => ∃ c, x = .bl c ∧ Q c H1
theorem pt_cmp {op : CmpOp} {t : TE} (h : PC X op a b t) (h1 : behindInMarks op b = false := by first | exact nobehind _ (by decide) (by decide) | rfl) : PT X (.Compare a [op] [b] pos) (tB t) := by
  intro pins s σ H Q I hw
  refine wpAny_isTrue_Compare1 (thn (h pins s σ H _ I hw) fun v s1 h1 => thn h1 fun u s2 h2 => thn h2 fun c s3 ⟨x, H1, I1, r1, q1⟩ => ?_) h1
  obtain ⟨d, rfl, q⟩ := q1
  cases r1
  exact wpAny_truthy_bool ⟨H1, I1, q⟩
theorem pt_val {e : Expr} {t : TE} (h : PE X e t) (he : ∀ whole, isTrue e X.env whole = (do let v ← whole; standAt e.pos; holding [v] (truthy v)) := by intro _; rfl) : PT X e (tB t) := by
  intro pins s σ H Q I hw
  refine isTrue_plain (thn (h pins s σ H _ I hw) fun v s1 ⟨x, H1, I1, r1, q1⟩ => ?_) (he _)
  obtain ⟨d, rfl, q⟩ := q1
  cases r1
  exact wpAny_truthy_bool ⟨H1, I1, q⟩
variable {tA tB' : TT} {rest : List Expr}
def tAnd (t u : TT) : TT := fun σ H Q => t σ H fun c H1 => if c = true then u σ H1 Q else Q false H1
def tOr (t u : TT) : TT := fun σ H Q => t σ H fun c H1 => if c = true then Q true H1 else u σ H1 Q
def tNot (t : TT) : TT := fun σ H Q => t σ H fun c H1 => Q (!c) H1
theorem pw_and1 (ha : PT X a tA) : PW X (.BoolOp .And [a] pos) tA := by
  intro wh pins s σ H Q I h
  refine isTrue_and (thn (ha pins s σ H Q I h) fun c s1 e => ?_)
  cases c with
  | true => exact isTrue_and_nil e
  | false => exact e
theorem pw_or1 (ha : PT X a tA) : PW X (.BoolOp .Or [a] pos) tA := by
  intro wh pins s σ H Q I h
  refine isTrue_or (thn (ha pins s σ H Q I h) fun c s1 e => ?_)
  cases c with
  | false => exact isTrue_or_nil e
  | true => exact e
theorem pw_and (ha : PT X a tA) (hb : PW X (.BoolOp .And (b :: rest) pos) tB') : PW X (.BoolOp .And (a :: b :: rest) pos) (tAnd tA tB') := by
  intro wh pins s σ H Q I h
  refine isTrue_and (thn (ha pins s σ H _ I h) fun c s1 ⟨H1, I1, q1⟩ => ?_)
  cases c with
  | true => exact hb wh pins s1 σ H1 Q I1 q1
  | false => exact ⟨H1, I1, q1⟩
theorem pw_or (ha : PT X a tA) (hb : PW X (.BoolOp .Or (b :: rest) pos) tB') : PW X (.BoolOp .Or (a :: b :: rest) pos) (tOr tA tB') := by
  intro wh pins s σ H Q I h
  refine isTrue_or (thn (ha pins s σ H _ I h) fun c s1 ⟨H1, I1, q1⟩ => ?_)
  cases c with
  | true => exact ⟨H1, I1, q1⟩
  | false => exact hb wh pins s1 σ H1 Q I1 q1
theorem pt_not (ha : PT X a tA) : PT X (.UnaryOp .Not a pos) (tNot tA) := by
  intro pins s σ H Q I h
  exact isTrue_not (ha pins s σ H (fun c H1 => Q (!c) H1) I h)
def tAndV (ta tb : TE) : TE := fun σ H Q => ta σ H fun x H1 => ∃ c, x = .bl c ∧ if c = true then tb σ H1 Q else Q (.bl false) H1
def tNotV (ta : TE) : TE := fun σ H Q => ta σ H fun x H1 => ∃ c, x = .bl c ∧ Q (.bl (!c)) H1
theorem pe_one {op} {t : TE} (h : PE X a t) : PE X (.BoolOp op [a] pos) t := fun pins s σ H Q I hw => BoolOp_one (h pins s σ H Q I hw)
theorem pe_and (ha : PE X a ta) (hb : PE X (.BoolOp .And (b :: rest) pos) tb) : PE X (.BoolOp .And (a :: b :: rest) pos) (tAndV ta tb) := by
  intro pins s σ H Q I h
  refine BoolOp_and (thn (ha pins s σ H _ I h) fun v s1 ⟨x, H1, I1, r1, q1⟩ => ?_)
  obtain ⟨c, rfl, q1⟩ := q1
  cases r1
  refine wpAny_truthy_bool ?_
  cases c with
  | true => exact hb pins s1 σ H1 Q I1 q1
  | false => exact ⟨.bl false, H1, I1, rfl, q1⟩
theorem pe_not (ha : PE X a ta) : PE X (.UnaryOp .Not a pos) (tNotV ta) := by
  intro pins s σ H Q I h
  refine UnaryOp_ (thn (ha pins s σ H _ I h) fun v s1 ⟨x, H1, I1, r1, q1⟩ => ?_)
  obtain ⟨c, rfl, q1⟩ := q1
  cases r1
  exact not_of (wpAny_truthy_bool ⟨.bl (!c), H1, I1, rfl, q1⟩)
def tIf (t : TT) (ta tb : TE) : TE := fun σ H Q => t σ H fun c H1 => if c = true then ta σ H1 Q else tb σ H1 Q
theorem pe_ifExp {c : Expr} (hc : PT X c tA) (ha : PE X a ta) (hb : PE X b tb) : PE X (.IfExp c a b pos) (tIf tA ta tb) := by
  intro pins s σ H Q I h
  refine wpAny_IfExp (thn (hc pins s σ H _ I h) fun d s1 ⟨H1, I1, q1⟩ => ?_)
  cases d with
  | true => exact ha pins s1 σ H1 Q I1 q1
  | false => exact hb pins s1 σ H1 Q I1 q1
end
def SqL (K : PySem.W.Frag) (H : Hp) (a : Addr) (xs : List V) : Prop :=
  Rd H a (.lst xs) ∨
    ∃ (o : Obj) (its : Array Value) (n : Nat), K.lookup a = some o ∧ o.cls = .type "list" ∧ o.dict = none ∧ o.data = .seq its n ∧ its.size ≤ sizeLine ∧ Vals xs its.toList
def SqT (K : PySem.W.Frag) (H : Hp) (a : Addr) (xs : List V) : Prop :=
  Rd H a (.tup xs) ∨
    ∃ (o : Obj) (its : Array Value) (n : Nat), K.lookup a = some o ∧ o.cls = .type "tuple" ∧ o.data = .seq its n ∧ its.size ≤ sizeLine ∧ Vals xs its.toList
def absV : Value → Option V
  | .none => some .non
  | .bool b => some (.bl b)
  | .int i _ => some (.int i)
  | .str x _ => some (.str x)
  | .bytes b _ => some (.byt b)
  | .float b _ => some (.flt b)
  | .ref a => some (.ref a)
  | .type n => some (.ty n)
  | _ => none
theorem RelV.abs {x : V} {u : Value} (r : RelV x u) : absV u = some x := by
  cases x with
  | non => cases r; rfl
  | bl _ => cases r; rfl
  | int _ => obtain ⟨t, rfl⟩ := r; rfl
  | str _ => obtain ⟨t, rfl⟩ := r; rfl
  | byt _ => obtain ⟨t, rfl⟩ := r; rfl
  | flt _ => obtain ⟨t, rfl⟩ := r; rfl
  | ref _ => cases r; rfl
  | ty _ => cases r; rfl
theorem RelV.inj {x y : V} {u : Value} (r : RelV x u) (q : RelV y u) : x = y := Option.some.inj (r.abs.symm.trans q.abs)
theorem Vals.inj : ∀ {xs ys : List V} {us : List Value}, Vals xs us → Vals ys us → xs = ys
  | _, _, _, .nil, .nil => rfl
  | _, _, _, .cons r t, .cons r' t' => by rw [r.inj r', Vals.inj t t']
section
variable {X : Cx} {pins : List (Addr × Obj)} {σ : St} {H : Hp} {s : Shared} {a : Addr} {xs ys : List V}
theorem SqL.of {K : PySem.W.Frag} (h : H a = some (.lst xs)) : SqL K H a xs := .inl (.inl h)
theorem SqT.of {K : PySem.W.Frag} (h : H a = some (.tup xs)) : SqT K H a xs := .inl (.inl h)
theorem Inv.list (I : Inv X pins σ H s) (h : SqL X.K H a xs) : ∃ its : List Value, Vals xs its ∧ PlainL s.heap a its.toArray ∧ xs.length ≤ sizeLine := by
  rcases h with h | ⟨o, its, n, hk, hc, hd, hs, hz, r⟩
  · obtain ⟨z, its, n, r, e⟩ := h.ok I.hok
    exact ⟨its, r, ⟨_, n, e, rfl, rfl, rfl⟩, z⟩
  · refine ⟨its.toList, r, ⟨o, n, I.kIn a o hk, hc, hd, by simpa using hs⟩, ?_⟩
    have e := r.length
    simp only [Array.length_toList] at e
    omega
theorem Inv.tuple (I : Inv X pins σ H s) (h : SqT X.K H a xs) : ∃ its : List Value, Vals xs its ∧ IsTup s.heap a its.toArray ∧ xs.length ≤ sizeLine := by
  rcases h with h | ⟨o, its, n, hk, hc, hs, hz, r⟩
  · obtain ⟨z, its, r, p⟩ := h.ok I.hok
    exact ⟨its, r, p, z⟩
  · refine ⟨its.toList, r, ⟨o, I.kIn a o hk, hc, n, by simpa using hs⟩, ?_⟩
    have e := r.length
    simp only [Array.length_toList] at e
    omega
theorem Inv.list_inj (I : Inv X pins σ H s) (h : SqL X.K H a xs) (h' : SqL X.K H a ys) : xs = ys := by
  obtain ⟨its, r, ⟨o, n, e, _, _, d⟩, _⟩ := I.list h
  obtain ⟨its', r', ⟨o', n', e', _, _, d'⟩, _⟩ := I.list h'
  rw [e] at e'; cases e'
  rw [d] at d'
  injection d' with d1 _
  have : its = its' := by simpa using congrArg Array.toList d1
  subst this
  exact r.inj r'
theorem Inv.tuple_inj (I : Inv X pins σ H s) (h : SqT X.K H a xs) (h' : SqT X.K H a ys) : xs = ys := by
  obtain ⟨its, r, ⟨o, e, _, n, d⟩, _⟩ := I.tuple h
  obtain ⟨its', r', ⟨o', e', _, n', d'⟩, _⟩ := I.tuple h'
  rw [e] at e'; cases e'
  rw [d] at d'
  injection d' with d1 _
  have : its = its' := by simpa using congrArg Array.toList d1
  subst this
  exact r.inj r'
end
abbrev Cx.wish (X : Cx) (E : Value → Shared → Prop) : Cx := { X with xe := E }
abbrev Cx.nox (X : Cx) : Cx := X.wish fun _ _ => False
theorem Cx.Ok.wish {X : Cx} (ok : X.Ok) (E : Value → Shared → Prop) : (X.wish E).Ok :=
  ⟨ok.mod, ok.kind, ok.glob, ok.blt, ok.above, ok.inj, ok.has, ok.cab, ok.hd, ok.frames, ok.stk, ok.exf, ok.bs, ok.bsz, ok.noex, ok.exfs, ok.funs, ok.frf⟩
theorem Cx.Ok.unwish {X : Cx} {E : Value → Shared → Prop} (ok : (X.wish E).Ok) : X.Ok :=
  ⟨ok.mod, ok.kind, ok.glob, ok.blt, ok.above, ok.inj, ok.has, ok.cab, ok.hd, ok.frames, ok.stk, ok.exf, ok.bs, ok.bsz, ok.noex, ok.exfs, ok.funs, ok.frf⟩
section
variable {X : Cx} {pins : List (Addr × Obj)} {σ : St} {H : Hp} {s : Shared} {E : Value → Shared → Prop}
theorem Inv.wish (I : Inv X pins σ H s) (E : Value → Shared → Prop) : Inv (X.wish E) pins σ H s := ⟨I.ok.wish E, I.os, I.bare, I.base, I.loc, I.cell, I.free, I.freeC, I.pin, I.hok, I.len⟩
theorem Inv.unwish (I : Inv (X.wish E) pins σ H s) : Inv X pins σ H s := ⟨I.ok.unwish, I.os, I.bare, I.base, I.loc, I.cell, I.free, I.freeC, I.pin, I.hok, I.len⟩
theorem SP.unwish {D : Ends} {f : Flow} {s' : Shared} (h : SP (X.wish E) pins D f s') : SP X pins D f s' := by
  cases f with
  | next => obtain ⟨σ', H', I, q⟩ := h; exact ⟨σ', H', I.unwish, q⟩
  | brk => obtain ⟨σ', H', I, q⟩ := h; exact ⟨σ', H', I.unwish, q⟩
  | cont => obtain ⟨σ', H', I, q⟩ := h; exact ⟨σ', H', I.unwish, q⟩
  | ret u => obtain ⟨v, σ', H', I, r, q⟩ := h; exact ⟨v, σ', H', I.unwish, r, q⟩
theorem PSs.nox {st : List Stmt} {t : TS} (h : PSs X.nox st t) : PSs X st t := fun pins s σ H D I hw =>
  wpAny_mono (h pins s σ H D (I.wish _) hw) (fun _ _ q => q.unwish) fun _ _ z => False.elim z
end
section
variable {X : Cx} {st : Stmt} {rest : List Stmt} {t u : TS} {e : Expr} {te : TE} {pos : Pos}
def tNext : TS := fun D σ H => D.nx σ H
def tSeq (t u : TS) : TS := fun D σ H => t { D with nx := u D } σ H
theorem pss_nil : PSs X [] tNext := fun _ _ σ H _ I h => wpAny_execs_nil ⟨σ, H, I, h⟩
theorem pss_cons (h1 : PS X st t) (h2 : PSs X rest u) : PSs X (st :: rest) (tSeq t u) := by
  intro pins s σ H D I h
  refine wpAny_execs_cons (thn (h1 pins s σ H { D with nx := u D } I h) fun f s1 q => ?_)
  cases f with
  | next =>
    obtain ⟨σ', H', I', q⟩ := q
    exact h2 pins s1 σ' H' D I' q
  | ret v => exact q
  | brk => exact q
  | cont => exact q
theorem pss_one (h1 : PS X st t) : PSs X [st] t := by
  intro pins s σ H D I h
  refine wpAny_execs_cons (thn (h1 pins s σ H D I h) fun f s1 q => ?_)
  cases f with
  | next => exact wpAny_execs_nil q
  | ret v => exact q
  | brk => exact q
  | cont => exact q
theorem Inv.quiet {pins : List (Addr × Obj)} {σ : St} {H : Hp} {s : Shared} (I : Inv X pins σ H s) : interactive X.env = false := by simp [interactive, I.ok.kind]
def tDrop (te : TE) : TS := fun D σ H => te σ H fun _ H1 => D.nx σ H1
theorem ps_expr (he : PE X e te) (hs : swapsWith e none pos.line X.env = pure false := by rfl) : PS X (.Expr e pos) (tDrop te) := by
  intro pins s σ H D I h
  exact wpAny_Expr_any (thn (he pins s σ H _ I h) fun v s1 ⟨x, H1, I1, r1, q1⟩ => ⟨σ, H1, I1, q1⟩) I.quiet hs
def tRet (te : TE) : TS := fun D σ H => te σ H D.rt
theorem ps_ret (he : PE X e te) : PS X (.Return (some e) pos) (tRet te) := by
  intro pins s σ H D I h
  exact wpAny_Return_some (thn (he pins s σ H _ I h) fun v s1 ⟨x, H1, I1, r1, q1⟩ => ⟨x, σ, H1, I1, r1, q1⟩)
def tIfS (c : TT) (t u : TS) : TS := fun D σ H => c σ H fun b H1 => if b = true then t D σ H1 else u D σ H1
theorem ps_if {c : Expr} {a b : List Stmt} {tc : TT} (hc : PT X c tc) (ha : PSs X a t) (hb : PSs X b u) : PS X (.If c a b pos) (tIfS tc t u) := by
  intro pins s σ H D I h
  refine wpAny_If (thn (hc pins s σ H _ I h) fun d s1 ⟨H1, I1, q1⟩ => ?_)
  cases d with
  | true => exact ha pins s1 σ H1 D I1 q1
  | false => exact hb pins s1 σ H1 D I1 q1
def tNever : TS := fun _ _ _ => False
theorem pss_never {sts : List Stmt} : PSs X sts tNever := fun _ _ _ _ _ _ h => h.elim
end
abbrev TG := V → St → Hp → (St → Hp → Prop) → Prop
abbrev TGs := List V → St → Hp → (St → Hp → Prop) → Prop
def PG (X : Cx) (target : Expr) (t : TG) : Prop :=
  ∀ (pins : List (Addr × Obj)) (s : Shared) (σ : St) (H : Hp) (v : V) (u : Value) (Q : St → Hp → Prop), Inv X pins σ H s → RelV v u → t v σ H Q →
    wpAny (model X.prog X.w) X.A (assign target X.env u) (fun _ s' => ∃ σ' H', Inv X pins σ' H' s' ∧ Q σ' H') X.xe s
def PGs (X : Cx) (ts : List Expr) (t : TGs) : Prop :=
  ∀ (pins : List (Addr × Obj)) (s : Shared) (σ : St) (H : Hp) (vs : List V) (us : List Value) (Q : St → Hp → Prop), Inv X pins σ H s → Vals vs us → t vs σ H Q →
    wpAny (model X.prog X.w) X.A (assignInOrder ((assignEach ts X.env).map (·.2)) us) (fun _ s' => ∃ σ' H', Inv X pins σ' H' s' ∧ Q σ' H') X.xe s
abbrev TSet := V → V → V → Hp → (Hp → Prop) → Prop
def PSet (X : Cx) (t : TSet) : Prop :=
  ∀ (pins : List (Addr × Obj)) (s : Shared) (σ : St) (H : Hp) (o i v : V) (ov iv u : Value) (Q : Hp → Prop), Inv X pins σ H s → RelV o ov → RelV i iv → RelV v u → t o i v H Q →
    wpAny (model X.prog X.w) X.A (setItem ov iv u) (fun _ s' => ∃ H', Inv X pins σ H' s' ∧ Q H') X.xe s
section
variable {X : Cx} {pos : Pos}
def gName (i : Nat) : TG := fun v σ H Q => Q (σ.set i (some v)) H
theorem pg_name {i : Nat} {x : Str} (hN : X.N.Nodup) (hi : X.N[i]? = some x) (hx : Loc X.env.scope x) (hf : X.fn x = true ∨ X.env.scope.names.lookup x = some .local := by first | exact .inl rfl | exact .inr rfl | assumption) : PG X (.Name x pos) (gName i) := by
  intro pins s σ H v u Q I r h
  exact wpAny_assign_Name (store_ok I hN hi hx r (fun s' I' => ⟨_, H, I', h⟩) hf)
def gNil : TGs := fun vs σ H Q => vs = [] ∧ Q σ H
def gCons (t : TG) (u : TGs) : TGs := fun vs σ H Q => ∃ v r, vs = v :: r ∧ t v σ H fun σ' H' => u r σ' H' Q
theorem pgs_nil : PGs X [] gNil := by
  intro pins s σ H vs us Q I r h
  obtain ⟨e, h⟩ := h
  subst e
  cases r
  exact assignInOrder_nil ⟨σ, H, I, h⟩
theorem pgs_cons {e : Expr} {es : List Expr} {t : TG} {u : TGs} (h1 : PG X e t) (h2 : PGs X es u)
    (hs : (assignEach (e :: es) X.env).map (·.2) = assign e X.env :: (assignEach es X.env).map (·.2) := by rfl) : PGs X (e :: es) (gCons t u) := by
  intro pins s σ H vs us Q I r h
  obtain ⟨v, vr, e1, h⟩ := h
  subst e1
  cases r with
  | cons r rr =>
    rw [hs]
    refine assignInOrder_cons (thn (h1 pins s σ H _ _ _ I r h) fun _ s1 ⟨σ1, H1, I1, q1⟩ => ?_)
    exact h2 pins s1 σ1 H1 _ _ Q I1 rr q1
def gTup (K : PySem.W.Frag) (n : Nat) (t : TGs) : TG := fun v σ H Q => ∃ a xs, v = .ref a ∧ SqT K H a xs ∧ xs.length = n ∧ t xs σ H Q
theorem pg_tup {es : List Expr} {k : Nat} {t : TGs} {n : Nat} (hc : X.calm = true) (h : PGs X es t)
    (hn : (assignEach es X.env).length = n := by rfl) (hst : (assignEach es X.env).findIdx? (·.1) = none := by rfl) : PG X (.Tuple es k pos) (gTup X.K n t) := by
  intro pins s σ H v u Q I r hw
  obtain ⟨a, xs, e1, hq, hl, hw⟩ := hw
  subst e1
  cases r
  obtain ⟨its, rv, ht, hz⟩ := I.tuple hq
  refine assign_Tuple_tuple (I.ok.hd hc) ht (by simp [hn, ← hl, rv.length]) hst fun h' hx => ?_
  have I1 : Inv X pins σ H { s with heap := h' } := I.kept (t' := s.toks) fun b o e => hx b o (Nat.ne_of_lt (Heap.lt_size e)) e
  exact h pins _ σ H xs _ Q I1 (by simpa using rv) hw
def gSub (to ti : TE) (t : TSet) : TG := fun v σ H Q => to σ H fun o H1 => ti σ H1 fun i H2 => t o i v H2 fun H3 => Q σ H3
theorem pg_sub {o i : Expr} {to ti : TE} {t : TSet} (ho : PE X o to) (hi : PE X i ti) (hs : PSet X t)
    (ha : ∀ v, assign (.Subscript o i pos) X.env v = (do
      let ov ← holding [v] (eval o X.env)
      let iv ← holding [v, ov] (eval i X.env)
      standAt pos
      holding [v, ov, iv] (setItem ov iv v)
      release [v, ov, iv] []) := by intro _; rfl) : PG X (.Subscript o i pos) (gSub to ti t) := by
  intro pins s σ H v u Q I r h
  rw [ha]
  refine wpAny_bind (wpAny_holding (thn (ho pins s σ H _ I h) fun ov s1 ⟨x, H1, I1, r1, q1⟩ => ?_))
  refine wpAny_bind (wpAny_holding (thn (hi pins s1 σ H1 _ I1 q1) fun iv s2 ⟨y, H2, I2, r2, q2⟩ => ?_))
  refine wpAny_bind (wpAny_standAt (wpAny_bind (wpAny_holding (thn (hs pins s2 σ H2 x y v ov iv u _ I2 r1 r2 r q2) fun _ s3 ⟨H3, I3, q3⟩ => ?_))))
  exact wpAny_release ⟨σ, H3, I3, q3⟩
def tAsg (te : TE) (g : TG) : TS := fun D σ H => te σ H fun x H1 => g x σ H1 D.nx
theorem ps_asg {tg e : Expr} {te : TE} {g : TG} (he : PE X e te) (hg : PG X tg g) (hs : swapsWithSole [tg] e pos.line X.env = pure false := by rfl) (hw : swappedStores [tg] e X.env = pure none := by rfl)
    (h1 : (assignEach [tg] X.env).map (·.2) = [assign tg X.env] := by rfl) : PS X (.Assign [tg] e pos) (tAsg te g) := by
  intro pins s σ H D I h
  refine wpAny_Assign_stores (thn (he pins s σ H _ I h) fun v s1 ⟨x, H1, I1, r1, q1⟩ => ?_) hs hw
  rw [h1]
  exact thn (hg pins s1 σ H1 x v _ I1 r1 q1) fun _ s2 q => q
theorem ps_set {i : Nat} {x : Str} {e : Expr} {te : TE} {pos' : Pos} (hN : X.N.Nodup) (hi : X.N[i]? = some x) (hx : Loc X.env.scope x) (he : PE X e te) (hs : swapsWith e (some (.Name x pos')) pos.line X.env = pure false := by rfl) (hf : X.fn x = true ∨ X.env.scope.names.lookup x = some .local := by first | exact .inl rfl | exact .inr rfl | assumption) :
    PS X (.Assign [.Name x pos'] e pos) (tAsg te (gName i)) := by
  intro pins s σ H D I h
  refine wpAny_Assign_Name (thn (he pins s σ H _ I h) fun v s1 ⟨y, H1, I1, r1, q1⟩ => ?_) hs
  exact store_ok I1 hN hi hx r1 (fun s2 I2 => ⟨_, H1, I2, q1⟩) hf
end
section
variable {X : Cx} {pos : Pos}
def tWhile (c : TT) (tb : TS) : TS := fun D σ H => ∃ W : Nat → St → Hp → Prop, (∃ m, W m σ H) ∧ ∀ m σ H, W m σ H →
  c σ H fun b H1 => if b = true then ∃ N : St → Hp → Prop, (∀ σ' H', N σ' H' → ∃ m', m' < m ∧ W m' σ' H') ∧ tb { D with nx := N, ct := N, bk := D.nx } σ H1 else D.nx σ H1
theorem ps_while {c : Expr} {body : List Stmt} {tc : TT} {tb : TS} (hp : PassesOwn (model X.prog X.w) X.A X.env X.xe) (hc : PT X c tc) (hb : PSs X body tb) : PS X (.While c body [] pos) (tWhile tc tb) := by
  intro pins s σ H D I h
  obtain ⟨W, ⟨m0, w0⟩, turn⟩ := h
  refine wpAny_While (codeAny_whileLoop (fun n s' => ∃ σ' H', Inv X pins σ' H' s' ∧ W n σ' H') ?_ m0 ⟨σ, H, I, w0⟩)
  rintro n s1 ⟨σ1, H1, I1, w1⟩
  refine wpAny_passesOwn hp (thn (hc pins s1 σ1 H1 _ I1 (turn n σ1 H1 w1)) fun b s2 ⟨H2, I2, q2⟩ => ?_)
  cases b with
  | true =>
    obtain ⟨N, hN, q2⟩ := q2
    rw [if_pos rfl]
    refine wpAny_passesOwn hp (thn (hb pins s2 σ1 H2 _ I2 q2) fun f s3 q3 => ?_)
    cases f with
    | next =>
      obtain ⟨σ3, H3, I3, n3⟩ := q3
      obtain ⟨m', hm, w3⟩ := hN σ3 H3 n3
      exact ⟨m', hm, σ3, H3, I3, w3⟩
    | cont =>
      obtain ⟨σ3, H3, I3, n3⟩ := q3
      obtain ⟨m', hm, w3⟩ := hN σ3 H3 n3
      exact ⟨m', hm, σ3, H3, I3, w3⟩
    | brk => exact q3
    | ret v => exact q3
  | false =>
    rw [if_neg Bool.false_ne_true]
    exact wpAny_execs_nil ⟨σ1, H2, I2, q2⟩
end
structure It where
  go : Nat → Hp → Prop
  yld : Nat → Hp → V → Hp → Prop
  stop : Nat → Hp → Prop
def FpOk (X : Cx) (pins : List (Addr × Obj)) (H : Hp) (b : Addr) : Prop :=
  H b = none ∧ b ≠ X.env.locals ∧ b ∉ X.fs ∧ (b ∈ X.ex ∨ X.s₀.heap.objs.size ≤ b) ∧ (∀ x c, X.env.cells.lookup x = some c → c ≠ b) ∧ ∀ p ∈ X.pn ++ pins, p.1 ≠ b
theorem Inv.fpOk {X : Cx} {pins : List (Addr × Obj)} {σ : St} {H H' : Hp} {s : Shared} {b : Addr} (I : Inv X pins σ H s) (hb : s.heap.objs.size ≤ b) (hn : H' b = none) : FpOk X pins H' b := by
  refine ⟨hn, Nat.ne_of_gt (Nat.lt_of_lt_of_le I.lt hb), I.nofs hb, .inr (Nat.le_trans I.sz hb), fun x c e z => ?_, fun p hp z => ?_⟩
  · obtain ⟨v, q⟩ := I.cell x c e
    exact absurd (Nat.lt_of_lt_of_le q.lt (by rw [z]; exact hb)) (Nat.lt_irrefl _)
  · exact absurd (Nat.lt_of_lt_of_le (Heap.lt_size (I.pin p hp).1) (by rw [z]; exact hb)) (Nat.lt_irrefl _)
structure Turn (P : Program) (w : World) (K : PySem.W.Frag) (tg : Expr) (J : It) (fp : List Addr) (it : Addr) (tn : Nat → Heap → Prop) : Prop where
  mem : it ∈ fp
  obj : ∀ i h, tn i h → ∀ b ∈ fp, ∃ o, h.get? b = some o ∧ ∀ v, o.data ≠ .cell v
  keep : ∀ i h h', tn i h → (∀ b ∈ fp, ∀ o, h.get? b = some o → h'.get? b = some o) → tn i h'
  item : ∀ (X : Cx), X.prog = P → X.w = w → X.K = K → X.calm = true → ∀ (i : Nat) (pins : List (Addr × Obj)) (s : Shared) (σ : St) (H : Hp) (E : Value → Shared → Prop), Inv X pins σ H s → (∀ b ∈ fp, FpOk X pins H b) → tn i s.heap → J.go i H →
    wpAny (model P w) X.A (pyNext (.ref it)) (fun r s1 => ∃ u, r = some u ∧
      wpAny (model P w) X.A (letOwnedTupleGo tg (.ref it) u) (fun _ s2 => ∃ x H', Inv X pins σ H' s2 ∧ RelV x u ∧ J.yld i H x H' ∧ tn (i + 1) s2.heap ∧ ∀ b ∈ fp, H' b = none) E s1) E s
  done : ∀ (X : Cx), X.prog = P → X.w = w → X.K = K → X.calm = true → ∀ (i : Nat) (pins : List (Addr × Obj)) (s : Shared) (σ : St) (H : Hp) (E : Value → Shared → Prop), Inv X pins σ H s → (∀ b ∈ fp, FpOk X pins H b) → tn i s.heap → J.stop i H →
    wpAny (model P w) X.A (pyNext (.ref it)) (fun r s1 => r = none ∧ Inv X pins σ H s1) E s
  self : ∀ (A : Around) (i : Nat) (s : Shared) (Q : Value → Shared → Prop) (E : Value → Shared → Prop), tn i s.heap → Q (.ref it) s → wpAny (model P w) A (pyIter (.ref it)) Q E s
abbrev TI := St → Hp → (It → Hp → Prop) → Prop
def PIE (X : Cx) (pins : List (Addr × Obj)) (σ : St) (tg : Expr) (R : It → Hp → Prop) (itv : Value) (s2 : Shared) : Prop :=
  ∃ (it : Addr) (fp : List Addr) (tn : Nat → Heap → Prop) (J : It) (H' : Hp), itv = .ref it ∧ Inv X pins σ H' s2 ∧ Turn X.prog X.w X.K tg J fp it tn ∧ tn 0 s2.heap ∧ (∀ b ∈ fp, FpOk X pins H' b) ∧ R J H'
def PI (X : Cx) (tg iter : Expr) (wi : TI) : Prop :=
  ∀ (pins : List (Addr × Obj)) (s : Shared) (σ : St) (H : Hp) (R : It → Hp → Prop), Inv X pins σ H s → wi σ H R →
    wpAny (model X.prog X.w) X.A (eval iter X.env) (fun v s1 => wpAny (model X.prog X.w) X.A (pyIter v) (PIE X pins σ tg R) X.xe s1) X.xe s
theorem go_of {M : Model} {A : Around} {E : Value → Shared → Prop} {s : Shared} {tg : Expr} {it : Addr} {u : Value} {o : Obj} {n : String} {vs : Array Value} {Q : Unit → Shared → Prop} (ho : s.heap.get? it = some o) (hc : o.cls = .type n) (hd : o.data = .fields vs)
    (hn : ["enumerate", "zip", "dict_itemiterator", "dict_reverseitemiterator", "odict_iterator", "itertools.zip_longest", "itertools.pairwise"].contains n = false) (hQ : Q () s) : wpAny M A (letOwnedTupleGo tg (.ref it) u) Q E s := by
  unfold letOwnedTupleGo
  cases tg <;> first
    | exact wpAny_pure hQ
    | (cases u <;> first
        | exact wpAny_pure hQ
        | (refine wpAny_bind (wpAny_load ho ?_)
           rw [hc, hd]
           show wpAny M A (if (["enumerate", "zip", "dict_itemiterator", "dict_reverseitemiterator", "odict_iterator", "itertools.zip_longest", "itertools.pairwise"].contains n && vs[0]? == some (rawInt _)) = true then _ else _) Q E s
           rw [if_neg (by intro h; rw [hn, Bool.false_and] at h; cases h)]
           exact wpAny_pure hQ))
def Itl (K : PySem.W.Frag) (a : Addr) : It :=
  ⟨fun i H => ∃ xs x, SqL K H a xs ∧ xs[i]? = some x, fun i H x H' => H' = H ∧ ∀ xs, SqL K H a xs → xs[i]? = some x, fun i H => ∃ xs, SqL K H a xs ∧ xs.length ≤ i⟩
def Itr (lo : Int) (n : Nat) : It := ⟨fun i _ => i < n, fun i H x H' => H' = H ∧ x = .int (lo + i), fun i _ => n ≤ i⟩
theorem turn_list {P : Program} {w : World} {K : PySem.W.Frag} {tg : Expr} (a it : Addr) : Turn P w K tg (Itl K a) [it] it (fun i h => h.IsListIter it a i) where
  mem := by simp
  obj := fun i h st b hb => by
    have e : b = it := by simpa using hb
    subst e
    obtain ⟨o, e, c, d⟩ := st
    exact ⟨o, e, fun v z => by rw [d] at z; cases z⟩
  keep := fun i h h' st k => st.at fun o e => k it (by simp) o e
  item := by
    intro X hP hw hK hc i pins s σ H E I hf st hg
    subst hP hw hK
    obtain ⟨xs, x, hq, hx⟩ := hg
    obtain ⟨its, rv, p, hz⟩ := I.list hq
    obtain ⟨u, hu, ru⟩ := rv.get hx
    obtain ⟨f0, f1, f2, f3, f4, f5⟩ := hf it (by simp)
    refine wpAny_pyNext_list_item st p.isList (x := u) (by simpa using hu) fun h' st' sb => ?_
    have I1 : Inv X pins σ H { s with heap := h' } := I.turned (t' := s.toks) (fun b o hb e => (sb.2 b hb).trans e) f0 f1 f3 f4 f5
    obtain ⟨o, e, c, d⟩ := id st'
    exact ⟨u, rfl, go_of (s := { s with heap := h' }) e c d (by decide) ⟨x, H, I1, ru, ⟨rfl, fun ys hy => by rw [I.list_inj hy hq]; exact hx⟩, st', fun b hb => (hf b hb).1⟩⟩
  done := by
    intro X hP hw hK hc i pins s σ H E I hf st hg
    subst hP hw hK
    obtain ⟨xs, hq, hx⟩ := hg
    obtain ⟨its, rv, p, hz⟩ := I.list hq
    obtain ⟨f0, f1, f2, f3, f4, f5⟩ := hf it (by simp)
    have hl := rv.length
    exact wpAny_pyNext_list_end (I.ok.hd hc) st p.isList (by simp; omega) fun h' eb => ⟨rfl, I.turned (t' := s.toks) (fun b o hb e => eb b o hb e) f0 f1 f3 f4 f5⟩
  self := fun _ _ _ _ _ st h => wpAny_pyIter_listiter st h
theorem turn_range {P : Program} {w : World} {K : PySem.W.Frag} {tg : Expr} (it : Addr) (lo : Int) (n : Nat) : Turn P w K tg (Itr lo n) [it] it (fun i h => IsRangeIter h it (lo + (i : Nat) * 1) ((n : Int) - (i : Nat)) 1) where
  mem := by simp
  obj := fun i h st b hb => by
    have e : b = it := by simpa using hb
    subst e
    exact ⟨_, st, fun v z => by
      have z' : Data.fields _ = Data.cell v := z
      cases z'⟩
  keep := fun i h h' st k => k it (by simp) _ st
  item := by
    intro X hP hw hK hc i pins s σ H E I hf st hg
    subst hP hw hK
    obtain ⟨f0, f1, f2, f3, f4, f5⟩ := hf it (by simp)
    have W := Walks.range (prog := X.prog) (w := X.w) (I.ok.hd hc) it lo 1 n
    refine W.item i s _ _ hg st fun v h' tk hv st' kk => ?_
    obtain ⟨t, rfl⟩ := hv
    have I1 : Inv X pins σ H { s with heap := h', toks := tk } := I.turned (fun b o hb e => kk b o (by simpa using hb) e) f0 f1 f3 f4 f5
    refine ⟨_, rfl, go_of (s := { s with heap := h', toks := tk }) (n := "range_iterator") st' rfl rfl (by decide) ⟨.int (lo + i), H, I1, ⟨t, ?_⟩, ⟨rfl, rfl⟩, st', fun b hb => (hf b hb).1⟩⟩
    rw [Int.mul_one]
  done := by
    intro X hP hw hK hc i pins s σ H E I hf st hg
    subst hP hw hK
    obtain ⟨f0, f1, f2, f3, f4, f5⟩ := hf it (by simp)
    exact wpAny_pyNext_range_end (I.ok.hd hc) st (by have : n ≤ i := hg; omega) fun h' eb => ⟨rfl, I.turned (t' := s.toks) (fun b o hb e => eb b o hb e) f0 f1 f3 f4 f5⟩
  self := fun _ _ _ _ _ st h => wpAny_pyIter_rangeiter st h
section
variable {X : Cx} {tg : Expr}
def iList (K : PySem.W.Frag) (tl : TE) : TI := fun σ H R => tl σ H fun x H1 => ∃ a, x = .ref a ∧ (∃ xs, SqL K H1 a xs) ∧ R (Itl K a) H1
theorem pi_list {l : Expr} {tl : TE} (hl : PE X l tl) : PI X tg l (iList X.K tl) := by
  intro pins s σ H R I h
  refine thn (hl pins s σ H _ I h) fun v s1 ⟨x, H1, I1, r1, q1⟩ => ?_
  obtain ⟨a, e, ⟨xs, hq⟩, q⟩ := q1
  subst e
  cases r1
  obtain ⟨its, rv, p, hz⟩ := I1.list hq
  refine wpAny_pyIter_list p.isList ?_
  refine ⟨s1.heap.objs.size, [s1.heap.objs.size], _, _, H1, rfl, I1.kept (t' := s1.toks) fun b o e => Heap.get?_push_of_some _ e, turn_list a _, ⟨_, Heap.get?_push_size _ rfl, rfl, rfl⟩, fun b hb => ?_, q⟩
  have e : b = s1.heap.objs.size := by simpa using hb
  subst e
  exact I1.fpOk (Nat.le_refl _) (I1.hok.fresh (Nat.le_refl _))
theorem range_it {pins : List (Addr × Obj)} {σ : St} {H : Hp} {s : Shared} {R : It → Hp → Prop} {E : Value → Shared → Prop} {lo hi : Int} {t u v : Tok} {tk : Nat} (I : Inv X pins σ H s) (h1 : -(2 ^ 62) ≤ lo) (h2 : lo < 2 ^ 62) (h3 : -(2 ^ 62) ≤ hi) (h4 : hi < 2 ^ 62)
    (q : R (Itr lo (hi - lo).toNat) H) : wpAny (model X.prog X.w) X.A (pyIter (.ref s.heap.objs.size)) (PIE X pins σ tg R) E { s with heap := s.heap.push { cls := .type "range", data := .fields #[.int lo t, .int hi u, .int 1 v] }, toks := tk } := by
  refine wpAny_pyIter_range (IsRange.new ..) (small_one h1 h2 h3 h4) ?_
  have I1 : Inv X pins σ H { s with heap := s.heap.push { cls := .type "range", data := .fields #[.int lo t, .int hi u, .int 1 v] }, toks := tk } := I.kept fun b o e => Heap.get?_push_of_some _ e
  refine ⟨(s.heap.push { cls := .type "range", data := .fields #[.int lo t, .int hi u, .int 1 v] }).objs.size, [(s.heap.push { cls := .type "range", data := .fields #[.int lo t, .int hi u, .int 1 v] }).objs.size], _, _, H, rfl,
    I1.kept (t' := tk) fun b o e => Heap.get?_push_of_some _ e, turn_range _ lo (hi - lo).toNat, ?_, fun b hb => ?_, q⟩
  · have e1 : lo + ((0 : Nat) : Int) * 1 = lo := by simp
    have e2 : (((hi - lo).toNat : Nat) : Int) - ((0 : Nat) : Int) = Builtin.Range.rangeSize lo hi 1 := by rw [rangeSize_one]; split <;> omega
    show IsRangeIter _ _ (lo + ((0 : Nat) : Int) * 1) ((((hi - lo).toNat : Nat) : Int) - ((0 : Nat) : Int)) 1
    rw [e1, e2]
    exact Heap.get?_push_size _ rfl
  · have e : b = (s.heap.push { cls := .type "range", data := .fields #[.int lo t, .int hi u, .int 1 v] }).objs.size := by simpa using hb
    subst e
    exact I1.fpOk (Nat.le_refl _) (I1.hok.fresh (Nat.le_refl _))
def iRng1 (ta : TA) : TI := fun σ H R => ta σ H fun vs H1 => ∃ j : Int, vs = [.int j] ∧ -(2 ^ 62) ≤ j ∧ j < 2 ^ 62 ∧ R (Itr 0 j.toNat) H1
def iRng2 (ta : TA) : TI := fun σ H R => ta σ H fun vs H1 => ∃ i j : Int, vs = [.int i, .int j] ∧ (-(2 ^ 62) ≤ i ∧ i < 2 ^ 62 ∧ -(2 ^ 62) ≤ j ∧ j < 2 ^ 62) ∧ R (Itr i (j - i).toNat) H1
theorem pi_range1 {a : Expr} {ta : TA} {p pos : Pos} (hg : Gl X "range") (hm : X.mg "range" = none) (ha : PA X [a] ta) (hs : starEach [a] X.env = [(false, eval a X.env)] := by rfl) : PI X tg (.Call (.Name "range" p) [a] [] pos) (iRng1 ta) := by
  intro pins s σ H R I h
  refine Call_ (ld_blt I hg hm boot_range (PyProof.Rows.callWith_type1 (thn (ha pos pins s σ H _ I h) fun us s1 ⟨vs, H1, I1, r1, q1⟩ => ?_) hs rfl))
  obtain ⟨j, e, q1, q2, q⟩ := q1
  subst e
  cases r1 with
  | cons r rr =>
    cases rr
    obtain ⟨t, rfl⟩ := r
    exact call_range_1 (range_it I1 (by omega) (by omega) q1 q2 (by simpa using q))
theorem pi_range2 {a b : Expr} {ta : TA} {p pos : Pos} (hg : Gl X "range") (hm : X.mg "range" = none) (ha : PA X [a, b] ta) (hs : starEach [a, b] X.env = [(false, eval a X.env), (false, eval b X.env)] := by rfl) (hs2 : starEach [b] X.env = [(false, eval b X.env)] := by rfl) :
    PI X tg (.Call (.Name "range" p) [a, b] [] pos) (iRng2 ta) := by
  intro pins s σ H R I h
  refine Call_ (ld_blt I hg hm boot_range (PyProof.Rows.callWith_type1 (thn (ha pos pins s σ H _ I h) fun us s1 ⟨vs, H1, I1, r1, q1⟩ => ?_) (by rw [hs, hs2]) (by rw [hs2]; rfl)))
  obtain ⟨i, j, e, ⟨q1, q2, q3, q4⟩, q⟩ := q1
  subst e
  cases r1 with
  | cons r rr =>
    cases rr with
    | cons r' rr =>
      cases rr
      obtain ⟨t, rfl⟩ := r
      obtain ⟨t', rfl⟩ := r'
      exact call_range_2 (range_it I1 q1 q2 q3 q4 q)
def tFor (wi : TI) (g : TG) (tb : TS) : TS := fun D σ H => wi σ H fun J H1 => ∃ W : Nat → Nat → St → Hp → Prop, (∃ m, W 0 m σ H1) ∧ ∀ i m σ H, W i m σ H →
  (J.stop i H ∧ D.nx σ H) ∨ (J.go i H ∧ ∃ N : St → Hp → Prop, (∀ σ' H', N σ' H' → ∃ m', m' < m ∧ W (i + 1) m' σ' H') ∧ ∀ x H', J.yld i H x H' → g x σ H' fun σ2 H2 => tb { D with nx := N, ct := N, bk := D.nx } σ2 H2)
def pinsAt (fp : List Addr) (h : Heap) : List (Addr × Obj) := fp.filterMap fun b => (h.get? b).map fun o => (b, o)
theorem mem_pinsAt {fp : List Addr} {h : Heap} {b : Addr} {o : Obj} (hb : b ∈ fp) (e : h.get? b = some o) : (b, o) ∈ pinsAt fp h := List.mem_filterMap.mpr ⟨b, hb, by rw [e]; rfl⟩
theorem of_pinsAt {fp : List Addr} {h : Heap} {p : Addr × Obj} (hp : p ∈ pinsAt fp h) : p.1 ∈ fp ∧ h.get? p.1 = some p.2 := by
  obtain ⟨b, hb, e⟩ := List.mem_filterMap.mp hp
  cases q : h.get? b with
  | none => rw [q] at e; cases e
  | some o =>
    rw [q] at e
    have e' : (b, o) = p := Option.some.inj e
    subst e'
    exact ⟨hb, q⟩
theorem Inv.pinned {pins : List (Addr × Obj)} {σ : St} {H : Hp} {s : Shared} {fp : List Addr} (I : Inv X pins σ H s) (hf : ∀ b ∈ fp, FpOk X pins H b) (ho : ∀ b ∈ fp, ∃ o, s.heap.get? b = some o ∧ ∀ v, o.data ≠ .cell v) : Inv X (pins ++ pinsAt fp s.heap) σ H s :=
  I.pins_of fun p hp => (List.mem_append.mp hp).elim (fun z => I.pin p (List.mem_append_right _ z)) fun z => by
    obtain ⟨hb, e⟩ := of_pinsAt z
    obtain ⟨f0, f1, f2, _⟩ := hf p.1 hb
    obtain ⟨o, e', d⟩ := ho p.1 hb
    rw [e] at e'; cases e'
    exact ⟨e, f0, f1, f2, d⟩
theorem Inv.unpinned {pins pl : List (Addr × Obj)} {σ : St} {H : Hp} {s : Shared} (I : Inv X (pins ++ pl) σ H s) : Inv X pins σ H s := I.pins_of fun p hp => I.pin p (List.mem_append_right _ (List.mem_append_left _ hp))
theorem ps_for {iter : Expr} {body : List Stmt} {wi : TI} {g : TG} {tb : TS} {pos : Pos} (hp : PassesOwn (model X.prog X.w) X.A X.env X.xe) (hc : X.calm = true) (hi : PI X tg iter wi) (hg : PG X tg g) (hb : PSs X body tb)
    (hs : ∀ x, foldedSetIterable iter X.env x = pure x := by intro _; rfl) : PS X (.For tg iter body [] pos) (tFor wi g tb) := by
  intro pins s σ H D I h
  refine wpAny_For (thn (hi pins s σ H _ I h) fun v s1 h1 => thn h1 fun itv s2 h2 => ?_) hs
  obtain ⟨it, fp, tn, J, H2, e, I2, T, st2, f2, W, ⟨m0, w0⟩, turn⟩ := h2
  subst e
  -- what stays true of the iterator's objects through the loop
  have stat : ∀ {H' : Hp}, (∀ b ∈ fp, H' b = none) → ∀ b ∈ fp, FpOk X pins H' b := fun hn b hb => ⟨hn b hb, (f2 b hb).2⟩
  refine codeAny_forLoop_any (fun n s' => ∃ i σ' H', Inv X pins σ' H' s' ∧ tn i s'.heap ∧ (∀ b ∈ fp, H' b = none) ∧ W i n σ' H') ?_ m0 ⟨0, σ, H2, I2, st2, fun b hb => (f2 b hb).1, w0⟩
  rintro n s3 ⟨i, σ3, H3, I3, st3, fr3, w3⟩
  rcases turn i n σ3 H3 w3 with ⟨stop, qn⟩ | ⟨go, N, hN, step⟩
  · refine wpAny_passesOwn hp (thn (T.done X rfl rfl rfl hc i pins s3 σ3 H3 X.xe I3 (stat fr3) st3 stop) fun r s4 ⟨hr, I4⟩ => ?_)
    subst hr
    exact wpAny_execs_nil ⟨σ3, H3, I4, qn⟩
  · refine wpAny_passesOwn hp (thn (T.item X rfl rfl rfl hc i pins s3 σ3 H3 X.xe I3 (stat fr3) st3 go) fun r s4 ⟨u, hr, h4⟩ => ?_)
    subst hr
    refine wpAny_passesOwn hp (thn h4 fun _ s5 ⟨x, H5, I5, r5, y5, st5, fr5⟩ => ?_)
    have I5' := I5.pinned (stat fr5) (T.obj _ _ st5)
    refine wpAny_passesOwn hp (thn (hg _ s5 σ3 H5 x u _ I5' r5 (step x H5 y5)) fun _ s6 ⟨σ6, H6, I6, q6⟩ => ?_)
    refine wpAny_passesOwn hp (thn (hb _ s6 σ6 H6 _ I6 q6) fun f s7 q7 => ?_)
    have again : ∀ {σ7 : St} {H7 : Hp}, Inv X (pins ++ pinsAt fp s5.heap) σ7 H7 s7 → N σ7 H7 → ∃ m, m < n ∧ ∃ i σ' H', Inv X pins σ' H' s7 ∧ tn i s7.heap ∧ (∀ b ∈ fp, H' b = none) ∧ W i m σ' H' := fun {σ7 H7} I7 n7 => by
      obtain ⟨m', hm, w7⟩ := hN σ7 H7 n7
      refine ⟨m', hm, i + 1, σ7, H7, I7.unpinned, T.keep _ _ _ st5 fun b hb o e => (I7.pin (b, o) (List.mem_append_right _ (List.mem_append_right _ (mem_pinsAt hb e)))).1, fun b hb => ?_, w7⟩
      obtain ⟨o, e, d⟩ := T.obj _ _ st5 b hb
      exact (I7.pin (b, o) (List.mem_append_right _ (List.mem_append_right _ (mem_pinsAt hb e)))).2.1
    cases f with
    | next => obtain ⟨σ7, H7, I7, n7⟩ := q7; exact again I7 n7
    | cont => obtain ⟨σ7, H7, I7, n7⟩ := q7; exact again I7 n7
    | brk => obtain ⟨σ7, H7, I7, q7⟩ := q7; exact ⟨σ7, H7, I7.unpinned, q7⟩
    | ret v => obtain ⟨x7, σ7, H7, I7, r7, q7⟩ := q7; exact ⟨x7, σ7, H7, I7.unpinned, r7, q7⟩
end
theorem for_list {K : PySem.W.Frag} {a : Addr} {xs : List V} {g : TG} {tb : TS} {D : Ends} {σ : St} {H : Hp} (Pv : Nat → St → Hp → Prop) (h0 : Pv 0 σ H) (hl : ∀ i σ H, i ≤ xs.length → Pv i σ H → SqL K H a xs)
    (hs : ∀ i x σ H, xs[i]? = some x → Pv i σ H → g x σ H fun σ2 H2 => tb { D with nx := Pv (i + 1), ct := Pv (i + 1), bk := D.nx } σ2 H2) (hd : ∀ σ H, Pv xs.length σ H → D.nx σ H) :
    ∃ W : Nat → Nat → St → Hp → Prop, (∃ m, W 0 m σ H) ∧ ∀ i m σ H, W i m σ H →
      ((Itl K a).stop i H ∧ D.nx σ H) ∨ ((Itl K a).go i H ∧ ∃ N : St → Hp → Prop, (∀ σ' H', N σ' H' → ∃ m', m' < m ∧ W (i + 1) m' σ' H') ∧ ∀ x H', (Itl K a).yld i H x H' → g x σ H' fun σ2 H2 => tb { D with nx := N, ct := N, bk := D.nx } σ2 H2) := by
  refine ⟨fun i m σ H => m = xs.length - i ∧ i ≤ xs.length ∧ Pv i σ H, ⟨xs.length, by simp, Nat.zero_le _, h0⟩, ?_⟩
  rintro i m σ H ⟨rfl, hi, p⟩
  have q := hl i σ H hi p
  by_cases hlt : i < xs.length
  · refine .inr ⟨⟨xs, xs[i], q, by simp [hlt]⟩, Pv (i + 1), fun σ' H' p' => ⟨xs.length - (i + 1), by omega, rfl, hlt, p'⟩, fun x H' y => ?_⟩
    obtain ⟨e, y⟩ := y
    subst e
    exact hs i x σ _ (y xs q) p
  · have e : i = xs.length := by omega
    subst e
    exact .inl ⟨⟨xs, q, Nat.le_refl _⟩, hd σ H p⟩
theorem for_range {lo : Int} {n : Nat} {g : TG} {tb : TS} {D : Ends} {σ : St} {H : Hp} (Pv : Nat → St → Hp → Prop) (h0 : Pv 0 σ H)
    (hs : ∀ i σ H, i < n → Pv i σ H → g (.int (lo + i)) σ H fun σ2 H2 => tb { D with nx := Pv (i + 1), ct := Pv (i + 1), bk := D.nx } σ2 H2) (hd : ∀ σ H, Pv n σ H → D.nx σ H) :
    ∃ W : Nat → Nat → St → Hp → Prop, (∃ m, W 0 m σ H) ∧ ∀ i m σ H, W i m σ H →
      ((Itr lo n).stop i H ∧ D.nx σ H) ∨ ((Itr lo n).go i H ∧ ∃ N : St → Hp → Prop, (∀ σ' H', N σ' H' → ∃ m', m' < m ∧ W (i + 1) m' σ' H') ∧ ∀ x H', (Itr lo n).yld i H x H' → g x σ H' fun σ2 H2 => tb { D with nx := N, ct := N, bk := D.nx } σ2 H2) := by
  refine ⟨fun i m σ H => m = n - i ∧ i ≤ n ∧ Pv i σ H, ⟨n, by simp, Nat.zero_le _, h0⟩, ?_⟩
  rintro i m σ H ⟨rfl, hi, p⟩
  by_cases hlt : i < n
  · refine .inr ⟨hlt, Pv (i + 1), fun σ' H' p' => ⟨n - (i + 1), by omega, rfl, hlt, p'⟩, fun x H' y => ?_⟩
    obtain ⟨e, y⟩ := y
    subst e y
    exact hs i σ _ hlt p
  · have e : i = n := by omega
    subst e
    exact .inl ⟨Nat.le_refl _, hd σ H p⟩
abbrev R2 := V → V → Hp → VK → Prop
def OpR (X : Cx) (f : Value → Value → Sem Value) (r : R2) : Prop :=
  ∀ (pins : List (Addr × Obj)) (s : Shared) (σ : St) (H : Hp) (x y : V) (v u : Value) (Q : VK), Inv X pins σ H s → RelV x v → RelV y u → r x y H Q →
    wpAny (model X.prog X.w) X.A (f v u) (EP X pins σ Q) X.xe s
def UnR (X : Cx) (f : Value → Sem Value) (r : V → Hp → VK → Prop) : Prop :=
  ∀ (pins : List (Addr × Obj)) (s : Shared) (σ : St) (H : Hp) (x : V) (v : Value) (Q : VK), Inv X pins σ H s → RelV x v → r x H Q →
    wpAny (model X.prog X.w) X.A (f v) (EP X pins σ Q) X.xe s
def CallR (X : Cx) (f : Value) (r : List V → Hp → VK → Prop) : Prop :=
  ∀ (pins : List (Addr × Obj)) (s : Shared) (σ : St) (H : Hp) (xs : List V) (us : List Value) (Q : VK), Inv X pins σ H s → Vals xs us → r xs H Q →
    wpAny (model X.prog X.w) X.A (call f us) (EP X pins σ Q) X.xe s
def TruR (X : Cx) (r : V → Hp → (Bool → Hp → Prop) → Prop) : Prop :=
  ∀ (pins : List (Addr × Obj)) (s : Shared) (σ : St) (H : Hp) (x : V) (v : Value) (Q : Bool → Hp → Prop), Inv X pins σ H s → RelV x v → r x H Q →
    wpAny (model X.prog X.w) X.A (truthy v) (TP X pins σ Q) X.xe s
def tOp (r : R2) (ta tb : TE) : TE := fun σ H Q => ta σ H fun x H1 => tb σ H1 fun y H2 => r x y H2 Q
def tUn (r : V → Hp → VK → Prop) (ta : TE) : TE := fun σ H Q => ta σ H fun x H1 => r x H1 Q
def rI (C : Int → Int → Prop) (g : Int → Int → V) : R2 := fun x y H Q => ∃ i j, x = .int i ∧ y = .int j ∧ C i j ∧ Q (g i j) H
def rI0 (g : Int → Int → V) : R2 := fun x y H Q => ∃ i j, x = .int i ∧ y = .int j ∧ Q (g i j) H
def rU (g : Int → V) : V → Hp → VK → Prop := fun x H Q => ∃ i, x = .int i ∧ Q (g i) H
section
variable {X : Cx} {a b c : Expr} {ta tb tc : TE} {pos : Pos}
theorem binT (ha : PE X a ta) (hb : PE X b tb) {pins : List (Addr × Obj)} {s : Shared} {σ : St} {H : Hp} {R : V → V → Hp → Prop} (I : Inv X pins σ H s)
    (h : ta σ H fun x H1 => tb σ H1 fun y H2 => R x y H2) {Q : Value → Shared → Prop} {f : Value → Value → Sem Value}
    (hf : ∀ v u s2 x y H2, Inv X pins σ H2 s2 → RelV x v → RelV y u → R x y H2 → wpAny (model X.prog X.w) X.A (f v u) Q X.xe s2) :
    wpAny (model X.prog X.w) X.A (eval a X.env) (fun v s₁ => wpAny (model X.prog X.w) X.A (eval b X.env) (fun u s₂ => wpAny (model X.prog X.w) X.A (f v u) Q X.xe s₂) X.xe s₁) X.xe s := by
  refine thn (ha pins s σ H _ I h) fun v s1 ⟨x, H1, I1, r1, q1⟩ => ?_
  refine thn (hb pins s1 σ H1 _ I1 q1) fun u s2 ⟨y, H2, I2, r2, q2⟩ => ?_
  exact hf v u s2 x y H2 I2 r1 r2 q2
theorem pe_op {op : Operator} {r : R2} (ho : OpR X (binaryOp op) r) (ha : PE X a ta) (hb : PE X b tb) : PE X (.BinOp a op b pos) (tOp r ta tb) := by
  intro pins s σ H Q I h
  exact wpAny_BinOp (binT ha hb I h fun v u s2 x y H2 I2 rx ry q => ho pins s2 σ H2 x y v u Q I2 rx ry q)
theorem pe_un {op : UnaryOp} {r : V → Hp → VK → Prop} (ho : UnR X (unaryOp op) r) (ha : PE X a ta) : PE X (.UnaryOp op a pos) (tUn r ta) := by
  intro pins s σ H Q I h
  exact UnaryOp_ (thn (ha pins s σ H _ I h) fun v s1 ⟨x, H1, I1, r1, q1⟩ => ho pins s1 σ H1 x v Q I1 r1 q1)
theorem opI {f : Value → Value → Sem Value} {C : Int → Int → Prop} {g : Int → Int → Int}
    (rule : ∀ (i j : Int) (t u : Tok) (s : Shared) (Q : Value → Shared → Prop) (E : Value → Shared → Prop), C i j → Q (.int (g i j) s.toks) { s with toks := s.toks + 1 } → wpAny (model X.prog X.w) X.A (f (.int i t) (.int j u)) Q E s) :
    OpR X f (rI C fun i j => .int (g i j)) := by
  intro pins s σ H x y v u Q I rx ry h
  obtain ⟨i, j, rfl, rfl, hc, q⟩ := h
  obtain ⟨t, rfl⟩ := rx
  obtain ⟨t', rfl⟩ := ry
  exact rule i j t t' s _ _ hc ⟨.int (g i j), H, I.tok _, ⟨_, rfl⟩, q⟩
theorem opI0 {f : Value → Value → Sem Value} {g : Int → Int → Int}
    (rule : ∀ (i j : Int) (t u : Tok) (s : Shared) (Q : Value → Shared → Prop) (E : Value → Shared → Prop), Q (.int (g i j) s.toks) { s with toks := s.toks + 1 } → wpAny (model X.prog X.w) X.A (f (.int i t) (.int j u)) Q E s) :
    OpR X f (rI0 fun i j => .int (g i j)) := by
  intro pins s σ H x y v u Q I rx ry h
  obtain ⟨i, j, rfl, rfl, q⟩ := h
  obtain ⟨t, rfl⟩ := rx
  obtain ⟨t', rfl⟩ := ry
  exact rule i j t t' s _ _ ⟨.int (g i j), H, I.tok _, ⟨_, rfl⟩, q⟩
theorem opB0 {f : Value → Value → Sem Value} {g : Int → Int → Bool}
    (rule : ∀ (i j : Int) (t u : Tok) (s : Shared) (Q : Value → Shared → Prop) (E : Value → Shared → Prop), Q (.bool (g i j)) s → wpAny (model X.prog X.w) X.A (f (.int i t) (.int j u)) Q E s) :
    OpR X f (rI0 fun i j => .bl (g i j)) := by
  intro pins s σ H x y v u Q I rx ry h
  obtain ⟨i, j, rfl, rfl, q⟩ := h
  obtain ⟨t, rfl⟩ := rx
  obtain ⟨t', rfl⟩ := ry
  exact rule i j t t' s _ _ ⟨.bl (g i j), H, I, rfl, q⟩
def CDiv (i j : Int) : Prop := 0 < j ∧ j < 1073741824
def CPow (i j : Int) : Prop := 0 ≤ j ∧ j ≤ 1000000 ∧ i.natAbs < 2 ^ 64
def CMul (i j : Int) : Prop := (-(2 ^ 64) < i ∧ i < 2 ^ 64) ∨ (-(2 ^ 64) < j ∧ j < 2 ^ 64)
theorem CMul.ok {i j : Int} (h : CMul i j) : IntMulOk i j := by
  rcases h with ⟨h1, h2⟩ | ⟨h1, h2⟩
  · exact .of_left (intBits_le_64 h1 h2)
  · exact .of_right (intBits_le_64 h1 h2)
theorem op_add : OpR X (binaryOp .Add) (rI0 fun i j => .int (i + j)) := opI0 fun _ _ _ _ _ _ _ q => add_int q
theorem op_sub : OpR X (binaryOp .Sub) (rI0 fun i j => .int (i - j)) := opI0 fun _ _ _ _ _ _ _ q => sub_int q
theorem op_mul : OpR X (binaryOp .Mult) (rI CMul fun i j => .int (i * j)) := opI fun _ _ _ _ _ _ _ hc q => mul_int q hc.ok
theorem op_fdiv : OpR X (binaryOp .FloorDiv) (rI CDiv fun i j => .int (i / j)) := opI fun i j _ _ _ _ _ hc q => by
  have h1 : (0 : Int) < j := hc.1
  have h2 : j < 1073741824 := hc.2
  exact floordiv_int (by omega) (by rw [Int.fdiv_eq_ediv_of_nonneg i (by omega)]; exact q) (.inl (PyProof.noPylong_small (by omega)))
theorem op_mod : OpR X (binaryOp .Mod) (rI (fun _ j => 0 < j) fun i j => .int (i % j)) := opI fun i j _ _ _ _ _ hc q => by
  have h1 : (0 : Int) < j := hc
  exact mod_int' (by omega) (by rw [Int.fmod_eq_emod_of_nonneg i (by omega)]; exact q)
theorem op_pow : OpR X (binaryOp .Pow) (rI CPow fun i j => .int (i ^ j.toNat)) := opI fun _ _ _ _ _ _ _ hc q => pow_int_small hc.1 hc.2.1 hc.2.2 q
theorem unI {f : Value → Sem Value} {g : Int → Int}
    (rule : ∀ (i : Int) (t : Tok) (s : Shared) (Q : Value → Shared → Prop) (E : Value → Shared → Prop), Q (.int (g i) s.toks) { s with toks := s.toks + 1 } → wpAny (model X.prog X.w) X.A (f (.int i t)) Q E s) :
    UnR X f (rU fun i => .int (g i)) := by
  intro pins s σ H x v Q I rx h
  obtain ⟨i, rfl, q⟩ := h
  obtain ⟨t, rfl⟩ := rx
  exact rule i t s _ _ ⟨.int (g i), H, I.tok _, ⟨_, rfl⟩, q⟩
theorem un_neg : UnR X (unaryOp .USub) (rU fun i => .int (-i)) := unI fun _ _ _ _ _ q => neg_int q
end
def scal : V → V → Bool
  | .non, .non => true | .non, .int _ => true | .int _, .non => true | .non, .bl _ => true | .bl _, .non => true | .non, .str _ => true | .str _, .non => true
  | .int _, .int _ => true | .bl _, .bl _ => true | .str _, .str _ => true | .byt _, .byt _ => true
  | .int _, .str _ => true | .str _, .int _ => true | .bl _, .str _ => true | .str _, .bl _ => true
  | _, _ => false
def rEq : R2 := fun x y H Q => scal x y = true ∧ Q (.bl (decide (x = y))) H
def rNe : R2 := fun x y H Q => scal x y = true ∧ Q (.bl (!decide (x = y))) H
theorem dec_int {i j : Int} : decide (V.int i = V.int j) = (i == j) := by
  rw [Bool.eq_iff_iff]
  simp
theorem dec_bl {i j : Bool} : decide (V.bl i = V.bl j) = (i == j) := by
  rw [Bool.eq_iff_iff]
  simp
theorem dec_str {i j : Str} : decide (V.str i = V.str j) = (i == j) := by
  rw [Bool.eq_iff_iff]
  simp
theorem dec_byt {i j : Array UInt8} : decide (V.byt i = V.byt j) = (i.toList == j.toList) := by
  rw [Bool.eq_iff_iff]
  cases i
  cases j
  simp
section
variable {X : Cx} {a b c : Expr} {ta tb tc : TE} {pos : Pos}
theorem fin_bl {pins : List (Addr × Obj)} {σ : St} {H : Hp} {s : Shared} {Q : VK} {k k' : Bool} (I : Inv X pins σ H s) (q : Q (.bl k) H) (e : k = k') : EP X pins σ Q (.bool k') s := by
  subst e
  exact ⟨.bl k, H, I, rfl, q⟩
theorem op_eq : OpR X (compareOp .Eq) rEq := by
  intro pins s σ H x y v u Q I rx ry h
  obtain ⟨hs, q⟩ := h
  cases x with
  | non =>
    cases rx
    cases y with
    | non => cases ry; exact PySem.EqNone.eq_none_none (fin_bl I q (by simp))
    | bl j => cases ry; exact PySem.EqNone.eq_none_bool (fin_bl I q (by simp))
    | int j => obtain ⟨t', rfl⟩ := ry; exact PySem.EqNone.eq_none_int (fin_bl I q (by simp))
    | str j => obtain ⟨t', rfl⟩ := ry; exact PySem.EqNone.eq_none_str (fin_bl I q (by simp))
    | _ => exact absurd (show false = true from hs) Bool.false_ne_true
  | bl i =>
    cases rx
    cases y with
    | non => cases ry; exact PySem.EqNone.eq_bool_none (fin_bl I q (by simp))
    | bl j => cases ry; exact eq_bool (fin_bl I q dec_bl)
    | str j => obtain ⟨t', rfl⟩ := ry; exact PySem.EqMixed.eq_bool_str (fin_bl I q (by simp))
    | _ => exact absurd (show false = true from hs) Bool.false_ne_true
  | int i =>
    obtain ⟨t, rfl⟩ := rx
    cases y with
    | non => cases ry; exact PySem.EqNone.eq_int_none (fin_bl I q (by simp))
    | int j => obtain ⟨t', rfl⟩ := ry; exact eq_int (fin_bl I q dec_int)
    | str j => obtain ⟨t', rfl⟩ := ry; exact PySem.EqMixed.eq_int_str (fin_bl I q (by simp))
    | _ => exact absurd (show false = true from hs) Bool.false_ne_true
  | str i =>
    obtain ⟨t, rfl⟩ := rx
    cases y with
    | non => cases ry; exact PySem.EqNone.eq_str_none (fin_bl I q (by simp))
    | bl j => cases ry; exact PySem.EqMixed.eq_str_bool (fin_bl I q (by simp))
    | int j => obtain ⟨t', rfl⟩ := ry; exact PySem.EqMixed.eq_str_int (fin_bl I q (by simp))
    | str j => obtain ⟨t', rfl⟩ := ry; exact eq_str (fin_bl I q dec_str)
    | _ => exact absurd (show false = true from hs) Bool.false_ne_true
  | byt i =>
    obtain ⟨t, rfl⟩ := rx
    cases y with
    | byt j => obtain ⟨t', rfl⟩ := ry; exact PySem.W.eq_bytes (fin_bl I q dec_byt)
    | _ => exact absurd (show false = true from hs) Bool.false_ne_true
  | _ => cases y <;> exact absurd (show false = true from hs) Bool.false_ne_true
theorem op_ne : OpR X (compareOp .NotEq) rNe := by
  intro pins s σ H x y v u Q I rx ry h
  obtain ⟨hs, q⟩ := h
  cases x with
  | non =>
    cases rx
    cases y with
    | non => cases ry; exact PySem.EqNone.ne_none_none (fin_bl I q (by simp))
    | bl j => cases ry; exact PySem.EqNone.ne_none_bool (fin_bl I q (by simp))
    | int j => obtain ⟨t', rfl⟩ := ry; exact PySem.EqNone.ne_none_int (fin_bl I q (by simp))
    | str j => obtain ⟨t', rfl⟩ := ry; exact PySem.EqNone.ne_none_str (fin_bl I q (by simp))
    | _ => exact absurd (show false = true from hs) Bool.false_ne_true
  | bl i =>
    cases rx
    cases y with
    | non => cases ry; exact PySem.EqNone.ne_bool_none (fin_bl I q (by simp))
    | bl j => cases ry; exact ne_bool (fin_bl I q (congrArg not dec_bl))
    | str j => obtain ⟨t', rfl⟩ := ry; exact PySem.EqMixed.ne_bool_str (fin_bl I q (by simp))
    | _ => exact absurd (show false = true from hs) Bool.false_ne_true
  | int i =>
    obtain ⟨t, rfl⟩ := rx
    cases y with
    | non => cases ry; exact PySem.EqNone.ne_int_none (fin_bl I q (by simp))
    | int j => obtain ⟨t', rfl⟩ := ry; exact ne_int (fin_bl I q (congrArg not dec_int))
    | str j => obtain ⟨t', rfl⟩ := ry; exact PySem.EqMixed.ne_int_str (fin_bl I q (by simp))
    | _ => exact absurd (show false = true from hs) Bool.false_ne_true
  | str i =>
    obtain ⟨t, rfl⟩ := rx
    cases y with
    | non => cases ry; exact PySem.EqNone.ne_str_none (fin_bl I q (by simp))
    | bl j => cases ry; exact PySem.EqMixed.ne_str_bool (fin_bl I q (by simp))
    | int j => obtain ⟨t', rfl⟩ := ry; exact PySem.EqMixed.ne_str_int (fin_bl I q (by simp))
    | str j => obtain ⟨t', rfl⟩ := ry; exact ne_str (fin_bl I q (congrArg not dec_str))
    | _ => exact absurd (show false = true from hs) Bool.false_ne_true
  | byt i =>
    obtain ⟨t, rfl⟩ := rx
    cases y with
    | byt j => obtain ⟨t', rfl⟩ := ry; exact PySem.W.ne_bytes (fin_bl I q (congrArg not dec_byt))
    | _ => exact absurd (show false = true from hs) Bool.false_ne_true
  | _ => cases y <;> exact absurd (show false = true from hs) Bool.false_ne_true
theorem op_lt : OpR X (compareOp .Lt) (rI0 fun i j => .bl (decide (i < j))) := opB0 fun _ _ _ _ _ _ _ q => lt_int q
theorem op_le : OpR X (compareOp .LtE) (rI0 fun i j => .bl (decide (i ≤ j))) := opB0 fun _ _ _ _ _ _ _ q => le_int q
theorem nomark (b : Expr) {op : CmpOp} (h : op ≠ .In := by decide) (h2 : op ≠ .NotIn := by decide) : behindInMarks op b = false := by
  have e1 : (op == CmpOp.In) = false := by cases op <;> first | rfl | exact absurd rfl h
  have e2 : (op == CmpOp.NotIn) = false := by cases op <;> first | rfl | exact absurd rfl h2
  cases b <;> simp [behindInMarks, e1, e2]
theorem pe_cmpR {op : CmpOp} {r : R2} (ho : OpR X (compareOp op) r) (ha : PE X a ta) (hb : PE X b tb) (hm : behindInMarks op b = false) : PE X (.Compare a [op] [b] pos) (tOp r ta tb) := by
  intro pins s σ H Q I h
  exact wpAny_Compare1 (binT ha hb I h fun v u s2 x y H2 I2 rx ry q => ho pins s2 σ H2 x y v u Q I2 rx ry q) hm
def tTest (t : TE) : TT := fun σ H Q => t σ H fun x H' => ∃ k, x = .bl k ∧ Q k H'
theorem pt_cmpR {op : CmpOp} {r : R2} (ho : OpR X (compareOp op) r) (ha : PE X a ta) (hb : PE X b tb) (hm : behindInMarks op b = false) : PT X (.Compare a [op] [b] pos) (tTest (tOp r ta tb)) := by
  intro pins s σ H Q I h
  refine wpAny_isTrue_Compare1 (thn (ha pins s σ H _ I h) fun v s1 ⟨x, H1, I1, r1, q1⟩ => thn (hb pins s1 σ H1 _ I1 q1) fun u s2 ⟨y, H2, I2, r2, q2⟩ =>
    thn (ho pins s2 σ H2 x y v u _ I2 r1 r2 q2) fun c s3 ⟨z, H3, I3, r3, k, e, q3⟩ => ?_) hm
  subst e
  cases r3
  exact wpAny_truthy_bool ⟨H3, I3, q3⟩
def tChain (r r' : R2) (ta tb tc : TE) : TE := fun σ H Q => ta σ H fun x H1 => tb σ H1 fun y H2 => r x y H2 fun z H3 => ∃ k, z = .bl k ∧
  (if k = true then tc σ H3 fun w' H4 => r' y w' H4 Q else Q (.bl false) H3)
theorem pe_chain {op op' : CmpOp} {r r' : R2} (ho : OpR X (compareOp op) r) (ho' : OpR X (compareOp op') r') (ha : PE X a ta) (hb : PE X b tb) (hc : PE X c tc)
    (hm : lastMarks [op, op'] [b, c] = false := by with_unfolding_all rfl) : PE X (.Compare a [op, op'] [b, c] pos) (tChain r r' ta tb tc) := by
  intro pins s σ H Q I h
  refine Compare_chain (thn (ha pins s σ H _ I h) fun v s1 ⟨x, H1, I1, r1, q1⟩ => chain_link (thn (hb pins s1 σ H1 _ I1 q1) fun u s2 ⟨y, H2, I2, r2, q2⟩ =>
    thn (ho pins s2 σ H2 x y v u _ I2 r1 r2 q2) fun d s3 ⟨z, H3, I3, r3, k, e, q3⟩ => ?_)) hm
  subst e
  cases r3
  refine wpAny_truthy_bool ?_
  cases k with
  | false => exact ite_ff ⟨.bl false, H3, I3, rfl, q3⟩
  | true => exact ite_tt (chain_last (thn (hc pins s3 σ H3 _ I3 q3) fun w' s4 ⟨z', H4, I4, r4, q4⟩ => ho' pins s4 σ H4 y z' u w' Q I4 r2 r4 q4))
def TruV (K : PySem.W.Frag) (x : V) (H : Hp) (k : Bool) : Prop :=
  match x with
  | .non => k = false
  | .bl b => k = b
  | .int i => k = (i != 0)
  | .str y => y.length ≤ sizeLine ∧ k = ((y.length : Int) != 0)
  | .byt y => y.size ≤ sizeLine ∧ k = ((y.size : Int) != 0)
  | .ref p => (∃ xs, SqL K H p xs ∧ k = !xs.isEmpty) ∨ (∃ xs, SqT K H p xs ∧ k = !xs.isEmpty) ∨ ∃ kvs, H p = some (.dK kvs) ∧ k = !kvs.isEmpty
  | _ => False
theorem isEmpty_kv {κ : Type} {kvs : List (κ × V)} {vs : List (κ × Value)} (r : KV kvs vs) : (!vs.isEmpty) = !kvs.isEmpty := by
  cases r <;> rfl
theorem isEmpty_of {xs : List V} {its : List Value} (r : Vals xs its) : (!its.toArray.isEmpty) = !xs.isEmpty := by
  cases r <;> simp
theorem line63 : (sizeLine : Nat) < 2 ^ 63 := by rw [sizeLine_eq]; decide
theorem tru_ok : TruR X (fun x H Q => ∃ k, TruV X.K x H k ∧ Q k H) := by
  intro pins s σ H x v Q I rx h
  obtain ⟨k, e, q⟩ := h
  have hl := line63
  have hs : sizeLine = 16777216 := sizeLine_eq
  cases x with
  | non =>
    cases rx
    have e' : k = false := e
    subst e'
    exact truthy_none ⟨H, I, q⟩
  | bl b =>
    cases rx
    have e' : k = b := e
    subst e'
    exact wpAny_truthy_bool ⟨H, I, q⟩
  | int i =>
    obtain ⟨t, rfl⟩ := rx
    have e' : k = (i != 0) := e
    subst e'
    exact PySem.P.truthy_int ⟨H, I, q⟩
  | str y =>
    obtain ⟨t, rfl⟩ := rx
    obtain ⟨hy, e'⟩ : y.length ≤ sizeLine ∧ k = ((y.length : Int) != 0) := e
    subst e'
    exact PySem.P.truthy_str (by omega) ⟨H, I.tok _, q⟩
  | byt y =>
    obtain ⟨t, rfl⟩ := rx
    obtain ⟨hy, e'⟩ : y.size ≤ sizeLine ∧ k = ((y.size : Int) != 0) := e
    subst e'
    exact PySem.W.truthy_bytes (by omega) ⟨H, I.tok _, q⟩
  | ref p =>
    cases rx
    have e' : (∃ xs, SqL X.K H p xs ∧ k = !xs.isEmpty) ∨ (∃ xs, SqT X.K H p xs ∧ k = !xs.isEmpty) ∨ ∃ kvs, H p = some (.dK kvs) ∧ k = !kvs.isEmpty := e
    rcases e' with ⟨xs, hx, e'⟩ | ⟨xs, hx, e'⟩ | ⟨kvs, hx, e'⟩
    · subst e'
      obtain ⟨its, r, pl, hz⟩ := I.list hx
      have hlen := r.length
      exact wpAny_truthy_list pl.isList (by simp only [List.size_toArray]; omega) ⟨H, I.tok _, by rw [isEmpty_of r]; exact q⟩
    · subst e'
      obtain ⟨its, r, pl, hz⟩ := I.tuple hx
      have hlen := r.length
      exact truthy_tuple pl (by simp only [List.size_toArray]; omega) ⟨H, I.tok _, by rw [isEmpty_of r]; exact q⟩
    · subst e'
      obtain ⟨hz, hS, vs, r, m⟩ : kvs.length ≤ sizeLine ∧ (p == sysModules) = false ∧ ∃ vs, KV kvs vs ∧ s.heap.DictOf (mixKind X.prog X.w) p vs := I.hok p _ hx
      have hlen : kvs.length = vs.length := Paired.length r
      exact wpAny_truthy_dict hS m (by omega) ⟨H, I.tok _, by rw [isEmpty_kv r]; exact q⟩
  | _ => exact (show False from e).elim
theorem op_add_str : OpR X (binaryOp .Add) (fun x y H Q => ∃ i j, x = .str i ∧ y = .str j ∧ i.length + j.length ≤ sizeLine ∧ Q (.str (i ++ j)) H) := by
  intro pins s σ H x y v u Q I rx ry h
  obtain ⟨i, j, rfl, rfl, hz, q⟩ := h
  obtain ⟨t, rfl⟩ := rx
  obtain ⟨t', rfl⟩ := ry
  exact add_str (fun t' tk => ⟨.str (i ++ j), H, I.tok _, ⟨_, rfl⟩, q⟩) hz
theorem vals1 {x : V} {us : List Value} (r : Vals [x] us) : ∃ u, us = [u] ∧ RelV x u := by
  cases r with
  | cons r1 r2 => cases r2; exact ⟨_, rfl, r1⟩
theorem vals2 {x y : V} {us : List Value} (r : Vals [x, y] us) : ∃ u w', us = [u, w'] ∧ RelV x u ∧ RelV y w' := by
  cases r with
  | cons r1 r2 =>
    cases r2 with
    | cons r3 r4 => cases r4; exact ⟨_, _, rfl, r1, r3⟩
end
structure ObjM (h : Heap) (x dx C : Addr) (mA : Str → Option Value) : Prop where
  obj : h.get? x = some (PySem.W.instObj C dx)
  ns : h.Ns1 dx mA
  ne : dx ≠ x
theorem lookIn_ns {h : Heap} {dx : Addr} {mA : Str → Option Value} (n : h.Ns1 dx mA) : ∃ od, h.get? dx = some od ∧ ∀ name, PySem.W.lookIn name od = some (mA name) := by
  obtain ⟨o, es, ep, ho, hd, hk, _, hm⟩ := n
  refine ⟨o, ho, fun name => ?_⟩
  have e := hm name
  unfold nsFind findBy at e
  rw [← Array.find?_toList] at e
  unfold PySem.W.lookIn
  rw [hd]
  dsimp only
  split
  · rename_i y q
    rw [q] at e
    exact congrArg some e
  · rename_i q
    rw [q] at e
    have a : es.toList.any (·.refKey) = false := by
      rw [List.any_eq_false]
      intro y hy
      obtain ⟨z, t, hkey⟩ := hk y (Array.mem_toList_iff.mp hy)
      simp [DictEntry.refKey, hkey]
    have a' : ¬ es.toList.any (·.refKey) = true := by rw [a]; exact Bool.false_ne_true
    rw [if_neg a']
    exact congrArg some e
theorem ObjM.look {h : Heap} {x dx C : Addr} {mA : Str → Option Value} (I : ObjM h x dx C mA) : ∃ od, PySem.W.InstAt h x (PySem.W.instObj C dx) C (some od) ∧ ∀ name, PySem.W.lookIn name od = some (mA name) :=
  let ⟨od, ho, hl⟩ := lookIn_ns I.ns
  ⟨od, ⟨I.obj, rfl, rfl, ho⟩, hl⟩
section
variable {prog : Program} {w : World} {A : Around} {E : Value → Shared → Prop} {s : Shared} {K : PySem.W.Frag} {x dx C f : Addr} {mA : Str → Option Value} {name : Str} {v : Value}
theorem get_map {expr : Bool} {Q : Value → Shared → Prop} (X : K.In s.heap) (I : ObjM s.heap x dx C mA) (hg : PySem.W.plainGet K C name = true) (hh : PySem.W.hasDictIn K C = true)
    (ha : PySem.W.findIn K (.ref C) name = some none) (hv : mA name = some v) (hv' : PySem.W.handedIn v = true) (h : Q v { s with toks := s.toks + 1 }) :
    wpAny (model prog w) A (getAttr (.ref x) name expr) Q E s := by
  obtain ⟨od, J, hl⟩ := I.look
  exact PySem.W.get_value X J (PySem.W.plainGet_of hg).1 (PySem.W.findObj_own hh ha rfl (by rw [hl, hv])) hv' h
theorem get_meth {pl : Sem Bool} {Q : Value × List Value → Shared → Prop} (X : K.In s.heap) (I : ObjM s.heap x dx C mA) (hg : PySem.W.plainGet K C name = true)
    (hf : PySem.W.findIn K (.ref C) name = some (some (.ref f))) (ht : PySem.W.isFn K (.ref f) = true) (hv : mA name = none) (h : Q (.ref f, [.ref x]) s) :
    wpAny (model prog w) A (getMethod (.ref x) name pl) Q E s := by
  obtain ⟨od, J, hl⟩ := I.look
  exact PySem.W.method_fn X J (PySem.W.plainGet_of hg).1 (PySem.W.plainGet_of hg).2 hf (beq_iff_eq.mp ht) (by show (PySem.W.lookIn name od).map (·.isSome) = some false; rw [hl, hv]; rfl) h
theorem set_map {ns : List Str} {Q : Unit → Shared → Prop} (X : K.In s.heap) (I : ObjM s.heap x dx C mA)
    (hs : PySem.W.findIn K (.ref C) "__setattr__" = some (some (.builtin "object.__setattr__"))) (hp : PySem.W.plainOver K C = true) (ht : PySem.W.takerIn K C name = some none) (hh : PySem.W.hasDictIn K C = true)
    (hw : PySem.Within mA ns) (hsz : ns.length ≤ sizeLine)
    (h : ∀ h', ObjM h' x dx C (fun y => if y = name then some v else mA y) → Heap.SameBut dx s.heap h' → Q () { s with heap := h', toks := s.toks + 2 }) :
    wpAny (model prog w) A (setAttr (.ref x) name v) Q E s := by
  obtain ⟨od, J, hl⟩ := I.look
  refine PySem.W.set_plain X J hs (PySem.W.osa_open (s := { s with toks := s.toks + 1 }) (r := none) X J hp ht fun b => ?_)
  obtain ⟨cd, hc, hd'⟩ := PySem.W.any_some hh
  have hx : s.heap.get? x = some ⟨.ref C, some dx, .plain, #[]⟩ := I.obj
  refine wpAny_bind (wpAny_pure (wpAny_bind (wpAny_bind (wpAny_loadPart hx (wpAny_bind (PySem.W.Looks.here (s := { s with toks := s.toks + 1 }) (PySem.W.looks_clsIn X hc) ?_))))))
  rw [hd']
  refine wpAny_pure (a := some dx) (wpAny_bind (wpAny_pure (wpAny_bind ?_)))
  refine wpAny_nsSet1 (s := { s with toks := s.toks + 1 }) I.ns fun h' hn2 hs2 => ?_
  obtain ⟨oD, esD, epD, hoD, hdD, hcD⟩ := hn2.count (PySem.Within.cons name v hw)
  refine wpAny_bind (wpAny_lookBehind hoD (by rw [hdD]; exact pastItsLine_dict (Nat.le_trans hcD (by rw [List.length_cons]; omega))) ?_)
  exact wpAny_pure (h _ ⟨(hs2.2 _ (Ne.symm I.ne)).trans I.obj, hn2, I.ne⟩ hs2)
theorem make_map {R : Result → Shared → Prop} {vs : List Value} {kw : List (Str × Value)} (X : K.In s.heap) (hm : PySem.W.makesIn K C = true)
    (hi : PySem.W.findIn K (.ref C) "__init__" = some (some (.ref f))) (hf : PySem.W.typeIn K (.ref f) = some (.type "function"))
    (h : codeAny (model prog w) (A.under (.builtin "type.__call__" ⟨.ref C :: vs, kw⟩)) (.call (.ref f) ⟨.ref (s.heap.objs.size + 1) :: vs, kw⟩) (PySem.W.InitBack (s.heap.objs.size + 1) R)
      { s with heap := (s.heap.push PySem.W.emptyDict).push (PySem.W.instObj C s.heap.objs.size) }) :
    codeAny (model prog w) A (.call (.ref C) ⟨vs, kw⟩) R s := by
  obtain ⟨hh, g, d, t, os⟩ := s
  exact PySem.W.make_core (PySem.W.makes_of X hm) (PySem.W.looks_findIn X hi) (fun self => PySem.W.bind_fn X self hf) (.inl rfl) h
end
def putF (f : Str) (v : V) : List (Str × V) → List (Str × V)
  | [] => [(f, v)]
  | (g, x) :: r => if g = f then (g, v) :: r else (g, x) :: putF f v r
theorem lookup_putF (f g : Str) (v : V) : ∀ fs : List (Str × V), (putF f v fs).lookup g = if g = f then some v else fs.lookup g
  | [] => by
    show List.lookup g [(f, v)] = _
    by_cases h : g = f
    · have hb : (g == f) = true := beq_iff_eq.mpr h
      simp only [List.lookup, hb, if_pos h]
    · have hb : (g == f) = false := beq_eq_false_iff_ne.mpr h
      simp only [List.lookup, hb, if_neg h]
  | (k, x) :: r => by
    have ih := lookup_putF f g v r
    rw [show putF f v ((k, x) :: r) = (if k = f then (k, v) :: r else (k, x) :: putF f v r) from rfl]
    by_cases hk : k = f
    · rw [if_pos hk]
      by_cases h : g = k
      · have hb : (g == k) = true := beq_iff_eq.mpr h
        simp only [List.lookup, hb, if_pos (h.trans hk)]
      · have hb : (g == k) = false := beq_eq_false_iff_ne.mpr h
        simp only [List.lookup, hb, if_neg (fun e : g = f => h (e.trans hk.symm))]
    · rw [if_neg hk]
      by_cases h : g = k
      · have hb : (g == k) = true := beq_iff_eq.mpr h
        simp only [List.lookup, hb, if_neg (fun e : g = f => hk (h.symm.trans e))]
      · have hb : (g == k) = false := beq_eq_false_iff_ne.mpr h
        simp only [List.lookup, hb]
        exact ih
theorem keys_putF (f : Str) (v : V) : ∀ fs : List (Str × V), f ∈ (putF f v fs).map (·.1) ∧ ∀ g, g ∈ fs.map (·.1) → g ∈ (putF f v fs).map (·.1)
  | [] => ⟨by simp [putF], fun g h => by simp at h⟩
  | (k, x) :: r => by
    obtain ⟨i1, i2⟩ := keys_putF f v r
    rw [show putF f v ((k, x) :: r) = (if k = f then (k, v) :: r else (k, x) :: putF f v r) from rfl]
    by_cases hk : k = f
    · rw [if_pos hk]
      subst hk
      exact ⟨by simp, fun g h => by simpa using h⟩
    · rw [if_neg hk]
      refine ⟨?_, fun g h => ?_⟩
      · rw [List.map_cons]
        exact List.mem_cons_of_mem _ i1
      · rw [List.map_cons] at h ⊢
        rcases List.mem_cons.mp h with e | e
        · exact List.mem_cons.mpr (.inl e)
        · exact List.mem_cons_of_mem _ (i2 g e)
theorem length_putF (f : Str) (v : V) : ∀ fs : List (Str × V), (putF f v fs).length ≤ fs.length + 1
  | [] => by simp [putF]
  | (k, x) :: r => by
    have ih := length_putF f v r
    rw [show putF f v ((k, x) :: r) = (if k = f then (k, v) :: r else (k, x) :: putF f v r) from rfl]
    by_cases hk : k = f
    · rw [if_pos hk, List.length_cons, List.length_cons]; omega
    · rw [if_neg hk, List.length_cons, List.length_cons]; omega
theorem RelO.some_of {v : V} {o : Option Value} (r : RelO (some v) o) : ∃ u, o = some u ∧ RelV v u := by
  cases o with
  | none => exact (show False from r).elim
  | some u => exact ⟨u, rfl, r⟩
theorem RelO.none_of {o : Option Value} (r : RelO none o) : o = none := by
  cases o with
  | none => rfl
  | some u => exact (show False from r).elim
theorem handed_of {v : V} {u : Value} (r : RelV v u) : PySem.W.handedIn u = true := by
  cases v with
  | non => cases (show u = Value.none from r); rfl
  | bl b => cases (show u = Value.bool b from r); rfl
  | int i => obtain ⟨t, e⟩ := (show ∃ t, u = Value.int i t from r); cases e; rfl
  | str x => obtain ⟨t, e⟩ := (show ∃ t, u = Value.str x t from r); cases e; rfl
  | byt b => obtain ⟨t, e⟩ := (show ∃ t, u = Value.bytes b t from r); cases e; rfl
  | flt b => obtain ⟨t, e⟩ := (show ∃ t, u = Value.float b t from r); cases e; rfl
  | ref a => cases (show u = Value.ref a from r); rfl
  | ty n => cases (show u = Value.type n from r); rfl
section
variable {P : Program} {w : World} {H H' : Hp} {h h' : Heap} {a C dx : Addr} {fs fs' : List (Str × V)}
theorem ins_get (hok : HOk P w H h) (e : H a = some (.ins C dx fs)) : ∃ mA, ObjM h a dx C mA ∧ (∀ f, RelO (fs.lookup f) (mA f)) ∧ PySem.Within mA (fs.map (·.1)) ∧ fs.length ≤ 1000 ∧ H dx = some (.own a) := by
  obtain ⟨d, z, ne, ob, mA, n, r, q⟩ := (show ObjOk P w H h a (.ins C dx fs) from hok a _ e)
  exact ⟨mA, ⟨ob, n, ne⟩, r, q, z, d⟩
end
structure Cls (K : PySem.W.Frag) (C : Addr) : Prop where
  pg : PySem.W.plainGet K C Str.empty = true
  hd : PySem.W.hasDictIn K C = true
  po : PySem.W.plainOver K C = true
  sa : PySem.W.findIn K (.ref C) "__setattr__" = some (some (.builtin "object.__setattr__"))
theorem Cls.get {K : PySem.W.Frag} {C : Addr} (c : Cls K C) (f : Str) : PySem.W.plainGet K C f = true := c.pg
def NoAttr (K : PySem.W.Frag) (C : Addr) (f : Str) : Prop := PySem.W.findIn K (.ref C) f = some none
theorem NoAttr.taker {K : PySem.W.Frag} {C : Addr} {f : Str} (n : NoAttr K C f) : PySem.W.takerIn K C f = some none := by
  unfold PySem.W.takerIn
  rw [show PySem.W.findIn K (.ref C) f = some none from n]
  rfl
structure Meth (K : PySem.W.Frag) (C : Addr) (m : Str) (f : Addr) : Prop where
  at_ : PySem.W.findIn K (.ref C) m = some (some (.ref f))
  fn : PySem.W.isFn K (.ref f) = true
  kp : PySem.W.keepIn K (.ref f) = true
section
variable {X : Cx} {pins : List (Addr × Obj)} {σ : St} {H : Hp} {s : Shared} {a C dx : Addr} {fs : List (Str × V)} {f : Str} {v : V} {A : Around} {E : Value → Shared → Prop}
theorem getattr_ok {b : Bool} {Q : Value → Shared → Prop} (I : Inv X pins σ H s) (e : H a = some (.ins C dx fs)) (c : Cls X.K C) (n : NoAttr X.K C f) (l : fs.lookup f = some v)
    (h : ∀ u s', Inv X pins σ H s' → RelV v u → Q u s') : wpAny (model X.prog X.w) A (getAttr (.ref a) f b) Q E s := by
  obtain ⟨mA, O, r, _, _, _⟩ := ins_get I.hok e
  obtain ⟨u, hu, ru⟩ := RelO.some_of (v := v) (o := mA f) (by rw [← l]; exact r f)
  exact get_map I.kIn O (c.get f) c.hd n hu (handed_of ru) (h u _ (I.tok _) ru)
theorem getmeth_ok {m : Str} {g : Addr} {pl : Sem Bool} {Q : Value × List Value → Shared → Prop} (I : Inv X pins σ H s) (e : H a = some (.ins C dx fs)) (c : Cls X.K C) (k : Meth X.K C m g) (l : fs.lookup m = none)
    (h : Q (.ref g, [.ref a]) s) : wpAny (model X.prog X.w) A (getMethod (.ref a) m pl) Q E s := by
  obtain ⟨mA, O, r, _, _, _⟩ := ins_get I.hok e
  have hn : mA m = none := RelO.none_of (by rw [← l]; exact r m)
  exact get_meth I.kIn O (c.get m) k.at_ k.fn hn h
theorem setattr_ok {y : V} {u : Value} {Q : Unit → Shared → Prop} (I : Inv X pins σ H s) (e : H a = some (.ins C dx fs)) (c : Cls X.K C) (n : NoAttr X.K C f) (hl : fs.length < 1000) (ry : RelV y u)
    (h : ∀ s', Inv X pins σ (upd H a (.ins C dx (putF f y fs))) s' → Q () s') : wpAny (model X.prog X.w) A (setAttr (.ref a) f u) Q E s := by
  obtain ⟨mA, O, r, wi, _, ho⟩ := ins_get I.hok e
  have hz : (fs.map (·.1)).length ≤ sizeLine := by rw [List.length_map, sizeLine_eq]; omega
  refine set_map I.kIn O c.sa c.po n.taker c.hd wi hz fun h' O' sb => h _ ?_
  have hd : ∃ o, h'.get? dx = some o := let ⟨o, _, _, e', _⟩ := O'.ns; ⟨o, e'⟩
  refine I.write (x := a) (e := dx) (by rw [e]; exact True.intro) (.inr ho) (fun b q hb z => (sb.2 b hb).trans z) hd ?_
  refine ⟨by rw [upd_ne O.ne]; exact ho, ?_, O.ne, O'.obj, _, O'.ns, fun g => ?_, fun g hg => ?_⟩
  · have := length_putF f y fs; omega
  · show RelO ((putF f y fs).lookup g) (if g = f then some u else mA g)
    rw [lookup_putF]
    by_cases q : g = f
    · rw [if_pos q, if_pos q]; exact ry
    · rw [if_neg q, if_neg q]; exact r g
  · by_cases q : g = f
    · rw [q]; exact (keys_putF f y fs).1
    · refine (keys_putF f y fs).2 g (wi g fun z => hg ?_)
      show (if g = f then some u else mA g) = none
      rw [if_neg q]; exact z
theorem Inv.made (I : Inv X pins σ H s) : Inv X pins σ (upd (upd H s.heap.objs.size (.own (s.heap.objs.size + 1))) (s.heap.objs.size + 1) (.ins C s.heap.objs.size []))
    { s with heap := (s.heap.push PySem.W.emptyDict).push (PySem.W.instObj C s.heap.objs.size) } := by
  have e1 : (s.heap.push PySem.W.emptyDict).get? s.heap.objs.size = some PySem.W.emptyDict := Heap.get?_push_size s.heap rfl
  have e2 : ((s.heap.push PySem.W.emptyDict).push (PySem.W.instObj C s.heap.objs.size)).get? (s.heap.objs.size + 1) = some (PySem.W.instObj C s.heap.objs.size) := by
    have := Heap.get?_push_size (s.heap.push PySem.W.emptyDict) (o := PySem.W.instObj C s.heap.objs.size) rfl
    rwa [Heap.size_push] at this
  have e3 : (s.heap.push PySem.W.emptyDict).Ns s.heap.objs.size (fun _ => none) := ⟨PySem.W.emptyDict, #[], _, e1, rfl, (fun e he => absurd he (by simp)), fun _ => rfl⟩
  have I1 := I.laid (a := s.heap.objs.size) (o := .own (s.heap.objs.size + 1)) (h' := s.heap.push PySem.W.emptyDict) (t' := s.toks) (fun b u q => Heap.get?_push_of_some _ q) (Nat.le_refl _) ⟨_, e1⟩
  refine I1.laid (a := s.heap.objs.size + 1) (o := .ins C s.heap.objs.size []) (t' := s.toks) (fun b u q => Heap.get?_push_of_some _ q) (Nat.le_of_eq (Heap.size_push _ _)) ?_
  have ne : s.heap.objs.size ≠ s.heap.objs.size + 1 := Nat.ne_of_lt (Nat.lt_succ_self _)
  refine ⟨by rw [upd_ne ne, upd_same], Nat.zero_le _, ne, e2, fun _ => none, (Heap.Ns1.of_empty e3).at fun o q => Heap.get?_push_of_some _ q, fun _ => True.intro, fun y hy => absurd rfl hy⟩
theorem attr_of {prog : Program} {w : World} {env : Env} {e : Expr} {f : Str} {pos : Pos} {s : Shared} {Q : Value → Shared → Prop} (hb : attributeBase e f env (eval e env) = eval e env)
    (h : wpAny (model prog w) A (eval e env) (fun o s₁ => wpAny (model prog w) A (getAttr o f true) Q E s₁) E s) : wpAny (model prog w) A (eval (.Attribute e f pos) env) Q E s :=
  Attribute_any_ h (by rw [arm_eval_Attribute, hb])
end
def tFld (K : PySem.W.Frag) (ta : TE) (f : Str) : TE := fun σ H Q => ta σ H fun x H1 => ∃ a C dx fs v, x = .ref a ∧ H1 a = some (.ins C dx fs) ∧ Cls K C ∧ NoAttr K C f ∧ fs.lookup f = some v ∧ Q v H1
def sFld (K : PySem.W.Frag) (ta tv : TE) (f : Str) : TS := fun D σ H => tv σ H fun y H1 => ta σ H1 fun x H2 => ∃ a C dx fs, x = .ref a ∧ H2 a = some (.ins C dx fs) ∧ Cls K C ∧ NoAttr K C f ∧ fs.length < 1000 ∧
  D.nx σ (upd H2 a (.ins C dx (putF f y fs)))
section
variable {X : Cx} {o e value : Expr} {f : Str} {pos pos' tpos : Pos} {ta tv : TE}
theorem pe_fld (he : PE X e ta) (hb : attributeBase e f X.env (eval e X.env) = eval e X.env) : PE X (.Attribute e f pos) (tFld X.K ta f) := by
  intro pins s σ H Q I h
  refine attr_of hb (thn (he pins s σ H _ I h) fun u s1 ⟨x, H1, I1, rx, a, C, dx, fs, v, ex, ea, c, n, l, q⟩ => ?_)
  subst ex
  obtain rfl : u = Value.ref a := rx
  exact getattr_ok I1 ea c n l fun u' s2 I2 ru => ⟨v, H1, I2, ru, q⟩
theorem ps_fld (ha : PE X o ta) (hv : PE X value tv) (hs : swapsWith value (some (.Attribute o f pos')) pos.line X.env = pure false) : PS X (.Assign [.Attribute o f pos'] value pos) (sFld X.K ta tv f) := by
  intro pins s σ H D I h
  refine plainObj_wpAny_Assign_Attribute (thn (hv pins s σ H _ I h) fun u s1 ⟨y, H1, I1, ry, q⟩ => thn (ha pins s1 σ H1 _ I1 q) fun ov s2 ⟨x, H2, I2, rx, a, C, dx, fs, ex, ea, c, n, l, q2⟩ => ?_) hs
  subst ex
  obtain rfl : ov = Value.ref a := rx
  exact setattr_ok I2 ea c n l ry fun s3 I3 => ⟨σ, _, I3, q2⟩
theorem methcall_of {pl : Sem Bool} {m : Str} {apos : Pos} {args : List Expr} {pins : List (Addr × Obj)} {s : Shared} {σ : St} {H : Hp} {Q : Value → Shared → Prop} {te : TE} (he : PE X e te) (I : Inv X pins σ H s)
    (h : te σ H fun x H1 => ∃ a C dx fs g, x = .ref a ∧ H1 a = some (.ins C dx fs) ∧ Cls X.K C ∧ Meth X.K C m g ∧ fs.lookup m = none ∧
      ∀ s1, Inv X pins σ H1 s1 → wpAny (model X.prog X.w) X.A (callWith pos (.ref g) [.ref a] (backTo pos (starEach args X.env)) (backToKw pos (keywordEach [] X.env))) Q X.xe s1)
    (ht : eval (.Call (.Attribute e m apos) args [] pos) X.env = (do
      let ov ← eval e X.env
      standAt apos.atName
      let (f, first) ← holding [ov] (getMethod ov m pl)
      callWith pos f first (backTo pos (starEach args X.env)) (backToKw pos (keywordEach [] X.env)))) :
    wpAny (model X.prog X.w) X.A (eval (.Call (.Attribute e m apos) args [] pos) X.env) Q X.xe s := by
  refine PySem.W.methodCall_KW (pl := pl) (thn (he pins s σ H _ I h) fun u s1 ⟨x, H1, I1, rx, a, C, dx, fs, g, ex, ea, c, k, l, q⟩ => ?_) ht
  subst ex
  obtain rfl : u = Value.ref a := rx
  exact getmeth_ok I1 ea c k l (q s1 I1)
end
section
variable {X : Cx} {pins : List (Addr × Obj)} {σ : St} {H : Hp} {s : Shared} {A : Around} {E : Value → Shared → Prop} {Q : Value → Shared → Prop} {c : Value} {b : Bool}
inductive TyOf (K : PySem.W.Frag) (H : Hp) : V → Value → Prop where
  | non : TyOf K H .non (.type "NoneType")
  | bl (x : Bool) : TyOf K H (.bl x) (.type "bool")
  | int (i : Int) : TyOf K H (.int i) (.type "int")
  | str (x : Str) : TyOf K H (.str x) (.type "str")
  | flt (x : UInt64) : TyOf K H (.flt x) (.type "float")
  | lst {a : Addr} {xs : List V} (e : H a = some (.lst xs)) : TyOf K H (.ref a) (.type "list")
  | frz {a : Addr} {o : Obj} {xs : List V} (e : H a = some (.frz o (.lst xs))) : TyOf K H (.ref a) (.type "list")
  | tup {a : Addr} {xs : List V} (e : H a = some (.tup xs)) : TyOf K H (.ref a) (.type "tuple")
  | dK {a : Addr} {kvs : List (Key × V)} (e : H a = some (.dK kvs)) : TyOf K H (.ref a) (.type "dict")
  | dT {a : Addr} {kvs : List (List Key × V)} (e : H a = some (.dT kvs)) : TyOf K H (.ref a) (.type "dict")
  | ins {a C dx : Addr} {fs : List (Str × V)} (e : H a = some (.ins C dx fs)) (cl : Cls K C) (ha : PySem.W.findIn K (.ref C) "__class__" = some (some (.builtin "object.__class__")))
      (hn : PySem.W.specialIn K (.builtin "object.__class__") "__get__" = some (some (.builtin "getset_descriptor.__get__"))) (htk : PySem.W.takesIn K (.builtin "object.__class__") = some true)
      (hm : PySem.W.mroIn K C (.type "object") = some true) : TyOf K H (.ref a) (.ref C)
theorem isinst_ok {x : V} {u t : Value} (I : Inv X pins σ H s) (rx : RelV x u) (ty : TyOf X.K H x t) (e : PySem.W.kitOne X.K t c = some b) (h : ∀ tk, Q (.bool b) { s with toks := tk }) :
    wpAny (model X.prog X.w) A (call (.builtin "isinstance") [u, c]) Q E s := by
  cases ty with
  | non => cases (show u = Value.none from rx); exact PySem.W.kia_one PySem.W.kitx_none I.kIn True.intro e (fun z => nomatch z) h
  | bl y => cases (show u = Value.bool y from rx); exact PySem.W.kia_one PySem.W.kitx_bool I.kIn True.intro e (fun z => nomatch z) h
  | int i => obtain ⟨t, q⟩ := (show ∃ t, u = Value.int i t from rx); cases q; exact PySem.W.kia_one PySem.W.kitx_int I.kIn True.intro e (fun z => nomatch z) h
  | str y => obtain ⟨t, q⟩ := (show ∃ t, u = Value.str y t from rx); cases q; exact PySem.W.kia_one PySem.W.kitx_str I.kIn True.intro e (fun z => nomatch z) h
  | flt y => obtain ⟨t, q⟩ := (show ∃ t, u = Value.float y t from rx); cases q; exact PySem.W.kia_one PySem.W.kitx_float I.kIn True.intro e (fun z => nomatch z) h
  | @lst a xs ea =>
    cases (show u = Value.ref a from rx)
    obtain ⟨_, _, n, _, h1⟩ := (show ObjOk X.prog X.w H s.heap a (.lst xs) from I.hok a _ ea)
    exact PySem.W.kia_one PySem.W.kitx_list I.kIn ⟨_, h1, rfl⟩ e (fun z => nomatch z) h
  | @frz a ob xs ea =>
    cases (show u = Value.ref a from rx)
    obtain ⟨_, _, _, n, _, h1⟩ := (show ObjOk X.prog X.w H s.heap a (.frz ob (.lst xs)) from I.hok a _ ea)
    exact PySem.W.kia_one PySem.W.kitx_list I.kIn ⟨_, h1, rfl⟩ e (fun z => nomatch z) h
  | @tup a xs ea =>
    cases (show u = Value.ref a from rx)
    obtain ⟨_, _, _, p⟩ := (show ObjOk X.prog X.w H s.heap a (.tup xs) from I.hok a _ ea)
    obtain ⟨o, h1, h2, _⟩ := p
    exact PySem.W.kia_one PySem.W.kitx_tuple I.kIn ⟨o, h1, h2⟩ e (fun z => nomatch z) h
  | @dK a kvs ea =>
    cases (show u = Value.ref a from rx)
    obtain ⟨_, _, vs, _, p⟩ := (show ObjOk X.prog X.w H s.heap a (.dK kvs) from I.hok a _ ea)
    obtain ⟨o, es, ep, h1, h2, _⟩ := p
    exact PySem.W.kia_one PySem.W.kitx_dict I.kIn ⟨o, h1, h2.1⟩ e (fun z => nomatch z) h
  | @dT a kvs ea =>
    cases (show u = Value.ref a from rx)
    obtain ⟨_, _, xs, _, o, es, ep, h1, h2, _⟩ := (show ObjOk X.prog X.w H s.heap a (.dT kvs) from I.hok a _ ea)
    exact PySem.W.kia_one PySem.W.kitx_dict I.kIn ⟨o, h1, h2.1⟩ e (fun z => nomatch z) h
  | @ins a C dx fs ea cl ha hn htk hm =>
    cases (show u = Value.ref a from rx)
    obtain ⟨mA, O, _⟩ := ins_get I.hok ea
    obtain ⟨od, J, _⟩ := O.look
    exact PySem.W.kia_one (PySem.W.kitx_own (cl.get _) cl.hd ha hn htk hm) I.kIn J e (fun z => nomatch z) h
end
structure Room (k : Nat) (A : Around) : Prop where
  hd : A.handled = none
  dp : A.depth + 3 * k + 5 < recursionLimit
  un : A.units + 16 * k + 200 < cLine
theorem Room.mono {j k : Nat} {A : Around} (r : Room k A) (h : j ≤ k) : Room j A := ⟨r.hd, by have := r.dp; omega, by have := r.un; omega⟩
theorem Room.deeper {k : Nat} {A : Around} (r : Room (k + 1) A) (env : Env) : Room k (A.deeper env) :=
  ⟨r.hd, by have := r.dp; show A.depth + 1 + 3 * k + 5 < _; omega, by have := r.un; show A.units + 3 + 16 * k + 200 < _; omega⟩
theorem make_depth {A : Around} {C : Addr} {us : List Value} {kw : List (Str × Value)} : (A.under (.builtin "type.__call__" ⟨.ref C :: us, kw⟩)).depth = A.depth + 1 := by
  first | rfl | simp [Around.under, Code.weight, Code.isCreation, Code.isGuard, Code.isCaller, Code.frames, Code.isFrame, guardIds]
theorem make_units {A : Around} {C : Addr} {us : List Value} {kw : List (Str × Value)} : (A.under (.builtin "type.__call__" ⟨.ref C :: us, kw⟩)).units = A.units + 1 := by
  first | rfl | simp [Around.under, Code.cUnits, Code.frames, Code.isFrame]
theorem Room.make {k : Nat} {A : Around} (r : Room (k + 1) A) (C : Addr) (us : List Value) (kw : List (Str × Value)) : Room k (A.under (.builtin "type.__call__" ⟨.ref C :: us, kw⟩)) :=
  ⟨r.hd, by have := r.dp; rw [make_depth]; omega, by have := r.un; rw [make_units]; omega⟩
theorem Room.depth {k : Nat} {A : Around} (r : Room k A) : A.depth < recursionLimit := by have := r.dp; omega
theorem Room.units {k : Nat} {A : Around} (r : Room k A) : A.units + 64 < cLine := by have := r.un; omega
def tNil : TA := fun _ H Q => Q [] H
def tCons (ta : TE) (tr : TA) : TA := fun σ H Q => ta σ H fun x H1 => tr σ H1 fun xs H2 => Q (x :: xs) H2
section
variable {X : Cx} {e : Expr} {es : List Expr} {te : TE} {t : TA} {pos : Pos}
theorem pa_nil : PA X [] tNil := fun _ _ _ _ H Q I h => Calls.spliced_nil ⟨[], H, I, .nil, h⟩
theorem pa_cons (ha : PE X e te) (hr : PA X es t) (hs : starEach (e :: es) X.env = (false, eval e X.env) :: starEach es X.env := by rfl) : PA X (e :: es) (tCons te t) := by
  intro pos pins s σ H Q I h
  rw [hs]
  show wpAny _ _ (spliced ((false, eval e X.env) :: backTo pos (starEach es X.env))) _ _ s
  refine Calls.spliced_cons (thn (ha pins s σ H _ I h) fun u s1 ⟨x, H1, I1, r1, q1⟩ => ?_)
  exact thn (hr pos pins s1 σ H1 _ I1 q1) fun us s2 ⟨xs, H2, I2, r2, q2⟩ => ⟨x :: xs, H2, I2, .cons r1 r2, q2⟩
def tTup (t : TA) : TE := fun σ H Q => t σ H fun xs H1 => xs.length ≤ sizeLine ∧ ∀ p, H1 p = none → Q (.ref p) (upd H1 p (.tup xs))
def tLst (t : TA) : TE := fun σ H Q => t σ H fun xs H1 => xs.length ≤ sizeLine ∧ ∀ p, H1 p = none → Q (.ref p) (upd H1 p (.lst xs))
theorem pe_tup {x1} (h : PA X es t) : PE X (.Tuple es x1 pos) (tTup t) := by
  intro pins s σ H Q I hq
  refine wpAny_Tuple_spliced (thn (h pos pins s σ H _ I hq) fun us s1 ⟨xs, H1, I1, r, z, q⟩ => ⟨by rw [← r.length]; exact z, ?_⟩)
  have hf : H1 s1.heap.objs.size = none := I1.hok.fresh (Nat.le_refl _)
  refine ⟨.ref s1.heap.objs.size, upd H1 s1.heap.objs.size (.tup xs), I1.laid (t' := s1.toks) (fun b u e => Heap.get?_push_of_some _ e) (Nat.le_refl _) ?_, rfl, q _ hf⟩
  exact ⟨z, us, r, ⟨_, Heap.get?_push_size _ rfl, rfl, _, rfl⟩⟩
theorem pe_lst (h : PA X es t) : PE X (.List es pos) (tLst t) := by
  intro pins s σ H Q I hq
  refine wpAny_List_spliced (thn (h pos pins s σ H _ I hq) fun us s1 ⟨xs, H1, I1, r, z, q⟩ => ⟨by rw [← r.length]; exact z, ?_⟩)
  have hf : H1 s1.heap.objs.size = none := I1.hok.fresh (Nat.le_refl _)
  refine ⟨.ref s1.heap.objs.size, upd H1 s1.heap.objs.size (.lst xs), I1.laid (t' := s1.toks) (fun b u e => Heap.get?_push_of_some _ e) (Nat.le_refl _) ?_, rfl, q _ hf⟩
  exact ⟨z, us, 0, r, Heap.get?_push_size _ rfl⟩
end
abbrev Sp := List V → Hp → VK → XK → Prop
abbrev CXT := List Env → Hp → Shared → XK → Value → Shared → Prop
structure Env0 (P : Program) (w : World) (K : PySem.W.Frag) (mg : Str → Option Value) (base : Heap) (A : Around) (outer : List Env) (s : Shared) (H : Hp) : Prop where
  frames : A.frames = some outer
  mod : Mod K mg base
  bs : ∀ b o, base.get? b = some o → s.heap.get? b = some o ∧ H b = none
  bsz : base.objs.size ≤ s.heap.objs.size
  funs : s.heap.FunFrames base outer
  frf : ∀ b ∈ frs outer, H b = none
  hok : HOk P w H s.heap
  bare : AllBare s.gens
def CE (outer : List Env) (P : Program) (w : World) (H : Hp) (s : Shared) (Q : VK) (u : Value) (s' : Shared) : Prop :=
  ∃ v H', s'.os = s.os ∧ AllBare s'.gens ∧ Un (frs outer) [] H H' s.heap s'.heap ∧ HOk P w H' s'.heap ∧ RelV v u ∧ Q v H'
def CR (CX : CXT) (outer : List Env) (P : Program) (w : World) (H : Hp) (s : Shared) (Q : VK) (E : XK) (r : Result) (s' : Shared) : Prop :=
  match r with
  | .ok (.ret u) => CE outer P w H s Q u s'
  | .ok _ => False
  | .error e => CX outer H s E e s'
structure FnOk (P : Program) (w : World) (K : PySem.W.Frag) (mg : Str → Option Value) (base : Heap) (CX : CXT) (k : Nat) (f : Addr) (fd : FuncData) (ps : List Str) (sp : Sp) : Prop where
  len : ∀ vs H Q E, sp vs H Q E → vs.length = ps.length
  run : ∀ (A : Around) (outer : List Env) (s : Shared) (H : Hp) (args : Args) (us : List Value) (vs : List V) (Q : VK) (E : XK), Room k A → Env0 P w K mg base A outer s H → BindsTo s fd args (ps.zip us) → Vals vs us → sp vs H Q E →
    codeAny (model P w) A (.call (.ref f) args) (CR CX outer P w H s Q E) s
theorem FnOk.imp {P : Program} {w : World} {K : PySem.W.Frag} {mg : Str → Option Value} {base : Heap} {CX : CXT} {k : Nat} {f : Addr} {fd : FuncData} {ps : List Str} {sp sp' : Sp} (F : FnOk P w K mg base CX k f fd ps sp)
    (h : ∀ vs H Q E, sp' vs H Q E → sp vs H Q E) : FnOk P w K mg base CX k f fd ps sp' :=
  ⟨fun vs H Q E q => F.len vs H Q E (h _ _ _ _ q), fun A outer s H args us vs Q E hr he hb hv hs => F.run A outer s H args us vs Q E hr he hb hv (h _ _ _ _ hs)⟩
theorem Env0.make {P : Program} {w : World} {K : PySem.W.Frag} {mg : Str → Option Value} {base : Heap} {A : Around} {outer : List Env} {s : Shared} {H : Hp} (e : Env0 P w K mg base A outer s H) (C : Addr) (us : List Value) (kw : List (Str × Value)) :
    Env0 P w K mg base (A.under (.builtin "type.__call__" ⟨.ref C :: us, kw⟩)) outer s H := ⟨by first | exact e.frames | (simpa [Around.under, Code.envs, Code.isFrame, pushEnvs] using e.frames), e.mod, e.bs, e.bsz, e.funs, e.frf, e.hok, e.bare⟩
section
variable {X : Cx} {pins : List (Addr × Obj)} {σ : St} {H : Hp} {s s' : Shared}
theorem Inv.env0 (I : Inv X pins σ H s) : Env0 X.prog X.w X.K X.mg X.base X.A X.stack s H :=
  ⟨I.ok.frames, I.ok.mod, I.bs, Nat.le_trans I.ok.bsz I.sz, I.stack, I.stkFree, I.hok, I.bare⟩
theorem Inv.after {Q : VK} {u : Value} (I : Inv X pins σ H s) (h : CE X.stack X.prog X.w H s Q u s') : EP X pins σ Q u s' := by
  obtain ⟨v, H', os, bare, un, hok, r, q⟩ := h
  obtain ⟨hh, g, d, t, os'⟩ := s'
  obtain rfl : os' = s.os := os
  exact ⟨v, H', I.call (h' := hh) (g' := g) (d' := d) (t' := t) (ch := []) un hok bare (fun b z => absurd z (by simp)), r, q⟩
end
def tCall (sp : Sp) (dvs : List V) (E : XK) (t : TA) : TE := fun σ H Q => t σ H fun vs H1 => sp (vs ++ dvs) H1 Q E
def tMeth (C : Addr) (m : Str) (sp : Sp) (dvs : List V) (E : XK) (ta : TE) (t : TA) : TE := fun σ H Q => ta σ H fun x H1 => ∃ a dx fs, x = .ref a ∧ H1 a = some (.ins C dx fs) ∧ fs.lookup m = none ∧
  t σ H1 fun vs H2 => sp (x :: (vs ++ dvs)) H2 Q E
def tMake (C : Addr) (sp : Sp) (dvs : List V) (E : XK) (t : TA) : TE := fun σ H Q => t σ H fun vs H1 => ∀ x dx, H1 x = none → H1 dx = none → dx ≠ x →
  sp (.ref x :: (vs ++ dvs)) (upd (upd H1 dx (.own x)) x (.ins C dx [])) (fun v H2 => v = .non ∧ Q (.ref x) H2) E
def Binds (K : PySem.W.Frag) (fd : FuncData) (ps : List Str) (ds : List Value) : Prop :=
  ∀ (s : Shared) (us : List Value), K.In s.heap → (us ++ ds).length = ps.length → BindsTo s fd ⟨us, []⟩ (ps.zip (us ++ ds))
theorem Binds.all {K : PySem.W.Frag} {fd : FuncData} {ps : List Str} (h : ∀ us : List Value, us.length = ps.length → bindArgs fd ⟨us, []⟩ = pure (ps.zip us)) : Binds K fd ps [] := fun s us _ hl => by
  rw [List.append_nil] at hl ⊢
  exact .of_eq (h us hl)
def Passes (CX : CXT) (X : Cx) (E : XK) : Prop := ∀ (pins : List (Addr × Obj)) (σ : St) (H : Hp) (s : Shared) (e : Value) (s' : Shared), Inv X pins σ H s → CX X.stack H s E e s' → X.xe e s'
section
variable {X : Cx} {CX : CXT} {k : Nat} {f C : Addr} {fd : FuncData} {ps : List Str} {sp : Sp} {dvs : List V} {ds : List Value} {E : XK} {x m : Str} {p pos apos : Pos} {e o : Expr} {es : List Expr} {ta : TE} {t : TA}
theorem run_fn {pins : List (Addr × Obj)} {σ : St} {H : Hp} {s : Shared} {Q : VK} {us : List Value} {vs : List V} (F : FnOk X.prog X.w X.K X.mg X.base CX k f fd ps sp) (hr : Room k X.A) (hb : Binds X.K fd ps ds) (hd : Vals dvs ds) (hx : Passes CX X E)
    (I : Inv X pins σ H s) (r : Vals vs us) (h : sp (vs ++ dvs) H Q E) : wpAny (model X.prog X.w) X.A (call (.ref f) us) (EP X pins σ Q) X.xe s := by
  have r2 : Vals (vs ++ dvs) (us ++ ds) := r.append hd
  have hl : (us ++ ds).length = ps.length := by rw [← r2.length]; exact F.len _ _ _ _ h
  refine wpAny_call (codeAny_mono (F.run X.A X.stack s H ⟨us, []⟩ (us ++ ds) (vs ++ dvs) Q E hr I.env0 (hb s us I.kIn hl) r2 h) fun r s' hq => ?_)
  cases r with
  | error e => exact hx pins σ H s e s' I hq
  | ok fl =>
    cases fl with
    | ret u => exact I.after hq
    | next => exact False.elim hq
    | brk => exact False.elim hq
    | cont => exact False.elim hq
theorem pe_call (F : FnOk X.prog X.w X.K X.mg X.base CX k f fd ps sp) (hr : Room k X.A) (hg : Gl X x) (hm : X.mg x = some (.ref f)) (hk : PySem.W.keepIn X.K (.ref f) = true) (hb : Binds X.K fd ps ds) (hd : Vals dvs ds) (hx : Passes CX X E)
    (ha : PA X (e :: es) t) (hdb : (x == ("__debug__" : Str)) = false := by decide) (he : starEach (e :: es) X.env = (false, eval e X.env) :: starEach es X.env := by rfl) (hpl : (backTo pos (starEach es X.env)).any (·.1) = false := by rfl) :
    PE X (.Call (.Name x p) (e :: es) [] pos) (tCall sp dvs E t) := by
  intro pins s σ H Q I h
  refine wpAny_Call_Name_kw (ld_glob I hg hm ?_ hdb)
  refine PySem.W.callWith_K (h₀ := X.base) I.ok.mod.kin hk (thn (ha pos pins s σ H _ I h) fun us s1 ⟨vs, H1, I1, r, q⟩ => ⟨I1.kIn, ?_⟩) he hpl
  exact run_fn F hr hb hd hx I1 r q
theorem pe_meth {pl : Sem Bool} (he : PE X o ta) (c : Cls X.K C) (hm : Meth X.K C m f) (F : FnOk X.prog X.w X.K X.mg X.base CX k f fd ps sp) (hr : Room k X.A) (hb : Binds X.K fd ps ds) (hd : Vals dvs ds) (hx : Passes CX X E) (ha : PA X (e :: es) t)
    (hst : starEach (e :: es) X.env = (false, eval e X.env) :: starEach es X.env := by rfl) (hpl : (backTo pos (starEach es X.env)).any (·.1) = false := by rfl)
    (ht : eval (.Call (.Attribute o m apos) (e :: es) [] pos) X.env = (do
      let ov ← eval o X.env
      standAt apos.atName
      let (f, first) ← holding [ov] (getMethod ov m pl)
      callWith pos f first (backTo pos (starEach (e :: es) X.env)) (backToKw pos (keywordEach [] X.env))) := by rfl) :
    PE X (.Call (.Attribute o m apos) (e :: es) [] pos) (tMeth C m sp dvs E ta t) := by
  intro pins s σ H Q I h
  refine PySem.W.methodCall_KW (pl := pl) (thn (he pins s σ H _ I h) fun u s1 ⟨x, H1, I1, rx, a, dx, fs, ex, ea, l, q⟩ => ?_) ht
  subst ex
  obtain rfl : u = Value.ref a := rx
  refine getmeth_ok I1 ea c hm l ?_
  refine PySem.W.callWith_K (first := [.ref a]) (h₀ := X.base) I.ok.mod.kin hm.kp (thn (ha pos pins s1 σ H1 _ I1 q) fun us s2 ⟨vs, H2, I2, r, q2⟩ => ⟨I2.kIn, ?_⟩) hst hpl
  exact run_fn (us := .ref a :: us) (vs := .ref a :: vs) F hr hb hd hx I2 (.cons rfl r) q2
theorem pe_meth0 {pl : Sem Bool} (he : PE X o ta) (c : Cls X.K C) (hm : Meth X.K C m f) (F : FnOk X.prog X.w X.K X.mg X.base CX k f fd ps sp) (hr : Room k X.A) (hb : Binds X.K fd ps ds) (hd : Vals dvs ds) (hx : Passes CX X E)
    (ht : eval (.Call (.Attribute o m apos) [] [] pos) X.env = (do
      let ov ← eval o X.env
      standAt apos.atName
      let (f, first) ← holding [ov] (getMethod ov m pl)
      callWith pos f first (backTo pos (starEach [] X.env)) (backToKw pos (keywordEach [] X.env))) := by rfl) :
    PE X (.Call (.Attribute o m apos) [] [] pos) (tMeth C m sp dvs E ta tNil) := by
  intro pins s σ H Q I h
  refine PySem.W.methodCall_KW (pl := pl) (thn (he pins s σ H _ I h) fun u s1 ⟨x, H1, I1, rx, a, dx, fs, ex, ea, l, q⟩ => ?_) ht
  subst ex
  obtain rfl : u = Value.ref a := rx
  refine getmeth_ok I1 ea c hm l ?_
  exact PySem.W.callWith_K0 (first := [.ref a]) I1.kIn hm.kp (run_fn (us := [.ref a]) (vs := [.ref a]) F hr hb hd hx I1 (.cons rfl .nil) q)
structure Mk (K : PySem.W.Frag) (C f : Addr) : Prop where
  makes : PySem.W.makesIn K C = true
  init : PySem.W.findIn K (.ref C) "__init__" = some (some (.ref f))
  fn : PySem.W.isFn K (.ref f) = true
  kp : PySem.W.keepIn K (.ref C) = true
theorem run_make {pins : List (Addr × Obj)} {σ : St} {H : Hp} {s : Shared} {Q : VK} {us : List Value} {vs : List V} (M : Mk X.K C f) (F : FnOk X.prog X.w X.K X.mg X.base CX k f fd ps sp) (hr : Room (k + 1) X.A) (hb : Binds X.K fd ps ds) (hd : Vals dvs ds)
    (hx : Passes CX X E) (I : Inv X pins σ H s) (r : Vals vs us)
    (h : ∀ x dx, H x = none → H dx = none → dx ≠ x → sp (.ref x :: (vs ++ dvs)) (upd (upd H dx (.own x)) x (.ins C dx [])) (fun v H2 => v = .non ∧ Q (.ref x) H2) E) :
    wpAny (model X.prog X.w) X.A (call (.ref C) us) (EP X pins σ Q) X.xe s := by
  have hq := h (s.heap.objs.size + 1) s.heap.objs.size (I.hok.fresh (Nat.le_succ _)) (I.hok.fresh (Nat.le_refl _)) (Nat.ne_of_lt (Nat.lt_succ_self _))
  have I2 := Inv.made (C := C) I
  have r2 : Vals (V.ref (s.heap.objs.size + 1) :: (vs ++ dvs)) (Value.ref (s.heap.objs.size + 1) :: (us ++ ds)) := .cons rfl (r.append hd)
  have hl : (Value.ref (s.heap.objs.size + 1) :: us ++ ds).length = ps.length := by
    have e := r2.length
    rw [F.len _ _ _ _ hq] at e
    exact e.symm
  refine wpAny_call (make_map (f := f) I.kIn M.makes M.init (beq_iff_eq.mp M.fn) (codeAny_mono (F.run _ X.stack _ _ ⟨Value.ref (s.heap.objs.size + 1) :: us, []⟩ (Value.ref (s.heap.objs.size + 1) :: (us ++ ds)) _ _ E (hr.make C us [])
    (I2.env0.make C us []) (hb _ (Value.ref (s.heap.objs.size + 1) :: us) I2.kIn hl) r2 hq) fun r s' hq' => ?_))
  cases r with
  | error e => exact hx pins σ _ _ e s' I2 hq'
  | ok fl =>
    cases fl with
    | ret u =>
      obtain ⟨v, H', I3, rv, ev, q3⟩ := I2.after hq'
      subst ev
      exact ⟨rv, ⟨V.ref (s.heap.objs.size + 1), H', I3, rfl, q3⟩⟩
    | next => exact False.elim hq'
    | brk => exact False.elim hq'
    | cont => exact False.elim hq'
theorem pe_make (M : Mk X.K C f) (F : FnOk X.prog X.w X.K X.mg X.base CX k f fd ps sp) (hr : Room (k + 1) X.A) (hg : Gl X x) (hm : X.mg x = some (.ref C)) (hb : Binds X.K fd ps ds) (hd : Vals dvs ds) (hx : Passes CX X E)
    (ha : PA X (e :: es) t) (hdb : (x == ("__debug__" : Str)) = false := by decide) (he : starEach (e :: es) X.env = (false, eval e X.env) :: starEach es X.env := by rfl) (hpl : (backTo pos (starEach es X.env)).any (·.1) = false := by rfl) :
    PE X (.Call (.Name x p) (e :: es) [] pos) (tMake C sp dvs E t) := by
  intro pins s σ H Q I h
  refine wpAny_Call_Name_kw (ld_glob I hg hm ?_ hdb)
  refine PySem.W.callWith_K (h₀ := X.base) I.ok.mod.kin M.kp (thn (ha pos pins s σ H _ I h) fun us s1 ⟨vs, H1, I1, r, q⟩ => ⟨I1.kIn, ?_⟩) he hpl
  exact run_make M F hr hb hd hx I1 r q
theorem pe_make0 (M : Mk X.K C f) (F : FnOk X.prog X.w X.K X.mg X.base CX k f fd ps sp) (hr : Room (k + 1) X.A) (hg : Gl X x) (hm : X.mg x = some (.ref C)) (hb : Binds X.K fd ps ds) (hd : Vals dvs ds) (hx : Passes CX X E)
    (hdb : (x == ("__debug__" : Str)) = false := by decide) : PE X (.Call (.Name x p) [] [] pos) (tMake C sp dvs E tNil) := by
  intro pins s σ H Q I h
  refine wpAny_Call_Name_kw (ld_glob I hg hm ?_ hdb)
  exact PySem.W.callWith_K0 I.kIn M.kp (run_make (us := []) M F hr hb hd hx I .nil h)
end
section
variable {X : Cx} {CX : CXT} {k : Nat} {f C : Addr} {fd : FuncData} {ps ks : List Str} {sp : Sp} {E : XK} {x m : Str} {p pos apos kpos : Pos} {e o : Expr} {es : List Expr} {kws : List Keyword} {te ta : TE} {t tk : TA} {nm : Option Str}
variable {g : List Value → List Value → List Value} {gV : List V → List V → List V}
end
structure FnScope (N P : List Str) (sc : Scope) : Prop where
  kind : sc.kind = .function
  co : sc.isCoroutine = false
  gen : sc.isGenerator = false
  nd : N.Nodup
  pre : N.take P.length = P
  par : ∀ x ∈ P, sc.names.lookup x = some .local ∨ sc.names.lookup x = some .cell
  nofree : ∀ y ∈ sc.names, y.2 ≠ .free
theorem bindL_out {kindOf : Str → Option NameKind} {x : Str} : ∀ {binds : List (Str × Value)} {m : Str → Option Value}, (∀ v, (x, v) ∉ binds) → bindL kindOf binds m x = m x
  | [], _, _ => rfl
  | (n, v) :: r, m, h => by
    unfold bindL
    rw [bindL_out fun w hw => h w (List.mem_cons_of_mem _ hw)]
    split
    · have : x ≠ n := by rintro rfl; exact h v List.mem_cons_self
      simp [this]
    · rfl
theorem bindC_out {kindOf : Str → Option NameKind} {x : Str} : ∀ {binds : List (Str × Value)} {m : Str → Option Value}, (∀ v, (x, v) ∉ binds) → bindC kindOf binds m x = m x
  | [], _, _ => rfl
  | (n, v) :: r, m, h => by
    unfold bindC
    rw [bindC_out fun w hw => h w (List.mem_cons_of_mem _ hw)]
    split
    · rfl
    · have : x ≠ n := by rintro rfl; exact h v List.mem_cons_self
      simp [this]
theorem bindL_get {kindOf : Str → Option NameKind} {x : Str} {v : Value} : ∀ {P : List Str} {vs : List Value} {i : Nat} {m : Str → Option Value}, P.Nodup → P[i]? = some x → vs[i]? = some v → kindOf x = some .local →
    bindL kindOf (P.zip vs) m x = some v
  | [], _, _, _, _, h, _, _ => by simp at h
  | _ :: _, [], _, _, _, _, h, _ => by simp at h
  | p :: P, w :: vs, 0, m, nd, h1, h2, hk => by
    simp at h1 h2; subst h1; subst h2
    show bindL kindOf ((p, w) :: P.zip vs) m p = _
    unfold bindL
    rw [bindL_out fun v hv => (List.nodup_cons.mp nd).1 (List.of_mem_zip hv).1, if_pos hk]
    simp
  | p :: P, w :: vs, i + 1, m, nd, h1, h2, hk => by
    show bindL kindOf ((p, w) :: P.zip vs) m x = _
    unfold bindL
    exact bindL_get (i := i) (List.nodup_cons.mp nd).2 (by simpa using h1) (by simpa using h2) hk
theorem bindC_get {kindOf : Str → Option NameKind} {x : Str} {v : Value} : ∀ {P : List Str} {vs : List Value} {i : Nat} {m : Str → Option Value}, P.Nodup → P[i]? = some x → vs[i]? = some v → kindOf x ≠ some .local →
    bindC kindOf (P.zip vs) m x = some v
  | [], _, _, _, _, h, _, _ => by simp at h
  | _ :: _, [], _, _, _, _, h, _ => by simp at h
  | p :: P, w :: vs, 0, m, nd, h1, h2, hk => by
    simp at h1 h2; subst h1; subst h2
    show bindC kindOf ((p, w) :: P.zip vs) m p = _
    unfold bindC
    rw [bindC_out fun v hv => (List.nodup_cons.mp nd).1 (List.of_mem_zip hv).1, if_neg hk]
    simp
  | p :: P, w :: vs, i + 1, m, nd, h1, h2, hk => by
    show bindC kindOf ((p, w) :: P.zip vs) m x = _
    unfold bindC
    exact bindC_get (i := i) (List.nodup_cons.mp nd).2 (by simpa using h1) (by simpa using h2) hk
def start (N : List Str) (vs : List V) : St := vs.map some ++ List.replicate (N.length - vs.length) none
def cxOf (CX : CXT) (P : Program) (w : World) (K : PySem.W.Frag) (mg : Str → Option Value) (base : Heap) (N : List Str) (qual : Str) (scope : Scope) (f : Addr) (cd : Value) (A : Around) (outer : List Env) (s : Shared) (H : Hp) (E : XK) : Cx where
  prog := P
  w := w
  K := K
  mg := mg
  base := base
  A := A.deeper (envOfC qual scope s.heap.objs.size f cd)
  N := N
  s₀ := s
  H₀ := H
  env := envOfC qual scope s.heap.objs.size f cd
  outer := outer
  stack := envOfC qual scope s.heap.objs.size f cd :: outer
  ex := []
  calm := true
  fn := fun _ => true
  pn := []
  xe := fun e s' => wpAny (model P w) (A.deeper (envOfC qual scope s.heap.objs.size f cd)) (leaving (envOfC qual scope s.heap.objs.size f cd) e) (fun _ s'' => CX outer H s E e s'') (fun e' s'' => CX outer H s E e' s'') s'
theorem cell_has {sc : Scope} {n : Nat} {x : Str} (h : sc.names.lookup x = some .cell) : ∃ c, (cellsFrom n sc.names []).lookup x = some c := by
  have q := PySem.W.cellsFrom_some sc.names n [] (.inl h)
  exact Option.isSome_iff_exists.mp q
theorem inv_start {CX : CXT} {P : Program} {w : World} {K : PySem.W.Frag} {mg : Str → Option Value} {base : Heap} {N ps : List Str} {qual : Str} {scope : Scope} {f : Addr} {cd : Value} {A : Around} {outer : List Env} {s s1 : Shared} {H : Hp} {E : XK} {us : List Value} {vs : List V}
    (S : FnScope N ps scope) (hd : A.handled = none) (e0 : Env0 P w K mg base A outer s H) (hl : vs.length = ps.length) (r : Vals vs us)
    (x : InCallC s s.heap.objs.size (bindL (envOfC qual scope s.heap.objs.size f cd).kindOf (ps.zip us) fun _ => none) (cellsFrom (s.heap.objs.size + 1) scope.names []) (bindC (envOfC qual scope s.heap.objs.size f cd).kindOf (ps.zip us) fun _ => none) s1) :
    Inv (cxOf CX P w K mg base N qual scope f cd A outer s H E) [] (start N vs) H s1 := by
  have hpl : ps.length ≤ N.length := by have := congrArg List.length S.pre; rw [List.length_take] at this; omega
  obtain ⟨h1, tk, rfl, hk⟩ := x.done
  have noA : ∀ b : Addr, b ∉ (cxOf CX P w K mg base N qual scope f cd A outer s H E).ex := fun b z => absurd (show b ∈ ([] : List Addr) from z) (by simp)
  refine ⟨⟨e0.mod, S.kind, rfl, rfl, Nat.le_refl _, fun y z c h1 h2 => ?_, fun y hy => ?_, fun y c _ h => ?_, fun _ => hd, Around.frames_deeper e0.frames, .inr ⟨rfl, rfl⟩, fun b z => absurd z (noA b), e0.bs, e0.bsz, fun b _ _ => noA b, fun b z => absurd z (noA b), e0.funs, e0.frf⟩,
    rfl, e0.bare, Un.kept hk, ⟨_, x.toInCall.ns, fun i y v h1 h2 h3 => ?_⟩, fun y c h => ⟨_, x.cell y c h⟩, e0.hok.fresh (Nat.le_refl _), fun y c h => ?_, fun p hp => absurd (show p ∈ ([] : List (Addr × Obj)) from hp) (by simp), e0.hok.kept hk, ?_⟩
  · exact name_of_addr x.apart (PySem.mem_of_lookup h1) (PySem.mem_of_lookup h2)
  · have hy : scope.names.lookup y = some .cell ∨ scope.names.lookup y = some .free := hy
    rcases hy with hy | hy
    · exact cell_has hy
    · exact absurd rfl (S.nofree _ (PySem.mem_of_lookup hy))
  · exact Nat.le_of_lt (x.above y c (PySem.mem_of_lookup h))
  · have hi : i < vs.length := by
      unfold start at h2
      by_cases hi : i < vs.length
      · exact hi
      · rw [List.getElem?_append_right (by simpa using hi)] at h2
        rw [List.getElem?_replicate] at h2
        split at h2 <;> cases h2
    have ha : vs[i]? = some v := by
      unfold start at h2
      rw [List.getElem?_append_left (by simpa using hi), List.getElem?_map] at h2
      cases e : vs[i]? with
      | none => rw [e] at h2; cases h2
      | some a => rw [e] at h2; cases h2; rfl
    obtain ⟨u, hu, rv⟩ := r.get ha
    have hp : ps[i]? = some y := by
      rw [← S.pre, List.getElem?_take_of_lt (by omega)]; exact h1
    have ndP : ps.Nodup := by rw [← S.pre]; exact S.nd.sublist (List.take_sublist _ _)
    refine ⟨u, rv, ?_⟩
    rcases S.par y (List.mem_of_getElem? hp) with k | k
    · exact .inl ⟨k, bindL_get ndP hp hu k⟩
    · obtain ⟨c, e⟩ := cell_has (n := s.heap.objs.size + 1) k
      refine .inr ⟨.inl k, c, e, ?_⟩
      have q := x.cell y c e
      rw [bindC_get ndP hp hu (by show scope.names.lookup y ≠ _; rw [k]; decide)] at q
      exact q
  · exact e0.hok.fresh (Nat.le_of_lt (x.above y c (PySem.mem_of_lookup h)))
  · unfold start
    show _ = N.length
    rw [List.length_append, List.length_map, List.length_replicate]
    omega
theorem fn_of {CX : CXT} {P : Program} {w : World} {K : PySem.W.Frag} {mg : Str → Option Value} {base : Heap} {k : Nat} {f : Addr} {name qual : Str} {params : Arguments} {body : List Stmt} {scope : Scope} {dV kV doc pm cdv ct oc : Value} {an od : Option Addr}
    {osl : Array (Option Value)} {N ps : List Str} {sp : Sp} (lk : K.lookup f = some ⟨oc, od, .func (PySem.W.fnOf name qual params body scope dV kV doc pm an cdv ct), osl⟩) (hcd : PySem.W.codeIn K cdv qual = true) (S : FnScope N ps scope)
    (len : ∀ vs H Q E, sp vs H Q E → vs.length = ps.length)
    (hbody : ∀ (A : Around) (outer : List Env) (s : Shared) (H : Hp) (vs : List V) (Q : VK) (E : XK), Room k (A.deeper (envOfC qual scope s.heap.objs.size f cdv)) → sp vs H Q E →
      ∃ t, PSs (cxOf CX P w K mg base N qual scope f cdv A outer s H E) body t ∧ t { nx := fun _ H' => Q .non H', rt := Q } (start N vs) H) :
    FnOk P w K mg base CX (k + 1) f (PySem.W.fnOf name qual params body scope dV kV doc pm an cdv ct) ps sp := by
  refine ⟨len, fun A outer s H args us vs Q E hr e0 hb r hsp => ?_⟩
  have hl := len _ _ _ _ hsp
  have KX : K.In s.heap := e0.mod.kin.keeps fun b o e => (e0.bs b o e).1
  have lim : s.heap.NoLimit := e0.mod.nolimit.keeps fun b o e => (e0.bs b o e).1
  have hkind : ∀ y ∈ ps.zip us, scope.names.lookup y.1 = some .local ∨ (scope.names.lookup y.1 = some .cell ∧ ((cellsFrom (s.heap.objs.size + 1) scope.names []).lookup y.1).isSome = true) := fun ⟨n, v⟩ hy => by
    rcases S.par n (List.of_mem_zip hy).1 with q | q
    · exact .inl q
    · exact .inr ⟨q, PySem.W.cellsFrom_some _ _ _ (.inl q)⟩
  refine codeAny_call_function hr.depth (KX _ _ lk) rfl S.co S.gen rfl (PySem.W.codeRec_of KX hcd) (hb _ _ _ _ ?_)
  refine wpAny_newFunctionEnv_cells S.kind hkind fun env he s1 x => ?_
  subst he
  refine ⟨lim.keeps x.toInCall.keep, codeAny_func ?_⟩
  obtain ⟨t, ht, hq⟩ := hbody A outer s H vs Q E (hr.deeper _) hsp
  have I : Inv (cxOf CX P w K mg base N qual scope f cdv A outer s H E) [] (start N vs) H s1 := inv_start S hr.hd e0 hl r x
  refine wpAny_mono (ht [] s1 (start N vs) H _ I hq) (fun fl s' hs => ?_) fun e s' hs => hs
  have fin : ∀ {σ' : St} {H' : Hp} {v : V} {u : Value}, Inv (cxOf CX P w K mg base N qual scope f cdv A outer s H E) [] σ' H' s' → RelV v u → Q v H' → CE outer P w H s Q u s' :=
    fun {σ' H' v u} J rv q => ⟨v, H', J.os, J.bare, J.base, J.hok, rv, q⟩
  cases fl with
  | ret u =>
    obtain ⟨v, σ', H', J, rv, q⟩ := hs
    exact fin J rv q
  | next =>
    obtain ⟨σ', H', J, q⟩ := hs
    exact fin (v := V.non) (u := Value.none) J rfl q
  | brk =>
    obtain ⟨_, _, _, q⟩ := hs
    exact False.elim q
  | cont =>
    obtain ⟨_, _, _, q⟩ := hs
    exact False.elim q
section
variable {X : Cx} {x : Str} {p pos : Pos} {e : Expr} {es : List Expr} {t : TA} {id T : String} {r : List V → Hp → VK → Prop}
def tCB (r : List V → Hp → VK → Prop) (t : TA) : TE := fun σ H Q => t σ H fun vs H1 => r vs H1 Q
theorem pe_callB (hc : CallR X (.builtin id) r) (hg : Gl X x) (hm : X.mg x = none) (hv : bootBuiltins x = some (.builtin id)) (ha : PA X (e :: es) t) (hn : x ≠ "__name__" := by decide) (hdb : (x == ("__debug__" : Str)) = false := by decide)
    (he : starEach (e :: es) X.env = (false, eval e X.env) :: starEach es X.env := by rfl) (hpl : (backTo pos (starEach es X.env)).any (·.1) = false := by rfl) : PE X (.Call (.Name x p) (e :: es) [] pos) (tCB r t) := by
  intro pins s σ H Q I h
  refine wpAny_Call_Name_kw (ld_blt I hg hm hv ?_ hn hdb)
  exact PyProof.Rows.callWith_builtin1 (thn (ha pos pins s σ H _ I h) fun us s1 ⟨vs, H1, I1, r1, q1⟩ => hc pins s1 σ H1 vs us Q I1 r1 q1) he hpl
theorem pe_callTy (hc : CallR X (.type T) r) (hg : Gl X x) (hm : X.mg x = none) (hv : bootBuiltins x = some (.type T)) (ha : PA X (e :: es) t) (hn : x ≠ "__name__" := by decide) (hdb : (x == ("__debug__" : Str)) = false := by decide)
    (he : starEach (e :: es) X.env = (false, eval e X.env) :: starEach es X.env := by rfl) (hpl : (backTo pos (starEach es X.env)).any (·.1) = false := by rfl) : PE X (.Call (.Name x p) (e :: es) [] pos) (tCB r t) := by
  intro pins s σ H Q I h
  refine wpAny_Call_Name_kw (ld_blt I hg hm hv ?_ hn hdb)
  exact PyProof.Rows.callWith_type1 (thn (ha pos pins s σ H _ I h) fun us s1 ⟨vs, H1, I1, r1, q1⟩ => hc pins s1 σ H1 vs us Q I1 r1 q1) he hpl
end
end L2
namespace HT
open PySem PyProof.Rows
section
open PySem.SeqAt
open PySem.AutoSeq1 (wpAny_loadPart')
open PySem.MeetsSeq PySem.MeetsSeq2 PySem.MeetsSeq3
end
section
variable {prog : Program} {w : World} {A : Around} {E : Value → Shared → Prop} {s : Shared}
def sIx (n d : Nat) : Option Int → Nat
  | none => d
  | some v => if v < 0 then (v + (n : Int)).toNat else min v.toNat n
theorem sIx_none (n d : Nat) : sIx n d none = d := rfl
theorem sIx_nat (n d k : Nat) : sIx n d (some (k : Int)) = min k n := by
  show (if (k : Int) < 0 then ((k : Int) + (n : Int)).toNat else min (k : Int).toNat n) = min k n
  rw [if_neg (by omega), Int.toNat_natCast]
theorem sIx_le (n d : Nat) (hd : d ≤ n) (o : Option Int) : sIx n d o ≤ n := by
  cases o with
  | none => exact hd
  | some v =>
    show (if v < 0 then (v + (n : Int)).toNat else min v.toNat n) ≤ n
    by_cases hv : v < 0
    · rw [if_pos hv]; omega
    · rw [if_neg hv]; exact Nat.min_le_right _ _
theorem clip_eq (v : Int) (n d : Nat) : (if v < 0 then max (v + (n : Int)) 0 else min v (n : Int)) = ((sIx n d (some v) : Nat) : Int) := by
  show (if v < 0 then max (v + (n : Int)) 0 else min v (n : Int)) = (((if v < 0 then (v + (n : Int)).toNat else min v.toNat n) : Nat) : Int)
  by_cases hv : v < 0
  · simp only [if_pos hv]; omega
  · simp only [if_neg hv]; omega
theorem adjust_gen (lo hi : Option Int) (n : Nat) : Builtin.Slice.sliceAdjust lo hi 1 (n : Int) = (((sIx n 0 lo : Nat) : Int), ((sIx n n hi : Nat) : Int)) := by
  have h1 : ¬ ((1 : Int) < 0) := by omega
  unfold Builtin.Slice.sliceAdjust
  simp only [h1, if_false]
  refine Prod.ext ?_ ?_
  · cases lo with
    | none => rfl
    | some v => exact clip_eq v n 0
  · cases hi with
    | none => rfl
    | some v => exact clip_eq v n n
theorem places_gen (i j : Nat) : Builtin.Slice.slicePlaces (i : Int) (j : Int) 1 = j - i := by
  unfold Builtin.Slice.slicePlaces
  have h1 : (1 : Int) > 0 := by omega
  simp only [h1, if_true, Int.ediv_one]
  split <;> omega
theorem slicePart_ {v : Value} {o : Option Int} {Q : Option Int → Shared → Prop} (p : IsPart v o) (h : Q o s) : wpAny (model prog w) A (Builtin.Slice.slicePartIndex v) Q E s := by
  cases p with
  | none => exact slicePart_none h
  | int i t => exact slicePart_int h
theorem sliceApplied_gen {sl : Addr} {vl vu : Value} {lo hi : Option Int} {n : Nat} {Q : Int × Int × Nat → Shared → Prop} (hs : s.heap.IsSliceOf sl vl vu .none) (pl : IsPart vl lo) (pu : IsPart vu hi)
    (h : Q (((sIx n 0 lo : Nat) : Int), 1, sIx n n hi - sIx n 0 lo) s) : wpAny (model prog w) A (Builtin.Slice.sliceApplied (.ref sl) (pure (n : Int))) Q E s := by
  obtain ⟨os, hos, hcs, hds⟩ := id hs
  unfold Builtin.Slice.sliceApplied Builtin.Slice.sliceFields
  refine wpAny_bind (wpAny_bind (wpAny_field hos hds (x := vl) rfl (wpAny_bind (wpAny_field hos hds (x := vu) rfl (wpAny_bind (wpAny_field hos hds (x := .none) rfl (wpAny_pure ?_)))))))
  refine wpAny_bind (slicePart_none ?_)
  show wpAny _ _ (if ((1 : Int) == 0) = true then _ else _) _ _ s
  rw [if_neg (by decide)]
  refine wpAny_bind (slicePart_ pl (wpAny_bind (slicePart_ pu (wpAny_bind (wpAny_pure ?_)))))
  show wpAny _ _ (match Builtin.Slice.sliceAdjust lo hi 1 (n : Int) with | (lo, hi) => pure (lo, (1 : Int), Builtin.Slice.slicePlaces lo hi 1)) _ _ s
  rw [adjust_gen lo hi n]
  show wpAny _ _ (pure (((sIx n 0 lo : Nat) : Int), (1 : Int), Builtin.Slice.slicePlaces ((sIx n 0 lo : Nat) : Int) ((sIx n n hi : Nat) : Int) 1)) _ _ s
  rw [places_gen]
  exact wpAny_pure h
theorem pick_gen (xs : Array Value) (i k : Nat) : ((List.range k).filterMap fun (m : Nat) => xs[((i : Int) + (m : Int) * 1).toNat]?).toArray = ((xs.toList.drop i).take k).toArray := by
  have e : (fun (m : Nat) => xs[((i : Int) + (m : Int) * 1).toNat]?) = fun m => xs[i + m]? := by
    funext m
    have : ((i : Int) + (m : Int) * 1).toNat = i + m := by omega
    rw [this]
  rw [e]
  have := pick_run xs i k
  rw [List.filterMap_map] at this
  have e2 : ((fun x => xs[x]?) ∘ fun x => i + x) = fun m => xs[i + m]? := rfl
  rw [e2] at this
  rw [this]
theorem getItem_tuple_cut {t sl : Addr} {items : Array Value} {vl vu : Value} {lo hi : Option Int} {Q : Value → Shared → Prop} (ht : IsTup s.heap t items) (hs : s.heap.IsSliceOf sl vl vu .none) (pl : IsPart vl lo) (pu : IsPart vu hi)
    (hw : ¬ (sIx items.size 0 lo = 0 ∧ sIx items.size items.size hi = items.size))
    (h : Q (.ref s.heap.objs.size) { s with heap := s.heap.push { cls := .type "tuple", data := .seq ((items.toList.drop (sIx items.size 0 lo)).take (sIx items.size items.size hi - sIx items.size 0 lo)).toArray } })
    (hsz : items.size ≤ sizeLine) : wpAny (model prog w) A (getItem (.ref t) (.ref sl)) Q E s := by
  have htake : sizeOk (.seq ((items.toList.drop (sIx items.size 0 lo)).take (sIx items.size items.size hi - sIx items.size 0 lo)).toArray) := by
    show ((items.toList.drop (sIx items.size 0 lo)).take (sIx items.size items.size hi - sIx items.size 0 lo)).toArray.size ≤ sizeLine
    rw [List.size_toArray, List.length_take, List.length_drop, Array.length_toList]
    omega
  have hj : sIx items.size items.size hi ≤ items.size := sIx_le _ _ (Nat.le_refl _) hi
  obtain ⟨os, hos, hcs, hds⟩ := id hs
  have hTs : s.TypeIs (.ref sl) "slice" := ⟨os, hos, hcs⟩
  unfold getItem
  try with_reducible refine wpAny_holding ?_
  first | refine wpAny_bind (wpAny_pure ?_) | skip
  refine wpAny_bind (wpAny_sequenceKey ht.typeIs (by decide) ?_)
  refine wpAny_bind (wpAny_callSpecial?_slot (name := Str.ofString "__getitem__") ht.typeIs PyProof.Rows.slot_tuple_getitem
    (wpAny_call_entry PyProof.Rows.slot_tuple_getitem ht.typeIs entry_tuple_getitem ?_ (args_tuple_getitem _ _)))
  show wpAny _ _ (Builtin.Tuple.tupleItemsOf (.ref t) >>= _) _ _ s
  refine wpAny_bind (tupleItemsOf_ ht ?_)
  refine wpAny_bind (wpAny_typeOf hTs ?_)
  rw [if_pos (by decide)]
  refine wpAny_bind (sliceApplied_gen hs pl pu ?_)
  have hno : ¬ ((((sIx items.size 0 lo : Nat) : Int) == 0 && (1 : Int) == 1 && (sIx items.size items.size hi - sIx items.size 0 lo) == items.size) = true) := by
    intro q
    rw [Bool.and_eq_true, Bool.and_eq_true] at q
    have q1 : ((sIx items.size 0 lo : Nat) : Int) = 0 := eq_of_beq q.1.1
    have q2 : sIx items.size items.size hi - sIx items.size 0 lo = items.size := eq_of_beq q.2
    exact hw ⟨by omega, by omega⟩
  show wpAny _ _ (if (((sIx items.size 0 lo : Nat) : Int) == 0 && (1 : Int) == 1 && (sIx items.size items.size hi - sIx items.size 0 lo) == items.size) = true then _ else _) _ _ s
  rw [if_neg hno, pick_gen]
  first
    | exact wpAny_bind (m := Builtin.Tuple.tupleExact _) (wpAny_newObj_type (wpAny_pure ⟨_, rfl, wpAny_pure h⟩) htake)
    | exact wpAny_bind (m := Builtin.Tuple.tupleExact _) (wpAny_newObj_type (wpAny_bind (wpAny_pure (wpAny_pure ⟨_, rfl, wpAny_pure h⟩))) htake)
    | exact wpAny_bind (wpAny_bind (m := Builtin.Tuple.tupleExact _) (wpAny_newObj_type (wpAny_pure (wpAny_pure ⟨_, rfl, wpAny_pure h⟩)) htake))
    | exact wpAny_bind (wpAny_bind (m := Builtin.Tuple.tupleExact _) (wpAny_newObj_type (wpAny_pure ⟨_, rfl, wpAny_pure h⟩) htake))
end
end HT
namespace L2
open PySem PySem.Spec PyProof.Rows
abbrev TO := St → Hp → (Option Int → Hp → Prop) → Prop
def PO (X : Cx) (e : Option Expr) (t : TO) : Prop :=
  ∀ (pins : List (Addr × Obj)) (s : Shared) (σ : St) (H : Hp) (Q : Option Int → Hp → Prop), Inv X pins σ H s → t σ H Q →
    wpAny (model X.prog X.w) X.A (evalPart e X.env) (fun u s' => ∃ o H', Inv X pins σ H' s' ∧ IsPart u o ∧ Q o H') X.xe s
def tNoPart : TO := fun _ H Q => Q none H
def tPart (t : TE) : TO := fun σ H Q => t σ H fun x H1 => ∃ i, x = .int i ∧ Q (some i) H1
section
variable {X : Cx} {e : Expr} {te : TE} {lo hi : Option Expr} {tl th : TO} {pos p2 : Pos}
theorem po_none : PO X none tNoPart := by
  intro pins s σ H Q I h
  rw [evalPart_none]
  exact wpAny_pure ⟨none, H, I, .none, h⟩
theorem po_some (h : PE X e te) : PO X (some e) (tPart te) := by
  intro pins s σ H Q I hw
  rw [evalPart_some]
  refine thn (h pins s σ H _ I hw) fun u s1 ⟨x, H1, I1, r1, q1⟩ => ?_
  obtain ⟨i, rfl, q⟩ := q1
  obtain ⟨t, rfl⟩ := r1
  exact ⟨some i, H1, I1, .int i t, q⟩
def SlR (X : Cx) (r : V → Option Int → Option Int → Hp → VK → Prop) : Prop :=
  ∀ (pins : List (Addr × Obj)) (s : Shared) (σ : St) (H : Hp) (x : V) (v vl vu : Value) (lo hi : Option Int) (sl : Addr) (Q : VK), Inv X pins σ H s → RelV x v → s.heap.IsSliceOf sl vl vu .none → IsPart vl lo → IsPart vu hi → r x lo hi H Q →
    ∃ T id, typeLookup (.type T) "__getitem__" = pure (some (.builtin id)) ∧ s.TypeIs v T ∧ wpAny (model X.prog X.w) X.A (getItem v (.ref sl)) (EP X pins σ Q) X.xe s
def tSl (r : V → Option Int → Option Int → Hp → VK → Prop) (te : TE) (tl th : TO) : TE := fun σ H Q => te σ H fun x H1 => tl σ H1 fun l H2 => th σ H2 fun u H3 => r x l u H3 Q
theorem pe_slice {r : V → Option Int → Option Int → Hp → VK → Prop} (hr : SlR X r) (he : PE X e te) (hl : PO X lo tl) (hu : PO X hi th) : PE X (.Subscript e (.Slice lo hi none p2) pos) (tSl r te tl th) := by
  intro pins s σ H Q I h
  refine Subscript_ (thn (he pins s σ H _ I h) fun v s1 ⟨x, H1, I1, r1, q1⟩ => ?_)
  refine wpAny_Slice (thn (hl pins s1 σ H1 _ I1 q1) fun vl s2 ⟨l, H2, I2, pl, q2⟩ => thn (hu pins s2 σ H2 _ I2 q2) fun vu s3 ⟨u, H3, I3, pu, q3⟩ => ?_)
  rw [evalPart_none]
  refine wpAny_pure ?_
  have I4 : Inv X pins σ H3 { s3 with heap := s3.heap.push { cls := .type "slice", data := .fields #[vl, vu, .none] } } := I3.kept (t' := s3.toks) fun b ob q => Heap.get?_push_of_some _ q
  obtain ⟨T, id, hT, ht, hg⟩ := hr pins { s3 with heap := s3.heap.push { cls := .type "slice", data := .fields #[vl, vu, .none] } } σ H3 x v vl vu l u s3.heap.objs.size Q I4 r1 (Heap.IsSliceOf.new ..) pl pu q3
  show wpAny (model X.prog X.w) X.A (subscriptTail e (.Slice lo hi none p2) v (.ref s3.heap.objs.size)) (EP X pins σ Q) X.xe { s3 with heap := s3.heap.push { cls := .type "slice", data := .fields #[vl, vu, .none] } }
  exact tail_any (ops := [.ref s3.heap.objs.size, v]) ht hT hg (by with_unfolding_all rfl)
def cutV (xs : List V) (lo hi : Option Int) : List V := (xs.drop (HT.sIx xs.length 0 lo)).take (HT.sIx xs.length xs.length hi - HT.sIx xs.length 0 lo)
theorem cutV_length (xs : List V) (lo hi : Option Int) : (cutV xs lo hi).length ≤ xs.length := by
  unfold cutV
  rw [List.length_take, List.length_drop]
  omega
def rSlT (K : PySem.W.Frag) : V → Option Int → Option Int → Hp → VK → Prop := fun x lo hi H Q => ∃ a xs, x = .ref a ∧ SqT K H a xs ∧
  ¬ (HT.sIx xs.length 0 lo = 0 ∧ HT.sIx xs.length xs.length hi = xs.length) ∧ ∀ p, H p = none → Q (.ref p) (upd H p (.tup (cutV xs lo hi)))
theorem sl_tup : SlR X (rSlT X.K) := by
  intro pins s σ H x v vl vu lo hi sl Q I rx hs pl pu h
  obtain ⟨a, xs, rfl, hx, hw, q⟩ := h
  cases rx
  obtain ⟨its, r, ht, hz⟩ := I.tuple hx
  have hlen : its.toArray.size = xs.length := by rw [List.size_toArray]; exact r.length.symm
  refine ⟨"tuple", _, PyProof.Rows.slot_tuple_getitem.lookup, ht.typeIs, ?_⟩
  refine HT.getItem_tuple_cut ht hs pl pu (by rw [hlen]; exact hw) ?_ (by rw [hlen]; exact hz)
  rw [hlen]
  refine ⟨.ref s.heap.objs.size, _, I.laid (t' := s.toks) (o := .tup (cutV xs lo hi)) (fun b ob q => Heap.get?_push_of_some _ q) (Nat.le_refl _) ?_, rfl, q _ (I.hok.fresh (Nat.le_refl _))⟩
  exact ⟨Nat.le_trans (cutV_length xs lo hi) hz, _, (r.drop (HT.sIx xs.length 0 lo)).take (HT.sIx xs.length xs.length hi - HT.sIx xs.length 0 lo), IsTup.new _ _⟩
end
def ixN (n : Nat) (i : Int) : Option Nat := if 0 ≤ i then (if i < n then some i.toNat else none) else if -(n : Int) ≤ i then some (i + n).toNat else none
def atI {α : Type} (xs : List α) (i : Int) : Option α := (ixN xs.length i).bind fun j => xs[j]?
theorem ixN_seq {n : Nat} {i : Int} {j : Nat} (h : ixN n i = some j) : seqIndex? i n = some j ∧ j < n ∧ -(n : Int) ≤ i ∧ i < n := by
  unfold ixN at h
  by_cases h0 : 0 ≤ i
  · rw [if_pos h0] at h
    by_cases h1 : i < n
    · rw [if_pos h1] at h
      have e : i.toNat = j := Option.some.inj h
      exact ⟨by rw [seqIndex_of h0 h1, e], by omega, by omega, h1⟩
    · rw [if_neg h1] at h; cases h
  · rw [if_neg h0] at h
    by_cases h1 : -(n : Int) ≤ i
    · rw [if_pos h1] at h
      have e : (i + n).toNat = j := Option.some.inj h
      exact ⟨by rw [seqIndex_neg (by omega) h1, e], by omega, h1, by omega⟩
    · rw [if_neg h1] at h; cases h
theorem atI_get {α : Type} {xs : List α} {i : Int} {v : α} (h : atI xs i = some v) : ∃ j, seqIndex? i xs.length = some j ∧ xs[j]? = some v ∧ j < xs.length ∧ -(xs.length : Int) ≤ i ∧ i < xs.length := by
  unfold atI at h
  cases e : ixN xs.length i with
  | none => rw [e] at h; cases h
  | some j =>
    rw [e] at h
    obtain ⟨h1, h2, h3, h4⟩ := ixN_seq e
    exact ⟨j, h1, h, h2, h3, h4⟩
theorem atI_nat {α : Type} {xs : List α} {j : Nat} {v : α} (h : xs[j]? = some v) : atI xs (j : Int) = some v := by
  have hj : j < xs.length := (List.getElem?_eq_some_iff.mp h).1
  have e : ixN xs.length (j : Int) = some j := by
    unfold ixN
    rw [if_pos (by omega), if_pos (by omega)]; simp
  unfold atI; rw [e]; exact h
def PlainIx (b : Expr) : Prop := ∀ o i, subscripted b false o i = operate [o, i] (getItem o i)
def IxR (X : Cx) (r : R2) : Prop :=
  ∀ (value slice : Expr) (pins : List (Addr × Obj)) (s : Shared) (σ : St) (H : Hp) (x y : V) (v u : Value) (Q : VK), Inv X pins σ H s → RelV x v → RelV y u → r x y H Q →
    subscripted slice false v u = operate [v, u] (getItem v u) → wpAny (model X.prog X.w) X.A (subscriptTail value slice v u) (EP X pins σ Q) X.xe s
def MtR (X : Cx) (id : String) (r : V → List V → Hp → VK → Prop) : Prop :=
  ∀ (pins : List (Addr × Obj)) (s : Shared) (σ : St) (H : Hp) (x : V) (xs : List V) (v : Value) (us : List Value) (Q : VK), Inv X pins σ H s → RelV x v → Vals xs us → r x xs H Q →
    wpAny (model X.prog X.w) X.A (call (.builtin id) (v :: us)) (EP X pins σ Q) X.xe s
section
variable {X : Cx} {a b : Expr} {ta tb : TE} {pos : Pos}
theorem pe_ix {r : R2} (hr : IxR X r) (ha : PE X a ta) (hb : PE X b tb) (hs : PlainIx b) : PE X (.Subscript a b pos) (tOp r ta tb) := by
  intro pins s σ H Q I h
  exact Subscript_ (binT ha hb I h fun v u s2 x y H2 I2 rx ry q => hr a b pins s2 σ H2 x y v u Q I2 rx ry q (hs _ _))
def rIxL (K : PySem.W.Frag) : R2 := fun x y H Q => ∃ p xs i v, x = .ref p ∧ y = .int i ∧ SqL K H p xs ∧ atI xs i = some v ∧ Q v H
def rIxT (K : PySem.W.Frag) : R2 := fun x y H Q => ∃ p xs i v, x = .ref p ∧ y = .int i ∧ SqT K H p xs ∧ atI xs i = some v ∧ Q v H
def rIxS : R2 := fun x y H Q => ∃ z i c, x = .str z ∧ y = .int i ∧ z.length ≤ sizeLine ∧ atI z.cps.toList i = some c ∧ Q (.str ⟨#[c]⟩) H
theorem ix_list : IxR X (rIxL X.K) := by
  intro value slice pins s σ H x y v u Q I rx ry h hs
  obtain ⟨p, xs, i, z, rfl, rfl, hq, he, q⟩ := h
  cases rx
  obtain ⟨t, rfl⟩ := ry
  obtain ⟨its, r, pl, hz⟩ := I.list hq
  obtain ⟨j, h1, h2, h3, h4, h5⟩ := atI_get he
  obtain ⟨w, ew, rw'⟩ := r.get h2
  have hl := r.length
  have hn := line63
  have fin : EP X pins σ Q w s := ⟨z, H, I, rw', q⟩
  by_cases h0 : 0 ≤ i
  · have hj : i.toNat = j := by
      rw [seqIndex_of h0 h5] at h1
      exact Option.some.inj h1
    exact item_listR pl.isList h0 (by omega) (by rw [hj]; simpa using ew) fin hs
  · have hj : (i + (its.toArray.size : Int)).toNat = j := by
      rw [seqIndex_neg (by omega) h4] at h1
      rw [List.size_toArray, ← hl]
      exact Option.some.inj h1
    exact subscriptTail_builtinR (x := w) pl.isList.typeIs slot_list_getitem.lookup
      (wpAny_getItem_list_neg (Q := fun r s' => r = w ∧ EP X pins σ Q r s') pl.isList (by omega) (by rw [List.size_toArray] <;> omega) (by omega) (by rw [hj]; simpa using ew) ⟨rfl, fin⟩) hs
theorem ix_tup : IxR X (rIxT X.K) := by
  intro value slice pins s σ H x y v u Q I rx ry h hs
  obtain ⟨p, xs, i, z, rfl, rfl, hq, he, q⟩ := h
  cases rx
  obtain ⟨t, rfl⟩ := ry
  obtain ⟨its, r, pl, hz⟩ := I.tuple hq
  obtain ⟨j, h1, h2, h3, h4, h5⟩ := atI_get he
  obtain ⟨w, ew, rw'⟩ := r.get h2
  have hl := r.length
  have hn := line63
  have fin : EP X pins σ Q w s := ⟨z, H, I, rw', q⟩
  exact subscriptTail_builtinR (x := w) pl.typeIs slot_tuple_getitem.lookup
    (getItem_tuple (j := j) (Q := fun r s' => r = w ∧ EP X pins σ Q r s') pl (by omega) (by omega) (by rw [List.size_toArray, ← hl]; exact h1) (by simpa using ew) ⟨rfl, fin⟩) hs
theorem ix_str : IxR X rIxS := by
  intro value slice pins s σ H x y v u Q I rx ry h hs
  obtain ⟨z, i, c, rfl, rfl, hz, he, q⟩ := h
  obtain ⟨t, rfl⟩ := rx
  obtain ⟨t', rfl⟩ := ry
  obtain ⟨j, h1, h2, h3, h4, h5⟩ := atI_get he
  have hl : z.cps.toList.length = z.length := by simp [Str.length]
  rw [hl] at h1 h4 h5
  have hn := line63
  exact tail_any (typeIs_str s z t) slot_str_getitem.lookup (getItem_str (c := c) (by
    have e1 : decide (i < -(2 ^ 63 : Int)) = false := decide_eq_false (by omega)
    have e2 : decide (i ≥ 2 ^ 63) = false := decide_eq_false (by omega)
    rw [e1, e2, Bool.or_false]) (by rw [h1]; simpa using h2) ⟨.str ⟨#[c]⟩, H, I.tok _, ⟨_, rfl⟩, q⟩) hs
theorem mapSeq_set (its : List Value) (n j : Nat) (u : Value) : Obj.mapSeq (·.setIfInBounds j u) { cls := .type "list", data := .seq its.toArray n } = { cls := .type "list", data := .seq (its.set j u).toArray n } := by
  simp [Obj.mapSeq]
theorem Inv.lst {pins : List (Addr × Obj)} {σ : St} {H : Hp} {s : Shared} {p : Addr} {xs : List V} (I : Inv X pins σ H s) (h : H p = some (.lst xs)) :
    ∃ (its : List Value) (n : Nat), Vals xs its ∧ s.heap.get? p = some { cls := .type "list", data := .seq its.toArray n } ∧ xs.length ≤ sizeLine := by
  obtain ⟨z, its, n, r, e⟩ := I.hok p _ h
  exact ⟨its, n, r, e, z⟩
theorem Inv.lstUpd {pins : List (Addr × Obj)} {σ : St} {H : Hp} {s : Shared} {p : Addr} {xs ys : List V} {its its' : List Value} {n n' : Nat} {f : Obj → Obj} (I : Inv X pins σ H s) (h : H p = some (.lst xs))
    (ho : s.heap.get? p = some { cls := .type "list", data := .seq its.toArray n }) (hf : f { cls := .type "list", data := .seq its.toArray n } = { cls := .type "list", data := .seq its'.toArray n' }) (r : Vals ys its') (hz : ys.length ≤ sizeLine) (t : Nat) :
    Inv X pins σ (upd H p (.lst ys)) { s with heap := s.heap.update p f, toks := t } := by
  have e : (s.heap.update p f).get? p = some { cls := .type "list", data := .seq its'.toArray n' } := by
    rw [Heap.get?_update_self f ho (by rw [hf] <;> rfl), hf]
  refine I.write (x := p) (e := p) (by rw [h]; trivial) (.inl rfl) (fun b u hb q => (Heap.get?_update_other _ _ (Ne.symm hb)).trans q) ⟨_, e⟩ ?_
  exact ⟨hz, its', n', r, e⟩
def rSetL : V → V → V → Hp → (Hp → Prop) → Prop := fun o i v H Q => ∃ p xs k j, o = .ref p ∧ i = .int k ∧ H p = some (.lst xs) ∧ ixN xs.length k = some j ∧ Q (upd H p (.lst (xs.set j v)))
theorem set_list : PSet X rSetL := by
  intro pins s σ H o i v ov iv u Q I ro ri rv h
  obtain ⟨p, xs, k, j, rfl, rfl, hp, hj, q⟩ := h
  cases ro
  obtain ⟨t, rfl⟩ := ri
  obtain ⟨its, n, r, ho, hz⟩ := I.lst hp
  obtain ⟨h1, h2, h3, h4⟩ := ixN_seq hj
  have hl := r.length
  have hn := line63
  have I' : Inv X pins σ (upd H p (.lst (xs.set j v))) { s with heap := s.heap.update p (Obj.mapSeq (·.setIfInBounds j u)) } :=
    I.lstUpd hp ho (mapSeq_set its n j u) (r.set rv j) (by rw [List.length_set]; exact hz) s.toks
  by_cases h0 : 0 ≤ k
  · have hk : k.toNat = j := by
      rw [seqIndex_of h0 h4] at h1
      exact Option.some.inj h1
    exact PySem.W.ki_setAt ho h0 (by omega) (by rw [List.size_toArray, ← hl]; exact h4) (by rw [hk]; exact ⟨_, I', q⟩)
  · have hk : (k + (its.toArray.size : Int)).toNat = j := by
      rw [seqIndex_neg (by omega) h3] at h1
      rw [List.size_toArray, ← hl]
      exact Option.some.inj h1
    exact PySem.W.ki_setBack ho (by omega) (by rw [List.size_toArray, ← hl]; exact h3) (by omega) (by rw [hk]; exact ⟨_, I', q⟩)
theorem slice_bounds (lo hi : Option Int) (n : Nat) : (sliceBounds lo hi none n).1 = ((HT.sIx n 0 lo : Nat) : Int) ∧ (sliceBounds lo hi none n).2.1 = ((HT.sIx n n hi : Nat) : Int) ∧ (sliceBounds lo hi none n).2.2 = 1 := by
  refine ⟨?_, ?_, rfl⟩
  · cases lo with
    | none => simp [sliceBounds, HT.sIx]
    | some i =>
      simp only [sliceBounds, HT.sIx, Option.getD_none, show (1 : Int) > 0 by decide, if_true]
      by_cases h : i < 0
      · simp only [h, if_true] <;> omega
      · simp only [h, if_false] <;> omega
  · cases hi with
    | none => simp [sliceBounds, HT.sIx]
    | some i =>
      simp only [sliceBounds, HT.sIx, Option.getD_none, show (1 : Int) > 0 by decide, if_true]
      by_cases h : i < 0
      · simp only [h, if_true] <;> omega
      · simp only [h, if_false] <;> omega
theorem slicePick_cut (its : List Value) (lo hi : Option Int) : slicePick its.toArray lo hi none = ((its.drop (HT.sIx its.length 0 lo)).take (HT.sIx its.length its.length hi - HT.sIx its.length 0 lo)).toArray := by
  obtain ⟨h1, h2, h3⟩ := slice_bounds lo hi its.toArray.size
  unfold slicePick
  rw [h1, h2, h3]
  simp only [sliceRange_one, pick_run, List.size_toArray] <;> rfl
def rSlL (K : PySem.W.Frag) : V → Option Int → Option Int → Hp → VK → Prop := fun x lo hi H Q => ∃ a xs, x = .ref a ∧ SqL K H a xs ∧ ∀ p, H p = none → Q (.ref p) (upd H p (.lst (cutV xs lo hi)))
theorem sl_list : SlR X (rSlL X.K) := by
  intro pins s σ H x v vl vu lo hi sl Q I rx hs pl pu h
  obtain ⟨a, xs, rfl, hx, q⟩ := h
  cases rx
  obtain ⟨its, r, ht, hz⟩ := I.list hx
  have hlen := r.length
  refine ⟨"list", _, slot_list_getitem.lookup, ht.isList.typeIs, ?_⟩
  refine wpAny_getItem_list_slice ht.isList hs pl pu .none (by simp) ?_ (by rw [List.size_toArray] <;> omega)
  rw [slicePick_cut, ← hlen]
  refine ⟨.ref s.heap.objs.size, _, I.laid (t' := s.toks) (o := .lst (cutV xs lo hi)) (fun b ob q => Heap.get?_push_of_some _ q) (Nat.le_refl _) ?_, rfl, q _ (I.hok.fresh (Nat.le_refl _))⟩
  exact ⟨Nat.le_trans (cutV_length xs lo hi) hz, _, 0, (r.drop (HT.sIx xs.length 0 lo)).take (HT.sIx xs.length xs.length hi - HT.sIx xs.length 0 lo), Heap.get?_push_size _ rfl⟩
theorem call_len_seq : CallR X (.builtin "len") (fun xs H Q => ∃ p ys, xs = [.ref p] ∧ (SqL X.K H p ys ∨ SqT X.K H p ys) ∧ Q (.int ys.length) H) := by
  intro pins s σ H xs us Q I r h
  obtain ⟨p, ys, rfl, hq, q⟩ := h
  obtain ⟨u, rfl, rx⟩ := vals1 r
  cases rx
  have hn := line63
  rcases hq with hq | hq
  · obtain ⟨its, r', pl, hz⟩ := I.list hq
    have hlen := r'.length
    exact Calls.call_len_list pl.isList (by simp only [List.size_toArray] <;> omega) ⟨.int ys.length, H, I.tok _, ⟨s.toks + 1, by rw [List.size_toArray, hlen]⟩, q⟩
  · obtain ⟨its, r', pl, hz⟩ := I.tuple hq
    have hlen := r'.length
    exact len_tuple pl (by simp only [List.size_toArray] <;> omega) ⟨.int ys.length, H, I.tok _, ⟨s.toks + 1, by rw [List.size_toArray, hlen]⟩, q⟩
theorem call_len_str : CallR X (.builtin "len") (fun xs H Q => ∃ z, xs = [.str z] ∧ z.length ≤ sizeLine ∧ Q (.int z.length) H) := by
  intro pins s σ H xs us Q I r h
  obtain ⟨z, rfl, hz, q⟩ := h
  obtain ⟨u, rfl, t, rfl⟩ := vals1 r
  have hn := line63
  exact len_str (by omega) ⟨.int z.length, H, I.tok _, ⟨_, rfl⟩, q⟩
theorem call_list_of : CallR X (.type "list") (fun xs H Q => ∃ p ys, xs = [.ref p] ∧ (SqL X.K H p ys ∨ SqT X.K H p ys) ∧ ∀ l, H l = none → Q (.ref l) (upd H l (.lst ys))) := by
  intro pins s σ H xs us Q I r h
  obtain ⟨p, ys, rfl, hq, q⟩ := h
  obtain ⟨u, rfl, rx⟩ := vals1 r
  cases rx
  have fin : ∀ (its : List Value), Vals ys its → ys.length ≤ sizeLine → ∀ (h' : Heap) (c' : Nat), (∀ b o', s.heap.get? b = some o' → h'.get? b = some o') →
      h'.get? s.heap.objs.size = some { cls := .type "list", dict := none, data := .seq its.toArray c', slots := #[] } → EP X pins σ Q (.ref s.heap.objs.size) { s with heap := h' } := fun its r' hz h' c' kp e =>
    ⟨.ref s.heap.objs.size, _, I.laid (t' := s.toks) kp (Nat.le_refl _) (show ObjOk X.prog X.w _ h' _ (.lst ys) from ⟨hz, its, c', r', e⟩), rfl, q _ (I.hok.fresh (Nat.le_refl _))⟩
  rcases hq with hq | hq
  · obtain ⟨its, r', pl, hz⟩ := I.list hq
    have hlen := r'.length
    obtain ⟨o, ho, hc, n, hd⟩ := pl.isList
    exact call_list_seq p (.inl rfl) ho hc hd (fun h' c' kp e => fin its r' hz h' c' kp e) (by simp only [List.size_toArray] <;> omega)
  · obtain ⟨its, r', pl, hz⟩ := I.tuple hq
    have hlen := r'.length
    obtain ⟨o, ho, hc, n, hd⟩ := pl
    exact call_list_seq p (.inr rfl) ho hc hd (fun h' c' kp e => fin its r' hz h' c' kp e) (by simp only [List.size_toArray] <;> omega)
def tyV (K : PySem.W.Frag) (T : String) (x : V) (H : Hp) : Prop := match x with
  | .str _ => T = "str"
  | .int _ => T = "int"
  | .ref p => (T = "list" ∧ ∃ xs, SqL K H p xs) ∨ (T = "tuple" ∧ ∃ o, K.lookup p = some o ∧ o.cls = .type "tuple" ∧ o.dict = none) ∨
      (T = "dict" ∧ ((∃ kvs, H p = some (.dK kvs)) ∨ ∃ kvs, H p = some (.dT kvs))) ∨ (T = "set" ∧ ∃ S n, H p = some (.set S n))
  | _ => False
theorem tyV_is {pins : List (Addr × Obj)} {σ : St} {H : Hp} {s : Shared} {T : String} {x : V} {v : Value} (I : Inv X pins σ H s) (r : RelV x v) (ty : tyV X.K T x H) :
    s.TypeIs v T ∧ ∀ a, v = .ref a → ∃ ob, s.heap.get? a = some ob ∧ ob.dict = none := by
  cases x with
  | str z =>
    obtain ⟨t, rfl⟩ := r
    cases (show T = "str" from ty)
    exact ⟨typeIs_str s z t, fun _ e => nomatch e⟩
  | int i =>
    obtain ⟨t, rfl⟩ := r
    cases (show T = "int" from ty)
    exact ⟨typeIs_int s i t, fun _ e => nomatch e⟩
  | ref p =>
    cases r
    rcases ty with ⟨rfl, xs, hq⟩ | ⟨rfl, o, hk, hc, hd⟩ | ⟨rfl, hk⟩ | ⟨rfl, S, n, hk⟩
    · obtain ⟨its, _, pl, _⟩ := I.list hq
      refine ⟨pl.isList.typeIs, fun a e => ?_⟩
      cases e
      obtain ⟨o, n, e, c, hd, _⟩ := pl
      exact ⟨o, e, hd⟩
    · refine ⟨⟨o, I.kIn p o hk, hc⟩, fun a e => ?_⟩
      cases e
      exact ⟨o, I.kIn _ o hk, hd⟩
    · have z : ∃ o, s.heap.get? p = some o ∧ o.ExactDict := by
        rcases hk with ⟨kvs, hk⟩ | ⟨kvs, hk⟩
        · obtain ⟨_, _, _, _, o, _, _, e, ex, _⟩ := I.hok p _ hk
          exact ⟨o, e, ex⟩
        · obtain ⟨_, _, _, _, o, _, _, e, ex, _⟩ := I.hok p _ hk
          exact ⟨o, e, ex⟩
      obtain ⟨o, e, ex⟩ := z
      refine ⟨⟨o, e, ex.1⟩, fun a e2 => ?_⟩
      cases e2
      exact ⟨o, e, ex.2.1⟩
    · obtain ⟨o, _, _, _, e, ex, _⟩ := I.hok p _ hk
      refine ⟨⟨o, e, ex.1⟩, fun a e2 => ?_⟩
      cases e2
      exact ⟨o, e, ex.2.1⟩
  | _ => exact False.elim ty
def tBM0 (K : PySem.W.Frag) (T : String) (r : V → List V → Hp → VK → Prop) (to : TE) : TE := fun σ H Q => to σ H fun x H1 => tyV K T x H1 ∧ r x [] H1 Q
def tBM (K : PySem.W.Frag) (T : String) (r : V → List V → Hp → VK → Prop) (to : TE) (t : TA) : TE := fun σ H Q => to σ H fun x H1 => tyV K T x H1 ∧ t σ H1 fun xs H2 => r x xs H2 Q
variable {o e : Expr} {es : List Expr} {to : TE} {t : TA} {name : Str} {apos cpos : Pos} {T id : String} {r : V → List V → Hp → VK → Prop}
theorem pe_bm0 (pa : PlainAttrs T) (slot : Slot T name id) (hty : typeOf (.builtin id) = pure (.type "method_descriptor")) (hm : MtR X id r) (ho : PE X o to)
    (hbase : attributeBase o name X.env (eval o X.env) = eval o X.env := by rfl) (hline : (apos.endLine == cpos.line) = true := by rfl) : PE X (.Call (.Attribute o name apos) [] [] cpos) (tBM0 X.K T r to) := by
  intro pins s σ H Q I h
  refine wpAny_Call_method0_late hbase hline (thn (ho pins s σ H _ I h) fun v s1 ⟨x, H1, I1, r1, ty, q1⟩ => ?_)
  obtain ⟨h1, h2⟩ := tyV_is I1 r1 ty
  exact ⟨T, id, pa, slot, hty, h1, h2, Calls.callWith_builtin rfl (PySem.evalArgs_none (hm pins s1 σ H1 x [] v [] Q I1 r1 .nil q1))⟩
theorem pe_bm (pa : PlainAttrs T) (slot : Slot T name id) (hty : typeOf (.builtin id) = pure (.type "method_descriptor")) (hm : MtR X id r) (ho : PE X o to) (ha : PA X (e :: es) t)
    (hbase : attributeBase o name X.env (eval o X.env) = eval o X.env := by rfl)
    (hfew : ((backTo cpos (starEach (e :: es) X.env)).all (fun x => !x.1) && (backToKw cpos (keywordEach [] X.env)).all (fun x => x.1.isSome)
      && decide ((e :: es).length + ([] : List Keyword).length + (if ([] : List Keyword).isEmpty then 0 else 1) < 30)) = true := by rfl)
    (hline : (apos.endLine == cpos.line) = true := by rfl) (hs : starEach (e :: es) X.env = (false, eval e X.env) :: starEach es X.env := by rfl) (hplain : (backTo cpos (starEach es X.env)).any (·.1) = false := by rfl) :
    PE X (.Call (.Attribute o name apos) (e :: es) [] cpos) (tBM X.K T r to t) := by
  intro pins s σ H Q I h
  refine wpAny_Call_method_late hbase hfew hline rfl (thn (ho pins s σ H _ I h) fun v s1 ⟨x, H1, I1, r1, ty, q1⟩ => ?_)
  obtain ⟨h1, h2⟩ := tyV_is I1 r1 ty
  refine ⟨T, id, pa, slot, hty, h1, h2, ?_⟩
  have hA := ha cpos pins s1 σ H1 _ I1 q1
  rw [hs] at hA ⊢
  refine Calls.callWith_builtin (by show (false || (backTo cpos (starEach es X.env)).any (·.1)) = false; rw [hplain] <;> rfl) (Calls.evalArgs_plain ?_)
  exact thn hA fun us s2 ⟨vs, H2, I2, r2, q2⟩ => hm pins s2 σ H2 x vs v us Q I2 r1 r2 q2
end
def MtM (X : Cx) (id : String) (r : V → List V → Hp → VK → Prop) : Prop :=
  ∀ (pins : List (Addr × Obj)) (s : Shared) (σ : St) (H : Hp) (x : V) (xs : List V) (v : Value) (us : List Value) (Q : VK), Inv X pins σ H s → RelV x v → Vals xs us → r x xs H Q →
    wpAny (model X.prog X.w) X.A (call (.builtin id) (v :: us)) (EP X pins σ Q) X.xe s
theorem Vals.one : ∀ {x : V} {us : List Value}, Vals [x] us → ∃ u, us = [u] ∧ RelV x u
  | _, _, .cons r .nil => ⟨_, rfl, r⟩
section
variable {X : Cx} {pins : List (Addr × Obj)} {σ : St} {H : Hp} {s : Shared} {l b : Addr} {xs ys zs : List V}
theorem Inv.lset {its its' : List Value} {n : Nat} {f : Array Value → Array Value} {t' : Nat} (I : Inv X pins σ H s) (hH : H l = some (.lst xs))
    (e : s.heap.get? l = some { cls := .type "list", data := .seq its.toArray n }) (hf : f its.toArray = its'.toArray) (hv : Vals ys its') (hz : ys.length ≤ sizeLine) :
    Inv X pins σ (upd H l (.lst ys)) { s with heap := s.heap.update l (Obj.mapSeq f), toks := t' } := by
  have q := PySem.IsL.update e f
  rw [hf] at q
  refine I.write (x := l) (e := l) (by rw [hH]; exact trivial) (.inl rfl) (fun b' u hb hu => (Heap.get?_update_other s.heap (Obj.mapSeq f) (Ne.symm hb)).trans hu) ⟨_, q⟩ ?_
  exact ⟨hz, its', _, hv, q⟩
theorem Inv.lnew {its : List Value} {t' : Nat} (I : Inv X pins σ H s) (hv : Vals ys its) (hz : ys.length ≤ sizeLine) :
    Inv X pins σ (upd H s.heap.objs.size (.lst ys)) { s with heap := s.heap.push { cls := .type "list", data := .seq its.toArray }, toks := t' } :=
  I.laid (fun _ _ q => Heap.get?_push_of_some _ q) (Nat.le_refl _) ⟨hz, its, 0, hv, Heap.get?_push_size _ rfl⟩
theorem Inv.fresh (I : Inv X pins σ H s) : H s.heap.objs.size = none := I.hok.fresh (Nat.le_refl _)
theorem Inv.lstM (I : Inv X pins σ H s) (hH : H l = some (.lst xs)) : xs.length ≤ sizeLine ∧ ∃ (its : List Value) (n : Nat), Vals xs its ∧ xs.length = its.length ∧ s.heap.get? l = some { cls := .type "list", data := .seq its.toArray n } := by
  obtain ⟨z, its, n, r, e⟩ := I.hok l _ hH
  exact ⟨z, its, n, r, r.length, e⟩
end
section
variable {X : Cx}
def rAppend : V → List V → Hp → VK → Prop := fun x vs H Q => ∃ l xs y, x = .ref l ∧ vs = [y] ∧ H l = some (.lst xs) ∧ xs.length < sizeLine ∧ Q .non (upd H l (.lst (xs ++ [y])))
theorem mt_append : MtM X "list.append" rAppend := by
  intro pins s σ H x vs v us Q I rx rv h
  obtain ⟨l, xs, y, rfl, rfl, hH, hz, q⟩ := h
  cases rx
  obtain ⟨u, rfl, ru⟩ := rv.one
  obtain ⟨z, its, n, r, hl, e⟩ := I.lstM hH
  refine call_meets F.slot_list_append ⟨_, e, rfl⟩ F.entry_list_append (F.args_list_append_2 _ _) (PySem.list_append l its.toArray n u (by rw [List.size_toArray]; omega)) ⟨e, ?_⟩
  refine ⟨.non, _, I.lset (its' := its ++ [u]) hH e (by simp) (r.append (.cons ru .nil)) ?_, rfl, q⟩
  rw [List.length_append, List.length_singleton]
  omega
def rCat : R2 := fun x y H Q => ∃ l b xs zs, x = .ref l ∧ y = .ref b ∧ H l = some (.lst xs) ∧ H b = some (.lst zs) ∧ xs.length + zs.length ≤ sizeLine ∧ ∀ p, H p = none → Q (.ref p) (upd H p (.lst (xs ++ zs)))
theorem op_cat : OpR X (binaryOp .Add) rCat := by
  intro pins s σ H x y v u Q I rx ry h
  obtain ⟨l, b, xs, zs, rfl, rfl, hH, hB, hz, q⟩ := h
  cases rx
  cases ry
  obtain ⟨z, its, n, r, hl, e⟩ := I.lstM hH
  obtain ⟨z2, its2, n2, r2, hl2, e2⟩ := I.lstM hB
  refine PySem.P.add_list e e2 ?_ (by rw [List.size_toArray, List.size_toArray]; omega)
  have ea : its.toArray ++ its2.toArray = (its ++ its2).toArray := by simp
  rw [ea]
  exact ⟨.ref _, _, I.lnew (t' := s.toks) (r.append r2) (by rw [List.length_append]; omega), rfl, q _ I.fresh⟩
end
section
variable {prog : Program} {w : World} {A : Around} {E : Value → Shared → Prop} {s : Shared}
end
section
variable {X : Cx}
end
section
variable {κ : Type} [DecidableEq κ]
def valV (kvs : List (κ × V)) (k : κ) : Option V := (kvs.find? fun kv => decide (kv.1 = k)).map (·.2)
def putK (kvs : List (κ × V)) (k : κ) (v : V) : List (κ × V) :=
  if (kvs.any fun kv => decide (kv.1 = k)) = true then kvs.map (fun kv => if kv.1 = k then (kv.1, v) else kv) else kvs ++ [(k, v)]
theorem valV_pos {p : κ × V} {r : List (κ × V)} {k : κ} (e : p.1 = k) : valV (p :: r) k = some p.2 := by simp [valV, List.find?_cons, e]
theorem valV_neg {p : κ × V} {r : List (κ × V)} {k : κ} (e : ¬ p.1 = k) : valV (p :: r) k = valV r k := by simp [valV, List.find?_cons, e]
theorem valV_any (k : κ) : ∀ kvs : List (κ × V), (kvs.any fun kv => decide (kv.1 = k)) = (valV kvs k).isSome
  | [] => rfl
  | p :: r => by
    rw [List.any_cons]
    by_cases e : p.1 = k
    · simp only [valV_pos e, decide_eq_true e, Bool.true_or, Option.isSome_some]
    · rw [valV_neg e, decide_eq_false e, Bool.false_or]; exact valV_any k r
theorem valV_map (k j : κ) (y : V) : ∀ kvs : List (κ × V), valV (kvs.map fun kv => if kv.1 = k then (kv.1, y) else kv) j = (valV kvs j).map fun x => if j = k then y else x
  | [] => rfl
  | p :: r => by
    have ih := valV_map k j y r
    rw [List.map_cons]
    by_cases h : p.1 = k
    · rw [if_pos h]
      by_cases e : p.1 = j
      · rw [valV_pos (p := (p.1, y)) e, valV_pos e, Option.map_some, if_pos (e.symm.trans h)]
      · rw [valV_neg (p := (p.1, y)) e, valV_neg e, ih]
    · rw [if_neg h]
      by_cases e : p.1 = j
      · rw [valV_pos (p := p) e, valV_pos e, Option.map_some, if_neg (fun z => h (e.trans z))]
      · rw [valV_neg (p := p) e, valV_neg e, ih]
theorem valV_snoc (k j : κ) (y : V) : ∀ kvs : List (κ × V), valV kvs k = none → valV (kvs ++ [(k, y)]) j = if j = k then some y else valV kvs j
  | [], _ => by
    by_cases e : k = j
    · rw [if_pos e.symm]; exact valV_pos (p := (k, y)) e
    · rw [if_neg (fun z => e z.symm)]; exact valV_neg (p := (k, y)) e
  | p :: r, hn => by
    rw [List.cons_append]
    have hk : ¬ p.1 = k := fun z => by rw [valV_pos z] at hn; cases hn
    rw [valV_neg hk] at hn
    have ih := valV_snoc k j y r hn
    by_cases e : p.1 = j
    · rw [valV_pos e, valV_pos e, if_neg (fun z => hk (e.trans z))]
    · rw [valV_neg e, valV_neg e, ih]
theorem valV_put (kvs : List (κ × V)) (k j : κ) (y : V) : valV (putK kvs k y) j = if j = k then some y else valV kvs j := by
  unfold putK
  by_cases a : (kvs.any fun kv => decide (kv.1 = k)) = true
  · rw [if_pos a, valV_map]
    rw [valV_any] at a
    by_cases e : j = k
    · obtain ⟨x, hx⟩ := Option.isSome_iff_exists.mp a
      rw [if_pos e, e, hx, Option.map_some, if_pos rfl]
    · rw [if_neg e]
      cases valV kvs j with
      | none => rfl
      | some x => rw [Option.map_some, if_neg e]
  · rw [if_neg a]
    refine valV_snoc k j y kvs ?_
    rw [valV_any] at a
    cases q : valV kvs k with
    | none => rfl
    | some x => rw [q] at a; exact (a rfl).elim
theorem length_putK (kvs : List (κ × V)) (k : κ) (v : V) : (putK kvs k v).length ≤ kvs.length + 1 := by
  unfold putK
  split
  · rw [List.length_map]; omega
  · rw [List.length_append, List.length_cons, List.length_nil]; omega
theorem putK_new {kvs : List (κ × V)} {k : κ} (v : V) (h : valV kvs k = none) : putK kvs k v = kvs ++ [(k, v)] := by
  unfold putK
  rw [valV_any, h]
  exact if_neg (by decide)
theorem RelO.isSome_eq {o : Option V} {u : Option Value} (r : RelO o u) : o.isSome = u.isSome := by
  cases o with
  | none => cases u with
    | none => rfl
    | some _ => exact (show False from r).elim
  | some _ => cases u with
    | none => exact (show False from r).elim
    | some _ => rfl
theorem RelO.getD {o : Option V} {u : Option Value} {d : V} {d' : Value} (r : RelO o u) (rd : RelV d d') : RelV (o.getD d) (u.getD d') := by
  cases o with
  | none => cases u with
    | none => exact rd
    | some _ => exact (show False from r).elim
  | some _ => cases u with
    | none => exact (show False from r).elim
    | some _ => exact r
theorem KV.val {kvs : List (κ × V)} {vs : List (κ × Value)} (r : KV kvs vs) (k : κ) : RelO (valV kvs k) (valueAt vs k) := by
  unfold KV at r
  induction r with
  | nil => exact True.intro
  | @cons p q ps qs h t ih =>
    obtain ⟨h1, h2⟩ := h
    by_cases e : p.1 = k
    · have e' : q.1 = k := h1.symm.trans e
      have b : valueAt (q :: qs) k = some q.2 := by simp [valueAt, List.find?_cons, e']
      rw [valV_pos e, b]; exact h2
    · have e' : ¬ q.1 = k := fun z => e (h1.trans z)
      have b : valueAt (q :: qs) k = valueAt qs k := by simp [valueAt, List.find?_cons, e']
      rw [valV_neg e, b]; exact ih
theorem KV.any {kvs : List (κ × V)} {vs : List (κ × Value)} (r : KV kvs vs) (k : κ) : (kvs.any fun kv => decide (kv.1 = k)) = vs.any fun kv => decide (kv.1 = k) := by
  unfold KV at r
  induction r with
  | nil => rfl
  | cons h t ih => rw [List.any_cons, List.any_cons, ih, h.1]
theorem KV.repl {kvs : List (κ × V)} {vs : List (κ × Value)} (r : KV kvs vs) (k : κ) {y : V} {u : Value} (ry : RelV y u) :
    KV (kvs.map fun kv => if kv.1 = k then (kv.1, y) else kv) (vs.map fun kv => if kv.1 = k then (kv.1, u) else kv) := by
  unfold KV at r ⊢
  induction r with
  | nil => exact .nil
  | @cons p q ps qs h t ih =>
    rw [List.map_cons, List.map_cons]
    refine .cons ?_ ih
    obtain ⟨h1, h2⟩ := h
    by_cases e : p.1 = k
    · rw [if_pos e, if_pos (h1.symm.trans e)]; exact ⟨h1, ry⟩
    · rw [if_neg e, if_neg (fun z => e (h1.trans z))]; exact ⟨h1, h2⟩
theorem KV.put {kvs : List (κ × V)} {vs : List (κ × Value)} (r : KV kvs vs) (k : κ) {y : V} {u : Value} (ry : RelV y u) : KV (putK kvs k y) (stored vs k u) := by
  unfold putK stored
  rw [r.any k]
  by_cases e : (vs.any fun kv => decide (kv.1 = k)) = true
  · rw [if_pos e, if_pos e]; exact r.repl k ry
  · rw [if_neg e, if_neg e]; exact Paired.snoc r ⟨rfl, ry⟩
theorem KV.length {kvs : List (κ × V)} {vs : List (κ × Value)} (r : KV kvs vs) : kvs.length = vs.length := Paired.length r
end
theorem kV_is {P : Program} {w : World} {k : Key} {u : Value} (r : RelV (kV k) u) : (mixKind P w).is k u = true := by
  cases k with
  | inl i => obtain ⟨t, e⟩ := (show ∃ t, u = Value.int i t from r); subst e; exact mixKind_int P w i t
  | inr x => obtain ⟨t, e⟩ := (show ∃ t, u = Value.str x t from r); subst e; exact mixKind_str P w x t
theorem items_are {P : Program} {w : World} : ∀ {ks : List Key} {us : List Value}, Vals (ks.map kV) us → ItemsAre (mixKind P w) ks us
  | [], _, r => by rw [List.map_nil] at r; cases r; exact .nil
  | k :: ks, _, r => by
    rw [List.map_cons] at r
    cases r with
    | cons h t => exact .cons (kV_is h) (items_are t)
abbrev KT (H : Hp) : List (List Key × V) → List (List Key × Addr × Value) → Prop := Paired fun p q => p.1 = q.1 ∧ H q.2.1 = some (.tup (p.1.map kV)) ∧ RelV p.2 q.2.2
theorem KT.val {H : Hp} {kvs : List (List Key × V)} {xs : List (List Key × Addr × Value)} (r : KT H kvs xs) (k : List Key) : RelO (valV kvs k) ((atKey xs k).map (·.2)) := by
  induction r with
  | nil => exact True.intro
  | @cons p q ps qs h t ih =>
    obtain ⟨h1, _, h2⟩ := h
    by_cases e : p.1 = k
    · have e' : q.1 = k := h1.symm.trans e
      have b : atKey (q :: qs) k = some q.2 := by simp [atKey, List.find?_cons, e']
      rw [valV_pos e, b]; exact h2
    · have e' : ¬ q.1 = k := fun z => e (h1.trans z)
      have b : atKey (q :: qs) k = atKey qs k := by simp [atKey, List.find?_cons, e']
      rw [valV_neg e, b]; exact ih
theorem KT.repl {H : Hp} {kvs : List (List Key × V)} {xs : List (List Key × Addr × Value)} (r : KT H kvs xs) (k : List Key) {y : V} {u : Value} (ry : RelV y u) :
    KT H (kvs.map fun kv => if kv.1 = k then (kv.1, y) else kv) (xs.map (putAt k u)) := by
  induction r with
  | nil => exact .nil
  | @cons p q ps qs h t ih =>
    rw [List.map_cons, List.map_cons]
    refine .cons ?_ ih
    obtain ⟨h1, h2, h3⟩ := h
    unfold putAt
    by_cases e : p.1 = k
    · rw [if_pos e, if_pos (h1.symm.trans e)]; exact ⟨h1, h2, ry⟩
    · rw [if_neg e, if_neg (fun z => e (h1.trans z))]; exact ⟨h1, h2, h3⟩
theorem KT.put {H : Hp} {kvs : List (List Key × V)} {xs : List (List Key × Addr × Value)} (r : KT H kvs xs) (k : List Key) {b : Addr} {y : V} {u : Value} (hb : H b = some (.tup (k.map kV))) (ry : RelV y u) :
    KT H (putK kvs k y) (storedH xs k b u) := by
  have e : (kvs.any fun kv => decide (kv.1 = k)) = (atKey xs k).isSome := by
    rw [valV_any, (r.val k).isSome_eq, Option.isSome_map]
  unfold putK storedH
  rw [e]
  by_cases q : (atKey xs k).isSome = true
  · rw [if_pos q, if_pos q]; exact r.repl k ry
  · rw [if_neg q, if_neg q]; exact Paired.snoc r ⟨rfl, hb, ry⟩
theorem KT.keeps {H H' : Hp} {kvs : List (List Key × V)} {xs : List (List Key × Addr × Value)} (r : KT H kvs xs) (ht : ∀ b ys, H b = some (.tup ys) → H' b = some (.tup ys)) : KT H' kvs xs :=
  Paired.mapP r fun _ _ z => ⟨z.1, ht _ _ z.2.1, z.2.2⟩
section
variable {P : Program} {w : World} {H : Hp} {h : Heap} {a : Addr}
theorem rd_of {u : HO} (ok : HOk P w H h) (e : Rd H a u) : ObjOk P w H h a u := e.ok ok
theorem dk_rd {kvs : List (Key × V)} (ok : HOk P w H h) (e : Rd H a (.dK kvs)) : kvs.length ≤ sizeLine ∧ (a == sysModules) = false ∧ ∃ vs, KV kvs vs ∧ h.DictOf (mixKind P w) a vs :=
  show ObjOk P w H h a (.dK kvs) from rd_of ok e
theorem dk_of {kvs : List (Key × V)} (ok : HOk P w H h) (e : H a = some (.dK kvs)) : kvs.length ≤ sizeLine ∧ (a == sysModules) = false ∧ ∃ vs, KV kvs vs ∧ h.DictOf (mixKind P w) a vs := dk_rd ok (.inl e)
theorem key_of {ks : List Key} (ok : HOk P w H h) (e : H a = some (.tup (ks.map kV))) : (tupleKind (mixKind P w)).is h ks a := by
  obtain ⟨_, its, r, o, h1, h2, n, h3⟩ := (show ObjOk P w H h a (.tup (ks.map kV)) from ok a _ e)
  exact ⟨o, its.toArray, n, h1, h2, h3, by simpa using items_are r⟩
theorem dt_rd {kvs : List (List Key × V)} (ok : HOk P w H h) (e : Rd H a (.dT kvs)) : kvs.length ≤ sizeLine ∧ (a == sysModules) = false ∧
    ∃ xs, KT H kvs xs ∧ h.DictOfH (tupleKind (mixKind P w)) a xs := by
  obtain ⟨z, y, xs, r, o, es, ep, h1, h2, h3, h4, h5⟩ := (show ObjOk P w H h a (.dT kvs) from rd_of ok e)
  refine ⟨z, y, xs, r, o, es, ep, h1, h2, h3, h4, fun x hx => ?_, h5⟩
  have all : ∀ {l : List (List Key × V)} {m : List (List Key × Addr × Value)}, KT H l m → ∀ x ∈ m, (tupleKind (mixKind P w)).is h x.1 x.2.1 := by
    intro l m q
    induction q with
    | nil => intro x hx; exact nomatch hx
    | @cons p q ps qs hq t ih =>
      intro x hx
      rcases List.mem_cons.mp hx with e | hx
      · subst e
        exact key_of ok (by rw [← hq.1]; exact hq.2.1)
      · exact ih x hx
  exact all r x hx
theorem dt_of {kvs : List (List Key × V)} (ok : HOk P w H h) (e : H a = some (.dT kvs)) : kvs.length ≤ sizeLine ∧ (a == sysModules) = false ∧
    ∃ xs, KT H kvs xs ∧ h.DictOfH (tupleKind (mixKind P w)) a xs := dt_rd ok (.inl e)
end
def DGet (H : Hp) (a : Addr) (y : V) (r : Option V) : Prop :=
  (∃ kvs k, Rd H a (.dK kvs) ∧ y = kV k ∧ r = valV kvs k) ∨ ∃ kvs k b, Rd H a (.dT kvs) ∧ y = .ref b ∧ H b = some (.tup (k.map kV)) ∧ r = valV kvs k
def DPut (H : Hp) (a : Addr) (y v : V) (H' : Hp) : Prop :=
  (∃ kvs k, H a = some (.dK kvs) ∧ y = kV k ∧ kvs.length < sizeLine ∧ H' = upd H a (.dK (putK kvs k v))) ∨
  ∃ kvs k b, H a = some (.dT kvs) ∧ y = .ref b ∧ H b = some (.tup (k.map kV)) ∧ kvs.length < sizeLine ∧ H' = upd H a (.dT (putK kvs k v))
theorem DGet.k {H : Hp} {a : Addr} {kvs : List (Key × V)} {k : Key} (e : H a = some (.dK kvs)) : DGet H a (kV k) (valV kvs k) := .inl ⟨kvs, k, .inl e, rfl, rfl⟩
theorem DPut.k {H : Hp} {a : Addr} {kvs : List (Key × V)} {k : Key} {v : V} (e : H a = some (.dK kvs)) (hl : kvs.length < sizeLine) : DPut H a (kV k) v (upd H a (.dK (putK kvs k v))) := .inl ⟨kvs, k, e, rfl, hl, rfl⟩
section
variable {X : Cx} {pins : List (Addr × Obj)} {σ : St} {H : Hp} {s : Shared} {a : Addr} {y v : V} {u r : Value} {o : Option V} {A : Around} {E : Value → Shared → Prop}
theorem Inv.big (I : Inv X pins σ H s) : sysModules < s.heap.objs.size := by
  have h : mainGlobals < s.heap.objs.size := (I.mod.glob.keeps I.bk).lt
  exact Nat.lt_trans (by decide) h
theorem d_getItem {Q : Value → Shared → Prop} (hu : A.units + 1 < cLine) (I : Inv X pins σ H s) (g : DGet H a y (some v)) (ry : RelV y u) (h : ∀ w' s', Inv X pins σ H s' → RelV v w' → Q w' s') :
    wpAny (model X.prog X.w) A (getItem (.ref a) u) Q E s := by
  rcases g with ⟨kvs, k, e, ey, l⟩ | ⟨kvs, k, b, e, ey, eb, l⟩
  · subst ey
    obtain ⟨z, hd, vs, rel, dd⟩ := dk_rd I.hok e
    obtain ⟨w', hw, rw'⟩ := RelO.some_of (v := v) (o := valueAt vs k) (by rw [l]; exact rel.val k)
    exact wpAny_getItem_of (kV_is ry) dd.mapOf hw (h w' _ (I.tok _) rw')
  · subst ey
    cases (show u = Value.ref b from ry)
    obtain ⟨z, hd, xs, rel, dd⟩ := dt_rd I.hok e
    obtain ⟨w', hw, rw'⟩ := RelO.some_of (v := v) (o := (atKey xs k).map (·.2)) (by rw [l]; exact rel.val k)
    obtain ⟨p, hp, hp2⟩ := Option.map_eq_some_iff.mp hw
    refine wpAny_getItem_heap (tupleKind_room_in1 hu) (key_of I.hok eb) dd hp ?_
    rw [hp2]
    exact h w' _ (I.tok _) rw'
theorem d_in {Q : Value → Shared → Prop} (hu : A.units + 1 < cLine) (I : Inv X pins σ H s) (g : DGet H a y o) (ry : RelV y u) (h : ∀ s', Inv X pins σ H s' → Q (.bool o.isSome) s') :
    wpAny (model X.prog X.w) A (compareOp .In u (.ref a)) Q E s := by
  rcases g with ⟨kvs, k, e, ey, l⟩ | ⟨kvs, k, b, e, ey, eb, l⟩
  · subst ey
    obtain ⟨z, hd, vs, rel, dd⟩ := dk_rd I.hok e
    refine wpAny_in_of (kV_is ry) hd dd.mapOf ?_
    rw [← (rel.val k).isSome_eq, ← l]
    exact h _ (I.tok _)
  · subst ey
    cases (show u = Value.ref b from ry)
    obtain ⟨z, hd, xs, rel, dd⟩ := dt_rd I.hok e
    refine wpAny_in_heap (tupleKind_room_in1 hu) (key_of I.hok eb) hd dd ?_
    have q := (rel.val k).isSome_eq
    rw [Option.isSome_map] at q
    rw [← q, ← l]
    exact h _ (I.tok _)
theorem d_notIn {Q : Value → Shared → Prop} (hu : A.units + 1 < cLine) (I : Inv X pins σ H s) (g : DGet H a y o) (ry : RelV y u) (h : ∀ s', Inv X pins σ H s' → Q (.bool (!o.isSome)) s') :
    wpAny (model X.prog X.w) A (compareOp .NotIn u (.ref a)) Q E s := by
  rcases g with ⟨kvs, k, e, ey, l⟩ | ⟨kvs, k, b, e, ey, eb, l⟩
  · subst ey
    obtain ⟨z, hd, vs, rel, dd⟩ := dk_rd I.hok e
    refine wpAny_notIn_of (kV_is ry) hd dd.mapOf ?_
    rw [← (rel.val k).isSome_eq, ← l]
    exact h _ (I.tok _)
  · subst ey
    cases (show u = Value.ref b from ry)
    obtain ⟨z, hd, xs, rel, dd⟩ := dt_rd I.hok e
    refine wpAny_notIn_heap (tupleKind_room_in1 hu) (key_of I.hok eb) hd dd ?_
    have q := (rel.val k).isSome_eq
    rw [Option.isSome_map] at q
    rw [← q, ← l]
    exact h _ (I.tok _)
theorem d_write {h' : Heap} {t' : Nat} {ob : HO} (I : Inv X pins σ H s) (mu : Mut (H a)) (hs : Heap.SameBut a s.heap h') (he : ∃ q, h'.get? a = some q) (new : ObjOk X.prog X.w (upd H a ob) h' a ob) :
    Inv X pins σ (upd H a ob) { s with heap := h', toks := t' } :=
  I.write (x := a) (e := a) mu (.inl rfl) (fun b q hb z => (hs.2 b hb).trans z) he new
theorem dk_new {P : Program} {w : World} {H' : Hp} {h' : Heap} {kvs : List (Key × V)} {vs : List (Key × Value)} (z : kvs.length ≤ sizeLine) (hd : (a == sysModules) = false) (rel : KV kvs vs) (dd : h'.DictOf (mixKind P w) a vs) :
    ObjOk P w H' h' a (.dK kvs) := ⟨z, hd, vs, rel, dd⟩
theorem d_setItem {H' : Hp} {Q : Unit → Shared → Prop} (hu : A.units + 1 < cLine) (I : Inv X pins σ H s) (g : DPut H a y v H') (ry : RelV y u) (rv : RelV v r) (h : ∀ s', Inv X pins σ H' s' → Q () s') :
    wpAny (model X.prog X.w) A (setItem (.ref a) u r) Q E s := by
  rcases g with ⟨kvs, k, e, ey, l, eH⟩ | ⟨kvs, k, b, e, ey, eb, l, eH⟩
  · subst ey eH
    obtain ⟨z, hd, vs, rel, dd⟩ := dk_of I.hok e
    have hz : vs.length ≤ sizeLine := by rw [← rel.length]; exact z
    have hl : (putK kvs k v).length ≤ sizeLine := by have := length_putK kvs k v; omega
    refine wpAny_setItem_pairs (hsz := hz) (kV_is ry) dd fun h' dd' hs => h _ ?_
    have he : ∃ q, h'.get? a = some q := let ⟨q, _, _, hq, _⟩ := dd'; ⟨q, hq⟩
    exact d_write I (by rw [e]; exact True.intro) hs he (dk_new hl hd (rel.put k rv) dd')
  · subst ey eH
    cases (show u = Value.ref b from ry)
    obtain ⟨z, hd, xs, rel, dd⟩ := dt_of I.hok e
    have hz : xs.length ≤ sizeLine := by rw [← Paired.length rel]; exact z
    have hl : (putK kvs k v).length ≤ sizeLine := by have := length_putK kvs k v; omega
    refine wpAny_setItem_heap (hsz := hz) (tupleKind_room_in1 hu) (key_of I.hok eb) dd fun h' dd' hs => h _ ?_
    obtain ⟨q, es, ep, hq, h2, h3, h4, _, h5⟩ := dd'
    refine d_write I (by rw [e]; exact True.intro) hs ⟨q, hq⟩ ⟨hl, hd, _, (rel.put k eb rv).keeps fun c ys ec => ?_, q, es, ep, hq, h2, h3, h4, h5⟩
    rw [upd_ne (ne_of ec e (fun z => nomatch z))]
    exact ec
end
section
variable {X : Cx} {pins : List (Addr × Obj)} {σ : St} {H : Hp} {s : Shared} {a : Addr} {kvs : List (Key × V)} {k : Key} {u : Value} {A : Around} {E : Value → Shared → Prop}
end
def NoSl (i : Expr) : Prop := ∀ ov iv, subscripted i false ov iv = operate [ov, iv] (getItem ov iv)
theorem subD_of {prog : Program} {w : World} {A : Around} {E : Value → Shared → Prop} {s : Shared} {env : Env} {value slice : Expr} {pos : Pos} {T id : String} {Q : Value → Shared → Prop}
    (hl : typeLookup (.type T) "__getitem__" = pure (some (.builtin id))) (hs : NoSl slice)
    (h : wpAny (model prog w) A (eval value env) (fun o s₁ => wpAny (model prog w) A (eval slice env) (fun i s₂ => s₂.TypeIs o T ∧ wpAny (model prog w) A (getItem o i) Q E s₂) E s₁) E s) :
    wpAny (model prog w) A (eval (.Subscript value slice pos) env) Q E s := by
  refine Subscript_ (wpAny_mono h (fun o s₁ h₁ => wpAny_mono h₁ (fun i s₂ h₂ => ?_) fun _ _ x => x) fun _ _ x => x)
  obtain ⟨hT, h₂⟩ := h₂
  unfold subscriptTail
  refine wpAny_bind ?_
  rw [getitemInPython_of_ne hT.not_modules]
  refine wpAny_bind (wpAny_specialOf hT hl ?_)
  have fin : wpAny (model prog w) A (subscripted slice false o i) (fun r s₃ => wpAny (model prog w) A (letTemporaryGo value o r >>= fun _ => pure r) Q E s₃) E s₂ := by
    rw [hs o i]
    exact wpAny_operating (wpAny_mono h₂ (fun r s₃ h₃ => wpAny_bind (wpAny_letTemporaryGo (wpAny_pure h₃))) fun _ _ x => x)
  first
    | exact wpAny_pure (wpAny_bind fin)
    | exact wpAny_bind (wpAny_pure (wpAny_bind fin))
    | exact wpAny_bind fin
theorem dict_typeIs {X : Cx} {pins : List (Addr × Obj)} {σ : St} {H : Hp} {s : Shared} {a : Addr} {y : V} {o : Option V} (I : Inv X pins σ H s) (g : DGet H a y o) : s.TypeIs (.ref a) "dict" := by
  rcases g with ⟨kvs, k, e, _, _⟩ | ⟨kvs, k, b, e, _, _, _⟩
  · obtain ⟨_, _, vs, _, dd⟩ := dk_rd I.hok e
    exact dd.typeIs
  · obtain ⟨_, _, xs, _, dd⟩ := dt_rd I.hok e
    exact dd.typeIs
def tDGet (td ty : TE) : TE := fun σ H Q => td σ H fun x H1 => ty σ H1 fun y H2 => ∃ a v, x = .ref a ∧ DGet H2 a y (some v) ∧ Q v H2
def tDIn (ty td : TE) : TE := fun σ H Q => ty σ H fun y H1 => td σ H1 fun x H2 => ∃ a o, x = .ref a ∧ DGet H2 a y o ∧ Q (.bl o.isSome) H2
def tDNotIn (ty td : TE) : TE := fun σ H Q => ty σ H fun y H1 => td σ H1 fun x H2 => ∃ a o, x = .ref a ∧ DGet H2 a y o ∧ Q (.bl (!o.isSome)) H2
def sDPut (td ty tv : TE) : TS := fun D σ H => tv σ H fun v H1 => td σ H1 fun x H2 => ty σ H2 fun y H3 => ∃ a H4, x = .ref a ∧ DPut H3 a y v H4 ∧ D.nx σ H4
section
variable {X : Cx} {o i e value : Expr} {pos pos' tpos : Pos} {td ty tv : TE}
theorem pe_dget (hu : X.A.units + 1 < cLine) (ho : PE X o td) (hi : PE X i ty) (hs : NoSl i) : PE X (.Subscript o i pos) (tDGet td ty) := by
  intro pins s σ H Q I h
  refine subD_of PySem.F.slot_dict_getitem.lookup hs (thn (ho pins s σ H _ I h) fun u s1 ⟨x, H1, I1, rx, q1⟩ => thn (hi pins s1 σ H1 _ I1 q1) fun iv s2 ⟨y, H2, I2, ry, a, v, ex, g, q2⟩ => ?_)
  subst ex
  obtain rfl : u = Value.ref a := rx
  exact ⟨dict_typeIs I2 g, d_getItem hu I2 g ry fun w' s3 I3 rw' => ⟨v, H2, I3, rw', q2⟩⟩
theorem pc_din (hu : X.A.units + 1 < cLine) (hi : PE X i ty) (ho : PE X o td) : PC X .In i o (tDIn ty td) := by
  intro pins s σ H Q I h
  refine thn (hi pins s σ H _ I h) fun iv s1 ⟨y, H1, I1, ry, q1⟩ => thn (ho pins s1 σ H1 _ I1 q1) fun u s2 ⟨x, H2, I2, rx, a, ov, ex, g, q2⟩ => ?_
  subst ex
  obtain rfl : u = Value.ref a := rx
  exact d_in hu I2 g ry fun s3 I3 => ⟨.bl ov.isSome, H2, I3, rfl, q2⟩
theorem pc_dnotin (hu : X.A.units + 1 < cLine) (hi : PE X i ty) (ho : PE X o td) : PC X .NotIn i o (tDNotIn ty td) := by
  intro pins s σ H Q I h
  refine thn (hi pins s σ H _ I h) fun iv s1 ⟨y, H1, I1, ry, q1⟩ => thn (ho pins s1 σ H1 _ I1 q1) fun u s2 ⟨x, H2, I2, rx, a, ov, ex, g, q2⟩ => ?_
  subst ex
  obtain rfl : u = Value.ref a := rx
  exact d_notIn hu I2 g ry fun s3 I3 => ⟨.bl (!ov.isSome), H2, I3, rfl, q2⟩
theorem ps_dput (hu : X.A.units + 1 < cLine) (ho : PE X o td) (hi : PE X i ty) (hv : PE X value tv) (hs : swapsWith value (some (.Subscript o i pos')) pos.line X.env = pure false) :
    PS X (.Assign [.Subscript o i pos'] value pos) (sDPut td ty tv) := by
  intro pins s σ H D I h
  refine wpAny_Assign_Subscript (thn (hv pins s σ H _ I h) fun r s1 ⟨v, H1, I1, rv, q1⟩ => thn (ho pins s1 σ H1 _ I1 q1) fun u s2 ⟨x, H2, I2, rx, q2⟩ => thn (hi pins s2 σ H2 _ I2 q2) fun iv s3 ⟨y, H3, I3, ry, a, H4, ex, g, q3⟩ => ?_) hs
  subst ex
  obtain rfl : u = Value.ref a := rx
  exact d_setItem hu I3 g ry rv fun s4 I4 => ⟨σ, H4, I4, q3⟩
end
theorem dk_empty {P : Program} {w : World} {H : Hp} (h : Heap) (hb : sysModules < h.objs.size) : ObjOk P w H (h.push { cls := .type "dict", data := .dict #[] }) h.objs.size (.dK []) :=
  ⟨Nat.zero_le _, beq_eq_false_iff_ne.mpr (Ne.symm (Nat.ne_of_lt hb)), [], .nil, Heap.DictOf.new h⟩
def tDNewK : TE := fun _ H Q => ∀ p, H p = none → Q (.ref p) (upd H p (.dK []))
section
variable {X : Cx} {pos : Pos}
theorem pe_dnewK : PE X (.Dict [] [] pos) tDNewK := fun pins s σ H Q I h =>
  wpAny_Dict_empty ⟨.ref s.heap.objs.size, _, I.laid (a := s.heap.objs.size) (o := .dK []) (t' := s.toks) (fun _ _ q => Heap.get?_push_of_some _ q) (Nat.le_refl _) (dk_empty s.heap I.big), rfl, h _ (I.hok.fresh (Nat.le_refl _))⟩
end
structure M1 (X : Cx) (o : Expr) (m : Str) (apos : Pos) (e : Expr) (cpos : Pos) : Prop where
  base : attributeBase o m X.env (eval o X.env) = eval o X.env
  few : ((backTo cpos (starEach [e] X.env)).all (fun x => !x.1) && (backToKw cpos (keywordEach [] X.env)).all (fun x => x.1.isSome)
    && decide (([e] : List Expr).length + ([] : List Keyword).length + (if ([] : List Keyword).isEmpty then 0 else 1) < 30)) = true
  line : (apos.endLine == cpos.line) = true
  trees : backTo cpos (starEach [e] X.env) = [(false, eval e X.env)]
structure M2 (X : Cx) (o : Expr) (m : Str) (apos : Pos) (e f : Expr) (cpos : Pos) : Prop where
  base : attributeBase o m X.env (eval o X.env) = eval o X.env
  few : ((backTo cpos (starEach [e, f] X.env)).all (fun x => !x.1) && (backToKw cpos (keywordEach [] X.env)).all (fun x => x.1.isSome)
    && decide (([e, f] : List Expr).length + ([] : List Keyword).length + (if ([] : List Keyword).isEmpty then 0 else 1) < 30)) = true
  line : (apos.endLine == cpos.line) = true
  trees : backTo cpos (starEach [e, f] X.env) = [(false, eval e X.env), (false, eval f X.env)]
def IsD (H : Hp) (a : Addr) : Prop := (∃ kvs, Rd H a (.dK kvs)) ∨ ∃ kvs, Rd H a (.dT kvs)
theorem isD_at {X : Cx} {pins : List (Addr × Obj)} {σ : St} {H : Hp} {s : Shared} {a : Addr} (I : Inv X pins σ H s) (d : IsD H a) :
    s.TypeIs (.ref a) "dict" ∧ (∀ b, Value.ref a = .ref b → ∃ ob, s.heap.get? b = some ob ∧ ob.dict = none) ∧ (a == sysModules) = false := by
  rcases d with ⟨kvs, e⟩ | ⟨kvs, e⟩
  · obtain ⟨_, hd, vs, _, dd⟩ := dk_rd I.hok e
    refine ⟨dd.typeIs, fun b q => ?_, hd⟩
    cases q
    obtain ⟨ob, _, _, h1, h2, _⟩ := dd
    exact ⟨ob, h1, h2.2.1⟩
  · obtain ⟨_, hd, xs, _, dd⟩ := dt_rd I.hok e
    refine ⟨dd.typeIs, fun b q => ?_, hd⟩
    cases q
    obtain ⟨ob, _, _, h1, h2, _⟩ := dd
    exact ⟨ob, h1, h2.2.1⟩
section
variable {X : Cx} {pins : List (Addr × Obj)} {σ : St} {H : Hp} {s : Shared} {a : Addr} {y d : V} {u r : Value} {o : Option V} {A : Around} {E : Value → Shared → Prop}
theorem d_get2 {Q : Value → Shared → Prop} (hu : A.units + 1 < cLine) (I : Inv X pins σ H s) (g : DGet H a y o) (ry : RelV y u) (rd : RelV d r) (h : ∀ w' s', Inv X pins σ H s' → RelV (o.getD d) w' → Q w' s') :
    wpAny (model X.prog X.w) A (call (.builtin "dict.get") [.ref a, u, r]) Q E s := by
  rcases g with ⟨kvs, k, e, ey, l⟩ | ⟨kvs, k, b, e, ey, eb, l⟩
  · subst ey
    obtain ⟨z, hd, vs, rel, dd⟩ := dk_rd I.hok e
    refine call_meetsIn PySem.F.slot_dict_get dd.typeIs PySem.F.entry_dict_get (PySem.F.args_dict_get_3 _ _ _) (meets_dict_get_default (mixKind X.prog X.w) a (kV_is ry) hd r) ⟨_, dd.mapOf, h _ _ (I.tok _) ?_⟩
    rw [l]
    exact (rel.val k).getD rd
  · subst ey
    cases (show u = Value.ref b from ry)
    obtain ⟨z, hd, xs, rel, dd⟩ := dt_rd I.hok e
    refine call_meetsIn PySem.F.slot_dict_get dd.typeIs PySem.F.entry_dict_get (PySem.F.args_dict_get_3 _ _ _) (meetsH_dict_get_default (tupleKind (mixKind X.prog X.w)) a b hd r) ⟨tupleKind_room_in1 hu, k, xs, key_of I.hok eb, dd, h _ _ (I.tok _) ?_⟩
    rw [l]
    exact (rel.val k).getD rd
end
def tDGet2 (td ty tx : TE) : TE := fun σ H Q => td σ H fun x H1 => ∃ a, x = .ref a ∧ IsD H1 a ∧ ty σ H1 fun y H2 => tx σ H2 fun z H3 => ∃ o, DGet H3 a y o ∧ Q (o.getD z) H3
section
variable {X : Cx} {o e f : Expr} {apos cpos : Pos} {td ty tx : TE}
theorem pe_dget2 (hu : X.A.units + 1 < cLine) (ho : PE X o td) (he : PE X e ty) (hf : PE X f tx) (m : M2 X o "get" apos e f cpos) : PE X (.Call (.Attribute o "get" apos) [e, f] [] cpos) (tDGet2 td ty tx) := by
  intro pins s σ H Q I h
  refine wpAny_Call_method m.base m.few m.line PySem.F.plainAttrs_dict PySem.F.slot_dict_get PySem.F.type_dict_get (thn (ho pins s σ H _ I h) fun u s1 ⟨x, H1, I1, rx, a, ex, d, q1⟩ => ?_)
  subst ex
  obtain rfl : u = Value.ref a := rx
  obtain ⟨t1, t2, _⟩ := isD_at I1 d
  refine ⟨t1, t2, ?_⟩
  rw [m.trees]
  refine Calls.callWith_builtin rfl (Calls.evalArgs_plain (Calls.spliced_cons (thn (he pins s1 σ H1 _ I1 q1) fun iv s2 ⟨y, H2, I2, ry, q2⟩ =>
    Calls.spliced_cons (thn (hf pins s2 σ H2 _ I2 q2) fun fv s3 ⟨z, H3, I3, rz, ov, g, q3⟩ => Calls.spliced_nil ?_))))
  exact d_get2 hu I3 g ry rz fun w' s4 I4 rw' => ⟨_, H3, I4, rw', q3⟩
end
section
variable {X : Cx} {pins : List (Addr × Obj)} {σ : St} {H : Hp} {s : Shared} {a : Addr} {kvs : List (Key × V)} {A : Around} {E : Value → Shared → Prop}
end
section
variable {X : Cx} {pins : List (Addr × Obj)} {σ : St} {H : Hp} {s : Shared} {a : Addr} {y : V} {u : Value} {A : Around} {E : Value → Shared → Prop}
end
end L2
namespace Att
open PySem PySem.W PySem.Calls PyProof.Rows
theorem ints_of_wellAll {P : Params} {h : Heap} : ∀ (ns : List Int) (vs : List Value), WellAll P h vs (ns.map WData.int) → IntsAre vs ns := by
  intro ns
  induction ns with
  | nil =>
    intro vs w
    rw [List.map_nil] at w
    cases w
    exact .nil
  | cons n ns ih =>
    intro vs w
    rw [List.map_cons] at w
    cases w with
    | cons a b =>
      cases a
      exact .cons _ _ (ih _ b)
theorem script_of {l : OpenLaw} {n : Nat} (hn : l.most = some n) {P : Params} {h : Heap} {args : List WData} {vals : List Value}
    (hpre : l.row.toRowW.claim.pre args = true) (hwl : WellAll P h vals args) :
    ∃ a vs ns, vals = [Value.ref a] ∧ args = [WData.list (ns.map WData.int)] ∧ h.get? a = some { cls := .type "list", data := .seq vs.toArray } ∧ IntsAre vs ns ∧ ns.length ≤ n := by
  have hsh : WShape.hasAll [] args [.list .int] = true := (pre_splitW hpre).1
  have hc : l.pre.holds [] { args := args } = true := (pre_splitW hpre).2
  obtain ⟨d, r, rfl, h1, h2⟩ := hasAllW_cons hsh
  obtain rfl := hasAllW_nil h2
  obtain ⟨xs, rfl, h3⟩ := hasW_list h1
  obtain ⟨ns, rfl⟩ := items_int h3
  have hlen : ns.length ≤ n := by
    unfold OpenLaw.pre at hc
    have h4 : (WTm.not (.lt (.lit (.int (n : Int))) (.len (.arg 0)))).holds [] { args := [.list (ns.map .int)] } = true := by
      have h4 := (holds_andW hc).1
      rw [hn] at h4
      exact h4
    have h5 := condW_of h4 (w_not (w_lt w_lit (w_len_list (w_arg rfl))))
    rw [List.length_map] at h5
    refine Nat.le_of_not_lt fun q => ?_
    have q' : (n : Int) < ((ns.length : Nat) : Int) := by omega
    first
      | (rw [decide_eq_true q'] at h5; exact absurd h5 (by decide))
      | (simp at h5; omega)
  cases hwl with
  | cons w1 w2 =>
    cases w2
    cases w1 with
    | list ho hall => exact ⟨_, _, ns, rfl, rfl, ho, ints_of_wellAll ns _ hall, hlen⟩
theorem post_true (l : OpenLaw) (args : List WData) : l.row.toRowW.claim.post args (.bool true) args = true :=
  postW_of (r := l.row.toRowW) (X := (true == true))
    (show WShape.has [] (.bool true) .bool = true by first | rfl | decide | simp [WShape.has, WShape.arms, WShape.armsAll])
    (show (WTm.eq .res (.lit (.bool true))).value [] { args := args, res := some (.bool true), after := args } = some (.bool (true == true)) from w_eq_bool (w_res rfl) w_lit) rfl
theorem attach_call {l : OpenLaw} {n : Nat} {q : Program} {loose : List Str} {XP : (Str → Option Value) → Heap → Prop} {YP : World → Heap → Prop} {d : DefRec}
    (hn : l.most = some n) (hdf : d.params.defaults = [])
    (call : ∀ (w : World) (s₀ s₁ : Shared) (mg mb : Str → Option Value) (fa : Addr) (o : Obj) (pm cd doc : Value) (a : Addr) (vs : List Value) (ns : List Int),
      Ground q loose [] XP w s₀ mg mb s₁.heap → YP w s₁.heap →
      s₁.heap.get? fa = some o → o.data = .func (docDef d.name d.params d.body d.scope pm cd doc) → s₁.heap.CodeRec cd d.name → mg d.name = some (.ref fa) →
      s₁.heap.get? a = some { cls := .type "list", data := .seq vs.toArray } → IntsAre vs ns → ns.length ≤ n → s₁.gens = #[] →
      codeAny (model l.prog w) callerA (.call (.ref fa) ⟨[.ref a], []⟩) (fun r s' => r = .ok (.ret (.bool true)) ∧ OldK s₁.heap s'.heap ∧ s'.os = s₁.os ∧ AllBare s'.gens) s₁) :
    WalkO q loose XP YP l.row.toRowW d [] (fun f vs => PySem.call f vs) := by
  intro w s₀ s₁ mg mb G Y fa o pm cd doc dV kV ho hd hcd hD hmg hg args vals as hpre hlay hrd hwl hlo
  obtain rfl : dV = .none := Dflts.none hD hdf
  obtain rfl : kV = .none := Dflts.noKw hD
  obtain ⟨a, vs, ns, rfl, rfl, hobj, hints, hlen⟩ := script_of hn hpre hwl
  refine enter_call (codeAny_mono (call w s₀ s₁ mg mb fa o pm cd doc a vs ns G Y ho (fd_plain hd) hcd hmg hobj hints hlen hg) fun r s' hq => ?_)
  obtain ⟨rfl, h2, h3, h4⟩ := hq
  exact ⟨.inl ⟨.bool true, .bool true, [], rfl, fun _ => rfl, .bool true, post_true l _, fun _ => ⟨List.Pairwise.nil, fun _ hm => (nomatch hm)⟩⟩, h2, h3, h4⟩
section
variable {prog : Program} {w : World} {A : Around} {E : Value → Shared → Prop} {s : Shared} {K : Frag}
end
end Att
namespace L2
open PySem PySem.Spec PyProof.Rows
theorem vals_ints : ∀ {vs : List Value} {ns : List Int}, IntsAre vs ns → Vals (ns.map V.int) vs
  | _, _, .nil => .nil
  | _, _, .cons n t h => .cons ⟨t, rfl⟩ (vals_ints h)
def Only (H : Hp) : Prop := ∀ b, H b = none ∨ ∃ o xs, H b = some (.frz o (.lst xs))
theorem law_call {P : Program} {w : World} {K : PySem.W.Frag} {mg mb : Str → Option Value} {CX : CXT} {k : Nat} {fa a : Addr} {fd : FuncData} {x : Str} {sp : Sp} {s₁ : Shared} {vs : List Value} {ns : List Int}
    (KX : K.In s₁.heap) (hns : s₁.heap.Ns mainGlobals mg) (hb : s₁.heap.Ns builtinsNs mb) (hbb : ∀ x : Str, x ≠ "__name__" → mb x = bootBuiltins x) (hlim : s₁.heap.NoLimit) (hg : s₁.gens = #[])
    (ha : s₁.heap.get? a = some { cls := .type "list", data := .seq vs.toArray }) (hi : IntsAre vs ns) (hl : ns.length ≤ sizeLine) (hr : Room k callerA)
    (F : ∀ base : Heap, K.In base → base.Ns mainGlobals mg → FnOk P w K mg base CX k fa fd [x] sp) (hbind : ∀ (s : Shared) (u : Value), BindsTo s fd ⟨[u], []⟩ [(x, u)])
    (hsp : ∀ H : Hp, Only H → SqL K H a (ns.map V.int) → sp [.ref a] H (fun v _ => v = .bl true) fun _ _ _ => False)
    (hCX : ∀ H e s', CX [] H s₁ (fun _ _ _ => False) e s' → False) :
    codeAny (model P w) callerA (.call (.ref fa) ⟨[.ref a], []⟩) (fun r s' => r = .ok (.ret (.bool true)) ∧ OldK s₁.heap s'.heap ∧ s'.os = s₁.os ∧ AllBare s'.gens) s₁ := by
  have rv := vals_ints hi
  have lenV := hi.length
  -- from an abstract heap in which nothing but the script may be tracked
  have core : ∀ H : Hp, Only H → SqL K H a (ns.map V.int) → HOk P w H s₁.heap → (∀ b, H b ≠ none → b = a) → (H a ≠ none → K.lookup a = none) →
      codeAny (model P w) callerA (.call (.ref fa) ⟨[.ref a], []⟩) (fun r s' => r = .ok (.ret (.bool true)) ∧ OldK s₁.heap s'.heap ∧ s'.os = s₁.os ∧ AllBare s'.gens) s₁ := by
    intro H hO hS hok hA hK
    have base_of : ∀ {b : Addr} {o : Obj}, s₁.heap.get? b = some o → H b = none → (hidT s₁.heap H).get? b = some o := fun e n => hidT_get e n
    have noA : ∀ {b : Addr} {o : Obj} {es : Array DictEntry} {ep : Nat}, s₁.heap.get? b = some o → o.data = .dict es ep → H b = none := fun {b o es ep} e d => by
      cases q : H b with
      | none => rfl
      | some u =>
        have e' : b = a := hA b (by rw [q]; simp)
        subst e'
        rw [ha] at e; cases e
        have d' : Data.seq vs.toArray _ = Data.dict es ep := d
        cases d'
    have nsK : ∀ {b : Addr} {m : Str → Option Value}, s₁.heap.Ns b m → (hidT s₁.heap H).Ns b m := fun {b m} ⟨o, es, ep, e, d, r⟩ => ⟨o, es, ep, base_of e (noA e d), d, r⟩
    have hKb : K.In (hidT s₁.heap H) := fun b o e => base_of (KX b o e) (by
      cases q : H b with
      | none => rfl
      | some u =>
        have e' : b = a := hA b (by rw [q]; simp)
        subst e'
        rw [hK (by rw [q]; simp)] at e; cases e)
    have hM : Mod K mg (hidT s₁.heap H) := ⟨hKb, nsK hns, ⟨mb, nsK hb, hbb⟩, let ⟨mc, h1, h2⟩ := hlim; ⟨mc, nsK h1, h2⟩⟩
    have e0 : Env0 P w K mg (hidT s₁.heap H) callerA [] s₁ H := ⟨rfl, hM, fun b o e => of_hidT e, Nat.le_of_eq (hidT_size _ _), trivial, fun b hb => absurd (show b ∈ ([] : List Addr) from hb) (by simp), hok, .of_eq hg⟩
    refine codeAny_mono ((F _ hKb (nsK hns)).run callerA [] s₁ H ⟨[.ref a], []⟩ [.ref a] [.ref a] _ _ hr e0 (hbind s₁ (.ref a)) (.cons rfl .nil) (hsp H hO hS)) fun r s' h => ?_
    cases r with
    | error e => exact (hCX H e s' h).elim
    | ok fl =>
      cases fl with
      | next => exact False.elim h
      | brk => exact False.elim h
      | cont => exact False.elim h
      | ret u =>
        obtain ⟨v, H', os, bare, un, hok', r', q⟩ := h
        have q' : v = .bl true := q
        subst q'
        obtain rfl : u = Value.bool true := r'
        refine ⟨rfl, OldK.of_keep fun b o e => ?_, os, bare⟩
        cases q : H b with
        | none => exact un.keep b o e q (by intro z; exact absurd (show b ∈ ([] : List Addr) from z) (by simp)) (by simp)
        | some u =>
          rcases hO b with z | ⟨ob, xs, z⟩
          · rw [q] at z; cases z
          · have z2 := un.frzs b ob _ z
            obtain ⟨e1, _⟩ := hok b _ z
            obtain ⟨e2, _⟩ := hok' b _ z2
            rw [e] at e1; cases e1
            exact e2
  cases hk : K.lookup a with
  | some o =>
    -- the script is one of the module's own objects
    have e := KX a o hk
    rw [ha] at e
    cases e
    refine core (fun _ => none) (fun _ => .inl rfl) (.inr ⟨_, vs.toArray, _, hk, rfl, rfl, rfl, by rw [List.size_toArray, lenV]; exact hl, by simpa using rv⟩) (fun b u z => by have z' : (none : Option HO) = some u := z; cases z') (fun b z => absurd rfl z) fun z => absurd rfl z
  | none =>
    refine core (fun b => if b = a then some (.frz { cls := .type "list", data := .seq vs.toArray } (.lst (ns.map V.int))) else none) (fun b => ?_) (.inl (.inr ⟨{ cls := .type "list", data := .seq vs.toArray }, if_pos rfl⟩)) (fun b u z => ?_) (fun b z => ?_) fun _ => hk
    · by_cases hb : b = a
      · exact .inr ⟨_, _, if_pos hb⟩
      · exact .inl (if_neg hb)
    · by_cases hb : b = a
      · have z' := (if_pos hb).symm.trans z
        cases z'
        subst hb
        exact ⟨ha, by rw [List.length_map]; exact hl, vs, _, rv, ha⟩
      · have z' := (if_neg hb).symm.trans z
        cases z'
    · by_cases hb : b = a
      · exact hb
      · exact absurd (if_neg hb) z
theorem walk_of {l : PySem.W.OpenLaw} {n k : Nat} {q : Program} {loose : List Str} {XP : (Str → Option Value) → Heap → Prop} {YP : World → Heap → Prop} {d : DefRec} {K : Params → PySem.W.Frag} {CX : World → CXT} {sp : World → Sp} {x : Str}
    (hn : l.most = some n) (hn2 : n ≤ sizeLine) (hdf : d.params.defaults = []) (hr : Room k callerA)
    (hY : ∀ (w : World) (h : Heap), YP w h → (K w.params).In h)
    (F : ∀ (w : World) (mg : Str → Option Value) (fa : Addr) (h : Heap), (K w.params).In h → h.Ns mainGlobals mg → mg d.name = some (.ref fa) →
      ∃ fd : FuncData, (∀ (s : Shared) (u : Value), BindsTo s fd ⟨[u], []⟩ [(x, u)]) ∧
        ∀ base : Heap, (K w.params).In base → base.Ns mainGlobals mg → FnOk l.prog w (K w.params) mg base (CX w) k fa fd [x] (sp w))
    (hsp : ∀ (w : World) (H : Hp) (a : Addr) (ns : List Int), ns.length ≤ n → Only H → SqL (K w.params) H a (ns.map V.int) → sp w [.ref a] H (fun v _ => v = .bl true) fun _ _ _ => False)
    (hCX : ∀ (w : World) (H : Hp) (s : Shared) (e : Value) (s' : Shared), CX w [] H s (fun _ _ _ => False) e s' → False) :
    PySem.W.WalkO q loose XP YP l.row.toRowW d [] (fun f vs => PySem.call f vs) := by
  refine Att.attach_call hn hdf fun w s₀ s₁ mg mb fa o pm cd doc a vs ns G Y ho hd hcd hmg hobj hints hlen hg => ?_
  have KX := hY w _ Y
  obtain ⟨fd, hb, hF⟩ := F w mg fa _ KX G.T.g hmg
  exact law_call KX G.T.g G.T.b G.T.builtins G.T.nolimit hg hobj hints (Nat.le_trans hlen hn2) hr hF hb (fun H hO hS => hsp w H a ns hlen hO hS) fun H e s' => hCX w H s₁ e s'
def inClass (s : Stmt) (j : Nat) : Stmt := match s with
  | .ClassDef _ _ _ body _ _ _ _ _ _ _ => body.getD j (.Pass ⟨0, 0, 0, 0⟩)
  | _ => .Pass ⟨0, 0, 0, 0⟩
def defArgs (s : Stmt) : Arguments := match s with
  | .FunctionDef _ a _ _ _ _ _ _ _ _ => a
  | _ => { posonlyargs := [], args := [], vararg := none, kwonlyargs := [], kw_defaults := [], kwarg := none, defaults := [] }
def defBody (s : Stmt) : List Stmt := match s with
  | .FunctionDef _ _ b _ _ _ _ _ _ _ => b
  | _ => []
def defScope (s : Stmt) : Scope := match s with
  | .FunctionDef _ _ _ _ _ _ sc _ _ _ => sc
  | _ => { kind := .function, names := [], isGenerator := false, isCoroutine := false }
abbrev CX0 : CXT := fun _ _ _ _ _ _ => False
abbrev E0 : XK := fun _ _ _ => False
theorem pass0 {X : Cx} : Passes CX0 X E0 := fun _ _ _ _ _ _ _ h => h.elim
structure Fun (K : PySem.W.Frag) (x qual : Str) (st : Stmt) (f : Addr) (fd : FuncData) : Prop where
  ex : ∃ (oc : Value) (od : Option Addr) (kV doc pm : Value) (an : Option Addr) (cdv ct : Value) (osl : Array (Option Value)),
    fd = PySem.W.fnOf x qual (defArgs st) (defBody st) (defScope st) .none kV doc pm an cdv ct ∧ K.lookup f = some ⟨oc, od, .func fd, osl⟩ ∧ PySem.W.codeIn K cdv qual = true
  kp : PySem.W.keepIn K (.ref f) = true
section
variable {P : Program} {w : World} {K : PySem.W.Frag} {mg : Str → Option Value} {base : Heap}
theorem Fun.ok {x qual : Str} {st : Stmt} {f : Addr} {fd : FuncData} {N ps : List Str} {k : Nat} {sp : Sp} (F : Fun K x qual st f fd) (S : FnScope N ps (defScope st)) (len : ∀ vs H Q E, sp vs H Q E → vs.length = ps.length)
    (hbody : ∀ (cdv : Value) (A : Around) (outer : List Env) (s : Shared) (H : Hp) (vs : List V) (Q : VK) (E : XK), Room k (A.deeper (envOfC qual (defScope st) s.heap.objs.size f cdv)) → sp vs H Q E →
      ∃ t, PSs (cxOf CX0 P w K mg base N qual (defScope st) f cdv A outer s H E).nox (defBody st) t ∧ t { nx := fun _ H' => Q .non H', rt := Q } (start N vs) H) : FnOk P w K mg base CX0 (k + 1) f fd ps sp := by
  obtain ⟨oc, od, kV, doc, pm, an, cdv, ct, osl, rfl, lk, hcd⟩ := F.ex
  refine fn_of lk hcd S len fun A outer s H vs Q E hr hsp => ?_
  obtain ⟨t, h, q⟩ := hbody cdv A outer s H vs Q E hr hsp
  exact ⟨t, h.nox, q⟩
theorem Fun.binds {x qual : Str} {st : Stmt} {f : Addr} {fd : FuncData} {ps : List Str} (F : Fun K x qual st f fd)
    (h : ∀ (kV doc pm : Value) (an : Option Addr) (cdv ct : Value) (us : List Value), us.length = ps.length → bindArgs (PySem.W.fnOf x qual (defArgs st) (defBody st) (defScope st) .none kV doc pm an cdv ct) ⟨us, []⟩ = pure (ps.zip us)) : Binds K fd ps [] := by
  obtain ⟨oc, od, kV, doc, pm, an, cdv, ct, osl, rfl, lk, hcd⟩ := F.ex
  exact .all (h kV doc pm an cdv ct)
theorem fun_mk {x qual : Str} {st : Stmt} {f : Addr} {oc : Value} {od an : Option Addr} {osl : Array (Option Value)} {kV doc pm cdv ct : Value} (l : K.lookup f = some ⟨oc, od, .func (PySem.W.fnOf x qual (defArgs st) (defBody st) (defScope st) .none kV doc pm an cdv ct), osl⟩)
    (c : PySem.W.codeIn K cdv qual = true) (k : PySem.W.keepIn K (.ref f) = true) : Fun K x qual st f (PySem.W.fnOf x qual (defArgs st) (defBody st) (defScope st) .none kV doc pm an cdv ct) := ⟨⟨oc, od, kV, doc, pm, an, cdv, ct, osl, rfl, l, c⟩, k⟩
end
theorem hu_of {A : Around} {k : Nat} (hr : Room k A) : A.units + 1 < cLine := Nat.lt_of_le_of_lt (Nat.add_le_add_left (by decide : 1 ≤ 64) _) hr.units
section
variable {X : Cx}
theorem pv (i : Nat) {x : Str} {pos : Pos} (hN : X.N[i]? = some x := by rfl) (hv : Vis X.env.scope x := by first | exact Or.inl rfl | exact Or.inr (Or.inl rfl) | exact Or.inr (Or.inr rfl)) (hd : (x == ("__debug__" : Str)) = false := by decide)
    (hcd : (x == ("__classdict__" : Str)) = false := by decide) : PE X (.Name x pos) (tVar i) := pe_var hN hv hd hcd
end
theorem iteF {A B : Prop} (h : B) : if false = true then A else B := by
  rw [if_neg Bool.false_ne_true]
  exact h
theorem iteT {A B : Prop} (h : A) : if true = true then A else B := by
  rw [if_pos rfl]
  exact h
theorem ite2 {c A B : Prop} [Decidable c] (h1 : c → A) (h2 : ¬ c → B) : if c then A else B := by
  by_cases h : c
  · rw [if_pos h]
    exact h1 h
  · rw [if_neg h]
    exact h2 h
theorem iteNS {c A B : Prop} [Decidable c] (hc : c) (h : B) : if (!decide c) = true then A else B := by
  rw [decide_eq_true hc]
  exact iteF h
def Same (H H' : Hp) : Prop := ∀ b o, H b = some o → H' b = some o
theorem Same.refl (H : Hp) : Same H H := fun _ _ h => h
theorem Same.trans {H H1 H2 : Hp} (a : Same H H1) (b : Same H1 H2) : Same H H2 := fun c o h => b c o (a c o h)
theorem Same.free {H H' : Hp} (e : Same H H') {l : Addr} (h : H' l = Option.none) : H l = Option.none := by
  cases q : H l with
  | none => rfl
  | some o =>
    rw [e l o q] at h
    cases h
theorem Same.seq {K : PySem.W.Frag} {H H' : Hp} {a : Addr} {xs : List V} (e : Same H H') (h : SqL K H a xs) : SqL K H' a xs := by
  rcases h with (h | ⟨o, h⟩) | h
  · exact .inl (.inl (e _ _ h))
  · exact .inl (.inr ⟨o, e _ _ h⟩)
  · exact .inr h
section
variable {X : Cx}
end
section
variable {κ : Type} [DecidableEq κ]
end
end L2
set_option maxHeartbeats 4000000
namespace L2
open PySem PySem.Spec PyProof.Rows
section
variable {X : Cx} {pins : List (Addr × Obj)} {σ : St} {H : Hp} {s : Shared} {h' : Heap}
theorem Inv.adopt {D : Addr} {o : HO} (I : Inv X pins σ H s) (hn : H D = none) (hL : D ≠ X.env.locals) (h0 : X.s₀.heap.objs.size ≤ D)
    (hc : ∀ x c, X.env.cells.lookup x = some c → c ≠ D) (hp : ∀ p ∈ X.pn ++ pins, p.1 ≠ D) (new : ObjOk X.prog X.w (upd H D o) s.heap D o) : Inv X pins σ (upd H D o) s := by
  have ne : ∀ b u, H b = some u → b ≠ D := fun b u e => ne_of_none e hn
  refine ⟨I.ok, I.os, I.bare, ⟨I.base.keep, I.base.slot, fun b u e n hx => ?_, I.base.there, fun b xs e => ?_, fun b u v e => ?_, fun b ps e => ?_⟩, I.loc, I.cell, ?_, fun x c e => ?_, fun p hp' => ?_, fun b u e => ?_, I.len⟩
  · rw [upd_ne (Nat.ne_of_lt (Nat.lt_of_lt_of_le (Heap.lt_size e) h0))]; exact I.base.free b u e n hx
  · have q := I.base.tups b xs e
    rw [upd_ne (ne _ _ q)]; exact q
  · have q := I.base.frzs b u v e
    rw [upd_ne (ne _ _ q)]; exact q
  · obtain ⟨m, q⟩ := I.base.tbls b ps e
    exact ⟨m, by rw [upd_ne (ne _ _ q)]; exact q⟩
  · rw [upd_ne (Ne.symm hL)]; exact I.free
  · rw [upd_ne (hc x c e)]; exact I.freeC x c e
  · obtain ⟨e, n, r⟩ := I.pin p hp'
    exact ⟨e, by rw [upd_ne (hp p hp')]; exact n, r⟩
  · by_cases hb : b = D
    · subst hb; rw [upd_same] at e; cases e; exact new
    · rw [upd_ne hb] at e
      exact (I.hok b u e).stay (fun _ _ _ q => q) (fun c q => by rw [upd_ne (ne _ _ q)]; exact q) fun c xs q => by rw [upd_ne (ne _ _ q)]; exact q
theorem Inv.turns {t' : Nat} {ch : List Addr} (I : Inv X pins σ H s) (k : ∀ b o, b ∉ ch → s.heap.get? b = some o → h'.get? b = some o) (hf : ∀ b ∈ ch, FpOk X pins H b) :
    Inv X pins σ H { s with heap := h', toks := t' } := by
  have nit : ∀ b u, H b = some u → b ∉ ch := fun b u e z => by rw [(hf b z).1] at e; cases e
  refine I.step (g' := s.gens) (d' := s.drawn) (ch := ch) (fun b hb => ?_) (fun b o _ _ hc e _ => k b o hc e) (fun b o _ _ hc e _ => ⟨o.slots, k b o hc e⟩) (fun _ _ _ _ n => n)
    (fun b o hc e => ⟨o, k b o hc e⟩) (fun _ _ e => e) (fun _ _ _ e => e) (fun b ps e => ⟨#[], by rw [e]; simp⟩) (fun m hm => ?_) (fun b u e => ?_) I.bare
  · obtain ⟨f0, f1, f2, f3, f4, f5⟩ := hf b hb
    exact ⟨f3, f1, f4, f5⟩
  · obtain ⟨o, es, ep, ho, r⟩ := hm
    exact ⟨o, es, ep, k _ o (fun z => (hf _ z).2.1 rfl) ho, r⟩
  · refine (I.hok b u e).stay (fun c v hc q => k c v ?_ q) (fun _ q => q) fun _ _ q => q
    rcases hc with z | z
    · rw [z]; exact nit b u e
    · exact nit c _ z
end
theorem closure_go {env : Env} (f : Str × NameKind → List (Str × Addr) → Sem (ForInStep (List (Str × Addr))))
    (hf : ∀ name kind cs, f (name, kind) cs = if kind == .free then (do let a ← cellOf env name; pure (.yield ((name, a) :: cs))) else pure (.yield cs)) :
    ∀ (names : List (Str × NameKind)) (cs : List (Str × Addr)), (∀ n, (n, NameKind.free) ∈ names → ∃ c, env.cells.lookup n = some c) → (∀ x c, cs.lookup x = some c → env.cells.lookup x = some c) →
      ∃ cl, forIn names cs f = pure cl ∧ (∀ x c, cl.lookup x = some c → env.cells.lookup x = some c) ∧ (∀ x, (∃ c, cs.lookup x = some c) ∨ (x, NameKind.free) ∈ names → ∃ c, cl.lookup x = some c)
  | [], cs, _, h => ⟨cs, rfl, h, fun x hx => hx.elim (fun z => z) fun z => nomatch z⟩
  | (n, k) :: r, cs, hn, h => by
    by_cases hk : k = .free
    · subst hk
      obtain ⟨c, hc⟩ := hn n List.mem_cons_self
      obtain ⟨cl, e, h1, h2⟩ := closure_go f hf r ((n, c) :: cs) (fun m hm => hn m (List.mem_cons_of_mem _ hm)) (fun x d hx => by
        by_cases hxn : x = n
        · subst hxn
          rw [List.lookup_cons, beq_self_eq_true] at hx
          cases hx
          exact hc
        · rw [List.lookup_cons, beq_eq_false_iff_ne.mpr hxn] at hx
          exact h x d hx)
      refine ⟨cl, ?_, h1, fun x hx => ?_⟩
      · rw [List.forIn_cons, hf]
        have e1 : cellOf env n = pure c := by unfold cellOf; rw [hc]
        rw [e1]
        exact e
      · rcases hx with ⟨d, hd⟩ | hx
        · refine h2 x (.inl ?_)
          by_cases hxn : x = n
          · subst hxn
            exact ⟨c, by rw [List.lookup_cons, beq_self_eq_true]⟩
          · exact ⟨d, by rw [List.lookup_cons, beq_eq_false_iff_ne.mpr hxn]; exact hd⟩
        · rcases List.mem_cons.mp hx with e2 | hx
          · obtain rfl : x = n := (Prod.mk.inj e2).1
            exact h2 x (.inl ⟨c, by rw [List.lookup_cons, beq_self_eq_true]⟩)
          · exact h2 x (.inr hx)
    · have hkb : (k == NameKind.free) = false := beq_eq_false_iff_ne.mpr hk
      obtain ⟨cl, e, h1, h2⟩ := closure_go f hf r cs (fun m hm => hn m (List.mem_cons_of_mem _ hm)) h
      refine ⟨cl, ?_, h1, fun x hx => h2 x ?_⟩
      · rw [List.forIn_cons, hf, hkb]
        exact e
      · rcases hx with hx | hx
        · exact .inl hx
        · rcases List.mem_cons.mp hx with e2 | hx
          · cases e2
            exact absurd rfl hk
          · exact .inr hx
theorem closure_of {env : Env} {scope : Scope} (hn : ∀ n, (n, NameKind.free) ∈ scope.names → ∃ c, env.cells.lookup n = some c) :
    ∃ cl, closureFor scope env = pure cl ∧ (∀ x c, cl.lookup x = some c → env.cells.lookup x = some c) ∧ ∀ x, (x, NameKind.free) ∈ scope.names → ∃ c, cl.lookup x = some c := by
  obtain ⟨cl, e, h1, h2⟩ := closure_go (env := env) (fun x cs => match x with | (name, kind) => if kind == .free then (do let a ← cellOf env name; pure (.yield ((name, a) :: cs))) else pure (.yield cs)) (fun _ _ _ => rfl) scope.names [] hn (fun x c z => nomatch z)
  refine ⟨cl, ?_, h1, fun x hx => h2 x (.inr hx)⟩
  unfold closureFor
  exact Eq.trans (congrArg (fun t : Sem (List (Str × Addr)) => t >>= fun r => pure r) e) rfl
def relS (scope sc : Scope) : Scope :=
  { scope with names := scope.names.map fun (n, k) => if (k == .free && sc.kind == .function && sc.names.lookup n == some .cell) then (n, .cell) else (n, k) }
def compOk (sc scope : Scope) : Bool :=
  decide (scope.kind = .function) && (scope.names.all (fun p => decide (p.2 ≠ .cell)) && (scope.names.all (fun p => decide (p.2 = .local → scope.names.lookup p.1 = some .local)) &&
  scope.names.all (fun p => decide (p.2 = .free → (sc.names.lookup p.1 = some .cell ∨ sc.names.lookup p.1 = some .free)))))
def frOk (N : List Str) (scope : Scope) (fr : List (Str × Nat)) : Bool := fr.all fun p => decide (N[p.2]? = some p.1) && decide (scope.names.lookup p.1 = some .free)
structure CompOk (sc scope : Scope) : Prop where
  kind : scope.kind = .function
  cell : ∀ p ∈ scope.names, p.2 ≠ .cell
  loc : ∀ p ∈ scope.names, p.2 = .local → scope.names.lookup p.1 = some .local
  free : ∀ n, (n, NameKind.free) ∈ scope.names → sc.names.lookup n = some .cell ∨ sc.names.lookup n = some .free
theorem compOk_of {sc scope : Scope} (h : compOk sc scope = true) : CompOk sc scope := by
  unfold compOk at h
  rw [Bool.and_eq_true, Bool.and_eq_true, Bool.and_eq_true, List.all_eq_true, List.all_eq_true, List.all_eq_true] at h
  obtain ⟨h1, h2, h3, h4⟩ := h
  exact ⟨of_decide_eq_true h1, fun p hp => of_decide_eq_true (h2 p hp), fun p hp => of_decide_eq_true (h3 p hp), fun n hn => of_decide_eq_true (h4 (n, .free) hn) rfl⟩
theorem lookup_mem {α : Type} {x : Str} {v : α} : ∀ {l : List (Str × α)}, l.lookup x = some v → (x, v) ∈ l
  | [], h => nomatch h
  | (n, k) :: r, h => by
    rw [List.lookup_cons] at h
    by_cases hx : x = n
    · subst hx
      rw [beq_self_eq_true] at h
      cases h
      exact List.mem_cons_self
    · rw [beq_eq_false_iff_ne.mpr hx] at h
      exact List.mem_cons_of_mem _ (lookup_mem h)
theorem relabel_lookup {env : Env} {x : Str} : ∀ {names : List (Str × NameKind)} {k : NameKind},
    (names.map fun (n, k) => if (k == NameKind.free && env.scope.kind == .function && env.kindOf n == some .cell) then (n, NameKind.cell) else (n, k)).lookup x = some k →
    (k = .cell ∧ ((x, NameKind.free) ∈ names ∨ (x, NameKind.cell) ∈ names)) ∨ (x, k) ∈ names
  | [], _, h => nomatch h
  | (n, j) :: r, k, h => by
    have ih := @relabel_lookup env x r k
    rw [List.map_cons] at h
    by_cases hc : (j == NameKind.free && env.scope.kind == .function && env.kindOf n == some .cell) = true
    · simp only [hc, if_true] at h
      rw [List.lookup_cons] at h
      by_cases hx : x = n
      · subst hx
        rw [beq_self_eq_true] at h
        cases h
        have hj : j = .free := by
          rw [Bool.and_eq_true, Bool.and_eq_true] at hc
          exact beq_iff_eq.mp hc.1.1
        subst hj
        exact .inl ⟨rfl, .inl List.mem_cons_self⟩
      · rw [beq_eq_false_iff_ne.mpr hx] at h
        rcases ih h with ⟨e, z | z⟩ | z
        · exact .inl ⟨e, .inl (List.mem_cons_of_mem _ z)⟩
        · exact .inl ⟨e, .inr (List.mem_cons_of_mem _ z)⟩
        · exact .inr (List.mem_cons_of_mem _ z)
    · simp only [hc] at h
      rw [if_neg Bool.false_ne_true, List.lookup_cons] at h
      by_cases hx : x = n
      · subst hx
        rw [beq_self_eq_true] at h
        cases h
        exact .inr List.mem_cons_self
      · rw [beq_eq_false_iff_ne.mpr hx] at h
        rcases ih h with ⟨e, z | z⟩ | z
        · exact .inl ⟨e, .inl (List.mem_cons_of_mem _ z)⟩
        · exact .inl ⟨e, .inr (List.mem_cons_of_mem _ z)⟩
        · exact .inr (List.mem_cons_of_mem _ z)
theorem relabel_free {env : Env} {x : Str} : ∀ {names : List (Str × NameKind)}, names.lookup x = some .free →
    (names.map fun (n, k) => if (k == NameKind.free && env.scope.kind == .function && env.kindOf n == some .cell) then (n, NameKind.cell) else (n, k)).lookup x = some .cell ∨
    (names.map fun (n, k) => if (k == NameKind.free && env.scope.kind == .function && env.kindOf n == some .cell) then (n, NameKind.cell) else (n, k)).lookup x = some .free
  | [], h => nomatch h
  | (n, j) :: r, h => by
    have ih := @relabel_free env x r
    rw [List.map_cons]
    rw [List.lookup_cons] at h
    by_cases hx : x = n
    · subst hx
      rw [beq_self_eq_true] at h
      cases h
      by_cases hc : (NameKind.free == NameKind.free && env.scope.kind == .function && env.kindOf x == some .cell) = true
      · simp only [hc, if_true]
        rw [List.lookup_cons, beq_self_eq_true]
        exact .inl rfl
      · simp only [hc]
        rw [if_neg Bool.false_ne_true, List.lookup_cons, beq_self_eq_true]
        exact .inr rfl
    · rw [beq_eq_false_iff_ne.mpr hx] at h
      by_cases hc : (j == NameKind.free && env.scope.kind == .function && env.kindOf n == some .cell) = true
      · simp only [hc, if_true]
        rw [List.lookup_cons, beq_eq_false_iff_ne.mpr hx]
        exact ih h
      · simp only [hc]
        rw [if_neg Bool.false_ne_true, List.lookup_cons, beq_eq_false_iff_ne.mpr hx]
        exact ih h
theorem compLoop_go {prog : Program} {w : World} {A : Around} {R : Result → Shared → Prop} {s : Shared} {elt target iter : Expr} {ifs : List Expr} {scope : Scope} {pos : Pos} {it acc : Value} {env : Env} (EW : Value → Shared → Prop) (hE : ∀ x s', EW x s' → notedBy (model prog w) A env (fun y s'' => R (.error y) s'') x s') (I : Nat → Shared → Prop)
    (turn : ∀ n s, I n s → wpAny (model prog w) A (pyNext it) (fun r s₁ => match r with
      | none => R (.ok .next) s₁
      | some v => wpAny (model prog w) A (letOwnedTupleGo target it v) (fun _ s₀ => wpAny (model prog w) A (assign target env v) (fun _ s₂ =>
          wpAny (model prog w) A (forIn ifs true fun c r => if r = true then do let ok ← isTrue c env (eval c env); pure (ForInStep.yield ok) else pure (ForInStep.yield r)) (fun ok s₃ =>
            if ok = true then wpAny (model prog w) A (eval elt env) (fun x s₄ =>
              wpAny (model prog w) A (call (.builtin "list.append") [acc, x]) (fun _ s₅ => ∃ m, m < n ∧ I m s₅) (fun _ _ => False) s₄) EW s₃
            else ∃ m, m < n ∧ I m s₃) EW s₂) EW s₀) (fun _ _ => False) s₁) (fun _ _ => False) s)
    (n : Nat) (h : I n s) : codeAny (model prog w) A (.compLoop (.ListComp elt [⟨target, iter, ifs, 0⟩] scope pos) 0 it acc env) R s := by
  refine codeAny_loop rfl I (fun n s hI => ?_) n h
  show wpAny _ A ((compTurn (.ListComp elt [⟨target, iter, ifs, 0⟩] scope pos) 0 it acc env).onRaise (fun x => do noteFrame x env; theTreesLotGoes x)) _ _ s
  refine wpAny_noted ?_
  rw [compTurn_list]
  refine wpAny_bind (wpAny_standAt (wpAny_bind (wpAny_mono (turn n s hI) (fun r s₁ h₁ => ?_) fun _ _ h' => h'.elim)))
  cases r with
  | none => exact wpAny_pure h₁
  | some v =>
    refine wpAny_bind (wpAny_mono h₁ (fun _ s₀ h₀ => ?_) fun _ _ h' => h'.elim)
    refine wpAny_bind (wpAny_mono h₀ (fun _ s₂ h₂ => wpAny_bind (wpAny_mono h₂ (fun ok s₃ h₃ => ?_) hE)) hE)
    cases ok with
    | false => exact wpAny_pure ⟨rfl, h₃⟩
    | true =>
      exact wpAny_bind (wpAny_bind (wpAny_mono h₃ (fun x s₄ h₄ => wpAny_bind (wpAny_mono h₄ (fun _ s₅ h₅ => wpAny_pure (wpAny_pure ⟨rfl, h₅⟩)) fun _ _ h' => h'.elim)) hE))
def cxComp (X : Cx) (scope : Scope) (N : List Str) (cl : List (Str × Addr)) (C : Addr) (s : Shared) (H : Hp) (fp : List Addr) (pins : List (Addr × Obj)) : Cx where
  prog := X.prog
  w := X.w
  K := X.K
  mg := X.mg
  base := X.base
  A := X.A
  N := N
  s₀ := s
  H₀ := H
  env := compEnvC scope cl C X.env
  outer := X.stack
  stack := X.stack
  ex := fp
  fn := fun _ => false
  calm := X.calm
  pn := X.pn ++ pins
  xe := fun _ _ => False
def PTs (Y : Cx) (ifs : List Expr) (tc : TT) : Prop :=
  ∀ (pins : List (Addr × Obj)) (s : Shared) (σ : St) (H : Hp) (Q : Bool → Hp → Prop), Inv Y pins σ H s → tc σ H Q →
    wpAny (model Y.prog Y.w) Y.A (forIn ifs true fun c r => if r = true then do let ok ← isTrue c Y.env (eval c Y.env); pure (ForInStep.yield ok) else pure (ForInStep.yield r)) (TP Y pins σ Q) Y.xe s
def tNoIf : TT := fun _ H Q => Q true H
theorem pts_nil {Y : Cx} : PTs Y [] tNoIf := fun pins s σ H Q I h => wpAny_tests_nil ⟨H, I, h⟩
def OwnG (n : Nat) (g : TG) : Prop := ∀ v σ H (Q Q' : St → Hp → Prop), (∀ σ2 H2, Q σ2 H2 → σ2.length = σ.length → (∀ j, n ≤ j → σ2[j]? = σ[j]?) → Q' σ2 H2) → g v σ H Q → g v σ H Q'
def OwnGs (n : Nat) (g : TGs) : Prop := ∀ v σ H (Q Q' : St → Hp → Prop), (∀ σ2 H2, Q σ2 H2 → σ2.length = σ.length → (∀ j, n ≤ j → σ2[j]? = σ[j]?) → Q' σ2 H2) → g v σ H Q → g v σ H Q'
theorem own_name {n i : Nat} (h : i < n) : OwnG n (gName i) := fun v σ H Q Q' f q => f _ _ q (by simp) fun j hj => List.getElem?_set_ne (by omega)
theorem owns_nil {n : Nat} : OwnGs n gNil := fun v σ H Q Q' f q => ⟨q.1, f _ _ q.2 rfl fun _ _ => rfl⟩
theorem owns_cons {n : Nat} {t : TG} {u : TGs} (h1 : OwnG n t) (h2 : OwnGs n u) : OwnGs n (gCons t u) := fun vs σ H Q Q' f q => by
  obtain ⟨v, r, e, q⟩ := q
  exact ⟨v, r, e, h1 _ _ _ _ _ (fun σ' H' q1 l1 k1 => h2 _ _ _ _ _ (fun σ2 H2 q2 l2 k2 => f σ2 H2 q2 (l2.trans l1) fun j hj => (k2 j hj).trans (k1 j hj)) q1) q⟩
theorem own_tup {K : PySem.W.Frag} {n m : Nat} {t : TGs} (h : OwnGs n t) : OwnG n (gTup K m t) := fun v σ H Q Q' f q => by
  obtain ⟨a, xs, e, hq, hl, q⟩ := q
  exact ⟨a, xs, e, hq, hl, h _ _ _ _ _ f q⟩
structure CompR (Y : Cx) (tg : Expr) (ifs : List Expr) (elt : Expr) (g : TG) (tc : TT) (te : TE) : Prop where
  tg : PG Y tg g
  ts : PTs Y ifs tc
  el : PE Y elt te
def stC (n : Nat) (fr : List (Str × Nat)) (σ : St) : St := List.replicate n none ++ fr.map fun p => (σ[p.2]?).join
def tTurns (n : Nat) (fr : List (Str × Nat)) (g : TG) (tc : TT) (te : TE) (σ : St) (J : It) (H : Hp) (F : List V → Hp → Prop) : Prop :=
  ∃ W : Nat → Nat → List V → Hp → Prop, (∃ m, W 0 m [] H) ∧ ∀ i m ys H, W i m ys H →
    (J.stop i H ∧ F ys H) ∨ (J.go i H ∧ ∃ Nx : List V → Hp → Prop, (∀ ys' H', Nx ys' H' → ∃ m', m' < m ∧ W (i + 1) m' ys' H') ∧ ∀ x H', J.yld i H x H' → g x (stC n fr σ) H' fun σ2 H2 => tc σ2 H2 fun b H3 =>
      if b = true then te σ2 H3 fun y H4 => ys.length < sizeLine ∧ Nx (ys ++ [y]) H4 else Nx ys H3)
def tComp (n : Nat) (fr : List (Str × Nat)) (wi : TI) (g : TG) (tc : TT) (te : TE) : TE := fun σ H Q => wi σ H fun J H1 => tTurns n fr g tc te σ J H1 fun ys H2 => ∀ p, H2 p = none → Q (.ref p) (upd H2 p (.lst ys))
abbrev lobj (its : List Value) (n : Nat) : Obj := { cls := .type "list", data := .seq its.toArray n }
section
variable {X : Cx} {elt iter tg : Expr} {ifs : List Expr} {scope sc : Scope} {pos : Pos} {own N : List Str} {fr : List (Str × Nat)} {g : TG} {tc : TT} {te : TE} {wi : TI}
theorem comp_cxok {pins : List (Addr × Obj)} {σ : St} {H : Hp} {s : Shared} {cl : List (Str × Addr)} {C : Addr} {fp : List Addr} {N' : List Str} (I : Inv X pins σ H s) (ho : CompOk X.env.scope scope)
    (h1 : ∀ x c, cl.lookup x = some c → X.env.cells.lookup x = some c) (h2 : ∀ x, (x, NameKind.free) ∈ scope.names → ∃ c, cl.lookup x = some c) (hf : ∀ b ∈ fp, FpOk X pins H b) (hlt : ∀ b ∈ fp, b < s.heap.objs.size) (hC : s.heap.objs.size ≤ C) :
    (cxComp X scope N' cl C s H fp pins).Ok where
  mod := I.ok.mod
  kind := ho.kind
  glob := I.ok.glob
  blt := I.ok.blt
  above := hC
  inj := fun x y c e1 e2 => I.ok.inj x y c (h1 x c e1) (h1 y c e2)
  has := fun x hx => by
    have go : ∀ k, (k = .cell ∨ k = .free) → (relabel scope X.env).names.lookup x = some k → ∃ c, cl.lookup x = some c := fun k hk e => by
      rcases relabel_lookup (env := X.env) e with ⟨_, z | z⟩ | z
      · exact h2 x z
      · exact absurd rfl (ho.cell _ z)
      · rcases hk with rfl | rfl
        · exact absurd rfl (ho.cell _ z)
        · exact h2 x z
    rcases hx with hx | hx
    · exact go _ (.inl rfl) hx
    · exact go _ (.inr rfl) hx
  cab := fun x c e => absurd e Bool.false_ne_true
  hd := I.ok.hd
  frames := I.ok.frames
  stk := .inl rfl
  exf := fun b hb => ⟨Nat.ne_of_lt (Nat.lt_of_lt_of_le (hlt b hb) hC), fun x c e => (hf b hb).2.2.2.2.1 x c (h1 x c e)⟩
  bs := I.bs
  bsz := Nat.le_trans I.ok.bsz I.sz
  noex := fun b o e hb => by
    rcases (hf b hb).2.2.2.1 with z | z
    · exact I.ok.noex b o e z
    · exact absurd (Nat.lt_of_lt_of_le (Nat.lt_of_lt_of_le (Heap.lt_size e) I.ok.bsz) z) (Nat.lt_irrefl _)
  exfs := fun b hb z => by
    rcases List.mem_cons.mp (I.stkSub b z) with e | e
    · exact (hf b hb).2.1 e
    · exact (hf b hb).2.2.1 e
  funs := I.stack
  frf := I.stkFree
theorem comp_blockW {pins : List (Addr × Obj)} {σ : St} {H2 : Hp} {s2 : Shared} {cl : List (Str × Addr)} {fp : List Addr} {it : Addr} {tn : Nat → Heap → Prop} {J : It} {F : List V → Hp → Prop} {RR : Value → Addr → Result → Shared → Prop} {E : Value → Shared → Prop}
    (xw : Cx → Value → Shared → Prop) (hcalm : X.calm = true) (ho : CompOk X.env.scope scope) (hfr : ∀ p ∈ fr, X.N[p.2]? = some p.1 ∧ scope.names.lookup p.1 = some .free) (hG : OwnG own.length g)
    (hY : ∀ cl C s H fp pins, CompR ((cxComp X scope (own ++ fr.map (·.1)) cl C s H fp pins).wish (xw (cxComp X scope (own ++ fr.map (·.1)) cl C s H fp pins))) tg ifs elt g tc te)
    (I2 : Inv X pins σ H2 s2) (T : Turn X.prog X.w X.K tg J fp it tn) (st2 : tn 0 s2.heap) (f2 : ∀ b ∈ fp, FpOk X pins H2 b) (rd : tTurns own.length fr g tc te σ J H2 F)
    (h1 : ∀ x c, cl.lookup x = some c → X.env.cells.lookup x = some c) (h2 : ∀ x, (x, NameKind.free) ∈ scope.names → ∃ c, cl.lookup x = some c)
    (fin : ∀ D C s' H' ys its n' m, Inv X pins σ H' s' → FpOk X pins H' D → X.s₀.heap.objs.size ≤ D → s'.heap.get? D = some (lobj its n') → Vals ys its → ys.length ≤ sizeLine → FpOk X pins H' C → X.s₀.heap.objs.size ≤ C → C ≠ D → s'.heap.Ns C m → F ys H' → RR (.ref D) C (.ok .next) s')
    (hE : ∀ D C x s', s2.heap.objs.size ≤ C → xw (cxComp X scope (own ++ fr.map (·.1)) cl C s2 H2 fp pins) x s' → notedBy (model X.prog X.w) X.A (compEnvC scope cl C X.env) (fun y s'' => RR (.ref D) C (.error y) s'') x s') :
    wpAny (model X.prog X.w) X.A (newList []) (fun acc s₃ => wpAny (model X.prog X.w) X.A (newFunctionEnv scope X.env.globals cl [] X.env.qual none .none (some X.env)) (fun cenv s₄ =>
      codeAny (model X.prog X.w) X.A (.compStart (.ListComp elt [⟨tg, iter, ifs, 0⟩] scope pos) 0 (.ref it) acc { cenv with scope := relabel scope X.env }) (RR acc cenv.locals) s₄) E s₃) E s2 := by
  refine wpAny_newObj_type (wpAny_newFunctionEnv ho.cell (by intro y hy; simp at hy) (fun h₁ hns₁ hsb₁ => ?_) ho.kind)
  dsimp only at hns₁ hsb₁ ⊢
  generalize hHH : s2.heap.push { cls := .type "list", dict := none, data := .seq ([] : List Value).toArray } = HH at hns₁ hsb₁ ⊢
  have hC : HH.objs.size = s2.heap.objs.size + 1 := by rw [← hHH, Heap.size_push]
  have hDC : s2.heap.objs.size ≠ HH.objs.size := by rw [hC]; exact Nat.ne_of_lt (Nat.lt_succ_self _)
  have hCle : s2.heap.objs.size ≤ HH.objs.size := by rw [hC]; exact Nat.le_succ _
  have below : ∀ b, b < s2.heap.objs.size → b ≠ HH.objs.size := fun b hb => by rw [hC]; exact Nat.ne_of_lt (Nat.lt_succ_of_lt hb)
  have old : ∀ b o, s2.heap.get? b = some o → h₁.get? b = some o := fun b o e => hsb₁.extBut b o (below b (Heap.lt_size e)) (Heap.get?_push_of_some _ (hHH ▸ Heap.get?_push_of_some _ e))
  have hacc : h₁.get? s2.heap.objs.size = some (lobj [] 0) := hsb₁.extBut _ _ hDC (Heap.get?_push_of_some _ (hHH ▸ Heap.get?_push_size _ rfl))
  have hlt : ∀ b ∈ fp, b < s2.heap.objs.size := fun b hb => by
    obtain ⟨o, e, _⟩ := T.obj 0 _ st2 b hb
    exact Heap.lt_size e
  have okY := comp_cxok (N' := own ++ fr.map (·.1)) I2 ho h1 h2 f2 hlt hCle
  have hD0 : H2 s2.heap.objs.size = none := I2.hok.fresh (Nat.le_refl _)
  have hC0 : H2 HH.objs.size = none := I2.hok.fresh hCle
  have R' := hY cl HH.objs.size s2 H2 fp pins
  have hE' := hE s2.heap.objs.size HH.objs.size
  generalize hYe : cxComp X scope (own ++ fr.map (·.1)) cl HH.objs.size s2 H2 fp pins = Y at okY R' hE'
  -- the cells of the block
  have cellY : ∀ x c, cl.lookup x = some c → ∃ v, h₁.IsCell c v := fun x c e => by
    obtain ⟨v, o, q, d⟩ := I2.cell x c (h1 x c e)
    exact ⟨v, o, old c o q, d⟩
  have pinY : ∀ p ∈ X.pn ++ pins, h₁.get? p.1 = some p.2 ∧ H2 p.1 = none ∧ p.1 ≠ HH.objs.size ∧ p.1 ∉ frs X.stack ∧ ∀ v, p.2.data ≠ .cell v := fun p hp => by
    obtain ⟨e, n, ne, nf, d⟩ := I2.pin p hp
    refine ⟨old _ _ e, n, below _ (Heap.lt_size e), fun z => ?_, d⟩
    rcases List.mem_cons.mp (I2.stkSub _ z) with q | q
    · exact ne q
    · exact nf q
  have I0 : Inv Y [(s2.heap.objs.size, lobj [] 0)] (stC own.length fr σ) H2 { s2 with heap := h₁, toks := s2.toks + ([] : List (Str × Value)).length } := by
    subst hYe
    refine ⟨okY, rfl, I2.bare, Un.kept old, ⟨_, hns₁, fun i x v e1 e2 e3 => ?_⟩, cellY, hC0, fun x c e => I2.freeC x c (h1 x c e), fun p hp => ?_, I2.hok.kept old, ?_⟩
    · -- a slot that is set is a free name's
      have hi : own.length ≤ i := by
        rcases Nat.lt_or_ge i own.length with z | z
        · have q : (stC own.length fr σ)[i]? = some none := by
            unfold stC
            rw [List.getElem?_append_left (by simpa using z), List.getElem?_replicate, if_pos z]
          rw [q] at e2
          cases e2
        · exact z
      have e1' : (fr.map (·.1))[i - own.length]? = some x := by
        have : (own ++ fr.map (·.1))[i]? = some x := e1
        rwa [List.getElem?_append_right hi] at this
      have e2' : (fr.map fun p => (σ[p.2]?).join)[i - own.length]? = some (some v) := by
        unfold stC at e2
        rwa [List.getElem?_append_right (by simpa using hi), List.length_replicate] at e2
      rw [List.getElem?_map] at e1' e2'
      cases hp : fr[i - own.length]? with
      | none => rw [hp] at e1'; cases e1'
      | some p =>
        rw [hp] at e1' e2'
        have ep : p.1 = x := Option.some.inj e1'
        have ev : (σ[p.2]?).join = some v := Option.some.inj e2'
        obtain ⟨hN, hl⟩ := hfr p (List.mem_of_getElem? hp)
        rw [ep] at hN hl
        have hσ : σ[p.2]? = some (some v) := by
          cases q : σ[p.2]? with
          | none => rw [q] at ev; cases ev
          | some y => rw [q] at ev; exact congrArg some ev
        obtain ⟨m, hn, hloc⟩ := I2.loc
        have hk := ho.free x (lookup_mem hl)
        obtain ⟨u, r, l⟩ := hloc p.2 x v hN hσ (by rcases hk with z | z; exact .inr (.inl z); exact .inr (.inr z))
        refine ⟨u, r, ?_⟩
        rcases l with ⟨k, _⟩ | ⟨k, c, ec, hcell⟩
        · rcases hk with z | z
          · have k' : X.env.scope.names.lookup x = some .local := k
            rw [z] at k'; cases k'
          · have k' : X.env.scope.names.lookup x = some .local := k
            rw [z] at k'; cases k'
        · obtain ⟨c', ec'⟩ := h2 x (lookup_mem hl)
          have : c' = c := Option.some.inj ((h1 x c' ec').symm.trans ec)
          subst this
          obtain ⟨o, qo, qd⟩ := hcell
          exact .inr ⟨relabel_free (env := X.env) hl, c', ec', o, old _ _ qo, qd⟩
    · rcases List.mem_append.mp hp with z | z
      · exact pinY p z
      · have ep : p = (s2.heap.objs.size, lobj [] 0) := by simpa using z
        subst ep
        refine ⟨hacc, hD0, hDC, fun z => ?_, fun v z => nomatch z⟩
        rcases List.mem_cons.mp (I2.stkSub _ z) with q | q
        · exact absurd I2.lt (by rw [← q]; exact Nat.lt_irrefl _)
        · exact I2.nofs (Nat.le_refl _) q
    · show (List.replicate own.length none ++ fr.map fun p : Str × Nat => (σ[p.2]?).join).length = (own ++ fr.map (·.1)).length
      simp
  have Yp : Y.prog = X.prog ∧ Y.w = X.w ∧ Y.K = X.K ∧ Y.calm = true ∧ Y.A = X.A ∧ Y.env = compEnvC scope cl HH.objs.size X.env ∧ (Y.xe = fun _ _ => False) := by
    subst hYe
    exact ⟨rfl, rfl, rfl, hcalm, rfl, rfl, rfl⟩
  obtain ⟨y1, y2, y3, y4, y5, y6, y7⟩ := Yp
  have fpY : ∀ {H' : Hp} {its : List Value} {n' : Nat}, (∀ b ∈ fp, H' b = none) → ∀ b ∈ fp, FpOk Y [(s2.heap.objs.size, lobj its n')] H' b := fun {H' its n'} hn b hb => by
    subst hYe
    obtain ⟨f0, f1, f3, f4, f5, f6⟩ := f2 b hb
    refine ⟨hn b hb, below b (hlt b hb), okY.exfs b hb, .inl hb, fun x c e => f5 x c (h1 x c e), fun p hp => ?_⟩
    rcases List.mem_append.mp hp with z | z
    · exact f6 p z
    · have ep : p = (s2.heap.objs.size, lobj its n') := by simpa using z
      subst ep
      exact Nat.ne_of_gt (hlt b hb)
  have hYlen : ∀ {H' : Hp} {s' : Shared} {pl : List (Addr × Obj)} {σ' : St}, Inv Y pl σ' H' s' → σ'.length = (stC own.length fr σ).length → (∀ j, own.length ≤ j → σ'[j]? = (stC own.length fr σ)[j]?) → Inv Y pl (stC own.length fr σ) H' s' := fun I hl hk => by
    refine I.weak hl.symm fun i v e => ?_
    rcases Nat.lt_or_ge i own.length with z | z
    · have q : (stC own.length fr σ)[i]? = some none := by
        unfold stC
        rw [List.getElem?_append_left (by simpa using z), List.getElem?_replicate, if_pos z]
      rw [q] at e
      cases e
    · rw [hk i z]; exact e
  obtain ⟨W, ⟨m0, w0⟩, turn⟩ := rd
  have loop : ∀ s₃ : Shared, s₃ = { s2 with heap := h₁, toks := s2.toks + ([] : List (Str × Value)).length } →
      codeAny (model X.prog X.w) X.A (.compLoop (.ListComp elt [⟨tg, iter, ifs, 0⟩] scope pos) 0 (.ref it) (.ref s2.heap.objs.size) (compEnvC scope cl HH.objs.size X.env)) (RR (.ref s2.heap.objs.size) HH.objs.size) s₃ := by
    rintro s₃ rfl
    refine compLoop_go (xw Y) (fun x s' h => hE' x s' hCle h) (fun n s' => ∃ i ys its n' H', Inv Y [(s2.heap.objs.size, lobj its n')] (stC own.length fr σ) H' s' ∧ tn i s'.heap ∧ (∀ b ∈ fp, H' b = none) ∧ Vals ys its ∧ ys.length ≤ sizeLine ∧ W i n ys H') ?_ m0
      ⟨0, [], [], 0, H2, I0, T.keep _ _ _ st2 fun b _ o e => old b o e, fun b hb => (f2 b hb).1, .nil, Nat.zero_le _, w0⟩
    rintro n s3 ⟨i, ys, its, n', H3, I3, st3, fr3, rv, hz, w3⟩
    have pinD := I3.pin (s2.heap.objs.size, lobj its n') (List.mem_append_right _ (by simp))
    rcases turn i n ys H3 w3 with ⟨stop, qn⟩ | ⟨go, Nx, hNx, step⟩
    · have q := T.done Y y1 y2 y3 y4 i _ s3 _ H3 (fun _ _ => False) I3 (fpY fr3) st3 stop
      rw [y5] at q
      refine thn q fun r s4 ⟨hr, I4⟩ => ?_
      subst hr
      have pinD4 := I4.pin (s2.heap.objs.size, lobj its n') (List.mem_append_right _ (by simp))
      obtain ⟨m, hm, _⟩ := I4.loc
      have IX : Inv X pins σ H3 s4 := by
        subst hYe
        exact I2.call' (ch := fp) I4.os I4.base I4.hok I4.bare fun b hb => ⟨(f2 b hb).2.2.2.1, (f2 b hb).2.1, (f2 b hb).2.2.2.2.1, (f2 b hb).2.2.2.2.2⟩
      rw [y6] at hm
      have hCf : H3 HH.objs.size = none := by
        have z := I4.free
        rw [y6] at z
        exact z
      refine fin s2.heap.objs.size HH.objs.size s4 H3 ys its n' m IX (I2.fpOk (Nat.le_refl _) pinD4.2.1) I2.sz pinD4.1 rv hz (I2.fpOk hCle hCf) (Nat.le_trans I2.sz hCle) (Ne.symm hDC) hm qn
    · have q := T.item Y y1 y2 y3 y4 i _ s3 _ H3 (fun _ _ => False) I3 (fpY fr3) st3 go
      rw [y5] at q
      refine thn q fun r s4 ⟨u, hr, h4⟩ => ?_
      subst hr
      refine thn h4 fun _ s5 ⟨x, H5, I5, r5, y5', st5, fr5⟩ => ?_
      have I5' := I5.pinned (fpY fr5) (T.obj _ _ st5)
      have q6 : wpAny (model Y.prog Y.w) Y.A (assign tg Y.env u) _ (xw Y) s5 := R'.tg _ s5 _ H5 x u _ (I5'.wish _) r5 (hG _ _ _ _ _ (fun σ2 H2' qq l k => (⟨qq, l, k⟩ : _ ∧ _ ∧ _)) (step x H5 y5'))
      rw [y1, y2, y5, y6] at q6
      refine thn q6 fun _ s6 ⟨σ6, H6, I6, qt, hl6, hk6⟩ => ?_
      have q7 : wpAny (model Y.prog Y.w) Y.A (forIn ifs true fun c r => if r = true then do let ok ← isTrue c Y.env (eval c Y.env); pure (ForInStep.yield ok) else pure (ForInStep.yield r)) _ (xw Y) s6 := R'.ts _ s6 _ H6 _ I6 qt
      rw [y1, y2, y5, y6] at q7
      refine thn q7 fun ok s7 ⟨H7, I7, q7⟩ => ?_
      -- a turn's end: the iterator's records and the list are pinned as they were
      have again : ∀ {s8 : Shared} {H8 : Hp} {ys8 : List V} {its8 : List Value} {n8 : Nat}, Inv Y [(s2.heap.objs.size, lobj its8 n8)] σ6 H8 s8 → (∀ b ∈ fp, ∀ o, s5.heap.get? b = some o → s8.heap.get? b = some o) → (∀ b ∈ fp, H8 b = none) → Vals ys8 its8 → ys8.length ≤ sizeLine → Nx ys8 H8 →
          ∃ m, m < n ∧ ∃ i ys its n' H', Inv Y [(s2.heap.objs.size, lobj its n')] (stC own.length fr σ) H' s8 ∧ tn i s8.heap ∧ (∀ b ∈ fp, H' b = none) ∧ Vals ys its ∧ ys.length ≤ sizeLine ∧ W i m ys H' := fun {s8 H8 ys8 its8 n8} I8 kp fr8 rv8 hz8 nx => by
        obtain ⟨m', hm, w8⟩ := hNx ys8 H8 nx
        exact ⟨m', hm, i + 1, ys8, its8, n8, H8, hYlen I8 hl6 hk6, T.keep _ _ _ st5 kp, fr8, rv8, hz8, w8⟩
      cases ok with
      | false =>
        rw [if_neg Bool.false_ne_true] at q7 ⊢
        refine again I7.unwish.unpinned (fun b hb o e => (I7.pin (b, o) (List.mem_append_right _ (List.mem_append_right _ (mem_pinsAt hb e)))).1) (fun b hb => ?_) rv hz q7
        obtain ⟨o, e, d⟩ := T.obj _ _ st5 b hb
        exact (I7.pin (b, o) (List.mem_append_right _ (List.mem_append_right _ (mem_pinsAt hb e)))).2.1
      | true =>
        rw [if_pos rfl] at q7 ⊢
        have q8 : wpAny (model Y.prog Y.w) Y.A (eval elt Y.env) _ (xw Y) s7 := R'.el _ s7 _ H7 _ I7 q7
        rw [y1, y2, y5, y6] at q8
        refine thn q8 fun v s8 ⟨yv, H8, I8, r8, hsz, nx⟩ => ?_
        have pin8 := I8.pin (s2.heap.objs.size, lobj its n') (List.mem_append_right _ (List.mem_append_left _ (by simp)))
        refine wpAny_list_append_plain (hsz := by have := rv.length; simp only [List.size_toArray]; omega) ⟨n', pin8.1⟩ fun h9 ⟨n9, e9⟩ sb => ?_
        have Iu := I8.unwish.pins_of (pins' := []) (fun p hp => nomatch hp)
        have DF : FpOk Y [] H8 s2.heap.objs.size := by
          subst hYe
          refine ⟨pin8.2.1, hDC, pin8.2.2.2.1, .inr (Nat.le_refl _), fun x c e => ?_, fun p hp => ?_⟩
          · obtain ⟨w', o, qo, _⟩ := I2.cell x c (h1 x c e)
            exact Nat.ne_of_lt (Heap.lt_size qo)
          · have hp' : p ∈ X.pn ++ pins := by
              rw [List.append_nil] at hp
              exact hp
            exact Nat.ne_of_lt (Heap.lt_size (I2.pin p hp').1)
        have I9 : Inv Y [] σ6 H8 { s8 with heap := h9 } := Iu.turns (t' := s8.toks) (ch := [s2.heap.objs.size]) (fun b o hb e => (sb.2 b (by simpa using hb)).trans e) (fun b hb => by
          have e : b = s2.heap.objs.size := by simpa using hb
          subst e
          exact DF)
        have e9' : h9.get? s2.heap.objs.size = some (lobj (its ++ [v]) n9) := by
          rw [e9]
          simp
        have I10 : Inv Y [(s2.heap.objs.size, lobj (its ++ [v]) n9)] σ6 H8 { s8 with heap := h9 } := I9.pins_of fun p hp => by
          have ep : p = (s2.heap.objs.size, lobj (its ++ [v]) n9) := by simpa using hp
          subst ep
          exact ⟨e9', pin8.2.1, pin8.2.2.1, pin8.2.2.2.1, fun w' z => nomatch z⟩
        refine again I10 (fun b hb o e => (sb.2 b (Nat.ne_of_lt (hlt b hb))).trans (I8.pin (b, o) (List.mem_append_right _ (List.mem_append_right _ (mem_pinsAt hb e)))).1) (fun b hb => ?_) (rv.append (.cons r8 .nil)) (by simp; omega) nx
        obtain ⟨o, e, d⟩ := T.obj _ _ st5 b hb
        exact (I8.pin (b, o) (List.mem_append_right _ (List.mem_append_right _ (mem_pinsAt hb e)))).2.1
  exact codeAny_compStart_list (loop _ rfl) (T.self _ 0 _ _ _ (T.keep _ _ _ st2 fun b _ o e => old b o e) (loop _ rfl))
theorem comp_block {pins : List (Addr × Obj)} {σ : St} {H2 : Hp} {s2 : Shared} {cl : List (Str × Addr)} {fp : List Addr} {it : Addr} {tn : Nat → Heap → Prop} {J : It} {F : List V → Hp → Prop} {RR : Value → Addr → Result → Shared → Prop} {E : Value → Shared → Prop}
    (hcalm : X.calm = true) (ho : CompOk X.env.scope scope) (hfr : ∀ p ∈ fr, X.N[p.2]? = some p.1 ∧ scope.names.lookup p.1 = some .free) (hG : OwnG own.length g)
    (hY : ∀ cl C s H fp pins, CompR (cxComp X scope (own ++ fr.map (·.1)) cl C s H fp pins) tg ifs elt g tc te)
    (I2 : Inv X pins σ H2 s2) (T : Turn X.prog X.w X.K tg J fp it tn) (st2 : tn 0 s2.heap) (f2 : ∀ b ∈ fp, FpOk X pins H2 b) (rd : tTurns own.length fr g tc te σ J H2 F)
    (h1 : ∀ x c, cl.lookup x = some c → X.env.cells.lookup x = some c) (h2 : ∀ x, (x, NameKind.free) ∈ scope.names → ∃ c, cl.lookup x = some c)
    (fin : ∀ D C s' H' ys its n' m, Inv X pins σ H' s' → FpOk X pins H' D → X.s₀.heap.objs.size ≤ D → s'.heap.get? D = some (lobj its n') → Vals ys its → ys.length ≤ sizeLine → FpOk X pins H' C → X.s₀.heap.objs.size ≤ C → C ≠ D → s'.heap.Ns C m → F ys H' → RR (.ref D) C (.ok .next) s') :
    wpAny (model X.prog X.w) X.A (newList []) (fun acc s₃ => wpAny (model X.prog X.w) X.A (newFunctionEnv scope X.env.globals cl [] X.env.qual none .none (some X.env)) (fun cenv s₄ =>
      codeAny (model X.prog X.w) X.A (.compStart (.ListComp elt [⟨tg, iter, ifs, 0⟩] scope pos) 0 (.ref it) acc { cenv with scope := relabel scope X.env }) (RR acc cenv.locals) s₄) E s₃) E s2 :=
  comp_blockW (fun _ _ _ => False) hcalm ho hfr hG hY I2 T st2 f2 rd h1 h2 fin fun _ _ _ _ _ h => h.elim
theorem comp_setup {pins : List (Addr × Obj)} {σ : St} {H : Hp} {s : Shared} (I : Inv X pins σ H s) (hsc : X.env.scope = sc) (hok : compOk sc scope = true) (hNN : X.N = N) (hfr : frOk N scope fr = true) :
    CompOk X.env.scope scope ∧ (∀ p ∈ fr, X.N[p.2]? = some p.1 ∧ scope.names.lookup p.1 = some .free) ∧
    ∃ cl, closureFor scope X.env = pure cl ∧ (∀ x c, cl.lookup x = some c → X.env.cells.lookup x = some c) ∧ ∀ x, (x, NameKind.free) ∈ scope.names → ∃ c, cl.lookup x = some c := by
  subst hsc hNN
  have ho := compOk_of hok
  refine ⟨ho, fun p hp => ?_, closure_of fun n hn => I.ok.has n (ho.free n hn)⟩
  unfold frOk at hfr
  rw [List.all_eq_true] at hfr
  have q := hfr p hp
  rw [Bool.and_eq_true] at q
  exact ⟨of_decide_eq_true q.1, of_decide_eq_true q.2⟩
theorem pe_comp (sc : Scope) (N own : List Str) (fr : List (Str × Nat)) (hcalm : X.calm = true) (hi : PI X tg iter wi) (hG : OwnG own.length g)
    (hY : ∀ cl C s H fp pins, CompR (cxComp X scope (own ++ fr.map (·.1)) cl C s H fp pins) tg ifs elt g tc te)
    (hsc : X.env.scope = sc := by rfl) (hok : compOk sc scope = true := by decide +kernel) (hNN : X.N = N := by rfl) (hfr : frOk N scope fr = true := by decide +kernel)
    (hs : ∀ x, foldedSetIterable iter X.env x = pure x := by intro _; rfl) :
    PE X (.ListComp elt [⟨tg, iter, ifs, 0⟩] scope pos) (tComp own.length fr wi g tc te) := by
  intro pins s σ H Q I h
  obtain ⟨ho, hfr', cl, hcl, c1, c2⟩ := comp_setup I hsc hok hNN hfr
  rw [eval_ListComp]
  refine wpAny_comprehension_free (use := none) rfl hs hcl ho.kind ho.loc (thn (hi pins s σ H _ I h) fun v s1 q1 => thn q1 fun itv s2 q2 => ?_)
  obtain ⟨it, fp, tn, J, H2, e, I2, T, st2, f2, rd⟩ := q2
  subst e
  refine comp_block (RR := fun acc C => compPost (model X.prog X.w) X.A X.xe none (EP X pins σ Q) acc C) hcalm ho hfr' hG hY I2 T st2 f2 rd c1 c2 ?_
  intro D C s' H' ys its n' m I' fD zD eD rv hz fC zC hCD hm hF
  refine ⟨m, hm, fun h' sb => ?_⟩
  have I3 : Inv X pins σ H' { s' with heap := h' } := I'.turns (t' := s'.toks) (ch := [C]) (fun b o hb e => (sb.2 b (by simpa using hb)).trans e) (fun b hb => by
    have e : b = C := by simpa using hb
    subst e
    exact fC)
  exact ⟨.ref D, _, I3.adopt (o := .lst ys) fD.1 fD.2.1 zD fD.2.2.2.2.1 fD.2.2.2.2.2 ⟨hz, its, n', rv, (sb.2 D (Ne.symm hCD)).trans eD⟩, rfl, hF D fD.1⟩
theorem ps_setcomp {i : Nat} {x : Str} {pos' spos : Pos} (sc : Scope) (N own : List Str) (fr : List (Str × Nat)) (hcalm : X.calm = true) (hN : X.N.Nodup) (hx' : X.N[i]? = some x) (hx : X.env.scope.names.lookup x = some .local) (hi : PI X tg iter wi) (hG : OwnG own.length g)
    (hY : ∀ cl C s H fp pins, CompR (cxComp X scope (own ++ fr.map (·.1)) cl C s H fp pins) tg ifs elt g tc te)
    (hsw : swapsWith (.ListComp elt [⟨tg, iter, ifs, 0⟩] scope pos) (some (.Name x pos')) spos.line X.env = pure true := by rfl)
    (hsc : X.env.scope = sc := by rfl) (hok : compOk sc scope = true := by decide +kernel) (hNN : X.N = N := by rfl) (hfr : frOk N scope fr = true := by decide +kernel)
    (hs : ∀ x, foldedSetIterable iter X.env x = pure x := by intro _; rfl) :
    PS X (.Assign [.Name x pos'] (.ListComp elt [⟨tg, iter, ifs, 0⟩] scope pos) spos) (tAsg (tComp own.length fr wi g tc te) (gName i)) := by
  intro pins s σ H D0 I h
  obtain ⟨ho, hfr', cl, hcl, c1, c2⟩ := comp_setup I hsc hok hNN hfr
  rw [exec_Assign_Name_used _ _ _ _ hsw]
  refine wpAny_bind (wpAny_standAt (wpAny_bind ?_))
  show wpAny _ X.A (do let _ ← comprehension (.ListComp elt [⟨tg, iter, ifs, 0⟩] scope pos) scope X.env _ (newList []) false (eval iter X.env) (some (assign (.Name x pos') X.env))) _ _ s
  refine wpAny_bind (wpAny_mono (wpAny_comprehension_free (use := some (assign (.Name x pos') X.env)) (Q := fun _ s' => SP X pins D0 .next s') rfl hs hcl ho.kind ho.loc
    (thn (hi pins s σ H _ I h) fun v s1 q1 => thn q1 fun itv s2 q2 => ?_)) (fun _ s' hq => wpAny_pure (wpAny_pure hq)) fun _ _ e => e)
  obtain ⟨it, fp, tn, J, H2, e, I2, T, st2, f2, rd⟩ := q2
  subst e
  refine comp_block (RR := fun acc C => compPost (model X.prog X.w) X.A X.xe (some (assign (.Name x pos') X.env)) (fun _ s' => SP X pins D0 .next s') acc C) hcalm ho hfr' hG hY I2 T st2 f2 rd c1 c2 ?_
  intro D C s' H' ys its n' m I' fD zD eD rv hz fC zC hCD hm hF
  show wpAny _ X.A (assign (.Name x pos') X.env (.ref D)) _ _ _
  have I3 : Inv X pins σ (upd H' D (.lst ys)) s' := I'.adopt (o := .lst ys) fD.1 fD.2.1 zD fD.2.2.2.2.1 fD.2.2.2.2.2 ⟨hz, its, n', rv, eD⟩
  obtain ⟨oC, es, ep, hoC, dC, rC⟩ := id hm
  have nC : (upd H' D (.lst ys)) C = none := by rw [upd_ne hCD]; exact fC.1
  have I4 : Inv X (pins ++ [(C, oC)]) σ (upd H' D (.lst ys)) s' := I3.pins_of fun p hp => by
    rcases List.mem_append.mp hp with z | z
    · exact I3.pin p (List.mem_append_right _ z)
    · have e : p = (C, oC) := by simpa using z
      subst e
      exact ⟨hoC, nC, fC.2.1, fC.2.2.1, fun v z => by rw [dC] at z; cases z⟩
  refine wpAny_assign_Name (store_ok I4 hN hx' (.inl hx) (v := .ref D) rfl (fun s5 I5 => ?_) (.inr hx))
  have p5 := I5.pin (C, oC) (List.mem_append_right _ (List.mem_append_right _ (by simp)))
  refine ⟨m, ⟨oC, es, ep, p5.1, dC, rC⟩, fun h' sb => ?_⟩
  have I6 : Inv X pins (σ.set i (some (.ref D))) (upd H' D (.lst ys)) { s5 with heap := h' } := I5.unpinned.turns (t' := s5.toks) (ch := [C]) (fun b o hb e => (sb.2 b (by simpa using hb)).trans e) (fun b hb => by
    have e : b = C := by simpa using hb
    subst e
    exact ⟨nC, fC.2⟩)
  exact ⟨_, _, I6, hF D fD.1⟩
end
theorem turns_list {K : PySem.W.Frag} {a : Addr} {xs : List V} {n : Nat} {fr : List (Str × Nat)} {g : TG} {tc : TT} {te : TE} {σ : St} {H : Hp} {F : List V → Hp → Prop} (Pv : Nat → List V → Hp → Prop) (h0 : Pv 0 [] H) (hl : ∀ i ys H, i ≤ xs.length → Pv i ys H → SqL K H a xs)
    (hs : ∀ i x ys H, xs[i]? = some x → Pv i ys H → g x (stC n fr σ) H fun σ2 H2 => tc σ2 H2 fun b H3 => if b = true then te σ2 H3 fun y H4 => ys.length < sizeLine ∧ Pv (i + 1) (ys ++ [y]) H4 else Pv (i + 1) ys H3)
    (hd : ∀ ys H, Pv xs.length ys H → F ys H) : tTurns n fr g tc te σ (Itl K a) H F := by
  refine ⟨fun i m ys H => m = xs.length - i ∧ i ≤ xs.length ∧ Pv i ys H, ⟨xs.length, by simp, Nat.zero_le _, h0⟩, ?_⟩
  rintro i m ys H ⟨rfl, hi, p⟩
  have q := hl i ys H hi p
  by_cases hlt : i < xs.length
  · refine .inr ⟨⟨xs, xs[i], q, by simp [hlt]⟩, Pv (i + 1), fun ys' H' p' => ⟨xs.length - (i + 1), by omega, rfl, hlt, p'⟩, fun x H' y => ?_⟩
    obtain ⟨e, y⟩ := y
    subst e
    exact hs i x ys _ (y xs q) p
  · have e : i = xs.length := by omega
    subst e
    exact .inl ⟨⟨xs, q, Nat.le_refl _⟩, hd ys H p⟩
theorem turns_range {lo : Int} {k n : Nat} {fr : List (Str × Nat)} {g : TG} {tc : TT} {te : TE} {σ : St} {H : Hp} {F : List V → Hp → Prop} (Pv : Nat → List V → Hp → Prop) (h0 : Pv 0 [] H)
    (hs : ∀ i ys H, i < k → Pv i ys H → g (.int (lo + i)) (stC n fr σ) H fun σ2 H2 => tc σ2 H2 fun b H3 => if b = true then te σ2 H3 fun y H4 => ys.length < sizeLine ∧ Pv (i + 1) (ys ++ [y]) H4 else Pv (i + 1) ys H3)
    (hd : ∀ ys H, Pv k ys H → F ys H) : tTurns n fr g tc te σ (Itr lo k) H F := by
  refine ⟨fun i m ys H => m = k - i ∧ i ≤ k ∧ Pv i ys H, ⟨k, by simp, Nat.zero_le _, h0⟩, ?_⟩
  rintro i m ys H ⟨rfl, hi, p⟩
  by_cases hlt : i < k
  · refine .inr ⟨hlt, Pv (i + 1), fun ys' H' p' => ⟨k - (i + 1), by omega, rfl, hlt, p'⟩, fun x H' y => ?_⟩
    obtain ⟨e, y⟩ := y
    subst e y
    exact hs i ys _ hlt p
  · have e : i = k := by omega
    subst e
    exact .inl ⟨Nat.le_refl _, hd ys H p⟩
def Itz (K : PySem.W.Frag) (a b : Addr) : It :=
  ⟨fun i H => ∃ xs ys x y, SqL K H a xs ∧ SqL K H b ys ∧ xs[i]? = some x ∧ ys[i]? = some y,
   fun i H v H' => ∃ T x y, H T = none ∧ v = .ref T ∧ H' = upd H T (.tup [x, y]) ∧ (∀ xs, SqL K H a xs → xs[i]? = some x) ∧ ∀ ys, SqL K H b ys → ys[i]? = some y,
   fun i H => ∃ xs ys, SqL K H a xs ∧ SqL K H b ys ∧ (xs.length ≤ i ∨ ys.length ≤ i)⟩
theorem ap (n i j : Nat) (h : i ≠ j) : n + i ≠ n + j := fun e => h (Nat.add_left_cancel e)
theorem ap' (n i : Nat) : n ≤ n + i := Nat.le_add_right n i
theorem ne_cls {h : Heap} {a b : Addr} {o u : Obj} (e : h.get? a = some o) (e' : h.get? b = some u) (d : o.cls ≠ u.cls) : a ≠ b := by
  intro z
  subst z
  rw [e] at e'
  cases e'
  exact d rfl
theorem zip_apart {h : Heap} {n a b : Addr} {i : Nat} {f0 : Value} {pa pb : Value} {xs ys : Array Value} (hz : IsZip h (n + 4) (n + 2) (n + 3) f0) (hTO : IsPair h (n + 3) pa pb) (h1 : h.IsListIter n a i) (h2 : h.IsListIter (n + 1) b i) (l1 : h.IsList a xs) (l2 : h.IsList b ys) :
    ZipApart (n + 4) (n + 2) (n + 3) n (n + 1) a b := by
  obtain ⟨o1, e1, c1, _⟩ := l1
  obtain ⟨o2, e2, c2, _⟩ := l2
  obtain ⟨p1, q1, d1, _⟩ := h1
  obtain ⟨p2, q2, d2, _⟩ := h2
  have nz : ∀ {c : Addr} {o : Obj}, h.get? c = some o → o.cls = .type "list" → c ≠ n + 4 ∧ c ≠ n + 3 ∧ c ≠ n ∧ c ≠ n + 1 := fun {c o} e z =>
    ⟨ne_cls e hz (by rw [z]; show Value.type "list" ≠ Value.type "zip"; decide), ne_cls e hTO (by rw [z]; show Value.type "list" ≠ Value.type "tuple"; decide), ne_cls e q1 (by rw [z, d1]; decide), ne_cls e q2 (by rw [z, d2]; decide)⟩
  obtain ⟨a1, a2, a3, a4⟩ := nz e1 c1
  obtain ⟨b1, b2, b3, b4⟩ := nz e2 c2
  exact ⟨ap n 2 4 (by decide), ap n 3 4 (by decide), ap n 0 4 (by decide), ap n 1 4 (by decide), ap n 2 3 (by decide), ap n 2 0 (by decide), ap n 2 1 (by decide), ap n 3 0 (by decide), ap n 3 1 (by decide), ap n 0 1 (by decide), a1, a2, a3, a4, b1, b2, b3, b4⟩
theorem turn_zip {P : Program} {w : World} {K : PySem.W.Frag} {elts : List Expr} {kk : Nat} {tpos : Pos} (n a b : Addr) : Turn P w K (.Tuple elts kk tpos) (Itz K a b) [n + 4, n + 2, n + 3, n, n + 1] (n + 4)
    (fun i h => IsZip h (n + 4) (n + 2) (n + 3) .none ∧ IsPair h (n + 2) (.ref n) (.ref (n + 1)) ∧ (∃ p q, IsPair h (n + 3) p q) ∧ h.IsListIter n a i ∧ h.IsListIter (n + 1) b i) where
  mem := by simp
  obj := fun i h st c hc => by
    obtain ⟨hz, hTI, ⟨p, q, hTO⟩, ⟨o1, e1, c1, d1⟩, ⟨o2, e2, c2, d2⟩⟩ := st
    simp only [List.mem_cons, List.not_mem_nil, or_false] at hc
    rcases hc with rfl | rfl | rfl | rfl | rfl
    · exact ⟨_, hz, fun v z => nomatch z⟩
    · exact ⟨_, hTI, fun v z => nomatch z⟩
    · exact ⟨_, hTO, fun v z => nomatch z⟩
    · exact ⟨_, e1, fun v z => by rw [d1] at z; cases z⟩
    · exact ⟨_, e2, fun v z => by rw [d2] at z; cases z⟩
  keep := fun i h h' st k => by
    obtain ⟨hz, hTI, ⟨p, q, hTO⟩, h1, h2⟩ := st
    exact ⟨k _ (by simp) _ hz, k _ (by simp) _ hTI, ⟨p, q, k _ (by simp) _ hTO⟩, h1.at fun o e => k _ (by simp) o e, h2.at fun o e => k _ (by simp) o e⟩
  item := by
    intro X hP hw hK hc i pins s σ H E I hf st hg
    subst hP hw hK
    obtain ⟨xs, ys, x, y, hq1, hq2, hx, hy⟩ := hg
    obtain ⟨its1, rv1, p1, _⟩ := I.list hq1
    obtain ⟨its2, rv2, p2, _⟩ := I.list hq2
    obtain ⟨u1, hu1, ru1⟩ := rv1.get hx
    obtain ⟨u2, hu2, ru2⟩ := rv2.get hy
    obtain ⟨hz, hTI, ⟨pa, pb, hTO⟩, h1, h2⟩ := st
    have D := zip_apart hz hTO h1 h2 p1.isList p2.isList
    refine wpAny_pyNext_zip_item D hz hTI hTO h1 h2 p1.isList p2.isList (x := u1) (y := u2) (by simpa using hu1) (by simpa using hu2) fun h' a1 a2 a3 a4 a5 a6 k => ?_
    refine ⟨_, rfl, wpAny_letOwnedTupleGo_zip a1 fun h2' hz2 sb => ?_⟩
    have lt : ∀ c ∈ [n + 4, n + 2, n + 3, n, n + 1], c ≠ s.heap.objs.size := fun c hc => by
      simp only [List.mem_cons, List.not_mem_nil, or_false] at hc
      obtain ⟨_, q1, _, _⟩ := id h1
      obtain ⟨_, q2, _, _⟩ := id h2
      rcases hc with rfl | rfl | rfl | rfl | rfl
      · exact Nat.ne_of_lt (Heap.lt_size hz)
      · exact Nat.ne_of_lt (Heap.lt_size hTI)
      · exact Nat.ne_of_lt (Heap.lt_size hTO)
      · exact Nat.ne_of_lt (Heap.lt_size q1)
      · exact Nat.ne_of_lt (Heap.lt_size q2)
    have kk2 : ∀ c o, c ∉ [n + 4, n + 3, n, n + 1] → s.heap.get? c = some o → h2'.get? c = some o := fun c o hc e => by
      simp only [List.mem_cons, List.not_mem_nil, or_false, not_or] at hc
      exact (sb.2 c hc.1).trans (k c o hc.1 hc.2.1 hc.2.2.1 hc.2.2.2 e)
    have I1 : Inv X pins σ H { s with heap := h2' } := I.turns (t' := s.toks) (ch := [n + 4, n + 3, n, n + 1]) kk2 fun c hc => by
      simp only [List.mem_cons, List.not_mem_nil, or_false] at hc
      exact hf c (by simp only [List.mem_cons, List.not_mem_nil, or_false]; rcases hc with z | z | z | z <;> simp [z])
    have fT : FpOk X pins H s.heap.objs.size := I.fpOk (Nat.le_refl _) (I.hok.fresh (Nat.le_refl _))
    have eT : h2'.get? s.heap.objs.size = some { cls := .type "tuple", data := .seq #[u1, u2] } := (sb.2 _ (Ne.symm (lt (n + 4) (by simp)))).trans a5
    refine ⟨.ref s.heap.objs.size, _, I1.adopt (o := .tup [x, y]) fT.1 fT.2.1 I.sz fT.2.2.2.2.1 fT.2.2.2.2.2 ⟨by show 2 ≤ sizeLine; decide, [u1, u2], .cons ru1 (.cons ru2 .nil), ⟨_, eT, rfl, 0, rfl⟩⟩, rfl, ⟨_, x, y, fT.1, rfl, rfl, fun zs hzs => ?_, fun zs hzs => ?_⟩, ?_, fun c hc => ?_⟩
    · rw [I.list_inj hzs hq1]; exact hx
    · rw [I.list_inj hzs hq2]; exact hy
    · refine ⟨hz2, (sb.2 _ (ap n 2 4 (by decide))).trans (k _ _ (ap n 2 4 (by decide)) (ap n 2 3 (by decide)) (ap n 2 0 (by decide)) (ap n 2 1 (by decide)) hTI), ⟨u1, u2, (sb.2 _ (ap n 3 4 (by decide))).trans a2⟩, a3.at fun o e => (sb.2 _ (ap n 0 4 (by decide))).trans e, a4.at fun o e => (sb.2 _ (ap n 1 4 (by decide))).trans e⟩
    · rw [upd_ne (lt c hc)]
      exact (hf c hc).1
  done := by
    intro X hP hw hK hc i pins s σ H E I hf st hg
    subst hP hw hK
    obtain ⟨xs, ys, hq1, hq2, hx⟩ := hg
    obtain ⟨its1, rv1, p1, _⟩ := I.list hq1
    obtain ⟨its2, rv2, p2, _⟩ := I.list hq2
    obtain ⟨hz, hTI, ⟨pa, pb, hTO⟩, h1, h2⟩ := st
    have D := zip_apart hz hTO h1 h2 p1.isList p2.isList
    have l1 := rv1.length
    have l2 := rv2.length
    refine wpAny_pyNext_zip_end (I.ok.hd hc) D hz hTI hTO h1 h2 p1.isList p2.isList (by
      rcases hx with z | z
      · exact .inl (by simp; omega)
      · exact .inr (by simp; omega)) fun h' k => ⟨rfl, ?_⟩
    refine I.turns (t' := s.toks) (ch := [n + 4, n + 3, n, n + 1]) (fun c o hc e => ?_) fun c hc => ?_
    · simp only [List.mem_cons, List.not_mem_nil, or_false, not_or] at hc
      exact k c o hc.1 hc.2.1 hc.2.2.1 hc.2.2.2 e
    · simp only [List.mem_cons, List.not_mem_nil, or_false] at hc
      exact hf c (by simp only [List.mem_cons, List.not_mem_nil, or_false]; rcases hc with z | z | z | z <;> simp [z])
  self := fun _ _ _ _ _ st h => wpAny_pyIter_zip st.1 h
def iZip (K : PySem.W.Frag) (ta : TA) : TI := fun σ H R => ta σ H fun vs H1 => ∃ a b, vs = [.ref a, .ref b] ∧ (∃ xs, SqL K H1 a xs) ∧ (∃ ys, SqL K H1 b ys) ∧ R (Itz K a b) H1
theorem pi_zip {X : Cx} {elts : List Expr} {kk : Nat} {tpos : Pos} {a b : Expr} {ta : TA} {p pos : Pos} (hg : Gl X "zip") (hm : X.mg "zip" = none) (ha : PA X [a, b] ta) (hs : starEach [a, b] X.env = [(false, eval a X.env), (false, eval b X.env)] := by rfl) (hs2 : starEach [b] X.env = [(false, eval b X.env)] := by rfl) :
    PI X (.Tuple elts kk tpos) (.Call (.Name "zip" p) [a, b] [] pos) (iZip X.K ta) := by
  intro pins s σ H R I h
  refine Call_ (ld_blt I hg hm boot_zip (PyProof.Rows.callWith_type1 (thn (ha pos pins s σ H _ I h) fun us s1 ⟨vs, H1, I1, r1, q1⟩ => ?_) (by rw [hs, hs2]) (by rw [hs2]; rfl)))
  obtain ⟨a', b', e, ⟨xs, hq1⟩, ⟨ys, hq2⟩, q⟩ := q1
  subst e
  obtain ⟨u, w', rfl, r, r'⟩ := vals2 r1
  cases r
  cases r'
  obtain ⟨its1, rv1, p1, _⟩ := I1.list hq1
  obtain ⟨its2, rv2, p2, _⟩ := I1.list hq2
  refine call_zip_2 p1.isList p2.isList fun h' z1 z2 z3 z4 z5 z6 k => wpAny_pyIter_zip (s := { s1 with heap := h' }) z1 ?_
  refine ⟨s1.heap.objs.size + 4, [s1.heap.objs.size + 4, s1.heap.objs.size + 2, s1.heap.objs.size + 3, s1.heap.objs.size, s1.heap.objs.size + 1], _, _, H1, rfl, I1.kept (t' := s1.toks) k, turn_zip s1.heap.objs.size a' b', ⟨z1, z2, ⟨_, _, z3⟩, z4, z5⟩, fun c hc => ?_, q⟩
  have hle : s1.heap.objs.size ≤ c := by
    simp only [List.mem_cons, List.not_mem_nil, or_false] at hc
    rcases hc with rfl | rfl | rfl | rfl | rfl
    · exact ap' _ 4
    · exact ap' _ 2
    · exact ap' _ 3
    · exact ap' _ 0
    · exact ap' _ 1
  exact I1.fpOk hle (I1.hok.fresh hle)
def Ite (K : PySem.W.Frag) (a : Addr) : It :=
  ⟨fun i H => ∃ xs x, SqL K H a xs ∧ xs[i]? = some x,
   fun i H v H' => ∃ T x, H T = none ∧ v = .ref T ∧ H' = upd H T (.tup [.int i, x]) ∧ ∀ xs, SqL K H a xs → xs[i]? = some x,
   fun i H => ∃ xs, SqL K H a xs ∧ xs.length ≤ i⟩
theorem turn_enum {P : Program} {w : World} {K : PySem.W.Frag} {elts : List Expr} {kk : Nat} {tpos : Pos} (n a : Addr) : Turn P w K (.Tuple elts kk tpos) (Ite K a) [n + 1, n] (n + 1)
    (fun i h => (∃ old, IsEnum h (n + 1) n i old) ∧ h.IsListIter n a i) where
  mem := by simp
  obj := fun i h st c hc => by
    obtain ⟨⟨old, he⟩, ⟨o1, e1, c1, d1⟩⟩ := st
    simp only [List.mem_cons, List.not_mem_nil, or_false] at hc
    rcases hc with rfl | rfl
    · exact ⟨_, he, fun v z => nomatch z⟩
    · exact ⟨_, e1, fun v z => by rw [d1] at z; cases z⟩
  keep := fun i h h' st k => by
    obtain ⟨⟨old, he⟩, h1⟩ := st
    exact ⟨⟨old, k _ (by simp) _ he⟩, h1.at fun o e => k _ (by simp) o e⟩
  item := by
    intro X hP hw hK hc i pins s σ H E I hf st hg
    subst hP hw hK
    obtain ⟨xs, x, hq, hx⟩ := hg
    obtain ⟨its, rv, p, _⟩ := I.list hq
    obtain ⟨u, hu, ru⟩ := rv.get hx
    obtain ⟨⟨old, he⟩, h1⟩ := st
    refine wpAny_pyNext_enum_item he h1 p.isList (x := u) (by simpa using hu) (ap n 1 0 (by decide)) fun h' a1 a2 a3 a4 k => ?_
    refine ⟨_, rfl, wpAny_letOwnedTupleGo_enum a1 fun h2' he2 sb => ?_⟩
    have lt : ∀ c ∈ [n + 1, n], c ≠ s.heap.objs.size := fun c hc => by
      simp only [List.mem_cons, List.not_mem_nil, or_false] at hc
      obtain ⟨_, q1, _, _⟩ := id h1
      rcases hc with rfl | rfl
      · exact Nat.ne_of_lt (Heap.lt_size he)
      · exact Nat.ne_of_lt (Heap.lt_size q1)
    have I1 : Inv X pins σ H { s with heap := h2', toks := s.toks + 1 } := I.turns (ch := [n + 1, n]) (fun c o hc e => by
      simp only [List.mem_cons, List.not_mem_nil, or_false, not_or] at hc
      exact (sb.2 c hc.1).trans (k c o hc.1 hc.2 e)) hf
    have fT : FpOk X pins H s.heap.objs.size := I.fpOk (Nat.le_refl _) (I.hok.fresh (Nat.le_refl _))
    have eT : h2'.get? s.heap.objs.size = some { cls := .type "tuple", data := .seq #[.int i s.toks, u] } := (sb.2 _ (Ne.symm (lt (n + 1) (by simp)))).trans a3
    refine ⟨.ref s.heap.objs.size, _, I1.adopt (o := .tup [.int i, x]) fT.1 fT.2.1 I.sz fT.2.2.2.2.1 fT.2.2.2.2.2 ⟨by show 2 ≤ sizeLine; decide, [.int i s.toks, u], .cons ⟨_, rfl⟩ (.cons ru .nil), ⟨_, eT, rfl, 0, rfl⟩⟩, rfl, ⟨_, x, fT.1, rfl, rfl, fun zs hzs => ?_⟩, ?_, fun c hc => ?_⟩
    · rw [I.list_inj hzs hq]; exact hx
    · exact ⟨⟨_, he2⟩, a2.at fun o e => (sb.2 _ (ap n 0 1 (by decide))).trans e⟩
    · rw [upd_ne (lt c hc)]
      exact (hf c hc).1
  done := by
    intro X hP hw hK hc i pins s σ H E I hf st hg
    subst hP hw hK
    obtain ⟨xs, hq, hx⟩ := hg
    obtain ⟨its, rv, p, _⟩ := I.list hq
    obtain ⟨⟨old, he⟩, h1⟩ := st
    have l1 := rv.length
    refine wpAny_pyNext_enum_end (I.ok.hd hc) he h1 p.isList (by simp; omega) fun h' k => ⟨rfl, ?_⟩
    exact I.turns (t' := s.toks) (ch := [n]) (fun c o hc e => k c o (by simpa using hc) e) fun c hc => hf c (by simp at hc ⊢; exact .inr hc)
  self := fun A i s Q E st h => by
    obtain ⟨⟨old, he⟩, _⟩ := st
    have hT : s.TypeIs (.ref (n + 1)) "enumerate" := ⟨_, he, rfl⟩
    refine wpAny_pyIter_slot hT F.slot_enumerate_iter (wpAny_call_entry F.slot_enumerate_iter hT F.entry_enumerate_iter ?_ (F.args_enumerate_iter_1 _))
    show wpAny _ _ (ret (.ref (n + 1))) _ _ s
    exact wpAny_pure ⟨_, rfl, "enumerate", _, hT, F.slot_enumerate_next.lookup, h⟩
theorem boot_enum : bootBuiltins "enumerate" = some (.type "enumerate") := by decide +kernel
def iEnum (K : PySem.W.Frag) (ta : TA) : TI := fun σ H R => ta σ H fun vs H1 => ∃ a, vs = [.ref a] ∧ (∃ xs, SqL K H1 a xs) ∧ R (Ite K a) H1
theorem pi_enum {X : Cx} {elts : List Expr} {kk : Nat} {tpos : Pos} {a : Expr} {ta : TA} {p pos : Pos} (hg : Gl X "enumerate") (hm : X.mg "enumerate" = none) (ha : PA X [a] ta) (hs : starEach [a] X.env = [(false, eval a X.env)] := by rfl) :
    PI X (.Tuple elts kk tpos) (.Call (.Name "enumerate" p) [a] [] pos) (iEnum X.K ta) := by
  intro pins s σ H R I h
  refine Call_ (ld_blt I hg hm boot_enum (PyProof.Rows.callWith_type1 (thn (ha pos pins s σ H _ I h) fun us s1 ⟨vs, H1, I1, r1, q1⟩ => ?_) hs rfl))
  obtain ⟨a', e, ⟨xs, hq1⟩, q⟩ := q1
  subst e
  obtain ⟨u, rfl, r⟩ := vals1 r1
  cases r
  obtain ⟨its1, rv1, p1, _⟩ := I1.list hq1
  refine call_enumerate_list p1.isList fun h' z1 z2 z3 k => ?_
  have T : Turn X.prog X.w X.K (.Tuple elts kk tpos) (Ite X.K a') _ _ _ := turn_enum s1.heap.objs.size a'
  refine T.self _ 0 { s1 with heap := h' } _ _ ⟨⟨_, z1⟩, z2⟩ ?_
  refine ⟨s1.heap.objs.size + 1, [s1.heap.objs.size + 1, s1.heap.objs.size], _, _, H1, rfl, I1.kept (t' := s1.toks) k, T, ⟨⟨_, z1⟩, z2⟩, fun c hc => ?_, q⟩
  have hle : s1.heap.objs.size ≤ c := by
    simp only [List.mem_cons, List.not_mem_nil, or_false] at hc
    rcases hc with rfl | rfl
    · exact ap' _ 1
    · exact ap' _ 0
  exact I1.fpOk hle (I1.hok.fresh hle)
abbrev Cx.in1 (X : Cx) : Cx := { X with A := X.A.in1 }
theorem Inv.in1 {X : Cx} {pins : List (Addr × Obj)} {σ : St} {H : Hp} {s : Shared} (I : Inv X pins σ H s) : Inv X.in1 pins σ H s :=
  ⟨⟨I.ok.mod, I.ok.kind, I.ok.glob, I.ok.blt, I.ok.above, I.ok.inj, I.ok.has, I.ok.cab, I.ok.hd, I.ok.frames, I.ok.stk, I.ok.exf, I.ok.bs, I.ok.bsz, I.ok.noex, I.ok.exfs, I.ok.funs, I.ok.frf⟩, I.os, I.bare, I.base, I.loc, I.cell, I.free, I.freeC, I.pin, I.hok, I.len⟩
theorem Inv.out1 {X : Cx} {pins : List (Addr × Obj)} {σ : St} {H : Hp} {s : Shared} (I : Inv X.in1 pins σ H s) : Inv X pins σ H s :=
  ⟨⟨I.ok.mod, I.ok.kind, I.ok.glob, I.ok.blt, I.ok.above, I.ok.inj, I.ok.has, I.ok.cab, I.ok.hd, I.ok.frames, I.ok.stk, I.ok.exf, I.ok.bs, I.ok.bsz, I.ok.noex, I.ok.exfs, I.ok.funs, I.ok.frf⟩, I.os, I.bare, I.base, I.loc, I.cell, I.free, I.freeC, I.pin, I.hok, I.len⟩
def TruL (K : PySem.W.Frag) (H : Hp) (ys : List V) (ks : List Bool) : Prop := Paired (fun y k => TruV K y H k) ys ks
theorem paired_get {α β : Type} {F : α → β → Prop} : ∀ {l₁ : List α} {l₂ : List β} {i : Nat} {a : α}, Paired F l₁ l₂ → l₁[i]? = some a → ∃ b, l₂[i]? = some b ∧ F a b
  | _, _, _, _, .nil, e => by simp at e
  | _, _, 0, _, .cons r _, e => by simp at e; subst e; exact ⟨_, rfl, r⟩
  | _, _, i + 1, a, .cons _ t, e => by
    obtain ⟨b, h1, h2⟩ := paired_get (i := i) (a := a) t (by simpa using e)
    exact ⟨b, by simpa using h1, h2⟩
section
variable {X : Cx} {pins : List (Addr × Obj)} {σ : St} {H : Hp} {R : Result → Shared → Prop} {a it : Addr} {ys : List V} {ks : List Bool}
theorem any_loop (hc : X.calm = true) (hq : SqL X.K H a ys) (ht : TruL X.K H ys ks) (hR : ∀ s', Inv X pins σ H s' → R (.ok (.ret (.bool (ks.any id)))) s') : ∀ (k i : Nat) (s : Shared), ys.length - i = k → i ≤ ys.length → (ks.take i).any id = false →
    Inv X pins σ H s → FpOk X pins H it → s.heap.IsListIter it a i → codeAny (model X.prog X.w) X.A (.builtin "any.loop" ⟨[.ref it], []⟩) R s := by
  have hlen : ys.length = ks.length := Paired.length ht
  intro k
  induction k with
  | zero =>
    intro i s hk hi hn I hf st
    have hin : i = ys.length := by omega
    refine codeAny_builtin F.entry_any_loop ?_
    rw [Around.under_plainId F.plain_any_loop _]
    show wpAny _ X.A.in1 (pyNext (.ref it) >>= _) _ _ s
    have T := turn_list (P := X.prog) (w := X.w) (K := X.K) (tg := .Name "x" ⟨0, 0, 0, 0⟩) a it
    refine wpAny_bind (thn (T.done X.in1 rfl rfl rfl hc i pins s σ H _ I.in1 (fun b hb => by
      have e : b = it := by simpa using hb
      subst e
      exact hf) st ⟨ys, hq, by omega⟩) fun r s1 ⟨hr, I1⟩ => ?_)
    subst hr
    refine wpAny_bind (wpAny_rule (wpAny_pure ?_))
    have := hR s1 I1.out1
    rw [← List.take_of_length_le (l := ks) (i := i) (by omega), hn] at this
    exact this
  | succ k ih =>
    intro i s hk hi hn I hf st
    have hlt : i < ys.length := by omega
    have hx : ys[i]? = some ys[i] := List.getElem?_eq_getElem hlt
    obtain ⟨b, hb, htv⟩ := paired_get ht hx
    refine codeAny_builtin F.entry_any_loop ?_
    rw [Around.under_plainId F.plain_any_loop _]
    show wpAny _ X.A.in1 (pyNext (.ref it) >>= _) _ _ s
    obtain ⟨its, rv, p, _⟩ := I.list hq
    obtain ⟨u, hu, ru⟩ := rv.get hx
    refine wpAny_bind (wpAny_pyNext_list_item st p.isList (x := u) (by simpa using hu) fun h' st' sb => ?_)
    have I1 : Inv X pins σ H { s with heap := h' } := I.turns (t' := s.toks) (ch := [it]) (fun c o hc' e => (sb.2 c (by simpa using hc')).trans e) (fun c hc' => by
      have e : c = it := by simpa using hc'
      subst e
      exact hf)
    obtain ⟨oi, ei, ci, di⟩ := id st'
    have I1' : Inv X.in1 (pins ++ [(it, oi)]) σ H { s with heap := h' } := I1.in1.pins_of fun q hq' => by
      rcases List.mem_append.mp hq' with z | z
      · exact I1.pin q (List.mem_append_right _ z)
      · have e : q = (it, oi) := by simpa using z
        subst e
        exact ⟨ei, hf.1, hf.2.1, hf.2.2.1, fun v z => by rw [di] at z; cases z⟩
    refine wpAny_bind (wpAny_holding (wpAny_mono (tru_ok (X := X.in1.nox) _ _ σ H ys[i] u (fun k' H' => k' = b ∧ H' = H) (I1'.wish _) ru ⟨b, htv, rfl, rfl⟩) (fun kb s2 ⟨H2, I2', e1, e2⟩ => ?_) (fun _ _ z => z.elim)))
    subst e1 e2
    have I2 := I2'.unwish
    have st2 : s2.heap.IsListIter it a (i + 1) := ⟨oi, (I2.pin (it, oi) (List.mem_append_right _ (List.mem_append_right _ (by simp)))).1, ci, di⟩
    refine wpAny_bind (wpAny_letGo ?_)
    have hbk : ks[i]? = some kb := hb
    cases kb with
    | false =>
      simp only [Bool.false_eq_true, if_false]
      refine wpAny_pure ⟨plainId_quiet F.plain_any_loop _, ih (i + 1) s2 (by omega) hlt ?_ I2.unpinned.out1 hf st2⟩
      rw [List.take_add_one, hbk, List.any_append, hn]
      rfl
    | true =>
      simp only [if_true]
      refine wpAny_bind (wpAny_rule (wpAny_pure ?_))
      have := hR s2 I2.unpinned.out1
      have e : ks.any id = true := List.any_eq_true.mpr ⟨true, List.mem_of_getElem? hbk, rfl⟩
      rw [e] at this
      exact this
theorem all_loop (hc : X.calm = true) (hq : SqL X.K H a ys) (ht : TruL X.K H ys ks) (hR : ∀ s', Inv X pins σ H s' → R (.ok (.ret (.bool (ks.all id)))) s') : ∀ (k i : Nat) (s : Shared), ys.length - i = k → i ≤ ys.length → (ks.take i).all id = true →
    Inv X pins σ H s → FpOk X pins H it → s.heap.IsListIter it a i → codeAny (model X.prog X.w) X.A (.builtin "all.loop" ⟨[.ref it], []⟩) R s := by
  have hlen : ys.length = ks.length := Paired.length ht
  intro k
  induction k with
  | zero =>
    intro i s hk hi hn I hf st
    have hin : i = ys.length := by omega
    refine codeAny_builtin F.entry_all_loop ?_
    rw [Around.under_plainId F.plain_all_loop _]
    show wpAny _ X.A.in1 (pyNext (.ref it) >>= _) _ _ s
    have T := turn_list (P := X.prog) (w := X.w) (K := X.K) (tg := .Name "x" ⟨0, 0, 0, 0⟩) a it
    refine wpAny_bind (thn (T.done X.in1 rfl rfl rfl hc i pins s σ H _ I.in1 (fun b hb => by
      have e : b = it := by simpa using hb
      subst e
      exact hf) st ⟨ys, hq, by omega⟩) fun r s1 ⟨hr, I1⟩ => ?_)
    subst hr
    refine wpAny_bind (wpAny_rule (wpAny_pure ?_))
    have := hR s1 I1.out1
    rw [← List.take_of_length_le (l := ks) (i := i) (by omega), hn] at this
    exact this
  | succ k ih =>
    intro i s hk hi hn I hf st
    have hlt : i < ys.length := by omega
    have hx : ys[i]? = some ys[i] := List.getElem?_eq_getElem hlt
    obtain ⟨b, hb, htv⟩ := paired_get ht hx
    refine codeAny_builtin F.entry_all_loop ?_
    rw [Around.under_plainId F.plain_all_loop _]
    show wpAny _ X.A.in1 (pyNext (.ref it) >>= _) _ _ s
    obtain ⟨its, rv, p, _⟩ := I.list hq
    obtain ⟨u, hu, ru⟩ := rv.get hx
    refine wpAny_bind (wpAny_pyNext_list_item st p.isList (x := u) (by simpa using hu) fun h' st' sb => ?_)
    have I1 : Inv X pins σ H { s with heap := h' } := I.turns (t' := s.toks) (ch := [it]) (fun c o hc' e => (sb.2 c (by simpa using hc')).trans e) (fun c hc' => by
      have e : c = it := by simpa using hc'
      subst e
      exact hf)
    obtain ⟨oi, ei, ci, di⟩ := id st'
    have I1' : Inv X.in1 (pins ++ [(it, oi)]) σ H { s with heap := h' } := I1.in1.pins_of fun q hq' => by
      rcases List.mem_append.mp hq' with z | z
      · exact I1.pin q (List.mem_append_right _ z)
      · have e : q = (it, oi) := by simpa using z
        subst e
        exact ⟨ei, hf.1, hf.2.1, hf.2.2.1, fun v z => by rw [di] at z; cases z⟩
    refine wpAny_bind (wpAny_holding (wpAny_mono (tru_ok (X := X.in1.nox) _ _ σ H ys[i] u (fun k' H' => k' = b ∧ H' = H) (I1'.wish _) ru ⟨b, htv, rfl, rfl⟩) (fun kb s2 ⟨H2, I2', e1, e2⟩ => ?_) (fun _ _ z => z.elim)))
    subst e1 e2
    have I2 := I2'.unwish
    have st2 : s2.heap.IsListIter it a (i + 1) := ⟨oi, (I2.pin (it, oi) (List.mem_append_right _ (List.mem_append_right _ (by simp)))).1, ci, di⟩
    refine wpAny_bind (wpAny_letGo ?_)
    have hbk : ks[i]? = some kb := hb
    cases kb with
    | true =>
      simp only [if_true]
      refine wpAny_pure ⟨plainId_quiet F.plain_all_loop _, ih (i + 1) s2 (by omega) hlt ?_ I2.unpinned.out1 hf st2⟩
      rw [List.take_add_one, hbk, List.all_append, hn]
      rfl
    | false =>
      simp only [Bool.false_eq_true, if_false]
      refine wpAny_bind (wpAny_rule (wpAny_pure ?_))
      have := hR s2 I2.unpinned.out1
      have e : ks.all id = false := by
        rw [List.all_eq_false]
        exact ⟨false, List.mem_of_getElem? hbk, by simp⟩
      rw [e] at this
      exact this
end
section
variable {X : Cx}
theorem boot_any' : bootBuiltins "any" = some (.builtin "any") := by decide +kernel
theorem boot_all' : bootBuiltins "all" = some (.builtin "all") := by decide +kernel
theorem call_any (hc : X.calm = true) : CallR X (.builtin "any") (fun xs H Q => ∃ p ys ks, xs = [.ref p] ∧ SqL X.K H p ys ∧ TruL X.K H ys ks ∧ Q (.bl (ks.any id)) H) := by
  intro pins s σ H xs us Q I r h
  obtain ⟨p, ys, ks, rfl, hq, ht, q⟩ := h
  obtain ⟨u, rfl, ru⟩ := vals1 r
  cases ru
  refine call_function_tree F.kind_any F.plain_any F.entry_any (F.args_any1 _) ?_
  unfold Builtin.«any»
  refine wpAny_bind (m := oneArg "any" _) (wpAny_pure ?_)
  obtain ⟨its, rv, pl, hz⟩ := I.list hq
  refine wpAny_bind (wpAny_pyIter_list pl.isList ?_)
  refine wpAny_pure ⟨plainId_quiet F.plain_any_loop _, any_loop (it := s.heap.objs.size) hc hq ht ?_ ys.length 0 _ rfl (Nat.zero_le _) rfl (I.kept (t' := s.toks) fun b o e => Heap.get?_push_of_some _ e) (I.fpOk (Nat.le_refl _) (I.hok.fresh (Nat.le_refl _))) ⟨_, Heap.get?_push_size _ rfl, rfl, rfl⟩⟩
  exact fun s' I' => ⟨.bl _, H, I', rfl, q⟩
theorem call_all (hc : X.calm = true) : CallR X (.builtin "all") (fun xs H Q => ∃ p ys ks, xs = [.ref p] ∧ SqL X.K H p ys ∧ TruL X.K H ys ks ∧ Q (.bl (ks.all id)) H) := by
  intro pins s σ H xs us Q I r h
  obtain ⟨p, ys, ks, rfl, hq, ht, q⟩ := h
  obtain ⟨u, rfl, ru⟩ := vals1 r
  cases ru
  refine call_function_tree F.kind_all F.plain_all F.entry_all (F.args_all1 _) ?_
  unfold Builtin.«all»
  refine wpAny_bind (m := oneArg "all" _) (wpAny_pure ?_)
  obtain ⟨its, rv, pl, hz⟩ := I.list hq
  refine wpAny_bind (wpAny_pyIter_list pl.isList ?_)
  refine wpAny_pure ⟨plainId_quiet F.plain_all_loop _, all_loop (it := s.heap.objs.size) hc hq ht ?_ ys.length 0 _ rfl (Nat.zero_le _) rfl (I.kept (t' := s.toks) fun b o e => Heap.get?_push_of_some _ e) (I.fpOk (Nat.le_refl _) (I.hok.fresh (Nat.le_refl _))) ⟨_, Heap.get?_push_size _ rfl, rfl, rfl⟩⟩
  exact fun s' I' => ⟨.bl _, H, I', rfl, q⟩
theorem call_isinst : CallR X (.builtin "isinstance") (fun xs H Q => ∃ x T t b, xs = [x, .ty T] ∧ TyOf X.K H x t ∧ PySem.W.kitOne X.K t (.type T) = some b ∧ Q (.bl b) H) := by
  intro pins s σ H xs us Q I r h
  obtain ⟨x, T, t, b, rfl, ty, e, q⟩ := h
  obtain ⟨u, w', rfl, ru, rw'⟩ := vals2 r
  cases rw'
  exact isinst_ok I ru ty e fun tk => ⟨.bl b, H, I.tok _, rfl, q⟩
theorem sl_str : SlR X (fun x lo hi H Q => ∃ z, x = .str z ∧ z.length ≤ sizeLine ∧ Q (.str (Txt.slice z lo hi)) H) := by
  intro pins s σ H x v vl vu lo hi sl Q I rx hs pl pu h
  obtain ⟨z, rfl, hz, q⟩ := h
  obtain ⟨t, rfl⟩ := rx
  obtain ⟨o, ho, hc, hd⟩ := hs
  have fin : ∀ (l u : Option (Int × Tok)), vl = partValue l → vu = partValue u → lo = l.map (·.1) → hi = u.map (·.1) → wpAny (model X.prog X.w) X.A (getItem (.str z t) (.ref sl)) (EP X pins σ Q) X.xe s := fun l u e1 e2 e3 e4 => by
    subst e1 e2 e3 e4
    exact wpAny_getItem_str_slice (l := l) (u := u) (st := none) ⟨o, ho, hc, hd⟩ rfl (post_val_or_str ⟨Nat.le_trans (Txt.slice_le z _ _) hz, fun t' k => ⟨.str _, H, I.tok _, ⟨_, rfl⟩, q⟩⟩)
  refine ⟨"str", _, F.slot_str_getitem.lookup, typeIs_str _ _ _, ?_⟩
  cases pl with
  | none =>
    cases pu with
    | none => exact fin none none rfl rfl rfl rfl
    | int j tj => exact fin none (some (j, tj)) rfl rfl rfl rfl
  | int i ti =>
    cases pu with
    | none => exact fin (some (i, ti)) none rfl rfl rfl rfl
    | int j tj => exact fin (some (i, ti)) (some (j, tj)) rfl rfl rfl rfl
end
theorem for_zip {K : PySem.W.Frag} {a b : Addr} {xs ys : List V} {g : TG} {tb : TS} {D : Ends} {σ : St} {H : Hp} (hlen : xs.length = ys.length) (Pv : Nat → St → Hp → Prop) (h0 : Pv 0 σ H) (hl : ∀ i σ H, i ≤ xs.length → Pv i σ H → SqL K H a xs ∧ SqL K H b ys)
    (hs : ∀ i x y σ H T, xs[i]? = some x → ys[i]? = some y → Pv i σ H → H T = none → g (.ref T) σ (upd H T (.tup [x, y])) fun σ2 H2 => tb { D with nx := Pv (i + 1), ct := Pv (i + 1), bk := D.nx } σ2 H2) (hd : ∀ σ H, Pv xs.length σ H → D.nx σ H) :
    ∃ W : Nat → Nat → St → Hp → Prop, (∃ m, W 0 m σ H) ∧ ∀ i m σ H, W i m σ H →
      ((Itz K a b).stop i H ∧ D.nx σ H) ∨ ((Itz K a b).go i H ∧ ∃ N : St → Hp → Prop, (∀ σ' H', N σ' H' → ∃ m', m' < m ∧ W (i + 1) m' σ' H') ∧ ∀ x H', (Itz K a b).yld i H x H' → g x σ H' fun σ2 H2 => tb { D with nx := N, ct := N, bk := D.nx } σ2 H2) := by
  refine ⟨fun i m σ H => m = xs.length - i ∧ i ≤ xs.length ∧ Pv i σ H, ⟨xs.length, by simp, Nat.zero_le _, h0⟩, ?_⟩
  rintro i m σ H ⟨rfl, hi, p⟩
  obtain ⟨q1, q2⟩ := hl i σ H hi p
  by_cases hlt : i < xs.length
  · have hlt2 : i < ys.length := by omega
    refine .inr ⟨⟨xs, ys, xs[i], ys[i], q1, q2, by simp [hlt], by simp [hlt2]⟩, Pv (i + 1), fun σ' H' p' => ⟨xs.length - (i + 1), by omega, rfl, hlt, p'⟩, fun x H' y => ?_⟩
    obtain ⟨T, x', y', hT, rfl, rfl, e1, e2⟩ := y
    exact hs i x' y' σ _ T (e1 xs q1) (e2 ys q2) p hT
  · have e : i = xs.length := by omega
    subst e
    exact .inl ⟨⟨xs, ys, q1, q2, .inl (Nat.le_refl _)⟩, hd σ H p⟩
theorem for_enum {K : PySem.W.Frag} {a : Addr} {xs : List V} {g : TG} {tb : TS} {D : Ends} {σ : St} {H : Hp} (Pv : Nat → St → Hp → Prop) (h0 : Pv 0 σ H) (hl : ∀ i σ H, i ≤ xs.length → Pv i σ H → SqL K H a xs)
    (hs : ∀ i x σ H T, xs[i]? = some x → Pv i σ H → H T = none → g (.ref T) σ (upd H T (.tup [.int i, x])) fun σ2 H2 => tb { D with nx := Pv (i + 1), ct := Pv (i + 1), bk := D.nx } σ2 H2) (hd : ∀ σ H, Pv xs.length σ H → D.nx σ H) :
    ∃ W : Nat → Nat → St → Hp → Prop, (∃ m, W 0 m σ H) ∧ ∀ i m σ H, W i m σ H →
      ((Ite K a).stop i H ∧ D.nx σ H) ∨ ((Ite K a).go i H ∧ ∃ N : St → Hp → Prop, (∀ σ' H', N σ' H' → ∃ m', m' < m ∧ W (i + 1) m' σ' H') ∧ ∀ x H', (Ite K a).yld i H x H' → g x σ H' fun σ2 H2 => tb { D with nx := N, ct := N, bk := D.nx } σ2 H2) := by
  refine ⟨fun i m σ H => m = xs.length - i ∧ i ≤ xs.length ∧ Pv i σ H, ⟨xs.length, by simp, Nat.zero_le _, h0⟩, ?_⟩
  rintro i m σ H ⟨rfl, hi, p⟩
  have q := hl i σ H hi p
  by_cases hlt : i < xs.length
  · refine .inr ⟨⟨xs, xs[i], q, by simp [hlt]⟩, Pv (i + 1), fun σ' H' p' => ⟨xs.length - (i + 1), by omega, rfl, hlt, p'⟩, fun x H' y => ?_⟩
    obtain ⟨T, x', hT, rfl, rfl, e1⟩ := y
    exact hs i x' σ _ T (e1 xs q) p hT
  · have e : i = xs.length := by omega
    subst e
    exact .inl ⟨⟨xs, q, Nat.le_refl _⟩, hd σ H p⟩
theorem turns_zip {K : PySem.W.Frag} {a b : Addr} {xs zs : List V} {n : Nat} {fr : List (Str × Nat)} {g : TG} {tc : TT} {te : TE} {σ : St} {H : Hp} {F : List V → Hp → Prop} (hlen : xs.length = zs.length) (Pv : Nat → List V → Hp → Prop) (h0 : Pv 0 [] H) (hl : ∀ i ys H, i ≤ xs.length → Pv i ys H → SqL K H a xs ∧ SqL K H b zs)
    (hs : ∀ i x z ys H T, xs[i]? = some x → zs[i]? = some z → Pv i ys H → H T = none → g (.ref T) (stC n fr σ) (upd H T (.tup [x, z])) fun σ2 H2 => tc σ2 H2 fun b H3 => if b = true then te σ2 H3 fun y H4 => ys.length < sizeLine ∧ Pv (i + 1) (ys ++ [y]) H4 else Pv (i + 1) ys H3)
    (hd : ∀ ys H, Pv xs.length ys H → F ys H) : tTurns n fr g tc te σ (Itz K a b) H F := by
  refine ⟨fun i m ys H => m = xs.length - i ∧ i ≤ xs.length ∧ Pv i ys H, ⟨xs.length, by simp, Nat.zero_le _, h0⟩, ?_⟩
  rintro i m ys H ⟨rfl, hi, p⟩
  obtain ⟨q1, q2⟩ := hl i ys H hi p
  by_cases hlt : i < xs.length
  · have hlt2 : i < zs.length := by omega
    refine .inr ⟨⟨xs, zs, xs[i], zs[i], q1, q2, by simp [hlt], by simp [hlt2]⟩, Pv (i + 1), fun ys' H' p' => ⟨xs.length - (i + 1), by omega, rfl, hlt, p'⟩, fun x H' y => ?_⟩
    obtain ⟨T, x', y', hT, rfl, rfl, e1, e2⟩ := y
    exact hs i x' y' ys _ T (e1 xs q1) (e2 zs q2) p hT
  · have e : i = xs.length := by omega
    subst e
    exact .inl ⟨⟨xs, zs, q1, q2, .inl (Nat.le_refl _)⟩, hd ys H p⟩
theorem turns_list0 {K : PySem.W.Frag} {a : Addr} {xs : List V} {n : Nat} {fr : List (Str × Nat)} {g : TG} {te : TE} {σ : St} {H : Hp} {F : List V → Hp → Prop} (Pv : Nat → List V → Hp → Prop) (h0 : Pv 0 [] H) (hl : ∀ i ys H, i ≤ xs.length → Pv i ys H → SqL K H a xs)
    (hs : ∀ i x ys H, xs[i]? = some x → Pv i ys H → g x (stC n fr σ) H fun σ2 H2 => te σ2 H2 fun y H4 => ys.length < sizeLine ∧ Pv (i + 1) (ys ++ [y]) H4)
    (hd : ∀ ys H, Pv xs.length ys H → F ys H) : tTurns n fr g tNoIf te σ (Itl K a) H F := turns_list Pv h0 hl (fun i x ys H hx p => hs i x ys H hx p) hd
theorem turns_range0 {lo : Int} {k n : Nat} {fr : List (Str × Nat)} {g : TG} {te : TE} {σ : St} {H : Hp} {F : List V → Hp → Prop} (Pv : Nat → List V → Hp → Prop) (h0 : Pv 0 [] H)
    (hs : ∀ i ys H, i < k → Pv i ys H → g (.int (lo + i)) (stC n fr σ) H fun σ2 H2 => te σ2 H2 fun y H4 => ys.length < sizeLine ∧ Pv (i + 1) (ys ++ [y]) H4)
    (hd : ∀ ys H, Pv k ys H → F ys H) : tTurns n fr g tNoIf te σ (Itr lo k) H F := turns_range Pv h0 (fun i ys H hi p => hs i ys H hi p) hd
theorem turns_zip0 {K : PySem.W.Frag} {a b : Addr} {xs zs : List V} {n : Nat} {fr : List (Str × Nat)} {g : TG} {te : TE} {σ : St} {H : Hp} {F : List V → Hp → Prop} (hlen : xs.length = zs.length) (Pv : Nat → List V → Hp → Prop) (h0 : Pv 0 [] H) (hl : ∀ i ys H, i ≤ xs.length → Pv i ys H → SqL K H a xs ∧ SqL K H b zs)
    (hs : ∀ i x z ys H T, xs[i]? = some x → zs[i]? = some z → Pv i ys H → H T = none → g (.ref T) (stC n fr σ) (upd H T (.tup [x, z])) fun σ2 H2 => te σ2 H2 fun y H4 => ys.length < sizeLine ∧ Pv (i + 1) (ys ++ [y]) H4)
    (hd : ∀ ys H, Pv xs.length ys H → F ys H) : tTurns n fr g tNoIf te σ (Itz K a b) H F := turns_zip hlen Pv h0 hl (fun i x z ys H T hx hz p hT => hs i x z ys H T hx hz p hT) hd
abbrev frA (l : List Env) : List Addr := l.filterMap (·.frame)
structure Flew (S ch : List Addr) (h h' : Heap) : Prop where
  keep : ∀ b o, b ∉ S → b ∉ ch → h.get? b = some o → h'.get? b = some o
  slot : ∀ b o, b ∉ ch → h.get? b = some o → ∃ sl, h'.get? b = some { o with slots := sl }
  size : h.objs.size ≤ h'.objs.size
theorem Flew.trans {S c1 c2 : List Addr} {h h1 h2 : Heap} (a : Flew S c1 h h1) (b : Flew S c2 h1 h2) : Flew S (c1 ++ c2) h h2 where
  keep := fun x o hs hc e => by
    rw [List.mem_append, not_or] at hc
    exact b.keep x o hs hc.2 (a.keep x o hs hc.1 e)
  slot := fun x o hc e => by
    rw [List.mem_append, not_or] at hc
    obtain ⟨s1, e1⟩ := a.slot x o hc.1 e
    obtain ⟨s2, e2⟩ := b.slot x _ hc.2 e1
    exact ⟨s2, e2⟩
  size := Nat.le_trans a.size b.size
theorem Flew.mono {S c1 c2 : List Addr} {h h1 : Heap} (a : Flew S c1 h h1) (k : ∀ b ∈ c1, b ∈ c2) : Flew S c2 h h1 :=
  ⟨fun x o hs hc e => a.keep x o hs (fun z => hc (k x z)) e, fun x o hc e => a.slot x o (fun z => hc (k x z)) e, a.size⟩
structure ExcNew (h : Heap) (e : Addr) (cls : Value) (dx : Option Addr) (oe : Obj) (vs : Array Value) : Prop where
  get : h.get? e = some oe
  cls : oe.cls = cls
  dict : oe.dict = dx
  data : oe.data = .fields vs
  tb : vs[1]? = some .none
structure ExcAt (h : Heap) (e : Addr) (cls : Value) (dx : Option Addr) (T : Addr) (fl : Value) (oe oT : Obj) (vs ts : Array Value) : Prop where
  get : h.get? e = some oe
  cls : oe.cls = cls
  dict : oe.dict = dx
  data : oe.data = .fields vs
  tb : vs[1]? = some (.ref T)
  ne : T ≠ e
  getT : h.get? T = some oT
  dataT : oT.data = .fields ts
  fl : ts[3]? = some fl
theorem dict_mapF (o : Obj) (f : Array Value → Array Value) : (o.mapFields f).dict = o.dict := by
  obtain ⟨c, d, dt, sl⟩ := o
  cases dt <;> rfl
section
variable {M : Model} {A : Around} {E : Value → Shared → Prop} {s : Shared} {base : Heap} {env : Env} {outer : List Env} {L e : Addr} {cls : Value} {dx : Option Addr} {Q : Unit → Shared → Prop}
theorem not_frame (hl : s.heap.FunFrames base (env :: outer)) {b : Addr} {o : Obj} {vs : Array Value} (e1 : s.heap.get? b = some o) (d : o.data = .fields vs) : b ∉ frA (env :: outer) := fun hm => by
  obtain ⟨_, o', ho, hnf⟩ := hl.mem hm
  rw [e1] at ho
  cases ho
  exact hnf vs d
theorem entryD {oe : Obj} {vs : Array Value} {head : Value} {hn : Bool} (hfr : A.frames = some (env :: outer)) (hl : s.heap.FunFrames base (env :: outer)) (hf : env.frame = some L)
    (he : s.heap.get? e = some oe) (hc : oe.cls = cls) (hx : oe.dict = dx) (hd : oe.data = .fields vs) (hsz : 1 < vs.size)
    (h : ∀ h' T oe' oT vs' ts, s.heap.objs.size ≤ T → Flew (frA (env :: outer)) [e] s.heap h' → ExcAt h' e cls dx T (rawInt L) oe' oT vs' ts → Q () { s with heap := h' }) :
    wpAny M A (do let a ← frameOf env; let pl ← entryPlaceOf L hn; let b ← EntryCells.newEntry head a .none (rawInt L) .none pl; setField (.ref e) 1 b) Q E s := by
  have ne := not_frame hl he hd
  refine wpAny_bind (wpAny_frameOf_fun hfr hl hf fun h1 so => wpAny_bind (wpAny_entryPlaceOf fun pl hpl => ?_))
  unfold EntryCells.newEntry newFields
  refine wpAny_bind (wpAny_newObj_type ?_ (hpl.sizeOk5 _ _ _ _ _))
  have e1 : h1.get? e = some oe := (so.2.1 e ne).trans he
  generalize hto : ({ cls := .type "traceback", dict := none, data := .fields ([head, .ref L, .none, rawInt L, .none] ++ (if pl.isEmpty then List.replicate 6 Value.none else pl)).toArray } : Obj) = tobj
  have hT3 : ∃ ts, tobj.data = .fields ts ∧ ts[3]? = some (rawInt L) ∧ tobj.isFreed = false := by
    subst hto
    exact ⟨_, rfl, by first | (simp; done) | (rcases hpl with rfl | ⟨_, _, _, _, _, _, _, rfl⟩ <;> simp), rfl⟩
  obtain ⟨ts, td, t3, tf⟩ := hT3
  have e2 : (h1.push tobj).get? e = some oe := Heap.get?_push_of_some tobj e1
  have sz1 : h1.objs.size = s.heap.objs.size := so.1
  have nT : h1.objs.size ≠ e := Nat.ne_of_gt (Heap.lt_size e1)
  have d3 := Obj.data_mapFields hd (·.setIfInBounds 1 (Value.ref h1.objs.size))
  refine wpAny_setField e2 hd hsz (h _ h1.objs.size _ tobj _ ts (Nat.le_of_eq sz1.symm) ⟨fun b o hs hc' q => ?_, fun b o hc' q => ?_, ?_⟩ ⟨Heap.get?_update_self _ e2 (Obj.isFreed_of_fields d3), (Obj.cls_mapFields _ _).trans hc, (dict_mapF _ _).trans hx, d3, by simp [hsz], nT, ?_, td, t3⟩)
  · rw [Heap.get?_update_other _ _ (Ne.symm (show b ≠ e by simpa using hc'))]
    exact Heap.get?_push_of_some _ ((so.2.1 b hs).trans q)
  · obtain ⟨sl, q1⟩ := so.2.2 b o q
    refine ⟨sl, ?_⟩
    rw [Heap.get?_update_other _ _ (Ne.symm (show b ≠ e by simpa using hc'))]
    exact Heap.get?_push_of_some _ q1
  · have z := Heap.size_push h1 tobj
    have z2 : ((h1.push tobj).update e (Obj.mapFields (·.setIfInBounds 1 (Value.ref h1.objs.size)))).objs.size = (h1.push tobj).objs.size := (Heap.SameBut.update (a := e) (h1.push tobj) (Obj.mapFields (·.setIfInBounds 1 (Value.ref h1.objs.size)))).1
    exact Nat.le_trans (Nat.le_of_eq sz1.symm) (Nat.le_trans (by rw [z]; exact Nat.le_succ _) (Nat.le_of_eq z2.symm))
  · rw [Heap.get?_update_other _ _ (Ne.symm nT)]
    exact Heap.get?_push_size h1 tf
theorem noteD_first {oe : Obj} {vs : Array Value} (hfr : A.frames = some (env :: outer)) (hl : s.heap.FunFrames base (env :: outer)) (hf : env.frame = some L) (x : ExcNew s.heap e cls dx oe vs)
    (h : ∀ h' T oe' oT vs' ts, s.heap.objs.size ≤ T → Flew (frA (env :: outer)) [e] s.heap h' → ExcAt h' e cls dx T (rawInt L) oe' oT vs' ts → Q () { s with heap := h' }) : wpAny M A (noteFrame (.ref e) env) Q E s := by
  unfold noteFrame
  simp only [hf]
  refine wpAny_bind (wpAny_field x.get x.data x.tb ?_)
  rw [if_neg (by decide)]
  exact entryD hfr hl hf x.get x.cls x.dict x.data (Array.getElem?_eq_some_iff.mp x.tb).1 h
theorem unflyD {T : Addr} {fl : Value} {oe oT : Obj} {vs ts : Array Value} (x : ExcAt s.heap e cls dx T fl oe oT vs ts) (S : List Addr) :
    Flew S [T] s.heap (s.heap.update T (Obj.mapFields (·.setIfInBounds 3 .none))) ∧ ∃ oT' ts', ExcAt (s.heap.update T (Obj.mapFields (·.setIfInBounds 3 .none))) e cls dx T .none oe oT' vs ts' := by
  have hsz : 3 < ts.size := (Array.getElem?_eq_some_iff.mp x.fl).1
  have d3 := Obj.data_mapFields x.dataT (·.setIfInBounds 3 Value.none)
  have oth : ∀ b, b ≠ T → (s.heap.update T (Obj.mapFields (·.setIfInBounds 3 .none))).get? b = s.heap.get? b := fun b hb => Heap.get?_update_other _ _ (Ne.symm hb)
  refine ⟨⟨fun b o _ hc q => (oth b (by simpa using hc)).trans q, fun b o hc q => ⟨o.slots, (oth b (by simpa using hc)).trans q⟩, Nat.le_of_eq (Heap.SameBut.update (a := T) s.heap _).1.symm⟩, _, _, (oth e (Ne.symm x.ne)).trans x.get, x.cls, x.dict, x.data, x.tb, x.ne, Heap.get?_update_self _ x.getT (Obj.isFreed_of_fields d3), d3, by simp [hsz]⟩
theorem flightD {T : Addr} {fl : Value} {oe oT : Obj} {vs ts : Array Value} (x : ExcAt s.heap e cls dx T fl oe oT vs ts) (S : List Addr)
    (h : ∀ h' oT' ts', Flew S [T] s.heap h' → ExcAt h' e cls dx T .none oe oT' vs ts' → Q () { s with heap := h' }) : wpAny M A (setFlight (.ref e) none) Q E s := by
  obtain ⟨k1, oT', ts', k2⟩ := unflyD (s := s) x S
  unfold setFlight
  refine wpAny_bind (wpAny_field x.get x.data x.tb ?_)
  rw [if_pos (show (Value.ref T != Value.none) = true from by simp)]
  exact wpAny_setField x.getT x.dataT (Array.getElem?_eq_some_iff.mp x.fl).1 (h _ _ _ k1 k2)
theorem noteD_next {T : Addr} {fl : Value} {oe oT : Obj} {vs ts : Array Value} (hfr : A.frames = some (env :: outer)) (hl : s.heap.FunFrames base (env :: outer)) (hf : env.frame = some L) (x : ExcAt s.heap e cls dx T fl oe oT vs ts) (hne : (fl == rawInt L) = false)
    (h : ∀ h' T' oe' oT' vs' ts', s.heap.objs.size ≤ T' → Flew (frA (env :: outer)) [e, T] s.heap h' → ExcAt h' e cls dx T' (rawInt L) oe' oT' vs' ts' → Q () { s with heap := h' }) : wpAny M A (noteFrame (.ref e) env) Q E s := by
  unfold noteFrame
  simp only [hf]
  refine wpAny_bind (wpAny_field x.get x.data x.tb ?_)
  rw [if_pos (show (Value.ref T != Value.none) = true from by simp)]
  refine wpAny_bind (wpAny_field x.getT x.dataT x.fl ?_)
  rw [if_neg (show ¬ ((fl == rawInt L) = true) by rw [hne]; exact Bool.false_ne_true)]
  refine wpAny_bind (wpAny_setField x.getT x.dataT (Array.getElem?_eq_some_iff.mp x.fl).1 ?_)
  obtain ⟨k1, oT', ts', k2⟩ := unflyD (s := s) x (frA (env :: outer))
  have nfT := not_frame hl x.getT x.dataT
  have hl2 : (s.heap.update T (Obj.mapFields (·.setIfInBounds 3 .none))).FunFrames base (env :: outer) := hl.of_keeps fun b o q hnf => by
    obtain ⟨sl, q'⟩ := k1.slot b o (fun z => by
      have z' : b = T := by simpa using z
      subst z'
      rw [x.getT] at q
      cases q
      exact hnf ts x.dataT) q
    exact ⟨_, q', rfl⟩
  refine entryD (s := { s with heap := s.heap.update T (Obj.mapFields (·.setIfInBounds 3 .none)) }) hfr hl2 hf k2.get k2.cls k2.dict k2.data (Array.getElem?_eq_some_iff.mp x.tb).1 fun h' T' oe' oT2 vs' ts2 hT' fl at' => ?_
  exact h h' T' oe' oT2 vs' ts2 (Nat.le_trans k1.size hT') ((k1.trans fl).mono (by intro b hb; simp at hb ⊢; rcases hb with z | z <;> simp [z])) at'
end
end L2
namespace L2
open PySem PySem.Spec PyProof.Rows PySem.W
section
variable {prog : Program} {w : World} {A : Around} {R : Result → Shared → Prop} {E : Value → Shared → Prop} {h : Heap} {g : Array GenState} {d : Drawn} {t : Nat} {os : OsState}
variable {nm q : Str} {C N f : Addr} {bs bm bmB : List Value} {hdct : Bool} {sn : List Str} {sub : List Value} {ab : Bool} {col : Option Bool} {dd : Option Addr} {k0 k1 k2 k3 k5 : Option Value} {B Bn newId nid initId inN : String} {bmN : List Value}
abbrev excObj (C t : Addr) : Obj := { cls := .ref C, data := .fields #[.ref t, .none, .none, .none, .bool false, .none] }
abbrev tupObj (rest : List Value) : Obj := { cls := .type "tuple", data := .seq rest.toArray }
end
end L2
namespace L2
open PySem PySem.Spec PyProof.Rows
structure ExcOut (P : Program) (w : World) (outer : List Env) (H : Hp) (s : Shared) (cls : Value) (dx : Option Addr) (H' : Hp) (x : Addr) (s' : Shared) : Prop where
  os : s'.os = s.os
  bare : AllBare s'.gens
  un : Un (frs outer) [] H H' s.heap s'.heap
  hok : HOk P w H' s'.heap
  hx : H' x = none
  nx : s.heap.objs.size ≤ x
  fly : ∃ T oe oT vs ts, H' T = none ∧ s.heap.objs.size ≤ T ∧ ExcAt s'.heap x cls dx T .none oe oT vs ts
def CXE (P : Program) (w : World) : CXT := fun outer H s E e s' => ∃ x cls dx H', e = .ref x ∧ ExcOut P w outer H s cls dx H' x s' ∧ E cls dx H'
section
variable {X : Cx} {pins : List (Addr × Obj)} {σ : St} {H : Hp} {s : Shared} {h' : Heap} {ch : List Addr}
theorem Inv.flew {g : Array GenState} (I : Inv X pins σ H s) (fl : Flew (frs X.stack) ch s.heap h') (hc : ∀ b ∈ ch, H b = none) : HOk X.prog X.w H h' := fun a o e =>
  (I.hok a o e).stay (fun b u hb q => fl.keep b u (fun z => by
    rcases hb with rfl | hb
    · rw [I.stkFree b z] at e; cases e
    · rw [I.stkFree b z] at hb; cases hb) (fun z => by
    rcases hb with rfl | hb
    · rw [hc b z] at e; cases e
    · rw [hc b z] at hb; cases hb) q) (fun _ q => q) fun _ _ q => q
theorem Inv.unFlew (I : Inv X pins σ H s) (hx : X.ex = []) (hst : X.stack = X.env :: X.outer) (hfr : X.env.frame = some X.env.locals) (fl : Flew (frs X.stack) ch s.heap h') (hc : ∀ b ∈ ch, X.s₀.heap.objs.size ≤ b) : Un (frs X.outer) [] X.H₀ H X.s₀.heap h' := by
  have old : ∀ {b : Addr} {o : Obj}, X.s₀.heap.get? b = some o → b ∉ ch ∧ b ≠ X.env.locals := fun {b o} e => ⟨fun z => absurd (Nat.lt_of_lt_of_le (Heap.lt_size e) (hc b z)) (Nat.lt_irrefl _), Nat.ne_of_lt (Nat.lt_of_lt_of_le (Heap.lt_size e) I.ok.above)⟩
  have nex : ∀ b : Addr, b ∉ X.ex := fun b z => by rw [hx] at z; cases z
  have nst : ∀ {b : Addr}, b ∉ frs X.outer → b ≠ X.env.locals → b ∉ frs X.stack := fun {b} h1 h2 z => by
    rcases List.mem_cons.mp (I.stkSub b z) with q | q
    · exact h2 q
    · exact h1 q
  refine ⟨fun b o e n hb _ => fl.keep b o (nst hb (old e).2) (old e).1 (I.base.keep b o e n hb (nex b)), fun b o e n hb _ => ?_, fun b o e n _ => I.base.free b o e n (nex b), fun b o e _ => ?_, I.base.tups, I.base.frzs, I.base.tbls⟩
  · obtain ⟨sl, q⟩ := I.base.slot b o e n hb (nex b)
    obtain ⟨sl2, q2⟩ := fl.slot b _ (old e).1 q
    exact ⟨sl2, q2⟩
  · obtain ⟨o', q⟩ := I.base.there b o e (nex b)
    obtain ⟨sl, q2⟩ := fl.slot b o' (old e).1 q
    exact ⟨_, q2⟩
end
section
variable {P : Program} {w : World} {K : PySem.W.Frag} {mg : Str → Option Value} {base : Heap} {N : List Str} {qual : Str} {scope : Scope} {f : Addr} {cd : Value} {A : Around} {outer : List Env} {s₀ : Shared} {H₀ : Hp} {E : XK}
end
theorem Fun.okE {P : Program} {w : World} {K : PySem.W.Frag} {mg : Str → Option Value} {base : Heap} {x qual : Str} {st : Stmt} {f : Addr} {fd : FuncData} {N ps : List Str} {k : Nat} {sp : Sp} (F : Fun K x qual st f fd) (S : FnScope N ps (defScope st)) (len : ∀ vs H Q E, sp vs H Q E → vs.length = ps.length)
    (hbody : ∀ (cdv : Value) (A : Around) (outer : List Env) (s : Shared) (H : Hp) (vs : List V) (Q : VK) (E : XK), Room k (A.deeper (envOfC qual (defScope st) s.heap.objs.size f cdv)) → sp vs H Q E →
      ∃ t, PSs (cxOf (CXE P w) P w K mg base N qual (defScope st) f cdv A outer s H E) (defBody st) t ∧ t { nx := fun _ H' => Q .non H', rt := Q } (start N vs) H) :
    FnOk P w K mg base (CXE P w) (k + 1) f fd ps sp := by
  obtain ⟨oc, od, kV, doc, pm, an, cdv, ct, osl, rfl, lk, hcd⟩ := F.ex
  exact fn_of lk hcd S len fun A outer s H vs Q E hr hsp => hbody cdv A outer s H vs Q E hr hsp
def Flies (X : Cx) (h : Heap) (H : Hp) (x : Addr) (cls : Value) (dx : Option Addr) : Prop :=
  (∃ oe vs, ExcNew h x cls dx oe vs) ∨ ∃ T fl oe oT vs ts, FpOk X [] H T ∧ ExcAt h x cls dx T fl oe oT vs ts
abbrev XS := St → Value → Option Addr → Hp → Prop
def Wx (X : Cx) (E : XS) (e : Value) (s : Shared) : Prop := ∃ x cls dx H σ, e = .ref x ∧ Inv X [] σ H s ∧ FpOk X [] H x ∧ Flies X s.heap H x cls dx ∧ E σ cls dx H
structure Own (X : Cx) : Prop where
  ex : X.ex = []
  st : X.stack = X.env :: X.outer
  fr : X.env.frame = some X.env.locals
theorem FpOk.old {X : Cx} {pins : List (Addr × Obj)} {H : Hp} {b : Addr} (f : FpOk X pins H b) (o : X.ex = []) : X.s₀.heap.objs.size ≤ b := by
  rcases f.2.2.2.1 with z | z
  · rw [o] at z; cases z
  · exact z
section
variable {X : Cx} {pins : List (Addr × Obj)} {σ : St} {H : Hp} {s : Shared} {h' : Heap} {ch : List Addr}
theorem Inv.fly (I : Inv X [] σ H s) (fl : Flew (frs X.stack) ch s.heap h') (hf : ∀ b ∈ ch, FpOk X [] H b) : Inv X [] σ H { s with heap := h' } := by
  have nst : ∀ {b : Addr}, b ≠ X.env.locals → b ∉ X.fs → b ∉ frs X.stack := fun {b} h1 h2 z => by
    rcases List.mem_cons.mp (I.stkSub b z) with q | q
    · exact h1 q
    · exact h2 q
  refine I.step (g' := s.gens) (d' := s.drawn) (t' := s.toks) (ch := ch) (fun b hb => ?_) (fun b o h1 h2 hc e _ => fl.keep b o (nst h1 h2) hc e) (fun b o _ _ hc e _ => fl.slot b o hc e) (fun _ _ _ _ n => n)
    (fun b o hc e => ?_) (fun _ _ e => e) (fun _ _ _ e => e) (fun b ps e => ⟨#[], by rw [e]; simp⟩) (fun m hm => ?_) (I.flew (g := s.gens) fl fun b hb => (hf b hb).1) I.bare
  · obtain ⟨f0, f1, f2, f3, f4, f5⟩ := hf b hb
    exact ⟨f3, f1, f4, f5⟩
  · obtain ⟨sl, q⟩ := fl.slot b o hc e
    exact ⟨_, q⟩
  · obtain ⟨o, es, ep, ho, r⟩ := hm
    obtain ⟨sl, q⟩ := fl.slot _ o (fun z => (hf _ z).2.1 rfl) ho
    exact ⟨_, es, ep, q, r⟩
end
section
variable {X : Cx} {σ : St} {H : Hp} {s : Shared} {x : Addr} {cls : Value} {dx : Option Addr} {Q : Unit → Shared → Prop} {E : Value → Shared → Prop} {A : Around}
theorem noteX (ow : Own X) (hA : A.frames = some X.stack) (I : Inv X [] σ H s) (fx : FpOk X [] H x) (f : Flies X s.heap H x cls dx)
    (h : ∀ h' T oe oT vs ts, Inv X [] σ H { s with heap := h' } → FpOk X [] H T → ExcAt h' x cls dx T (rawInt X.env.locals) oe oT vs ts → Q () { s with heap := h' }) : wpAny (model X.prog X.w) A (noteFrame (.ref x) X.env) Q E s := by
  have hst := I.stack
  rw [ow.st] at hst hA
  have hone : ∀ b ∈ [x], FpOk X [] H b := fun b hb => by rw [List.mem_singleton.mp hb]; exact fx
  rcases f with ⟨oe, vs, n⟩ | ⟨T, fl, oe, oT, vs, ts, fT, a⟩
  · refine noteD_first hA hst ow.fr n fun h' T oe' oT vs' ts hT flw at' => ?_
    exact h h' T oe' oT vs' ts (I.fly (by rw [ow.st]; exact flw) hone) (I.fpOk hT (I.hok.fresh hT)) at'
  · by_cases hfl : fl = rawInt X.env.locals
    rotate_left
    · refine noteD_next hA hst ow.fr a (beq_eq_false_iff_ne.mpr hfl) fun h' T' oe' oT' vs' ts' hT flw at' => ?_
      refine h h' T' oe' oT' vs' ts' (I.fly (by rw [ow.st]; exact flw) fun b hb => ?_) (I.fpOk hT (I.hok.fresh hT)) at'
      simp only [List.mem_cons, List.not_mem_nil, or_false] at hb
      rcases hb with rfl | rfl
      · exact fx
      · exact fT
    · subst hfl
      unfold noteFrame
      simp only [ow.fr]
      refine wpAny_bind (wpAny_field a.get a.data a.tb ?_)
      rw [if_pos (show (Value.ref T != Value.none) = true from by simp)]
      refine wpAny_bind (wpAny_field a.getT a.dataT a.fl ?_)
      rw [if_pos (show (rawInt X.env.locals == rawInt X.env.locals) = true from by first | (simp; done) | exact beq_self_eq_true _)]
      exact wpAny_pure (h s.heap T oe oT vs ts I fT a)
theorem landX {T : Addr} {fl : Value} {oe oT : Obj} {vs ts : Array Value} (I : Inv X [] σ H s) (fT : FpOk X [] H T) (a : ExcAt s.heap x cls dx T fl oe oT vs ts)
    (h : ∀ h' oT' ts', Inv X [] σ H { s with heap := h' } → ExcAt h' x cls dx T .none oe oT' vs ts' → Q () { s with heap := h' }) : wpAny (model X.prog X.w) A (setFlight (.ref x) none) Q E s :=
  flightD a (frs X.stack) fun h' oT' ts' flw at' => h h' oT' ts' (I.fly flw fun b hb => by rw [List.mem_singleton.mp hb]; exact fT) at'
theorem backX {T : Addr} {fl : Value} {oe oT : Obj} {vs ts : Array Value} (ow : Own X) (I : Inv X [] σ H s) (fT : FpOk X [] H T) (a : ExcAt s.heap x cls dx T fl oe oT vs ts)
    (h : ∀ h' oT' ts', Inv X [] σ H { s with heap := h' } → ExcAt h' x cls dx T (rawInt X.env.locals) oe oT' vs ts' → Q () { s with heap := h' }) :
    wpAny (model X.prog X.w) A (do if (← field (.ref x) 1) == .none then unsupported "frame.own-activation:exception-without-traceback"
                                   setFlight (.ref x) X.env.frame) Q E s := by
  refine wpAny_bind (wpAny_field a.get a.data a.tb ?_)
  rw [if_neg (show ¬ ((Value.ref T == Value.none) = true) from by simp)]
  unfold setFlight
  refine wpAny_bind (wpAny_field a.get a.data a.tb ?_)
  rw [if_pos (show (Value.ref T != Value.none) = true from by simp), ow.fr]
  have hsz : 3 < ts.size := (Array.getElem?_eq_some_iff.mp a.fl).1
  have d3 := Obj.data_mapFields a.dataT (·.setIfInBounds 3 (rawInt X.env.locals))
  have oth : ∀ b, b ≠ T → (s.heap.update T (Obj.mapFields (·.setIfInBounds 3 (rawInt X.env.locals)))).get? b = s.heap.get? b := fun b hb => Heap.get?_update_other _ _ (Ne.symm hb)
  refine wpAny_setField a.getT a.dataT hsz (h _ _ _ (I.fly (ch := [T]) ⟨fun b o _ hc q => (oth b (by simpa using hc)).trans q, fun b o hc q => ⟨o.slots, (oth b (by simpa using hc)).trans q⟩, Nat.le_of_eq (Heap.SameBut.update (a := T) s.heap _).1.symm⟩ fun b hb => by rw [List.mem_singleton.mp hb]; exact fT)
    ⟨(oth x (Ne.symm a.ne)).trans a.get, a.cls, a.dict, a.data, a.tb, a.ne, Heap.get?_update_self _ a.getT (Obj.isFreed_of_fields d3), d3, by simp [hsz]⟩)
theorem Wx.passesOwn {EX : XS} (ow : Own X) : PassesOwn (model X.prog X.w) X.A X.env (Wx X EX) := by
  intro e s' ⟨x, cls, dx, H, σ, he, I, fx, f, hE⟩
  subst he
  refine noteX ow I.ok.frames I fx f fun h1 T oe oT vs ts I1 fT a1 => ?_
  refine backX ow I1 fT a1 fun h2 oT' ts' I2 a2 => ?_
  exact ⟨x, cls, dx, H, σ, rfl, I2, fx, .inr ⟨T, _, oe, oT', vs, ts', fT, a2⟩, hE⟩
end
section
variable {P : Program} {w : World} {K : PySem.W.Frag} {mg : Str → Option Value} {base : Heap} {N : List Str} {qual : Str} {scope : Scope} {f : Addr} {cd : Value} {A : Around} {outer : List Env} {s₀ : Shared} {H₀ : Hp} {E : XK}
theorem own_cx {CX : CXT} : Own (cxOf CX P w K mg base N qual scope f cd A outer s₀ H₀ E) := ⟨rfl, rfl, rfl⟩
theorem Wx.leaves {e : Value} {s : Shared} (h : Wx (cxOf (CXE P w) P w K mg base N qual scope f cd A outer s₀ H₀ E) (fun _ => E) e s) : (cxOf (CXE P w) P w K mg base N qual scope f cd A outer s₀ H₀ E).xe e s := by
  obtain ⟨x, cls, dx, H, σ, he, I, fx, fly, hE⟩ := h
  subst he
  have ow : Own (cxOf (CXE P w) P w K mg base N qual scope f cd A outer s₀ H₀ E) := own_cx
  show wpAny _ _ (leaving _ _) _ _ _
  unfold leaving
  refine wpAny_bind (noteX ow I.ok.frames I fx fly fun h1 T oe oT vs ts I1 fT a1 => ?_)
  refine flightD (s := { s with heap := h1 }) a1 (frs (cxOf (CXE P w) P w K mg base N qual scope f cd A outer s₀ H₀ E).stack) fun h2 oT' ts' flw a2 => ?_
  have hch : ∀ b ∈ [T], FpOk (cxOf (CXE P w) P w K mg base N qual scope f cd A outer s₀ H₀ E) [] H b := fun b hb => by rw [List.mem_singleton.mp hb]; exact fT
  refine ⟨x, cls, dx, H, rfl, ⟨I1.os, I1.bare, I1.unFlew rfl rfl rfl flw (fun b hb => (hch b hb).old rfl), I1.flew (g := s.gens) flw (fun b hb => (hch b hb).1), fx.1, fx.old rfl, T, oe, oT', vs, ts', fT.1, fT.old rfl, a2⟩, hE⟩
end
abbrev Cx.thrown (X : Cx) (E : XS) : Cx := X.wish (Wx X E)
theorem Fun.okX {P : Program} {w : World} {K : PySem.W.Frag} {mg : Str → Option Value} {base : Heap} {x qual : Str} {st : Stmt} {f : Addr} {fd : FuncData} {N ps : List Str} {k : Nat} {sp : Sp} (F : Fun K x qual st f fd) (S : FnScope N ps (defScope st)) (len : ∀ vs H Q E, sp vs H Q E → vs.length = ps.length)
    (hbody : ∀ (cdv : Value) (A : Around) (outer : List Env) (s : Shared) (H : Hp) (vs : List V) (Q : VK) (E : XK), Room k (A.deeper (envOfC qual (defScope st) s.heap.objs.size f cdv)) → sp vs H Q E →
      ∃ t, PSs ((cxOf (CXE P w) P w K mg base N qual (defScope st) f cdv A outer s H E).thrown fun _ => E) (defBody st) t ∧ t { nx := fun _ H' => Q .non H', rt := Q } (start N vs) H) :
    FnOk P w K mg base (CXE P w) (k + 1) f fd ps sp := by
  refine F.okE S len fun cdv A outer s H vs Q E hr hsp => ?_
  obtain ⟨t, h, q⟩ := hbody cdv A outer s H vs Q E hr hsp
  refine ⟨t, fun pins s' σ' H' D I hw => ?_, q⟩
  exact wpAny_mono (h pins s' σ' H' D (I.wish _) hw) (fun _ _ z => z.unwish) fun e s2 z => z.leaves
theorem Wx.passes {X : Cx} {EX : XS} {pins : List (Addr × Obj)} {σ : St} {H : Hp} {s s' : Shared} {e : Value} (I : Inv X pins σ H s) (h : CXE X.prog X.w X.stack H s (EX σ) e s') : Wx X EX e s' := by
  obtain ⟨x, cls, dx, H', he, O, hE⟩ := h
  obtain ⟨T, oe, oT, vs, ts, hT, zT, a⟩ := O.fly
  have I0 := I.pins_of (pins' := []) (fun p hp => nomatch hp)
  have I' := I0.call' (ch := []) O.os O.un O.hok O.bare (fun b z => nomatch z)
  exact ⟨x, cls, dx, H', σ, he, I', I0.fpOk O.nx O.hx, .inr ⟨T, _, oe, oT, vs, ts, I0.fpOk zT hT, a⟩, hE⟩
def tCallE (sp : Sp) (dvs : List V) (EX : XS) (t : TA) : TE := fun σ H Q => t σ H fun vs H1 => sp (vs ++ dvs) H1 Q (EX σ)
section
variable {X : Cx} {EX : XS} {k : Nat} {f C : Addr} {fd : FuncData} {ps : List Str} {sp : Sp} {dvs : List V} {ds : List Value} {x m : Str} {p pos apos : Pos} {e o : Expr} {es : List Expr} {ta : TE} {t : TA}
theorem run_fnE {pins : List (Addr × Obj)} {σ : St} {H : Hp} {s : Shared} {Q : VK} {us : List Value} {vs : List V} (F : FnOk X.prog X.w X.K X.mg X.base (CXE X.prog X.w) k f fd ps sp) (hr : Room k X.A) (hb : Binds X.K fd ps ds) (hd : Vals dvs ds)
    (I : Inv (X.thrown EX) pins σ H s) (r : Vals vs us) (h : sp (vs ++ dvs) H Q (EX σ)) : wpAny (model X.prog X.w) X.A (call (.ref f) us) (EP (X.thrown EX) pins σ Q) (Wx X EX) s := by
  have r2 : Vals (vs ++ dvs) (us ++ ds) := r.append hd
  have hl : (us ++ ds).length = ps.length := by rw [← r2.length]; exact F.len _ _ _ _ h
  refine wpAny_call (codeAny_mono (F.run X.A X.stack s H ⟨us, []⟩ (us ++ ds) (vs ++ dvs) Q (EX σ) hr I.env0 (hb s us I.kIn hl) r2 h) fun r s' hq => ?_)
  cases r with
  | error e => exact Wx.passes I.unwish hq
  | ok fl =>
    cases fl with
    | ret u => exact I.after hq
    | next => exact False.elim hq
    | brk => exact False.elim hq
    | cont => exact False.elim hq
theorem pe_callE (F : FnOk X.prog X.w X.K X.mg X.base (CXE X.prog X.w) k f fd ps sp) (hr : Room k X.A) (hg : Gl X x) (hm : X.mg x = some (.ref f)) (hk : PySem.W.keepIn X.K (.ref f) = true) (hb : Binds X.K fd ps ds) (hd : Vals dvs ds)
    (ha : PA (X.thrown EX) (e :: es) t) (hdb : (x == ("__debug__" : Str)) = false := by decide) (he : starEach (e :: es) X.env = (false, eval e X.env) :: starEach es X.env := by rfl) (hpl : (backTo pos (starEach es X.env)).any (·.1) = false := by rfl) :
    PE (X.thrown EX) (.Call (.Name x p) (e :: es) [] pos) (tCallE sp dvs EX t) := by
  intro pins s σ H Q I h
  refine wpAny_Call_Name_kw (ld_glob I hg hm ?_ hdb)
  refine PySem.W.callWith_K (h₀ := X.base) I.ok.mod.kin hk (thn (ha pos pins s σ H _ I h) fun us s1 ⟨vs, H1, I1, r, q⟩ => ⟨I1.kIn, ?_⟩) he hpl
  exact run_fnE F hr hb hd I1 r q
end
end L2
namespace L2
open PySem PySem.Spec PyProof.Rows PySem.W
abbrev vMro : List Value := [.type "ValueError", .type "Exception", .type "BaseException", .type "object"]
abbrev excD (C : Addr) (dx : Option Addr) (t : Addr) : Obj := { cls := .ref C, dict := dx, data := .fields #[.ref t, .none, .none, .none, .bool false, .none] }
def keysStr (es : List DictEntry) : Bool := es.all fun e => match e.key with | .str _ _ => true | _ => false
theorem ns_of {K : PySem.W.Frag} {h : Heap} {N : Addr} {oc : Value} {od : Option Addr} {es : Array DictEntry} {ep : Nat} {sl : Array (Option Value)} (X : K.In h) (l : K.lookup N = some ⟨oc, od, .dict es ep, sl⟩) (k : keysStr es.toList = true) : h.Ns N (fun x => nsFind es x) :=
  ⟨_, es, ep, X N _ l, rfl, fun e he => by
    unfold keysStr at k
    rw [List.all_eq_true] at k
    have q := k e (Array.mem_toList_iff.mpr he)
    cases hk : e.key with
    | str n t => exact ⟨n, t, rfl⟩
    | _ => rw [hk] at q; exact absurd q Bool.false_ne_true, fun _ => rfl⟩
structure ExcC (K : PySem.W.Frag) (C : Addr) (bm : List Value) : Prop where
  obj : ∃ nm q N bs hdct sn sub ab col dd k0 k1 k2 k3 k5, K.lookup C = some (excClassObj nm q C N bs bm hdct sn sub ab col dd k0 k1 k2 k3 k5 "ValueError.__new__")
  tail : ∀ h, K.In h → OwnTail h vMro bm
  kp : PySem.W.keepIn K (.ref C) = true
section
variable {prog : Program} {w : World} {A : Around} {R : Result → Shared → Prop} {E : Value → Shared → Prop} {s : Shared} {K : PySem.W.Frag} {C : Addr} {bm : List Value}
theorem initV_bind (self : Value) : bindSpecial (.builtin "ValueError.__init__") self = pure (.builtin "ValueError.__init__", [self]) := PySem.F.excBase_ValueError.init.bind self
theorem excMake0 (X : K.In s.heap) (c : ExcC K C bm) (hi : PySem.W.findIn K (.ref C) "__init__" = some (some (.builtin "ValueError.__init__"))) {rest : List Value} (hrest : rest.length ≤ sizeLine) {Q : Value → Shared → Prop}
    (h : ∀ h' t, (∀ b o, s.heap.get? b = some o → h'.get? b = some o) → h'.get? (s.heap.objs.size + 1) = some (excD C none t) → Q (.ref (s.heap.objs.size + 1)) { s with heap := h' }) :
    wpAny (model prog w) A (call (.ref C) rest) Q E s := by
  obtain ⟨nm, q, N, bs, hdct, sn, sub, ab, col, dd, k0, k1, k2, k3, k5, lk⟩ := c.obj
  obtain ⟨hh, g, d, t, os⟩ := s
  have hC := X C _ lk
  have F := PySem.F.excBase_ValueError
  have T := c.tail _ X
  have f1 := tc_lookup
  have f2 := tc_bind (.ref C)
  have hT : (⟨hh, g, d, t, os⟩ : Shared).TypeIs (.ref C) "type" := ⟨_, hC, rfl⟩
  refine wpAny_call (codeAny_of_tree ?_)
  show wpAny _ _ (callAny (.ref C) _) _ _ _
  repeat (any_goals (first | assumption | with_reducible refine wpAny_loadPart_at hC ?_ | wp_step))
  refine ⟨rfl, codeAny_call_builtin_at (Code.quiet_builtin _ (by decide +kernel)) entry_typeCall (wpAny_check_type_call_sub hC ?_)⟩
  repeat (first | with_reducible refine wpAny_loadPart_at hC ?_ | with_reducible refine wpAny_madeBy_exc hC ?_ | wp_step)
  refine codeAny_call_builtin_code (Code.quiet_builtin _ F.quiet) (wpAny_check_new_subU F (by decide +kernel) T hC (codeAny_exc_new_subU F (by decide +kernel) F T hC ?_ hrest))
  show wpAny _ _ _ _ _ _
  have k : ∀ b o, hh.get? b = some o → ((hh.push (tupObj rest)).push (excObj C hh.objs.size)).get? b = some o := fun b o e => Heap.get?_push_of_some _ (Heap.get?_push_of_some _ e)
  have hx : ((hh.push (tupObj rest)).push (excObj C hh.objs.size)).get? (hh.objs.size + 1) = some (excObj C hh.objs.size) := by heap_get
  have c1 := k _ _ hC
  have hcC : (Value.ref C :: bm).contains (.ref C) = true := by simp
  have i1 := (PySem.W.looks_findIn (M := model prog w) X hi).keeps k
  have b1 : PySem.W.Looks (model prog w) ((hh.push (tupObj rest)).push (excObj C hh.objs.size)) (bindSpecial (.builtin "ValueError.__init__") (.ref (hh.objs.size + 1))) (.builtin "ValueError.__init__", [.ref (hh.objs.size + 1)]) := .of_pure (initV_bind _)
  have t1 : PySem.W.Looks (model prog w) ((hh.push (tupObj rest)).push (excObj C hh.objs.size)) (typeOf (.ref (hh.objs.size + 1))) (.ref C) := (PySem.W.Looks.ld hx).andThen .now
  have t2 : PySem.W.Looks (model prog w) ((hh.push (tupObj rest)).push (excObj C hh.objs.size)) (isSubtype (.ref C) (.ref C)) true := fun A' Q' E' s' k' q' => by
    obtain ⟨h', g', d', tk', os'⟩ := s'
    refine wpAny_isSubtype_exc (k' _ _ c1) ?_
    rw [hcC]
    exact q'
  show wpAny (model prog w) _ (isInstance (.ref (hh.objs.size + 1)) (.ref C) >>= _) _ _ ⟨(hh.push (tupObj rest)).push (excObj C hh.objs.size), g, d, t, os⟩
  unfold isInstance callSpecial? specialOf
  repeat (first | with_reducible refine wpAny_call ?_ | lk)
  refine codeAny_call_builtin F.init.plain F.initEntry (wpAny_check_init_subU F (T.keeps k) c1 hx rfl ?_)
  wp_walk
  refine h _ ((hh.push (tupObj rest)).push (excObj C hh.objs.size)).objs.size (fun b o e => ?_) ?_
  · show (Heap.update _ _ _).get? b = _
    rw [Heap.get?_update_other _ _ (Nat.ne_of_gt (Nat.lt_succ_of_lt (Heap.lt_size (h := hh) e)))]
    exact Heap.get?_push_of_some _ (k b o e)
  · show (Heap.update _ _ _).get? _ = _
    rw [Heap.get?_update_self _ (Heap.get?_push_of_some _ hx) rfl]
    rfl
end
section
variable {M : Model} {A : Around} {E : Value → Shared → Prop} {s : Shared} {env : Env} {K : PySem.W.Frag} {C : Addr} {bm : List Value}
theorem raiseD {x : Sem Value} {Q : Flow → Shared → Prop} (c : ExcC K C bm) (hbase : bm.contains (.type "BaseException") = true) (hh : A.handled = none)
    (h : wpAny M A x (fun v s₁ => ∃ e dx t, v = .ref e ∧ K.In s₁.heap ∧ s₁.heap.get? e = some (excD C dx t) ∧ E (.ref e) s₁) E s) : wpAny M A (raiseStmt env (some x) none) Q E s := by
  obtain ⟨nm, q, N, bs, hdct, sn, sub, ab, col, dd, k0, k1, k2, k3, k5, lk⟩ := c.obj
  have hcB : (Value.ref C :: bm).contains (.type "BaseException") = true := by rw [List.contains_cons, hbase, Bool.or_true]
  unfold raiseStmt
  refine wpAny_bind (wpAny_mono h (fun v s₁ h₁ => ?_) fun _ _ x => x)
  obtain ⟨e, dx, t, rfl, X, he, hE⟩ := h₁
  have hC := X C _ lk
  obtain ⟨hp, g, d, tk, os⟩ := s₁
  repeat (first | with_reducible refine wpAny_loadPart_at he ?_ | with_reducible refine wpAny_loadPart_at hC ?_ | (with_reducible refine wpAny_isSubtype_exc hC ?_; rw [hcB]) | wp_step)
  exact wpAny_raiseNew_none hh hE
end
section
variable {X : Cx} {EX : XS} {C : Addr} {bm : List Value} {x : Str} {p pos cpos : Pos} {e : Expr} {es : List Expr} {t : TA}
def tRaise (C : Addr) (EX : XS) (t : TA) : TS := fun _ σ H => t σ H fun vs H1 => vs.length ≤ sizeLine ∧ EX σ (.ref C) none H1
theorem raise_core (c : ExcC X.K C bm) (hbase : bm.contains (.type "BaseException") = true) (hi : PySem.W.findIn X.K (.ref C) "__init__" = some (some (.builtin "ValueError.__init__")))
    {pins : List (Addr × Obj)} {σ : St} {H : Hp} {s : Shared} {us : List Value} (I : Inv X pins σ H s) (hz : us.length ≤ sizeLine) (hE : EX σ (.ref C) none H) :
    wpAny (model X.prog X.w) X.A (call (.ref C) us) (fun v s₁ => ∃ e dx t, v = .ref e ∧ X.K.In s₁.heap ∧ s₁.heap.get? e = some (excD C dx t) ∧ Wx X EX (.ref e) s₁) (Wx X EX) s := by
  refine excMake0 I.kIn c hi hz fun h' t k g => ?_
  have I0 := I.pins_of (pins' := []) (fun p hp => nomatch hp)
  have I1 : Inv X [] σ H { s with heap := h' } := I0.kept (t' := s.toks) k
  have le : s.heap.objs.size ≤ s.heap.objs.size + 1 := Nat.le_succ _
  exact ⟨_, none, t, rfl, I1.kIn, g, _, _, none, H, σ, rfl, I1, I0.fpOk le (I0.hok.fresh le), .inl ⟨_, _, ⟨g, rfl, rfl, rfl, rfl⟩⟩, hE⟩
theorem ps_raise (hcalm : X.calm = true) (c : ExcC X.K C bm) (hbase : bm.contains (.type "BaseException") = true) (hi : PySem.W.findIn X.K (.ref C) "__init__" = some (some (.builtin "ValueError.__init__"))) (hg : Gl X x) (hm : X.mg x = some (.ref C)) (ha : PA (X.thrown EX) (e :: es) t)
    (hdb : (x == ("__debug__" : Str)) = false := by decide) (he : starEach (e :: es) X.env = (false, eval e X.env) :: starEach es X.env := by rfl) (hpl : (backTo cpos (starEach es X.env)).any (·.1) = false := by rfl) :
    PS (X.thrown EX) (.Raise (some (.Call (.Name x p) (e :: es) [] cpos)) none pos) (tRaise C EX t) := by
  intro pins s σ H D I h
  rw [arm_exec_Raise]
  refine wpAny_bind (wpAny_standAt ?_)
  show wpAny _ _ (raiseStmt _ (some (do let v ← eval (.Call (.Name x p) (e :: es) [] cpos) X.env; standAt pos; pure v)) none) _ _ _
  refine raiseD c hbase (I.ok.hd hcalm) (wpAny_bind (thn ?_ fun v s1 z => wpAny_bind (wpAny_standAt (wpAny_pure z))))
  refine wpAny_Call_Name_kw (ld_glob I hg hm ?_ hdb)
  refine PySem.W.callWith_K (h₀ := X.base) I.ok.mod.kin c.kp (thn (ha cpos pins s σ H _ I h) fun us s1 ⟨vs, H1, I1, r, z, hE⟩ => ⟨I1.kIn, ?_⟩) he hpl
  exact raise_core (us := us) c hbase hi I1.unwish (by rw [← r.length]; exact z) hE
end
end L2
namespace L2
open PySem PySem.Spec PyProof.Rows
abbrev Cx.pinned (X : Cx) (pins : List (Addr × Obj)) : Cx := { X with pn := pins }
section
variable {X : Cx} {pins : List (Addr × Obj)} {σ : St} {H : Hp} {s : Shared}
theorem Inv.intoPn (I : Inv X pins σ H s) : Inv (X.pinned (X.pn ++ pins)) [] σ H s :=
  ⟨⟨I.ok.mod, I.ok.kind, I.ok.glob, I.ok.blt, I.ok.above, I.ok.inj, I.ok.has, I.ok.cab, I.ok.hd, I.ok.frames, I.ok.stk, I.ok.exf, I.ok.bs, I.ok.bsz, I.ok.noex, I.ok.exfs, I.ok.funs, I.ok.frf⟩, I.os, I.bare, I.base, I.loc, I.cell, I.free, I.freeC, fun p hp => I.pin p (by rw [List.append_nil] at hp; exact hp), I.hok, I.len⟩
theorem Inv.outPn (I : Inv (X.pinned (X.pn ++ pins)) [] σ H s) : Inv X pins σ H s :=
  ⟨⟨I.ok.mod, I.ok.kind, I.ok.glob, I.ok.blt, I.ok.above, I.ok.inj, I.ok.has, I.ok.cab, I.ok.hd, I.ok.frames, I.ok.stk, I.ok.exf, I.ok.bs, I.ok.bsz, I.ok.noex, I.ok.exfs, I.ok.funs, I.ok.frf⟩, I.os, I.bare, I.base, I.loc, I.cell, I.free, I.freeC, fun p hp => I.pin p (by rw [List.append_nil]; exact hp), I.hok, I.len⟩
theorem FpOk.outPn {b : Addr} (f : FpOk (X.pinned (X.pn ++ pins)) [] H b) : FpOk X [] H b :=
  ⟨f.1, f.2.1, f.2.2.1, f.2.2.2.1, f.2.2.2.2.1, fun p hp => f.2.2.2.2.2 p (by rw [List.append_nil] at hp ⊢; exact List.mem_append_left _ hp)⟩
theorem Wx.outPn {EX : XS} {e : Value} (h : Wx (X.pinned (X.pn ++ pins)) EX e s) : Wx X EX e s := by
  obtain ⟨x, cls, dx, H, σ, he, I, fx, f, hE⟩ := h
  refine ⟨x, cls, dx, H, σ, he, I.outPn.pins_of (fun p hp => nomatch hp), fx.outPn, ?_, hE⟩
  rcases f with f | ⟨T, fl, oe, oT, vs, ts, fT, r⟩
  · exact .inl f
  · exact .inr ⟨T, fl, oe, oT, vs, ts, fT.outPn, r⟩
theorem SP.outPn {D : Ends} {f : Flow} (h : SP (X.pinned (X.pn ++ pins)) [] D f s) : SP X pins D f s := by
  cases f with
  | next => obtain ⟨σ', H', I, q⟩ := h; exact ⟨σ', H', I.outPn, q⟩
  | brk => obtain ⟨σ', H', I, q⟩ := h; exact ⟨σ', H', I.outPn, q⟩
  | cont => obtain ⟨σ', H', I, q⟩ := h; exact ⟨σ', H', I.outPn, q⟩
  | ret u => obtain ⟨v, σ', H', I, r, q⟩ := h; exact ⟨v, σ', H', I.outPn, r, q⟩
end
section
variable {X : Cx} {σ : St} {H : Hp} {s : Shared} {x : Addr} {oe : Obj}
end
def PH (X : Cx) (hs : List ExceptHandler) (EX : XS) (th : Ends → XS) : Prop :=
  ∀ (σ : St) (H : Hp) (s : Shared) (x : Addr) (cls : Value) (dx : Option Addr) (T : Addr) (oe oT : Obj) (vs ts : Array Value) (D : Ends), Inv X [] σ H s → FpOk X [] H x → FpOk X [] H T → ExcAt s.heap x cls dx T .none oe oT vs ts → th D σ cls dx H →
    wpAny (model X.prog X.w) X.A (handleBy (.ref x) X.env hs) (SP X [] D) (Wx X EX) s
section
variable {X : Cx} {EX : XS} {th : Ends → XS} {hs : List ExceptHandler} {C : Addr} {c : Str} {np pos : Pos} {b₀ : Stmt} {suite : List Stmt} {ts' : Addr → Obj → TS}
theorem ph_nil (ow : Own X) : PH X [] EX (fun _ => EX) := by
  intro σ H s x cls dx T oe oT vs ts D I fx fT a hE
  refine wpAny_handleBy_nil ?_
  unfold PySem.passOn
  refine wpAny_bind (wpAny_field a.get a.data a.tb ?_)
  rw [if_neg (show ¬ ((Value.ref T == Value.none) = true) from by simp)]
  unfold setFlight
  refine wpAny_bind (wpAny_bind (wpAny_field a.get a.data a.tb ?_))
  rw [if_pos (show (Value.ref T != Value.none) = true from by simp), ow.fr]
  have hsz : 3 < ts.size := (Array.getElem?_eq_some_iff.mp a.fl).1
  have d3 := Obj.data_mapFields a.dataT (·.setIfInBounds 3 (rawInt X.env.locals))
  have oth : ∀ b, b ≠ T → (s.heap.update T (Obj.mapFields (·.setIfInBounds 3 (rawInt X.env.locals)))).get? b = s.heap.get? b := fun b hb => Heap.get?_update_other _ _ (Ne.symm hb)
  refine wpAny_setField a.getT a.dataT hsz (wpAny_throw ⟨x, cls, dx, H, σ, rfl, I.fly (ch := [T]) ⟨fun b o _ hc q => (oth b (by simpa using hc)).trans q, fun b o hc q => ⟨o.slots, (oth b (by simpa using hc)).trans q⟩, Nat.le_of_eq (Heap.SameBut.update (a := T) s.heap _).1.symm⟩ (fun b hb => by rw [List.mem_singleton.mp hb]; exact fT), fx,
    .inr ⟨T, rawInt X.env.locals, oe, _, vs, _, fT, ⟨(oth x (Ne.symm a.ne)).trans a.get, a.cls, a.dict, a.data, a.tb, a.ne, Heap.get?_update_self _ a.getT (Obj.isFreed_of_fields d3), d3, by simp [hsz]⟩⟩, hE⟩)
end
def tTry (tb : XS → TS) (th : Ends → XS) : TS := fun D σ H => tb (fun σ' cls dx H' => th D σ' cls dx H') D σ H
theorem ps_try {X : Cx} {W : Value → Shared → Prop} {EX : XS} {body : List Stmt} {h₀ : ExceptHandler} {hs : List ExceptHandler} {pos : Pos} {tb : XS → TS} {th : Ends → XS} (ow : Own X) (hW : ∀ e s, Wx X EX e s → W e s)
    (hb : ∀ pn EX1, PSs ((X.pinned pn).thrown EX1) body (tb EX1)) (hh : ∀ pn, PH (X.pinned pn) (h₀ :: hs) EX th) : PS (X.wish W) (.Try body (h₀ :: hs) [] [] pos) (tTry tb th) := by
  intro pins s σ H D I h
  have Ip := I.unwish.intoPn
  have owp : Own (X.pinned (X.pn ++ pins)) := ⟨ow.ex, ow.st, ow.fr⟩
  refine wpAny_Try_except (wpAny_mono (hb (X.pn ++ pins) _ [] s σ H D (Ip.wish _) h) (fun f s1 q => ?_) fun e s1 z => ?_)
  · have q' := q.unwish.outPn
    cases f with
    | next =>
      obtain ⟨σ', H', J, q⟩ := q'
      exact wpAny_execs_nil ⟨σ', H', J.wish _, q⟩
    | brk => obtain ⟨σ', H', J, q⟩ := q'; exact ⟨σ', H', J.wish _, q⟩
    | cont => obtain ⟨σ', H', J, q⟩ := q'; exact ⟨σ', H', J.wish _, q⟩
    | ret u => obtain ⟨v, σ', H', J, r, q⟩ := q'; exact ⟨v, σ', H', J.wish _, r, q⟩
  · obtain ⟨x, cls, dx, H1, σ1, he, I1, fx, fly, hE⟩ := z
    subst he
    refine noteX (X := X.pinned (X.pn ++ pins)) owp I1.ok.frames I1 fx fly fun h1 T oe oT vs ts I2 fT a1 => ?_
    refine landX (X := X.pinned (X.pn ++ pins)) (A := X.A) I2 fT a1 fun h2 oT2 ts2 I3 a2 => ?_
    refine wpAny_mono (hh (X.pn ++ pins) σ1 H1 _ x cls dx T oe oT2 vs ts2 D I3 fx fT a2 hE) (fun f s2 q => ?_) fun e s2 z => hW e s2 z.outPn
    have q' := q.outPn
    cases f with
    | next => obtain ⟨σ', H', J, q⟩ := q'; exact ⟨σ', H', J.wish _, q⟩
    | brk => obtain ⟨σ', H', J, q⟩ := q'; exact ⟨σ', H', J.wish _, q⟩
    | cont => obtain ⟨σ', H', J, q⟩ := q'; exact ⟨σ', H', J.wish _, q⟩
    | ret u => obtain ⟨v, σ', H', J, r, q⟩ := q'; exact ⟨v, σ', H', J.wish _, r, q⟩
end L2
namespace L2
open PySem PySem.Spec PyProof.Rows PySem.W
def ExO (x C : Addr) (dx : Option Addr) : HO := .ext fun h => ∃ oe vs, h.get? x = some oe ∧ oe.cls = .ref C ∧ oe.dict = dx ∧ oe.data = .fields vs
theorem exO_ok {P : Program} {w : World} {H : Hp} {h : Heap} {x C : Addr} {dx : Option Addr} {oe : Obj} {vs : Array Value} (e : h.get? x = some oe) (c : oe.cls = .ref C) (d : oe.dict = dx) (f : oe.data = .fields vs) : ObjOk P w H h x (ExO x C dx) :=
  ⟨⟨oe, vs, e, c, d, f⟩, ⟨_, e⟩, fun h1 h2 ⟨o, v, a, r⟩ k => ⟨o, v, k _ a, r⟩⟩
theorem exO_at {P : Program} {w : World} {H : Hp} {h : Heap} {x C : Addr} {dx : Option Addr} (hok : HOk P w H h) (e : H x = some (ExO x C dx)) : ∃ oe vs, h.get? x = some oe ∧ oe.cls = .ref C ∧ oe.dict = dx ∧ oe.data = .fields vs := (hok x _ e).1
section
variable {prog : Program} {w : World} {A : Around} {E : Value → Shared → Prop} {s : Shared} {K : PySem.W.Frag} {C x t : Addr} {bm : List Value} {name : Str} {v : Value}
end
section
variable {prog : Program} {w : World} {A : Around} {E : Value → Shared → Prop} {s : Shared} {K : PySem.W.Frag} {C x : Addr} {name : Str} {v : Value} {ox od : Obj} {expr : Bool}
end
section
variable {X : Cx} {o e value : Expr} {f : Str} {pos pos' : Pos} {ta tv : TE}
def clsV : Value → Option V
  | .ref a => some (.ref a)
  | .type n => some (.ty n)
  | _ => none
end
section
variable {X : Cx} {EX : XS} {C f : Addr} {bm : List Value} {fd : FuncData} {ps : List Str} {sp : Sp} {k : Nat} {x : Str} {p pos cpos : Pos} {e : Expr} {es : List Expr} {t : TA}
end
section
variable {X : Cx} {pins : List (Addr × Obj)} {σ : St} {H : Hp} {s : Shared} {M : Model} {A : Around} {E : Value → Shared → Prop}
theorem Inv.unname {i : Nat} {n : Str} {m : Str → Option Value} {v : Option Value} {h' : Heap} {t' : Nat} (I : Inv X pins σ H s) (hN : X.N.Nodup) (hi : X.N[i]? = some n) (hm : s.heap.Ns X.env.locals m) (hn' : h'.Ns X.env.locals (fun x => if x = n then v else m x)) (hs : Heap.SameBut X.env.locals s.heap h') :
    Inv X pins (σ.set i none) H { s with heap := h', toks := t' } := by
  obtain ⟨m0, hm0, hl⟩ := id I.loc
  have em : m0 = m := by
    obtain ⟨o1, es1, ep1, g1, d1, _, f1⟩ := hm0
    obtain ⟨o2, es2, ep2, g2, d2, _, f2⟩ := hm
    rw [g1] at g2
    cases g2
    rw [d1] at d2
    cases d2
    funext y
    rw [← f1 y, ← f2 y]
  subst em
  have hiσ : i < σ.length := by rw [I.len]; exact (List.getElem?_eq_some_iff.mp hi).1
  have cne := I.cne
  obtain ⟨oL, _, _, hoL, _⟩ := id hm
  have ab : ∀ {b o}, X.s₀.heap.get? b = some o → b ≠ X.env.locals := fun {b o} e => Nat.ne_of_lt (Nat.lt_of_lt_of_le (Heap.lt_size e) I.ok.above)
  refine ⟨I.ok, I.os, I.bare, ⟨fun b o e n' hb hx => (hs.2 b (ab e)).trans (I.base.keep b o e n' hb hx), fun b o e n' hb hx => ?_, I.base.free, fun b o e hx => ?_, I.base.tups, I.base.frzs, I.base.tbls⟩, ⟨_, hn', fun j y v' e1 e2 e3 => ?_⟩, fun y c e => ?_, I.free, I.freeC, fun p hp => ?_, fun b ob e => ?_, by simpa using I.len⟩
  · obtain ⟨sl, e1⟩ := I.base.slot b o e n' hb hx
    exact ⟨sl, (hs.2 b (ab e)).trans e1⟩
  · obtain ⟨o', e1⟩ := I.base.there b o e hx
    exact ⟨o', (hs.2 b (ab e)).trans e1⟩
  · by_cases hj : j = i
    · subst hj
      rw [List.getElem?_set_self hiσ] at e2
      cases e2
    · rw [List.getElem?_set_ne (Ne.symm hj)] at e2
      obtain ⟨u', r', q⟩ := hl j y v' e1 e2 e3
      refine ⟨u', r', ?_⟩
      rcases q with ⟨k, e⟩ | ⟨k, c, e, z⟩
      · refine .inl ⟨k, ?_⟩
        have ne : y ≠ n := fun e => hj (nodup_ix hN e1 (e ▸ hi))
        show (if y = n then v else m0 y) = some u'
        rw [if_neg ne]
        exact e
      · exact .inr ⟨k, c, e, z.sameBut hs (cne y c e)⟩
  · obtain ⟨w', z⟩ := I.cell y c e
    exact ⟨w', z.sameBut hs (cne y c e)⟩
  · obtain ⟨e, n', ne, nf, d⟩ := I.pin p hp
    exact ⟨(hs.2 p.1 ne).trans e, n', ne, nf, d⟩
  · refine (I.hok b ob e).stay (fun c w' hc q => (hs.2 c ?_).trans q) (fun _ q => q) fun _ _ q => q
    rintro rfl
    rcases hc with rfl | hc
    · rw [I.free] at e; cases e
    · rw [I.free] at hc; cases hc
theorem unbind_ok {i : Nat} {n : Str} {pos : Pos} {Q : Unit → Shared → Prop} (I : Inv X pins σ H s) (hN : X.N.Nodup) (hi : X.N[i]? = some n) (hl : X.env.scope.names.lookup n = some .local)
    (h : ∀ s', Inv X pins (σ.set i none) H s' → Q () s') : wpAny M A (do bindName X.env n .none; unbindBehindTheSuite X.env n pos) Q E s := by
  have hk : X.env.kindOf n = some .local := hl
  have hp : (X.env.scope.kind == .class || (X.env.scope.kind == .module && X.env.locals != X.env.globals)) = false := by rw [I.ok.kind]; rfl
  obtain ⟨m, hm, _⟩ := id I.loc
  refine wpAny_bind (wpAny_bindName (wpAny_storeName_local hk hm (fun h₁ hn₁ hs₁ => ?_) hp))
  unfold unbindBehindTheSuite
  refine wpAny_onRaise ?_
  unfold unbindName
  refine wpAny_bind (wpAny_point (wpAny_bind ?_))
  unfold deleteName
  simp only [hk, hp]
  rw [if_neg (by decide)]
  refine wpAny_bind (wpAny_nsDel_keeps hn₁ fun h₂ v hn₂ hs₂ => ?_)
  simp only [if_true, Option.isSome_some, Bool.not_true, Bool.false_eq_true, if_false]
  refine wpAny_pure (wpAny_point (h _ (I.unname hN hi hm (v := v) (h' := h₂) ?_ (hs₁.trans hs₂))))
  have e : (fun x => if x = n then v else (if x = n then some Value.none else m x)) = fun x => if x = n then v else m x := by
    funext y
    by_cases hy : y = n
    · rw [if_pos hy, if_pos hy]
    · rw [if_neg hy, if_neg hy, if_neg hy]
  rw [← e]
  exact hn₂
end
def unb (i : Nat) (D : Ends) : Ends := { nx := fun σ H => D.nx (σ.set i none) H, bk := fun σ H => D.bk (σ.set i none) H, ct := fun σ H => D.ct (σ.set i none) H, rt := D.rt }
def cxCaught (X : Cx) (x : Addr) : Cx := { X with A := X.A.mark (some (.ref x)), calm := false, xe := fun _ _ => False }
section
variable {X : Cx} {σ : St} {H : Hp} {s : Shared} {x : Addr}
theorem Inv.caught (I : Inv X [] σ H s) : Inv (cxCaught X x) [] σ H s :=
  ⟨⟨I.ok.mod, I.ok.kind, I.ok.glob, I.ok.blt, I.ok.above, I.ok.inj, I.ok.has, I.ok.cab, fun z => absurd z Bool.false_ne_true, I.ok.frames, I.ok.stk, I.ok.exf, I.ok.bs, I.ok.bsz, I.ok.noex, I.ok.exfs, I.ok.funs, I.ok.frf⟩, I.os, I.bare, I.base, I.loc, I.cell, I.free, I.freeC, I.pin, I.hok, I.len⟩
theorem Inv.uncaught (I : Inv (cxCaught X x) [] σ H s) (ok : X.Ok) : Inv X [] σ H s := ⟨ok, I.os, I.bare, I.base, I.loc, I.cell, I.free, I.freeC, I.pin, I.hok, I.len⟩
end
section
variable {X : Cx} {EX : XS} {th : Ends → XS} {hs : List ExceptHandler} {C : Addr} {c n : Str} {i : Nat} {np pos : Pos} {b₀ : Stmt} {suite : List Stmt} {tsu : TS}
theorem ph_as (ow : Own X) (hN : X.N.Nodup) (hi : X.N[i]? = some n) (hl : X.env.scope.names.lookup n = some .local) (hcls : Gl X c) (hm : X.mg c = some (.ref C)) (hsu : ∀ x, PSs (cxCaught X x) (b₀ :: suite) tsu) (hr : PH X hs EX th) (hdb : (c == ("__debug__" : Str)) = false := by decide) :
    PH X (.ExceptHandler (some (.Name c np)) (some n) (b₀ :: suite) pos :: hs) EX (fun D σ cls dx H => ∃ b, PySem.W.exmOne X.K cls (.ref C) = some b ∧ if b = true then ∃ C', cls = .ref C' ∧ ∀ x, H x = none → tsu (unb i D) (σ.set i (some (.ref x))) (upd H x (ExO x C' dx)) else th D σ cls dx H) := by
  intro σ H s x cls dx T oe oT vs ts D I fx fT a h
  obtain ⟨b, hb, h⟩ := h
  have dn : ∀ v, oe.data ≠ .cell v := fun v z => by rw [a.data] at z; cases z
  refine wpAny_handleBy_cons (codeAny_handlers_test ?_) (by intro q; cases q)
  refine ld_glob (X := cxCaught X x) I.caught hcls hm ?_ hdb
  have lt : PySem.W.Looks (model X.prog X.w) s.heap (typeOf (.ref x)) cls := by
    have q : PySem.W.Looks (model X.prog X.w) s.heap (typeOf (.ref x)) oe.cls := (PySem.W.Looks.ld a.get).andThen .now
    rw [a.cls] at q
    exact q
  obtain ⟨hh, g, d, tk, os⟩ := s
  refine (PySem.W.exm_one I.kIn lt hb).at ?_
  cases b with
  | false =>
    rw [if_neg Bool.false_ne_true] at h
    exact hr σ H _ x cls dx T oe oT vs ts D I fx fT a h
  | true =>
    rw [if_pos rfl] at h
    obtain ⟨C', rfl, h⟩ := h
    refine codeAny_handlers_suite_as ?_
    refine landX (A := X.A.mark (some (.ref x))) I fT a fun h1 oT1 ts1 I1 a1 => ?_
    have I2 := I1.adopt (D := x) (o := ExO x C' dx) fx.1 fx.2.1 (fx.old ow.ex) fx.2.2.2.2.1 fx.2.2.2.2.2 (exO_ok a1.get a1.cls a1.dict a1.data)
    refine store_ok (X := cxCaught X x) (v := .ref x) I2.caught hN hi (.inl hl) rfl (fun s3 I3 => ?_) (.inr hl)
    refine wpAny_mono (hsu x [] _ _ _ _ I3 (h x fx.1)) (fun f s4 q => ?_) (fun _ _ z => z.elim)
    cases f with
    | next =>
      obtain ⟨σ', H', J, q⟩ := q
      exact unbind_ok (J.uncaught I.ok) hN hi hl fun s5 I5 => ⟨_, H', I5, q⟩
    | brk =>
      obtain ⟨σ', H', J, q⟩ := q
      exact unbind_ok (J.uncaught I.ok) hN hi hl fun s5 I5 => ⟨_, H', I5, q⟩
    | cont =>
      obtain ⟨σ', H', J, q⟩ := q
      exact unbind_ok (J.uncaught I.ok) hN hi hl fun s5 I5 => ⟨_, H', I5, q⟩
    | ret u =>
      obtain ⟨v, σ', H', J, r, q⟩ := q
      exact unbind_ok (J.uncaught I.ok) hN hi hl fun s5 I5 => ⟨v, _, H', I5, r, q⟩
end
end L2
namespace L2
open PySem PySem.Spec PyProof.Rows PyProof.V PySem.SeqAt
mutual
inductive DV (K : PySem.W.Frag) (H : Hp) : V → PyData → Prop
  | non : DV K H .non .none
  | bl (b : Bool) : DV K H (.bl b) (.bool b)
  | int (i : Int) : DV K H (.int i) (.int i)
  | str (x : Str) : DV K H (.str x) (.str x)
  | lst {a : Addr} {xs : List V} {ds : List PyData} : SqL K H a xs → DVs K H xs ds → DV K H (.ref a) (.list ds)
  | tup {a : Addr} {xs : List V} {ds : List PyData} : SqT K H a xs → DVs K H xs ds → DV K H (.ref a) (.tuple ds)
inductive DVs (K : PySem.W.Frag) (H : Hp) : List V → List PyData → Prop
  | nil : DVs K H [] []
  | cons {x : V} {xs : List V} {d : PyData} {ds : List PyData} : DV K H x d → DVs K H xs ds → DVs K H (x :: xs) (d :: ds)
end
section
variable {X : Cx} {pins : List (Addr × Obj)} {σ : St} {H : Hp} {s : Shared}
mutual
theorem DV.reads (I : Inv X pins σ H s) : ∀ {v : V} {d : PyData} {u : Value}, DV X.K H v d → RelV v u → ∃ as, Reads s.heap u d as
  | _, _, _, .non, r => by cases r; exact ⟨_, .none⟩
  | _, _, _, .bl b, r => by cases r; exact ⟨_, .bool b⟩
  | _, _, _, .int i, r => by obtain ⟨t, rfl⟩ := r; exact ⟨_, .int i t⟩
  | _, _, _, .str x, r => by obtain ⟨t, rfl⟩ := r; exact ⟨_, .str x t⟩
  | _, _, _, .lst hq ds, r => by
    cases r
    obtain ⟨its, rv, p, _⟩ := I.list hq
    obtain ⟨as, ra⟩ := DVs.reads I ds rv
    obtain ⟨o, ho, hc, n, hd⟩ := p.isList
    exact ⟨_, Reads.list ho hc hd (by simpa using ra)⟩
  | _, _, _, .tup hq ds, r => by
    cases r
    obtain ⟨its, rv, p, _⟩ := I.tuple hq
    obtain ⟨as, ra⟩ := DVs.reads I ds rv
    obtain ⟨o, ho, hc, n, hd⟩ := p
    exact ⟨_, Reads.tuple ho hc hd (by simpa using ra)⟩
theorem DVs.reads (I : Inv X pins σ H s) : ∀ {vs : List V} {ds : List PyData} {us : List Value}, DVs X.K H vs ds → Vals vs us → ∃ as, ReadsAll s.heap us ds as
  | _, _, _, .nil, r => by cases r; exact ⟨_, .nil⟩
  | _, _, _, .cons d ds, r => by
    cases r with
    | cons r1 r2 =>
      obtain ⟨as, ra⟩ := DV.reads I d r1
      obtain ⟨bs, rb⟩ := DVs.reads I ds r2
      exact ⟨_, .cons ra rb⟩
end
end
def rDat (K : PySem.W.Frag) (neg : Bool) : R2 := fun x y H Q => ∃ d e, DV K H x d ∧ DV K H y e ∧ shaped d = true ∧ shaped e = true ∧ noMix d e = true ∧ Q (.bl (if neg then !same d e else same d e)) H
theorem op_eqD {X : Cx} (hu : X.A.units + 64 < cLine) : OpR X (compareOp .Eq) (rDat X.K false) := by
  intro pins s σ H x y v u Q I rx ry h
  obtain ⟨d, e, hd, he, sd, se, hm, q⟩ := h
  obtain ⟨as, ra⟩ := hd.reads I rx
  obtain ⟨bs, rb⟩ := he.reads I ry
  exact eq_dataH_same ra rb sd se hu hm ⟨.bl _, H, I, rfl, q⟩
theorem op_neD {X : Cx} (hu : X.A.units + 64 < cLine) : OpR X (compareOp .NotEq) (rDat X.K true) := by
  intro pins s σ H x y v u Q I rx ry h
  obtain ⟨d, e, hd, he, sd, se, hm, q⟩ := h
  obtain ⟨as, ra⟩ := hd.reads I rx
  obtain ⟨bs, rb⟩ := he.reads I ry
  exact ne_dataH_same ra rb sd se hu hm ⟨.bl _, H, I, rfl, q⟩
mutual
def plainD : PyData → Bool
  | .none | .bool _ | .int _ => true
  | .str x => PyData.strOk x
  | .list xs | .tuple xs => plainDs xs
  | .dict _ => false
def plainDs : List PyData → Bool
  | [] => true
  | x :: xs => plainD x && plainDs xs
end
mutual
theorem same_self : ∀ d : PyData, plainD d = true → same d d = true ∧ noMix d d = true ∧ d.canLay0 = true
  | .none, _ => by simp [same, noMix, PyData.canLay0]
  | .bool b, _ => by simp [same, noMix, PyData.canLay0]
  | .int b, _ => by simp [same, noMix, PyData.canLay0]
  | .str b, h => by simp only [plainD] at h; simp [same, noMix, PyData.canLay0, h]
  | .list xs, h => by
    simp only [plainD] at h
    obtain ⟨a, b, c⟩ := sames_self xs h
    simp [same, noMix, PyData.canLay0, a, b, c]
  | .tuple xs, h => by
    simp only [plainD] at h
    obtain ⟨a, b, c⟩ := sames_self xs h
    simp [same, noMix, PyData.canLay0, a, b, c]
  | .dict xs, h => by simp [plainD] at h
theorem sames_self : ∀ ds : List PyData, plainDs ds = true → sameAll ds ds = true ∧ noMixAll ds ds = true ∧ PyData.canLayAll0 ds = true
  | [], _ => by simp [sameAll, noMixAll, PyData.canLayAll0]
  | x :: xs, h => by
    simp only [plainDs, Bool.and_eq_true] at h
    obtain ⟨a, b, c⟩ := same_self x h.1
    obtain ⟨a', b', c'⟩ := sames_self xs h.2
    simp [sameAll, noMixAll, PyData.canLayAll0, a, b, c, a', b', c']
end
theorem shaped_of {d : PyData} (h : plainD d = true) (hd : d.depth ≤ 64) : shaped d = true := by
  show (d.canLay0 && decide (d.depth ≤ 64)) = true
  rw [(same_self d h).2.2, decide_eq_true hd]
  rfl
end L2
namespace L2
open PySem PySem.Spec PyProof.Rows
section
variable {prog : Program} {w : World} {A : Around} {E : Value → Shared → Prop} {s : Shared}
end
section
variable {X : Cx}
end
def SetSO (P : Program) (w : World) (a : Addr) (n : Nat) : HO := .ext fun h => ∃ S, h.SetOf (PySem.strKind P w) a S n
theorem setOf_at {P : Program} {w : World} {h h' : Heap} {a : Addr} {S : Str → Bool} {n : Nat} (e : h.SetOf (PySem.strKind P w) a S n) (k : ∀ o, h.get? a = some o → h'.get? a = some o) : h'.SetOf (PySem.strKind P w) a S n := by
  obtain ⟨o, es, ep, t, g, r⟩ := e
  exact ⟨o, es, ep, t, k o g, r⟩
section
variable {prog : Program} {w : World} {A : Around} {R : Result → Shared → Prop} {I : Addr} {fp wr : List Addr} {G : Array GenState → Array GenState → Prop} {n : Nat} {P : Nat → Value → Prop} {St : Nat → Shared → Prop}
theorem set_fill (W : WalksS prog w A.in1 I fp wr G n P St) (S : Addr) (hS : S ∉ fp) (val : Nat → Str) (hval : ∀ i v, P i v → ∃ t, v = .str (val i) t) (hinj : ∀ i j, i < n → j < n → val i = val j → i = j) (hb : n + 1 < scanBound) :
    ∀ (k i : Nat) (s : Shared), n - i = k → i ≤ n → St i s → (∃ f : Str → Bool, s.heap.SetOf (PySem.strKind prog w) S f i ∧ ∀ x, f x = true → ∃ j, j < i ∧ x = val j) →
      (∀ s', Moved (S :: wr) G s s' → (∃ f : Str → Bool, s'.heap.SetOf (PySem.strKind prog w) S f n) → R (.ok (.ret .none)) s') →
      codeAny (model prog w) A (.builtin "set.update.loop" ⟨[.ref S, .ref I], []⟩) R s := by
  have hw : S ∉ wr := fun h => hS (W.sub _ h)
  have up : ∀ b ∈ wr, b ∈ S :: wr := fun b hb => List.mem_cons_of_mem _ hb
  intro k
  induction k with
  | zero =>
    intro i s hk hi st ⟨f, hf, _⟩ hR
    obtain rfl : i = n := by omega
    refine codeAny_builtin PyProof.Rows.F.entry_set_update_loop ?_
    rw [Around.under_plainId PyProof.Rows.F.plain_set_update_loop _]
    refine wpAny_bind (m := pyNext (.ref I)) (W.done s _ _ st fun s' hm => wpAny_pure (hR s' (hm.mono up) ⟨f, setOf_at hf fun o e => hm.heap S o hw e⟩))
  | succ k ih =>
    intro i s hk hi st ⟨f, hf, hfv⟩ hR
    have hlt : i < n := by omega
    refine codeAny_builtin PyProof.Rows.F.entry_set_update_loop ?_
    rw [Around.under_plainId PyProof.Rows.F.plain_set_update_loop _]
    refine wpAny_bind (m := pyNext (.ref I)) (W.item i s _ _ hlt st fun v s' hP st' hm => ?_)
    obtain ⟨t, rfl⟩ := hval i v hP
    have hf' := setOf_at (h' := s'.heap) hf fun o e => hm.heap S o hw e
    refine wpAny_bind (m := holding [Value.str (val i) t] (setAdd S (.str (val i) t))) (wpAny_holding ?_)
    unfold setAdd
    refine wpAny_holding (wpAny_bind ((PySem.strKind prog w).pyHash (k := val i) (PySem.strKind_is _ _ _ _) ?_))
    have hno : f (val i) = false := by
      cases e : f (val i) with
      | false => rfl
      | true =>
        obtain ⟨j, hj, ej⟩ := hfv _ e
        have := hinj i j hlt (by omega) ej
        omega
    refine wpAny_setAddHashed_of (knd := PySem.strKind prog w) (s := { s' with toks := s'.toks + 1 }) (PySem.strKind_is _ _ _ _) rfl hf' (by omega) fun h' sb h2 => ?_
    rw [hno, if_neg Bool.false_ne_true] at h2
    refine wpAny_pure ⟨plainId_quiet PyProof.Rows.F.plain_set_update_loop _, ih (i + 1) _ (by omega) hlt (W.frame _ s' _ _ st' (Nat.le_succ _) fun b hb o e => (sb.2 b (fun h => hS (h ▸ hb))).trans e) ⟨_, h2, fun x hx => ?_⟩ fun s2 m2 f2 => hR s2 ?_ f2⟩
    · rw [Bool.or_eq_true] at hx
      rcases hx with z | z
      · obtain ⟨j, hj, e⟩ := hfv x z
        exact ⟨j, by omega, e⟩
      · exact ⟨i, by omega, of_decide_eq_true z⟩
    · exact Moved.trans W.gtrans ((hm.mono up).then_heap (Nat.le_succ _) fun b o hb e => (sb.2 b (fun h => hb (by rw [h]; exact List.mem_cons_self))).trans e) m2
end
section
variable {prog : Program} {w : World} {A : Around} {E : Value → Shared → Prop} {s : Shared}
abbrev setEmpty (led : Bool) : Obj := { cls := .type "set", dict := none, data := .set #[] 0 (.fresh 0 0 led) }
theorem set_of_texts {l : Addr} {items : Array Value} {xs : List Str} {Q : Value → Shared → Prop} (hh : A.handled = none) (hl : s.heap.IsList l items) (hi : ∀ (i : Nat) (v : Value), items[i]? = some v → ∃ (x : Str) (t : Tok), xs[i]? = some x ∧ v = Value.str x t) (hlen : items.size = xs.length) (hnd : xs.Nodup) (hb : xs.length + 1 < scanBound)
    (h : ∀ h' tk, (∃ f : Str → Bool, h'.SetOf (PySem.strKind prog w) s.heap.objs.size f xs.length) → (∀ b o, s.heap.get? b = some o → h'.get? b = some o) → Q (.ref s.heap.objs.size) { s with heap := h', toks := tk }) :
    wpAny (model prog w) A (call (.type "set") [.ref l]) Q E s := by
  have hlS : l < s.heap.objs.size := let ⟨_, g, _⟩ := hl; Heap.lt_size g
  obtain ⟨c, tl, hmro⟩ := PySem.F.called_set.mro
  have hmade := PySem.F.called_set.made
  have hsub := PySem.F.called_set.sub
  refine wpAny_call (codeAny_of_tree (show wpAny _ _ (callAny (.type "set") _) _ _ _ from wpAny_pure ⟨Code.quiet_builtin _ (by decide +kernel), codeAny_builtin PySem.F.entry_type_call ?_⟩))
  rw [Around.under_plain (weight_type_call_type "set" [.ref l] []) rfl]
  have h1 := PySem.F.called_set.notType
  have h2 := PySem.F.called_set.canCreate
  have hct := PySem.F.typeCall_set_1 (.ref l)
  repeat (any_goals (first | assumption | wp_step))
  refine codeAny_mono (code_set_new_1 (.ref l) (E := E) (Q₁ := fun obj s₁ => ∃ led : Bool, obj = .ref s.heap.objs.size ∧ s₁ = { s with heap := s.heap.push (setEmpty led) }) fun led => ⟨led, rfl, rfl⟩) fun r s₁ hr => ?_
  rcases r with e | (obj | _ | _ | _) <;> first | exact hr | exact hr.elim | skip
  obtain ⟨led, rfl, rfl⟩ := hr
  have hS : (s.heap.push (setEmpty led)).get? s.heap.objs.size = some (setEmpty led) := Heap.get?_push_size _ rfl
  have hT : Shared.TypeIs { s with heap := s.heap.push (setEmpty led) } (.ref s.heap.objs.size) "set" := ⟨_, hS, rfl⟩
  have hli := PySem.F.called_set.init.lookup
  have hbi := PySem.F.called_set.init.bind (.ref s.heap.objs.size)
  repeat (any_goals (first | assumption | wp_step))
  refine codeAny_mono (codeAny_call_builtin (R := wants (fun r s₂ => r = .none ∧ ∃ h' tk, s₂ = { s with heap := h', toks := tk } ∧ (∃ f : Str → Bool, h'.SetOf (PySem.strKind prog w) s.heap.objs.size f xs.length) ∧ (∀ b o, s.heap.get? b = some o → h'.get? b = some o)) E) PySem.F.called_set.init.plain PySem.F.entry_set_init (check_set_init_1 hT ?_)) fun r₂ s₂ hr₂ => ?_
  · have hl1 : (s.heap.push (setEmpty led)).IsList l items := hl.push _
    obtain ⟨⟨ocls, odict, odata, oslots⟩, hol, hcl, nl, hdl⟩ := id hl1
    simp only at hcl hdl
    subst hcl hdl
    have hsls := PySem.F.sub_list_set
    have hslf := PySem.F.sub_list_frozenset
    have hne : (Value.type "list" == Value.type "dict") = false := by decide
    unfold Builtin.«set.__init__» noKeywords Builtin.Frozenset.updateFrom
    generalize hPI : pyIter = PI
    wp_walk
    subst hPI
    refine wpAny_pyIter_list hl1 (wpAny_bind (wpAny_runValue ?_))
    have sz : (s.heap.push (setEmpty led)).objs.size = s.heap.objs.size + 1 := Heap.size_push _ _
    have hneI : l ≠ (s.heap.push (setEmpty led)).objs.size := by rw [sz]; exact Nat.ne_of_lt (Nat.lt_succ_of_lt hlS)
    refine set_fill ((Walks.list (A := A.in1.in1.in1) (by simpa using hh) _ l hneI items).toS) s.heap.objs.size ?_ (fun i => xs.getD i (Str.ofString "")) ?_ ?_ (by omega) (items.size - 0) 0 _ (by omega) (Nat.zero_le _) ⟨⟨_, Heap.get?_push_size _ rfl, rfl, rfl⟩, hl1.push _⟩ ⟨fun _ => false, ?_, fun x hx => absurd hx Bool.false_ne_true⟩ ?_
    · simp only [List.mem_cons, List.not_mem_nil, or_false, not_or, sz]
      exact ⟨Nat.ne_of_lt (Nat.lt_succ_self _), Nat.ne_of_gt hlS⟩
    · intro i v hv
      obtain ⟨x, t, hx, e⟩ := hi i v hv
      exact ⟨t, by rw [e, List.getD_eq_getElem?_getD, hx]; rfl⟩
    · intro i j hi' hj' e
      rw [hlen] at hi' hj'
      rw [List.getD_eq_getElem?_getD, List.getD_eq_getElem?_getD, List.getElem?_eq_getElem hi', List.getElem?_eq_getElem hj'] at e
      exact (List.getElem_inj hnd).mp e
    · exact (setObjOf_fresh (knd := PySem.strKind prog w) led).setOf (Heap.get?_push_of_some _ hS) (by unfold scanBound; omega)
    · rintro ⟨h', g', d', tk', os'⟩ hm ⟨f, hf⟩
      obtain rfl : g' = s.gens := hm.gens
      obtain rfl : d' = s.drawn := hm.drawn
      obtain rfl : os' = s.os := hm.os
      refine wpAny_pure (wpAny_pure ⟨rfl, h', tk', rfl, ⟨f, hlen ▸ hf⟩, fun b o e => hm.heap b o ?_ (Heap.get?_push_of_some _ (Heap.get?_push_of_some _ e))⟩)
      simp only [List.mem_cons, List.not_mem_nil, or_false, not_or, sz]
      exact ⟨Nat.ne_of_lt (Heap.lt_size e), Nat.ne_of_lt (Nat.lt_succ_of_lt (Heap.lt_size e))⟩
  · rcases r₂ with e | (obj | _ | _ | _) <;> first | exact hr₂ | exact hr₂.elim | skip
    obtain ⟨rfl, h', tk, rfl, hf, hk⟩ := hr₂
    repeat (any_goals (first | assumption | wp_step))
    exact h _ _ hf hk
end
section
variable {X : Cx}
theorem boot_set' : bootBuiltins "set" = some (.type "set") := by decide +kernel
theorem call_set_texts (hc : X.calm = true) : CallR X (.type "set") (fun ys H Q => ∃ (a : Addr) (xs : List Str), ys = [.ref a] ∧ SqL X.K H a (xs.map V.str) ∧ xs.Nodup ∧ xs.length + 1 < scanBound ∧ ∀ p, H p = none → Q (.ref p) (upd H p (SetSO X.prog X.w p xs.length))) := by
  intro pins s σ H ys us Q I r h
  obtain ⟨a, xs, rfl, hq, hnd, hb, q⟩ := h
  obtain ⟨u, rfl, ru⟩ := vals1 r
  cases ru
  obtain ⟨its, rv, p, hz⟩ := I.list hq
  have hlen := rv.length
  rw [List.length_map] at hlen
  refine set_of_texts (xs := xs) (I.ok.hd hc) p.isList (fun i v hv => ?_) (by rw [List.size_toArray]; exact hlen.symm) hnd hb fun h' tk ⟨f, hf⟩ k => ?_
  · have hv' : its[i]? = some v := by simpa using hv
    have hil : i < xs.length := by rw [hlen]; exact (List.getElem?_eq_some_iff.mp hv').1
    obtain ⟨v2, e2, r2⟩ := rv.get (i := i) (x := .str xs[i]) (by rw [List.getElem?_map, List.getElem?_eq_getElem hil] <;> rfl)
    rw [hv'] at e2
    cases e2
    obtain ⟨t, e⟩ := r2
    exact ⟨xs[i], t, List.getElem?_eq_getElem hil, e⟩
  · obtain ⟨o, es, ep, t, g, rr⟩ := id hf
    exact ⟨.ref s.heap.objs.size, _, I.laid (t' := tk) (o := SetSO X.prog X.w s.heap.objs.size xs.length) k (Nat.le_refl _) ⟨⟨f, hf⟩, ⟨o, g⟩, fun h1 h2 ⟨f1, e1⟩ k1 => ⟨f1, setOf_at e1 k1⟩⟩, rfl, q _ (I.hok.fresh (Nat.le_refl _))⟩
theorem call_len_setS : CallR X (.builtin "len") (fun ys H Q => ∃ a n, ys = [.ref a] ∧ H a = some (SetSO X.prog X.w a n) ∧ Q (.int (n : Nat)) H) := by
  intro pins s σ H ys us Q I r h
  obtain ⟨a, n, rfl, ha, q⟩ := h
  obtain ⟨u, rfl, ru⟩ := vals1 r
  cases ru
  obtain ⟨f, o, es, ep, t, g, hex, hd, _, _, hb, hf, hn⟩ := (I.hok a _ ha).1
  subst hn
  exact call_len_set g hex hd hf (by unfold scanBound at hb; omega) ⟨.int (es.size : Nat), H, I.tok _, ⟨_, rfl⟩, q⟩
end
section
variable {X : Cx} {K : PySem.W.Frag} {a e : Expr} {ta te : TE}
def rListOf (K : PySem.W.Frag) : List V → Hp → VK → Prop := fun xs H Q => ∃ p ys, xs = [.ref p] ∧ (SqL K H p ys ∨ SqT K H p ys) ∧ ∀ l, H l = none → Q (.ref l) (upd H l (.lst ys))
theorem call_listK (hK : X.K = K := by rfl) : CallR X (.type "list") (rListOf K) := by
  subst hK
  exact call_list_of
def noXS : XS := fun _ _ _ _ => False
theorem noWx {X : Cx} {e : Value} {s : Shared} (h : Wx X noXS e s) : False := by
  obtain ⟨_, _, _, _, _, _, _, _, _, z⟩ := h
  exact z
def thAs (K : PySem.W.Frag) (C : Addr) (i : Nat) (tsu : TS) (th : Ends → XS) : Ends → XS := fun D σ cls dx H => ∃ b, PySem.W.exmOne K cls (.ref C) = some b ∧ if b = true then ∃ C', cls = .ref C' ∧ ∀ x, H x = none → tsu (unb i D) (σ.set i (some (.ref x))) (upd H x (ExO x C' dx)) else th D σ cls dx H
theorem ph_asK {EX : XS} {th : Ends → XS} {hs : List ExceptHandler} {C : Addr} {c n : Str} {i : Nat} {np pos : Pos} {b₀ : Stmt} {suite : List Stmt} {tsu : TS} (ow : Own X) (hN : X.N.Nodup) (hi : X.N[i]? = some n) (hl : X.env.scope.names.lookup n = some .local) (hcls : Gl X c) (hm : X.mg c = some (.ref C)) (hsu : ∀ x, PSs (cxCaught X x) (b₀ :: suite) tsu) (hr : PH X hs EX th)
    (hK : X.K = K := by rfl) (hdb : (c == ("__debug__" : Str)) = false := by decide) : PH X (.ExceptHandler (some (.Name c np)) (some n) (b₀ :: suite) pos :: hs) EX (thAs K C i tsu th) := by
  subst hK
  exact ph_as ow hN hi hl hcls hm hsu hr hdb
end
section
variable {X : Cx}
theorem op_le_str : OpR X (compareOp .LtE) (fun x y H Q => ∃ i j, x = .str i ∧ y = .str j ∧ Q (.bl (!decide (j.cps.toList < i.cps.toList))) H) := by
  intro pins s σ H x y v u Q I rx ry h
  obtain ⟨i, j, rfl, rfl, q⟩ := h
  obtain ⟨t, rfl⟩ := rx
  obtain ⟨t', rfl⟩ := ry
  exact PySem.P.le_str (fin_bl I q rfl)
end
def Its (x : Str) : It := ⟨fun i _ => i < x.cps.size, fun i H v H' => H' = H ∧ ∃ c, x.cps[i]? = some c ∧ v = .str ⟨#[c]⟩, fun i _ => x.cps.size ≤ i⟩
theorem turn_str {P : Program} {w : World} {K : PySem.W.Frag} {tg : Expr} (x : Str) (t : Tok) (it : Addr) (ty : String) (hty : ty = "str_ascii_iterator" ∨ ty = "str_iterator") :
    Turn P w K tg (Its x) [it] it (fun i h => h.IsStrIter it ty x t i) where
  mem := by simp
  obj := fun i h st b hb => by
    have e : b = it := by simpa using hb
    subst e
    obtain ⟨o, e, c, d⟩ := st
    exact ⟨o, e, fun v z => by rw [d] at z; cases z⟩
  keep := fun i h h' st k => by
    obtain ⟨o, e, c⟩ := st
    exact ⟨o, k it (by simp) o e, c⟩
  item := by
    intro X hP hw hK hc i pins s σ H E I hf st hg
    subst hP hw hK
    obtain ⟨f0, f1, f2, f3, f4, f5⟩ := hf it (by simp)
    have hlt : i < x.cps.size := hg
    have hx : x.cps[i]? = some x.cps[i] := by simp [hlt]
    rcases hty with rfl | rfl
    · refine wpAny_pyNext_ascii_item st hx fun h' st' sb => ?_
      have I1 : Inv X pins σ H { s with heap := h', toks := s.toks + 1 } := I.turned (fun b o hb e => (sb.2 b hb).trans e) f0 f1 f3 f4 f5
      obtain ⟨o, e, c, d⟩ := id st'
      exact ⟨_, rfl, go_of (s := { s with heap := h', toks := s.toks + 1 }) e c d (by decide) ⟨.str ⟨#[x.cps[i]]⟩, H, I1, ⟨_, rfl⟩, ⟨rfl, _, hx, rfl⟩, st', fun b hb => (hf b hb).1⟩⟩
    · refine wpAny_pyNext_wide_item st hx fun h' st' sb => ?_
      have I1 : Inv X pins σ H { s with heap := h', toks := s.toks + 1 } := I.turned (fun b o hb e => (sb.2 b hb).trans e) f0 f1 f3 f4 f5
      obtain ⟨o, e, c, d⟩ := id st'
      exact ⟨_, rfl, go_of (s := { s with heap := h', toks := s.toks + 1 }) e c d (by decide) ⟨.str ⟨#[x.cps[i]]⟩, H, I1, ⟨_, rfl⟩, ⟨rfl, _, hx, rfl⟩, st', fun b hb => (hf b hb).1⟩⟩
  done := by
    intro X hP hw hK hc i pins s σ H E I hf st hg
    subst hP hw hK
    obtain ⟨f0, f1, f2, f3, f4, f5⟩ := hf it (by simp)
    have hle : x.cps.size ≤ i := hg
    have hx : x.cps[i]? = none := by simp [hle]
    rcases hty with rfl | rfl
    · exact wpAny_pyNext_ascii_end (I.ok.hd hc) st hx fun h' eb => ⟨rfl, I.turned (t' := s.toks) (fun b o hb e => eb b o hb e) f0 f1 f3 f4 f5⟩
    · exact wpAny_pyNext_wide_end (I.ok.hd hc) st hx fun h' eb => ⟨rfl, I.turned (t' := s.toks) (fun b o hb e => eb b o hb e) f0 f1 f3 f4 f5⟩
  self := fun _ _ _ _ _ st h => by
    rcases hty with rfl | rfl
    · exact wpAny_pyIter_striter_ascii st h
    · exact wpAny_pyIter_striter_wide st h
def iStr (tl : TE) : TI := fun σ H R => tl σ H fun x H1 => ∃ z, x = .str z ∧ R (Its z) H1
theorem pi_str {X : Cx} {tg l : Expr} {tl : TE} (hl : PE X l tl) : PI X tg l (iStr tl) := by
  intro pins s σ H R I h
  refine thn (hl pins s σ H _ I h) fun v s1 ⟨x, H1, I1, r1, q1⟩ => ?_
  obtain ⟨z, e, q⟩ := q1
  subst e
  obtain ⟨t, rfl⟩ := r1
  refine wpAny_pyIter_strU ?_
  refine ⟨s1.heap.objs.size, [s1.heap.objs.size], _, _, H1, rfl, I1.kept (t' := s1.toks) fun b o e => Heap.get?_push_of_some _ e, turn_str z t _ (strIterType z) (by unfold strIterType; split; exact .inl rfl; exact .inr rfl), ⟨_, Heap.get?_push_size _ rfl, rfl, rfl⟩, fun b hb => ?_, q⟩
  have e : b = s1.heap.objs.size := by simpa using hb
  subst e
  exact I1.fpOk (Nat.le_refl _) (I1.hok.fresh (Nat.le_refl _))
theorem for_str {x : Str} {g : TG} {tb : TS} {D : Ends} {σ : St} {H : Hp} (Pv : Nat → St → Hp → Prop) (h0 : Pv 0 σ H)
    (hs : ∀ i c σ H, x.cps[i]? = some c → Pv i σ H → g (.str ⟨#[c]⟩) σ H fun σ2 H2 => tb { D with nx := Pv (i + 1), ct := Pv (i + 1), bk := D.nx } σ2 H2) (hd : ∀ σ H, Pv x.cps.size σ H → D.nx σ H) :
    ∃ W : Nat → Nat → St → Hp → Prop, (∃ m, W 0 m σ H) ∧ ∀ i m σ H, W i m σ H →
      ((Its x).stop i H ∧ D.nx σ H) ∨ ((Its x).go i H ∧ ∃ N : St → Hp → Prop, (∀ σ' H', N σ' H' → ∃ m', m' < m ∧ W (i + 1) m' σ' H') ∧ ∀ y H', (Its x).yld i H y H' → g y σ H' fun σ2 H2 => tb { D with nx := N, ct := N, bk := D.nx } σ2 H2) := by
  refine ⟨fun i m σ H => m = x.cps.size - i ∧ i ≤ x.cps.size ∧ Pv i σ H, ⟨x.cps.size, by simp, Nat.zero_le _, h0⟩, ?_⟩
  rintro i m σ H ⟨rfl, hi, p⟩
  by_cases hlt : i < x.cps.size
  · refine .inr ⟨hlt, Pv (i + 1), fun σ' H' p' => ⟨x.cps.size - (i + 1), by omega, rfl, hlt, p'⟩, fun y H' z => ?_⟩
    obtain ⟨rfl, c, hc, rfl⟩ := z
    exact hs i c σ _ hc p
  · have e : i = x.cps.size := by omega
    subst e
    exact .inl ⟨Nat.le_refl _, hd σ H p⟩
theorem turns_str {x : Str} {n : Nat} {fr : List (Str × Nat)} {g : TG} {tc : TT} {te : TE} {σ : St} {H : Hp} {F : List V → Hp → Prop} (Pv : Nat → List V → Hp → Prop) (h0 : Pv 0 [] H)
    (hs : ∀ i c ys H, x.cps[i]? = some c → Pv i ys H → g (.str ⟨#[c]⟩) (stC n fr σ) H fun σ2 H2 => tc σ2 H2 fun b H3 => if b = true then te σ2 H3 fun y H4 => ys.length < sizeLine ∧ Pv (i + 1) (ys ++ [y]) H4 else Pv (i + 1) ys H3)
    (hd : ∀ ys H, Pv x.cps.size ys H → F ys H) : tTurns n fr g tc te σ (Its x) H F := by
  refine ⟨fun i m ys H => m = x.cps.size - i ∧ i ≤ x.cps.size ∧ Pv i ys H, ⟨x.cps.size, by simp, Nat.zero_le _, h0⟩, ?_⟩
  rintro i m ys H ⟨rfl, hi, p⟩
  by_cases hlt : i < x.cps.size
  · refine .inr ⟨hlt, Pv (i + 1), fun ys' H' p' => ⟨x.cps.size - (i + 1), by omega, rfl, hlt, p'⟩, fun y H' z => ?_⟩
    obtain ⟨rfl, c, hc, rfl⟩ := z
    exact hs i c ys _ hc p
  · have e : i = x.cps.size := by omega
    subst e
    exact .inl ⟨Nat.le_refl _, hd ys H p⟩
theorem turns_str0 {x : Str} {n : Nat} {fr : List (Str × Nat)} {g : TG} {te : TE} {σ : St} {H : Hp} {F : List V → Hp → Prop} (Pv : Nat → List V → Hp → Prop) (h0 : Pv 0 [] H)
    (hs : ∀ i c ys H, x.cps[i]? = some c → Pv i ys H → g (.str ⟨#[c]⟩) (stC n fr σ) H fun σ2 H2 => te σ2 H2 fun y H4 => ys.length < sizeLine ∧ Pv (i + 1) (ys ++ [y]) H4)
    (hd : ∀ ys H, Pv x.cps.size ys H → F ys H) : tTurns n fr g tNoIf te σ (Its x) H F := turns_str Pv h0 (fun i c ys H hx p => hs i c ys H hx p) hd
def tMethE (C : Addr) (m : Str) (sp : Sp) (dvs : List V) (EX : XS) (ta : TE) (t : TA) : TE := fun σ H Q => ta σ H fun x H1 => ∃ a dx fs, x = .ref a ∧ H1 a = some (.ins C dx fs) ∧ fs.lookup m = none ∧
  t σ H1 fun vs H2 => sp (.ref a :: (vs ++ dvs)) H2 Q (EX σ)
section
variable {X : Cx} {EX : XS} {k : Nat} {f C : Addr} {fd : FuncData} {ps : List Str} {sp : Sp} {dvs : List V} {ds : List Value} {x m : Str} {p pos apos : Pos} {e o : Expr} {es : List Expr} {ta : TE} {t : TA}
theorem pe_methE {pl : Sem Bool} (he : PE (X.thrown EX) o ta) (c : Cls X.K C) (hm : Meth X.K C m f) (F : FnOk X.prog X.w X.K X.mg X.base (CXE X.prog X.w) k f fd ps sp) (hr : Room k X.A) (hb : Binds X.K fd ps ds) (hd : Vals dvs ds) (ha : PA (X.thrown EX) (e :: es) t)
    (hst : starEach (e :: es) X.env = (false, eval e X.env) :: starEach es X.env := by rfl) (hpl : (backTo pos (starEach es X.env)).any (·.1) = false := by rfl)
    (ht : eval (.Call (.Attribute o m apos) (e :: es) [] pos) X.env = (do
      let ov ← eval o X.env
      standAt apos.atName
      let (f, first) ← holding [ov] (getMethod ov m pl)
      callWith pos f first (backTo pos (starEach (e :: es) X.env)) (backToKw pos (keywordEach [] X.env))) := by rfl) :
    PE (X.thrown EX) (.Call (.Attribute o m apos) (e :: es) [] pos) (tMethE C m sp dvs EX ta t) := by
  intro pins s σ H Q I h
  refine PySem.W.methodCall_KW (pl := pl) (thn (he pins s σ H _ I h) fun u s1 ⟨x, H1, I1, rx, a, dx, fs, ex, ea, l, q⟩ => ?_) ht
  subst ex
  obtain rfl : u = Value.ref a := rx
  refine getmeth_ok I1 ea c hm l ?_
  refine PySem.W.callWith_K (first := [.ref a]) (h₀ := X.base) I.ok.mod.kin hm.kp (thn (ha pos pins s1 σ H1 _ I1 q) fun us s2 ⟨vs, H2, I2, r, q2⟩ => ⟨I2.kIn, ?_⟩) hst hpl
  exact run_fnE (us := .ref a :: us) (vs := .ref a :: vs) F hr hb hd I2 (.cons rfl r) q2
end
theorem Inv.swap {X : Cx} {pins : List (Addr × Obj)} {σ : St} {H : Hp} {s : Shared} {d : Addr} {u u' : HO} (I : Inv X pins σ H s) (e : H d = some u) (h1 : ∀ y, u ≠ .own y) (h2 : ∀ xs, u ≠ .tup xs) (h3 : ∀ o v, X.H₀ d ≠ some (.frz o v)) (h4 : ∀ ps, u ≠ .tbl ps)
    (new : ObjOk X.prog X.w (upd H d u') s.heap d u') : Inv X pins σ (upd H d u') s := by
  have ne : ∀ {b : Addr} {o : HO}, H b = some o → o ≠ u → upd H d u' b = some o := fun {b o} q n => by
    rw [upd_ne (fun z => by subst z; rw [e] at q; exact n (Option.some.inj q).symm)]; exact q
  have nn : ∀ {b : Addr}, H b = none → upd H d u' b = none := fun {b} q => by
    rw [upd_ne (fun z => by subst z; rw [e] at q; cases q)]; exact q
  refine ⟨I.ok, I.os, I.bare, ⟨I.base.keep, I.base.slot, fun b o q n hx => nn (I.base.free b o q n hx), I.base.there, fun b xs q => ne (I.base.tups b xs q) (Ne.symm (h2 xs)), fun b o v q => ?_, fun b ps q => ?_⟩, I.loc, I.cell, nn I.free, fun x c q => nn (I.freeC x c q), fun p hp => ?_, fun b o q => ?_, I.len⟩
  · have q' := I.base.frzs b o v q
    rw [upd_ne (fun z => by subst z; exact h3 o v q)]; exact q'
  · obtain ⟨m, q'⟩ := I.base.tbls b ps q
    exact ⟨m, ne q' (Ne.symm (h4 _))⟩
  · obtain ⟨q, n, r⟩ := I.pin p hp
    exact ⟨q, nn n, r⟩
  · by_cases hb : b = d
    · subst hb; rw [upd_same] at q; cases q; exact new
    · rw [upd_ne hb] at q
      exact (I.hok b o q).stay (fun _ _ _ z => z) (fun c z => ne z (Ne.symm (h1 _))) fun c xs z => ne z (Ne.symm (h2 xs))
def NoFrz (H₀ : Hp) (d : Addr) : Prop := ∀ o v, H₀ d ≠ some (.frz o v)
section
variable {X : Cx} {pins : List (Addr × Obj)} {σ : St} {H : Hp} {s : Shared} {d : Addr} {kvs : List (Key × V)} {o : Obj}
theorem Inv.freeze (I : Inv X pins σ H s) (e : H d = some (.dK kvs)) : NoFrz X.H₀ d ∧ ∃ o, s.heap.get? d = some o ∧ (∃ es ep, o.data = .dict es ep) ∧ Inv X pins σ (upd H d (.frz o (.dK kvs))) s := by
  have nf : NoFrz X.H₀ d := fun o v z => by
    have := I.base.frzs d o v z
    rw [e] at this
    cases this
  obtain ⟨z, y, vs, r, ob, es, ep, g, c, dd, rest⟩ := (show ObjOk X.prog X.w H s.heap d (.dK kvs) from I.hok d _ e)
  exact ⟨nf, ob, g, ⟨es, ep, dd⟩, I.swap e (fun _ z => nomatch z) (fun _ z => nomatch z) nf (fun _ z => nomatch z) ⟨g, z, y, vs, r, ob, es, ep, g, c, dd, rest⟩⟩
theorem Inv.thaw (I : Inv X pins σ H s) (nf : NoFrz X.H₀ d) (e : H d = some (.frz o (.dK kvs))) : Inv X pins σ (upd H d (.dK kvs)) s := by
  obtain ⟨_, q⟩ := (show ObjOk X.prog X.w H s.heap d (.frz o (.dK kvs)) from I.hok d _ e)
  exact I.swap e (fun _ z => nomatch z) (fun _ z => nomatch z) nf (fun _ z => nomatch z) q
theorem Inv.dictAt {es : Array DictEntry} {ep : Nat} (I : Inv X pins σ H s) (e : H d = some (.frz o (.dK kvs))) (hd : o.data = .dict es ep) : (d == sysModules) = false ∧ ∃ vs, KV kvs vs ∧ s.heap.DictAt (mixKind X.prog X.w) d vs ep := by
  obtain ⟨g, z, y, vs, r, ob, es', ep', g', c, dd, rest⟩ := (show ObjOk X.prog X.w H s.heap d (.frz o (.dK kvs)) from I.hok d _ e)
  rw [g] at g'
  cases g'
  rw [hd] at dd
  cases dd
  exact ⟨y, vs, r, o, es, g, c, hd, rest⟩
end
theorem relK {P : Program} {w : World} {k : Key} {u : Value} (h : (mixKind P w).is k u = true) : RelV (kV k) u := by
  rcases keyIs_shape h with ⟨i, t, rfl, rfl⟩ | ⟨x, t, rfl, rfl⟩
  · exact ⟨t, rfl⟩
  · exact ⟨t, rfl⟩
def Itk (d : Addr) (o : Obj) (kvs : List (Key × V)) : It :=
  ⟨fun i H => H d = some (.frz o (.dK kvs)) ∧ i < kvs.length, fun i H v H' => H' = H ∧ ∃ kv, kvs[i]? = some kv ∧ v = kV kv.1, fun i H => H d = some (.frz o (.dK kvs)) ∧ kvs.length ≤ i⟩
theorem turn_dict {P : Program} {w : World} {K : PySem.W.Frag} {tg : Expr} {es : Array DictEntry} {ep : Nat} (d it : Addr) (o : Obj) (kvs : List (Key × V)) (hd : o.data = .dict es ep) :
    Turn P w K tg (Itk d o kvs) [it] it (fun i h => h.IsKeyIter it d i kvs.length ep) where
  mem := by simp
  obj := fun i h st b hb => by
    have e : b = it := by simpa using hb
    subst e
    obtain ⟨o, e, c, d⟩ := st
    exact ⟨o, e, fun v z => by rw [d] at z; cases z⟩
  keep := fun i h h' st k => by
    obtain ⟨o, e, c⟩ := st
    exact ⟨o, k it (by simp) o e, c⟩
  item := by
    intro X hP hw hK hc i pins s σ H E I hf st hg
    subst hP hw hK
    obtain ⟨f0, f1, f2, f3, f4, f5⟩ := hf it (by simp)
    obtain ⟨e, hlt⟩ := hg
    obtain ⟨_, vs, r, dd⟩ := I.dictAt e hd
    have hl : kvs.length = vs.length := Paired.length r
    have hk : kvs[i]? = some kvs[i] := List.getElem?_eq_getElem hlt
    obtain ⟨⟨k, x⟩, hx, e1, _⟩ := paired_get r hk
    have e1' : kvs[i].1 = k := e1
    have st' : s.heap.IsKeyIter it d i vs.length ep := by rw [← hl]; exact st
    refine wpAny_pyNext_dict_item st' dd hx fun key h' hkey st2 sb => ?_
    have I1 : Inv X pins σ H { s with heap := h' } := I.turned (t' := s.toks) (fun b o hb e => (sb.2 b hb).trans e) f0 f1 f3 f4 f5
    obtain ⟨oi, ei, ci, di⟩ := id st2
    exact ⟨_, rfl, go_of (s := { s with heap := h' }) ei ci di (by decide) ⟨kV k, H, I1, relK hkey, ⟨rfl, _, hk, by rw [e1']⟩, (by rw [hl]; exact st2), fun b hb => (hf b hb).1⟩⟩
  done := by
    intro X hP hw hK hc i pins s σ H E I hf st hg
    subst hP hw hK
    obtain ⟨f0, f1, f2, f3, f4, f5⟩ := hf it (by simp)
    obtain ⟨e, hle⟩ := hg
    obtain ⟨_, vs, r, dd⟩ := I.dictAt e hd
    have hl : kvs.length = vs.length := Paired.length r
    have st' : s.heap.IsKeyIter it d i vs.length ep := by rw [← hl]; exact st
    exact wpAny_pyNext_dict_end (I.ok.hd hc) st' dd (List.getElem?_eq_none_iff.mpr (by omega)) fun h' eb => ⟨rfl, I.turned (t' := s.toks) (fun b o hb e => eb b o hb e) f0 f1 f3 f4 f5⟩
  self := fun _ _ _ _ _ st h => wpAny_pyIter_keyiter st h
def iDict (H₀ : Hp) (td : TE) : TI := fun σ H R => td σ H fun x H1 => ∃ d kvs, x = .ref d ∧ H1 d = some (.dK kvs) ∧ ∀ o, NoFrz H₀ d → R (Itk d o kvs) (upd H1 d (.frz o (.dK kvs)))
theorem pi_dict {X : Cx} {tg l : Expr} {td : TE} (hl : PE X l td) : PI X tg l (iDict X.H₀ td) := by
  intro pins s σ H R I h
  refine thn (hl pins s σ H _ I h) fun v s1 ⟨x, H1, I1, r1, q1⟩ => ?_
  obtain ⟨d, kvs, e, hd, q⟩ := q1
  subst e
  cases r1
  obtain ⟨nf, o, g, ⟨es, ep, dt⟩, I2⟩ := I1.freeze hd
  obtain ⟨lo, vs, r, dd⟩ := I2.dictAt upd_same dt
  refine wpAny_pyIter_dict lo dd ?_
  have hl : kvs.length = vs.length := Paired.length r
  refine ⟨s1.heap.objs.size, [s1.heap.objs.size], _, _, _, rfl, I2.kept (t' := s1.toks) fun b o e => Heap.get?_push_of_some _ e, turn_dict d _ o kvs dt, ⟨_, Heap.get?_push_size _ rfl, rfl, by rw [hl] <;> rfl⟩, fun b hb => ?_, q o nf⟩
  have e : b = s1.heap.objs.size := by simpa using hb
  subst e
  exact I2.fpOk (Nat.le_refl _) (I2.hok.fresh (Nat.le_refl _))
def thawE (H₀ : Hp) (D : Ends) : Ends where
  nx := fun σ H => ∃ d o kvs, NoFrz H₀ d ∧ H d = some (.frz o (.dK kvs)) ∧ D.nx σ (upd H d (.dK kvs))
  rt := fun v H => ∃ d o kvs, NoFrz H₀ d ∧ H d = some (.frz o (.dK kvs)) ∧ D.rt v (upd H d (.dK kvs))
  bk := fun σ H => ∃ d o kvs, NoFrz H₀ d ∧ H d = some (.frz o (.dK kvs)) ∧ D.bk σ (upd H d (.dK kvs))
  ct := fun σ H => ∃ d o kvs, NoFrz H₀ d ∧ H d = some (.frz o (.dK kvs)) ∧ D.ct σ (upd H d (.dK kvs))
def sThaw (H₀ : Hp) (ts : TS) : TS := fun D σ H => ts (thawE H₀ D) σ H
theorem ps_thaw {X : Cx} {st : Stmt} {ts : TS} (h : PS X st ts) : PS X st (sThaw X.H₀ ts) := by
  intro pins s σ H D I q
  refine wpAny_mono (h pins s σ H _ I q) (fun f s' z => ?_) fun _ _ z => z
  cases f with
  | next =>
    obtain ⟨σ', H', I', d, o, kvs, nf, e, q'⟩ := z
    exact ⟨σ', _, I'.thaw nf e, q'⟩
  | brk =>
    obtain ⟨σ', H', I', d, o, kvs, nf, e, q'⟩ := z
    exact ⟨σ', _, I'.thaw nf e, q'⟩
  | cont =>
    obtain ⟨σ', H', I', d, o, kvs, nf, e, q'⟩ := z
    exact ⟨σ', _, I'.thaw nf e, q'⟩
  | ret u =>
    obtain ⟨v, σ', H', I', rv, d, o, kvs, nf, e, q'⟩ := z
    exact ⟨v, σ', _, I'.thaw nf e, rv, q'⟩
theorem for_dict {d : Addr} {o : Obj} {kvs : List (Key × V)} {g : TG} {tb : TS} {D : Ends} {σ : St} {H : Hp} (Pv : Nat → St → Hp → Prop) (h0 : Pv 0 σ H) (hl : ∀ i σ H, i ≤ kvs.length → Pv i σ H → H d = some (.frz o (.dK kvs)))
    (hs : ∀ i kv σ H, kvs[i]? = some kv → Pv i σ H → g (kV kv.1) σ H fun σ2 H2 => tb { D with nx := Pv (i + 1), ct := Pv (i + 1), bk := D.nx } σ2 H2) (hd : ∀ σ H, Pv kvs.length σ H → D.nx σ H) :
    ∃ W : Nat → Nat → St → Hp → Prop, (∃ m, W 0 m σ H) ∧ ∀ i m σ H, W i m σ H →
      ((Itk d o kvs).stop i H ∧ D.nx σ H) ∨ ((Itk d o kvs).go i H ∧ ∃ N : St → Hp → Prop, (∀ σ' H', N σ' H' → ∃ m', m' < m ∧ W (i + 1) m' σ' H') ∧ ∀ y H', (Itk d o kvs).yld i H y H' → g y σ H' fun σ2 H2 => tb { D with nx := N, ct := N, bk := D.nx } σ2 H2) := by
  refine ⟨fun i m σ H => m = kvs.length - i ∧ i ≤ kvs.length ∧ Pv i σ H, ⟨kvs.length, by simp, Nat.zero_le _, h0⟩, ?_⟩
  rintro i m σ H ⟨rfl, hi, p⟩
  have q := hl i σ H hi p
  by_cases hlt : i < kvs.length
  · refine .inr ⟨⟨q, hlt⟩, Pv (i + 1), fun σ' H' p' => ⟨kvs.length - (i + 1), by omega, rfl, hlt, p'⟩, fun y H' z => ?_⟩
    obtain ⟨rfl, kv, hc, rfl⟩ := z
    exact hs i kv σ _ hc p
  · have e : i = kvs.length := by omega
    subst e
    exact .inl ⟨⟨q, Nat.le_refl _⟩, hd σ H p⟩
theorem vals_keys {P : Program} {w : World} : ∀ {kvs : List (Key × V)} {vs : List (Key × Value)} {us : List Value}, KV kvs vs → us.length = vs.length → (∀ (j : Nat) (v : Value), us[j]? = some v → ∃ k x, vs[j]? = some (k, x) ∧ (mixKind P w).is k v = true) → Vals (kvs.map fun kv => kV kv.1) us
  | _, _, [], .nil, _, _ => .nil
  | _, _, _ :: _, .nil, e, _ => nomatch e
  | _, _, [], .cons _ _, e, _ => nomatch e
  | (a, _) :: kvs, (b, _) :: vs, u :: us, .cons r t, e, h => by
    refine .cons ?_ (vals_keys t (by simpa using e) fun j v q => h (j + 1) v (by simpa using q))
    obtain ⟨k, x, q, hk⟩ := h 0 u rfl
    have q' : (b, _) = (k, x) := Option.some.inj q
    have e1 : a = b := r.1
    have e2 : b = k := congrArg Prod.fst q'
    show RelV (kV a) u
    rw [e1, e2]
    exact relK hk
theorem call_list_dict {X : Cx} (hc : X.calm = true) : CallR X (.type "list") (fun xs H Q => ∃ d kvs, xs = [.ref d] ∧ Rd H d (.dK kvs) ∧ ∀ l, H l = none → Q (.ref l) (upd H l (.lst (kvs.map fun kv => kV kv.1)))) := by
  intro pins s σ H xs us Q I r h
  obtain ⟨d, kvs, rfl, hq, q⟩ := h
  obtain ⟨u, rfl, rx⟩ := vals1 r
  cases rx
  obtain ⟨hz, lo, vs, rel, dd⟩ := dk_rd I.hok hq
  obtain ⟨ep, hat⟩ := dd.dictAt
  have hl : kvs.length = vs.length := Paired.length rel
  refine PySem.W.kdl_call (PySem.W.kdl_dict (knd := mixKind X.prog X.w) (kvs := vs) (ep := ep) lo) (I.ok.hd hc) hat (by rw [← hl]; exact hz) fun h' tk acc' c' kp e it => ?_
  have hv : Vals (kvs.map fun kv => kV kv.1) acc'.toList := vals_keys (P := X.prog) (w := X.w) rel (by rw [Array.length_toList]; exact it.1) fun j v z => it.2 j v (by rw [← Array.getElem?_toList]; exact z)
  refine ⟨.ref s.heap.objs.size, _, I.laid (t' := tk) kp (Nat.le_refl _) (show ObjOk X.prog X.w _ h' _ (.lst (kvs.map fun kv => kV kv.1)) from ⟨by rw [List.length_map]; exact hz, acc'.toList, c', hv, by rw [Array.toArray_toList]; exact e⟩), rfl, q _ (I.hok.fresh (Nat.le_refl _))⟩
theorem PE.imp {X : Cx} {e : Expr} {t t' : TE} (h : PE X e t) (i : ∀ σ H Q, t' σ H Q → t σ H Q) : PE X e t' := fun pins s σ H Q I hw => h pins s σ H Q I (i σ H Q hw)
theorem with_tail {X : Cx} {tail body : List Stmt} {G : TS → Prop} (Pr : TS → Prop) (h : ∃ tt, PSs X tail tt ∧ Pr tt) (k : ∀ tt, PSs X tail tt → Pr tt → ∃ t, PSs X body t ∧ G t) : ∃ t, PSs X body t ∧ G t := let ⟨tt, a, b⟩ := h; k tt a b
structure FunD (K : PySem.W.Frag) (x qual : Str) (st : Stmt) (f : Addr) (fd : FuncData) (T : Addr) : Prop where
  ex : ∃ (oc : Value) (od : Option Addr) (kV doc pm : Value) (an : Option Addr) (cdv ct : Value) (osl : Array (Option Value)),
    fd = PySem.W.fnOf x qual (defArgs st) (defBody st) (defScope st) (.ref T) kV doc pm an cdv ct ∧ K.lookup f = some ⟨oc, od, .func fd, osl⟩ ∧ PySem.W.codeIn K cdv qual = true
  kp : PySem.W.keepIn K (.ref f) = true
section
variable {P : Program} {w : World} {K : PySem.W.Frag} {mg : Str → Option Value} {base : Heap}
theorem FunD.ok {x qual : Str} {st : Stmt} {f T : Addr} {fd : FuncData} {N ps : List Str} {k : Nat} {sp : Sp} (F : FunD K x qual st f fd T) (S : FnScope N ps (defScope st)) (len : ∀ vs H Q E, sp vs H Q E → vs.length = ps.length)
    (hbody : ∀ (cdv : Value) (A : Around) (outer : List Env) (s : Shared) (H : Hp) (vs : List V) (Q : VK) (E : XK), Room k (A.deeper (envOfC qual (defScope st) s.heap.objs.size f cdv)) → sp vs H Q E →
      ∃ t, PSs (cxOf CX0 P w K mg base N qual (defScope st) f cdv A outer s H E).nox (defBody st) t ∧ t { nx := fun _ H' => Q .non H', rt := Q } (start N vs) H) : FnOk P w K mg base CX0 (k + 1) f fd ps sp := by
  obtain ⟨oc, od, kV, doc, pm, an, cdv, ct, osl, rfl, lk, hcd⟩ := F.ex
  refine fn_of lk hcd S len fun A outer s H vs Q E hr hsp => ?_
  obtain ⟨t, h, q⟩ := hbody cdv A outer s H vs Q E hr hsp
  exact ⟨t, h.nox, q⟩
theorem FunD.binds {x qual : Str} {st : Stmt} {f T : Addr} {fd : FuncData} {ps : List Str} {ds : List Value} {o : Obj} {items : Array Value} {n : Nat} (F : FunD K x qual st f fd T) (ho : K.lookup T = some o) (hs : o.data = .seq items n) (m : Nat) (hm : m + ds.length = ps.length)
    (h : ∀ (kV doc pm : Value) (an : Option Addr) (cdv ct : Value) (us : List Value), us.length = m → ∃ k : Option (Array Value) → Sem (List (Str × Value)), bindArgs (PySem.W.fnOf x qual (defArgs st) (defBody st) (defScope st) (.ref T) kV doc pm an cdv ct) ⟨us, []⟩ = (seqItems? (.ref T) >>= k) ∧ k (some items) = pure (ps.zip (us ++ ds))) : Binds K fd ps ds := by
  obtain ⟨oc, od, kV, doc, pm, an, cdv, ct, osl, rfl, lk, hcd⟩ := F.ex
  intro s us KX hl
  obtain ⟨k, h1, h2⟩ := h kV doc pm an cdv ct us (by rw [List.length_append] at hl; omega)
  exact PySem.W.binds_K KX rfl ho hs h1 h2
theorem funD_mk {x qual : Str} {st : Stmt} {f T : Addr} {oc : Value} {od an : Option Addr} {osl : Array (Option Value)} {kV doc pm cdv ct : Value} (l : K.lookup f = some ⟨oc, od, .func (PySem.W.fnOf x qual (defArgs st) (defBody st) (defScope st) (.ref T) kV doc pm an cdv ct), osl⟩)
    (c : PySem.W.codeIn K cdv qual = true) (k : PySem.W.keepIn K (.ref f) = true) : FunD K x qual st f (PySem.W.fnOf x qual (defArgs st) (defBody st) (defScope st) (.ref T) kV doc pm an cdv ct) T := ⟨⟨oc, od, kV, doc, pm, an, cdv, ct, osl, rfl, l, c⟩, k⟩
end
section
variable {X : Cx} {tg : Expr}
end
def KDic (P : Program) (w : World) (K : PySem.W.Frag) (a : Addr) (kvs : List (Key × V)) : Prop :=
  ∃ (o : Obj) (es : Array DictEntry) (ep : Nat) (vs : List (Key × Value)), K.lookup a = some o ∧ o.ExactDict ∧ o.data = .dict es ep ∧ KeysOf (mixKind P w) es ∧ Pairs (mixKind P w) es.toList vs ∧ (vs.map (·.1)).Nodup ∧ KV kvs vs ∧ (a == sysModules) = false
theorem KDic.at_ {X : Cx} {pins : List (Addr × Obj)} {σ : St} {H : Hp} {s : Shared} {a : Addr} {kvs : List (Key × V)} (I : Inv X pins σ H s) (d : KDic X.prog X.w X.K a kvs) : (a == sysModules) = false ∧ ∃ vs, KV kvs vs ∧ s.heap.DictOf (mixKind X.prog X.w) a vs := by
  obtain ⟨o, es, ep, vs, lk, x, da, hk, hp, hn, kv, sm⟩ := d
  exact ⟨sm, vs, kv, o, es, ep, I.kIn _ _ lk, x, da, hk, hp, hn⟩
def tKGet (P : Program) (w : World) (K : PySem.W.Frag) (td ty : TE) : TE := fun σ H Q => td σ H fun x H1 => ∃ a kvs, x = .ref a ∧ KDic P w K a kvs ∧ ty σ H1 fun y H2 => ∃ k, y = kV k ∧ Q ((valV kvs k).getD .non) H2
theorem pe_kget {X : Cx} {o e : Expr} {apos cpos : Pos} {td ty : TE} (ho : PE X o td) (he : PE X e ty) (m : M1 X o "get" apos e cpos) : PE X (.Call (.Attribute o "get" apos) [e] [] cpos) (tKGet X.prog X.w X.K td ty) := by
  intro pins s σ H Q I h
  refine wpAny_Call_method m.base m.few m.line PySem.F.plainAttrs_dict PySem.F.slot_dict_get PySem.F.type_dict_get (thn (ho pins s σ H _ I h) fun u s1 ⟨x, H1, I1, rx, a, kvs, ex, d, q1⟩ => ?_)
  subst ex
  obtain rfl : u = Value.ref a := rx
  obtain ⟨sm, vs, kv, dd⟩ := KDic.at_ I1 d
  refine ⟨dd.typeIs, fun b q => ?_, ?_⟩
  · cases q
    obtain ⟨ob, _, _, h1, h2, _⟩ := dd
    exact ⟨ob, h1, h2.2.1⟩
  rw [m.trees]
  refine Calls.callWith_builtin rfl (Calls.evalArgs_plain (Calls.spliced_cons (thn (he pins s1 σ H1 _ I1 q1) fun iv s2 ⟨y, H2, I2, ry, k, ey, q2⟩ => Calls.spliced_nil ?_)))
  subst ey
  obtain ⟨sm, vs, kv, dd⟩ := KDic.at_ I2 d
  refine call_meetsIn PySem.F.slot_dict_get dd.typeIs PySem.F.entry_dict_get (PySem.F.args_dict_get_2 _ _) (meets_dict_get (mixKind X.prog X.w) a (kV_is ry) sm) ⟨_, dd.mapOf, ?_⟩
  exact ⟨_, H2, I2.tok _, (kv.val k).getD (d := .non) (d' := .none) rfl, q2⟩
section
variable {prog : Program} {w : World} {A : Around} {E : Value → Shared → Prop} {s : Shared}
theorem nextT_item {it t : Addr} {i : Nat} {its : Array Value} {x : Value} {Q : Value → Shared → Prop} (hi : s.heap.IsTupleIter it t i) (ht : s.heap.IsTuple t its) (hx : its[i]? = some x)
    (q : ∀ h', h'.IsTupleIter it t (i + 1) → Heap.SameBut it s.heap h' → Q x { s with heap := h' }) : wpAny (model prog w) A (Builtin.SmallTypes.nextOf (.ref it)) Q E s := by
  obtain ⟨o, e1, e2, e3⟩ := id hi
  obtain ⟨u, g1, _, k, g2⟩ := ht
  unfold Builtin.SmallTypes.nextOf
  refine wpAny_bind (wpAny_callSpecial?_slot (name := Str.ofString "__next__") hi.typeIs F.slot_tuple_iterator_next (wpAny_call_entry F.slot_tuple_iterator_next hi.typeIs F.entry_tuple_iterator_next ?_ (F.args_tuple_iterator_next_1 _)))
  change wpAny (model prog w) _ (field (Value.ref it) 0 >>= _) _ _ _
  refine wpAny_bind (wpAny_field e1 e3 (x := Value.ref t) rfl ?_)
  change wpAny (model prog w) _ (if (Value.ref t == Value.none) = true then _ else _) _ _ _
  have nt : ¬ ((Value.ref t == Value.none) = true) := Bool.false_ne_true
  rw [if_neg nt]
  change wpAny (model prog w) _ (field (Value.ref it) 1 >>= _) _ _ _
  refine wpAny_bind (wpAny_field e1 e3 (x := Value.int i 0) rfl ?_)
  change wpAny (model prog w) _ (seqItems? (Value.ref t) >>= _) _ _ _
  refine wpAny_bind (wpAny_seqItems g1 g2 ?_)
  simp only [hx, Int.toNat_natCast]
  refine wpAny_bind (wpAny_setField e1 e3 (by simp) (wpAny_pure ⟨x, rfl, wpAny_pure (q _ ⟨_, Heap.get?_update_self _ e1 (Obj.isFreed_of_fields (Obj.data_mapFields e3 _)), (Obj.cls_mapFields ..).trans e2, ?_⟩ (Heap.SameBut.update ..))⟩))
  rw [Obj.data_mapFields e3]
  simp [rawInt]
theorem nextT_end {it t : Addr} {i : Nat} {its : Array Value} {Q : Value → Shared → Prop} (hh : A.handled = none) (hi : s.heap.IsTupleIter it t i) (ht : s.heap.IsTuple t its) (hx : its[i]? = none)
    (q : ∀ h' e, Heap.ExtBut it s.heap h' → (∃ o, h'.get? e = some o ∧ o.cls = .type "StopIteration") → E (.ref e) { s with heap := h' }) : wpAny (model prog w) A (Builtin.SmallTypes.nextOf (.ref it)) Q E s := by
  obtain ⟨o, e1, e2, e3⟩ := id hi
  obtain ⟨u, g1, _, k, g2⟩ := ht
  unfold Builtin.SmallTypes.nextOf
  refine wpAny_bind (wpAny_callSpecial?_slot (name := Str.ofString "__next__") hi.typeIs F.slot_tuple_iterator_next (wpAny_call_entry F.slot_tuple_iterator_next hi.typeIs F.entry_tuple_iterator_next ?_ (F.args_tuple_iterator_next_1 _)))
  change wpAny (model prog w) _ (field (Value.ref it) 0 >>= _) _ _ _
  refine wpAny_bind (wpAny_field e1 e3 (x := Value.ref t) rfl ?_)
  change wpAny (model prog w) _ (if (Value.ref t == Value.none) = true then _ else _) _ _ _
  have nt : ¬ ((Value.ref t == Value.none) = true) := Bool.false_ne_true
  rw [if_neg nt]
  change wpAny (model prog w) _ (field (Value.ref it) 1 >>= _) _ _ _
  refine wpAny_bind (wpAny_field e1 e3 (x := Value.int i 0) rfl ?_)
  change wpAny (model prog w) _ (seqItems? (Value.ref t) >>= _) _ _ _
  refine wpAny_bind (wpAny_seqItems g1 g2 ?_)
  simp only [hx, Int.toNat_natCast]
  refine wpAny_bind (wpAny_rule (wpAny_bind (wpAny_setField e1 e3 (by simp) ?_)))
  change wpAny (model prog w) _ (newExc (Value.type "StopIteration") [] >>= _) _ _ _
  refine wpAny_bind ?_
  simp only [newExc, newTuple]
  refine wpAny_bind (wpAny_newObj_type (wpAny_bind (m := firstArgMember _ _) (wpAny_of_eq (a := Value.none) (by first | rfl | (simp only [firstArgMember]; rfl)) (wpAny_newObj_type ?_ (by size_fits)))) (by size_fits))
  simp only [raiseNew]
  refine wpAny_bind (wpAny_handled ?_)
  rw [show A.in1.handled = none from hh]
  exact wpAny_bind (wpAny_pure (wpAny_throw (q _ _ (((Heap.SameBut.update ..).extBut.push _).push _) ⟨_, Heap.get?_push_size _ rfl, rfl⟩)))
end
theorem drawT {prog : Program} {w : World} {A : Around} (hh : A.handled = none) (it t : Addr) (ne : t ≠ it) (its : Array Value) : Draws prog w A it [it, t] its.size (fun i v => its[i]? = some v) (fun i h => h.IsTupleIter it t i ∧ h.IsTuple t its) where
  live := fun _ _ ⟨⟨o, e, _⟩, _⟩ => ⟨o, e⟩
  frame := fun _ _ _ ⟨h1, ⟨o, e, r⟩⟩ k => ⟨h1.at fun o e => k it (by simp) o e, ⟨o, k t (by simp) o e, r⟩⟩
  item := fun i s Q E hi ⟨h1, h2⟩ q => nextT_item h1 h2 (x := its[i]) (by simp [hi]) fun h' a b => q _ h' s.toks (by simp [hi]) ⟨a, (let ⟨o, e, r⟩ := h2; ⟨o, b.extBut _ _ ne e, r⟩)⟩ b
  done := fun s Q E ⟨h1, h2⟩ q => nextT_end hh h1 h2 (by simp) q
structure ZApart (n : Addr) (fp1 fp2 : List Addr) : Prop where
  m1 : ∀ c ∈ fp1, c = n ∨ (c ≠ n + 1 ∧ c ≠ n + 3 ∧ c ≠ n + 4)
  m2 : ∀ c ∈ fp2, c = n + 1 ∨ (c ≠ n ∧ c ≠ n + 3 ∧ c ≠ n + 4)
section
variable {prog : Program} {w : World} {A : Around} {E : Value → Shared → Prop} {s : Shared} {n : Addr} {fp1 fp2 : List Addr} {n1 n2 : Nat} {P1 P2 : Nat → Value → Prop} {S1 S2 : Nat → Heap → Prop}
theorem m1_ne (Z : ZApart n fp1 fp2) {c : Addr} (h : c ∈ fp1) : c ≠ n + 1 ∧ c ≠ n + 3 ∧ c ≠ n + 4 := by
  rcases Z.m1 c h with rfl | r
  · exact ⟨ap c 0 1 (by decide), ap c 0 3 (by decide), ap c 0 4 (by decide)⟩
  · exact r
theorem m2_ne (Z : ZApart n fp1 fp2) {c : Addr} (h : c ∈ fp2) : c ≠ n ∧ c ≠ n + 3 ∧ c ≠ n + 4 := by
  rcases Z.m2 c h with rfl | r
  · exact ⟨ap n 1 0 (by decide), ap n 1 3 (by decide), ap n 1 4 (by decide)⟩
  · exact r
theorem zipD_item (Z : ZApart n fp1 fp2) (D1 : Draws prog w A n fp1 n1 P1 S1) (D2 : Draws prog w A (n + 1) fp2 n2 P2 S2) {a b : Value} {i : Nat} {Q : Value → Shared → Prop}
    (hz : IsZip s.heap (n + 4) (n + 2) (n + 3) .none) (hI : IsPair s.heap (n + 2) (.ref n) (.ref (n + 1))) (hO : IsPair s.heap (n + 3) a b) (h1 : S1 i s.heap) (h2 : S2 i s.heap) (l1 : i < n1) (l2 : i < n2)
    (q : ∀ x y h' tk, P1 i x → P2 i y → IsZip h' (n + 4) (n + 2) (n + 3) (rawInt s.heap.objs.size) → IsPair h' (n + 3) x y → S1 (i + 1) h' → S2 (i + 1) h' → IsPair h' s.heap.objs.size x y → h'.objs.size = s.heap.objs.size + 1 →
      (∀ c o, c ≠ n + 4 → c ≠ n + 3 → c ≠ n → c ≠ n + 1 → s.heap.get? c = some o → h'.get? c = some o) → Q (.ref s.heap.objs.size) { s with heap := h', toks := tk }) :
    wpAny (model prog w) A (Builtin.«zip.__next__» ⟨[.ref (n + 4)], []⟩) (fun fin s' => ∃ v, fin = .done (.ret v) ∧ Q v s') E s := by
  have d34 : n + 3 ≠ n + 4 := ap n 3 4 (by decide)
  have d04 : n ≠ n + 4 := ap n 0 4 (by decide)
  have d14 : n + 1 ≠ n + 4 := ap n 1 4 (by decide)
  have d30 : n + 3 ≠ n := ap n 3 0 (by decide)
  have d31 : n + 3 ≠ n + 1 := ap n 3 1 (by decide)
  have d01 : n ≠ n + 1 := ap n 0 1 (by decide)
  change wpAny (model prog w) _ (field (Value.ref (n + 4)) 2 >>= _) _ _ _
  refine wpAny_bind (wpAny_field hz rfl (x := Value.bool false) rfl ?_)
  change wpAny (model prog w) _ (field (Value.ref (n + 4)) 3 >>= _) _ _ _
  refine wpAny_bind (wpAny_field hz rfl (x := Value.ref (n + 2)) rfl (wpAny_bind (wpAny_seqItems hI rfl ?_)))
  change wpAny (model prog w) _ (Builtin.SmallTypes.ownedTupleIsFree (Value.ref (n + 4)) >>= _) _ _ _
  unfold Builtin.SmallTypes.ownedTupleIsFree
  refine wpAny_bind (wpAny_bind (wpAny_field hz rfl (x := Value.none) rfl (wpAny_pure ?_)))
  simp only [if_true]
  refine wpAny_bind (wpAny_rule (wpAny_bind (wpAny_field hz rfl (x := Value.ref (n + 3)) rfl (wpAny_bind (wpAny_setField_rec hz (by simp) fun g1 z1 t1 => ?_)))))
  replace z1 : IsZip g1 (n + 4) (n + 2) (n + 3) .ellipsis := z1
  refine wpAny_bind ?_
  simp only [List.forIn_cons, List.forIn_nil, List.zipIdx_cons, List.zipIdx_nil]
  -- the first one
  refine wpAny_bind (wpAny_bind (wpAny_onRaise ?_))
  change wpAny (model prog w) _ (Builtin.SmallTypes.nextOf (Value.ref n) >>= _) _ _ _
  refine wpAny_bind (D1.item i { s with heap := g1 } _ _ l1 (D1.frame i _ _ h1 fun c hc o e => t1.extBut _ _ (m1_ne Z hc).2.2 e) fun x g2 k2 px h1' t2 => wpAny_pure ?_)
  have o2 : IsPair g2 (n + 3) a b := t2.extBut _ _ d30 (t1.extBut _ _ d34 hO)
  refine wpAny_bind (wpAny_seqItems (s := { s with heap := g2, toks := k2 }) o2 rfl (wpAny_bind (wpAny_updateSeq_pair (s := { s with heap := g2, toks := k2 }) o2 fun g3 o3 t3 => ?_)))
  replace o3 : IsPair g3 (n + 3) x b := o3
  refine wpAny_bind (wpAny_letGo (wpAny_pure ?_))
  -- the second one
  refine wpAny_bind (wpAny_bind (wpAny_onRaise ?_))
  change wpAny (model prog w) _ (Builtin.SmallTypes.nextOf (Value.ref (n + 1)) >>= _) _ _ _
  refine wpAny_bind (D2.item i { s with heap := g3, toks := k2 } _ _ l2 (D2.frame i _ _ h2 fun c hc o e => t3.extBut _ _ (m2_ne Z hc).2.1 (t2.extBut _ _ (m2_ne Z hc).1 (t1.extBut _ _ (m2_ne Z hc).2.2 e))) fun y g4 k4 py h2' t4 => wpAny_pure ?_)
  have o4 : IsPair g4 (n + 3) x b := t4.extBut _ _ d31 o3
  refine wpAny_bind (wpAny_seqItems (s := { s with heap := g4, toks := k4 }) o4 rfl (wpAny_bind (wpAny_updateSeq_pair (s := { s with heap := g4, toks := k4 }) o4 fun g5 o5 t5 => ?_)))
  replace o5 : IsPair g5 (n + 3) x y := o5
  refine wpAny_bind (wpAny_letGo (wpAny_pure (wpAny_pure (wpAny_bind (wpAny_seqItems (s := { s with heap := g5, toks := k4 }) o5 rfl (wpAny_bind (wpAny_newTuple ?_)))))))
  have sz : g5.objs.size = s.heap.objs.size := by rw [t5.1, t4.1, t3.1, t2.1, t1.1]
  have z5 : IsZip g5 (n + 4) (n + 2) (n + 3) .ellipsis := t5.extBut _ _ d34.symm (t4.extBut _ _ d14.symm (t3.extBut _ _ d34.symm (t2.extBut _ _ d04.symm z1)))
  have kp : ∀ c o, c ≠ n + 4 → c ≠ n + 3 → c ≠ n → c ≠ n + 1 → s.heap.get? c = some o → g5.get? c = some o := fun c o c1 c2 c3 c4 e => t5.extBut _ _ c2 (t4.extBut _ _ c4 (t3.extBut _ _ c2 (t2.extBut _ _ c3 (t1.extBut _ _ c1 e))))
  have f1 : S1 (i + 1) g5 := D1.frame _ _ _ h1' fun c hc o e => t5.extBut _ _ (m1_ne Z hc).2.1 (t4.extBut _ _ (m1_ne Z hc).1 (t3.extBut _ _ (m1_ne Z hc).2.1 e))
  have f2 : S2 (i + 1) g5 := D2.frame _ _ _ h2' fun c hc o e => t5.extBut _ _ (m2_ne Z hc).2.1 e
  have zl : n + 4 < g5.objs.size := Heap.lt_size z5
  change wpAny (model prog w) _ (Builtin.SmallTypes.ownedTupleHandOut (Value.ref (n + 4)) (Value.ref g5.objs.size) >>= _) _ _ _
  unfold Builtin.SmallTypes.ownedTupleHandOut
  have z6 : IsZip (g5.push { cls := .type "tuple", data := .seq #[x, y] }) (n + 4) (n + 2) (n + 3) .ellipsis := Heap.get?_push_of_some _ z5
  refine wpAny_bind (wpAny_bind (wpAny_setField_rec (s := { s with heap := g5.push { cls := .type "tuple", data := .seq #[x, y] }, toks := k4 }) z6 (by simp) fun g7 z7 t7 => ?_))
  replace z7 : IsZip g7 (n + 4) (n + 2) (n + 3) (rawInt g5.objs.size) := z7
  refine wpAny_setField_rec (s := { s with heap := g7, toks := k4 }) z7 (by simp) fun g8 z8 t8 => ?_
  replace z8 : IsZip g8 (n + 4) (n + 2) (n + 3) (rawInt g5.objs.size) := z8
  have up : ∀ c o, c ≠ n + 4 → g5.get? c = some o → g8.get? c = some o := fun c o c1 e => t8.extBut _ _ c1 (t7.extBut _ _ c1 (Heap.get?_push_of_some _ e))
  have tp : IsPair g8 g5.objs.size x y := t8.extBut _ _ (Nat.ne_of_gt zl) (t7.extBut _ _ (Nat.ne_of_gt zl) (Heap.get?_push_size _ rfl))
  have sz8 : g8.objs.size = g5.objs.size + 1 := by rw [t8.1, t7.1, Heap.size_push]
  rw [sz] at z8 tp sz8
  refine wpAny_pure ⟨_, rfl, ?_⟩
  change Q (Value.ref g5.objs.size) _
  rw [sz]
  exact q x y g8 k4 px py z8 (up _ _ d34 o5) (D1.frame _ _ _ f1 fun c hc o e => up c o (m1_ne Z hc).2.2 e) (D2.frame _ _ _ f2 fun c hc o e => up c o (m2_ne Z hc).2.2 e) tp sz8 fun c o c1 c2 c3 c4 e => up c o c1 (kp c o c1 c2 c3 c4 e)
theorem zipD_end (Z : ZApart n fp1 fp2) (D1 : Draws prog w A n fp1 n1 P1 S1) (D2 : Draws prog w A (n + 1) fp2 n2 P2 S2) {a b : Value} {i : Nat} {Q : PySem.Fin → Shared → Prop}
    (hz : IsZip s.heap (n + 4) (n + 2) (n + 3) .none) (hI : IsPair s.heap (n + 2) (.ref n) (.ref (n + 1))) (hO : IsPair s.heap (n + 3) a b) (h1 : S1 i s.heap) (h2 : S2 i s.heap) (l : i = n1 ∨ (i < n1 ∧ i = n2))
    (q : ∀ h' e tk, (∀ c o, c ≠ n + 4 → c ≠ n + 3 → c ≠ n → c ≠ n + 1 → s.heap.get? c = some o → h'.get? c = some o) → (∃ o, h'.get? e = some o ∧ o.cls = .type "StopIteration") → E (.ref e) { s with heap := h', toks := tk }) :
    wpAny (model prog w) A (Builtin.«zip.__next__» ⟨[.ref (n + 4)], []⟩) Q E s := by
  have d34 : n + 3 ≠ n + 4 := ap n 3 4 (by decide)
  have d04 : n ≠ n + 4 := ap n 0 4 (by decide)
  have d14 : n + 1 ≠ n + 4 := ap n 1 4 (by decide)
  have d30 : n + 3 ≠ n := ap n 3 0 (by decide)
  change wpAny (model prog w) _ (field (Value.ref (n + 4)) 2 >>= _) _ _ _
  refine wpAny_bind (wpAny_field hz rfl (x := Value.bool false) rfl ?_)
  change wpAny (model prog w) _ (field (Value.ref (n + 4)) 3 >>= _) _ _ _
  refine wpAny_bind (wpAny_field hz rfl (x := Value.ref (n + 2)) rfl (wpAny_bind (wpAny_seqItems hI rfl ?_)))
  change wpAny (model prog w) _ (Builtin.SmallTypes.ownedTupleIsFree (Value.ref (n + 4)) >>= _) _ _ _
  unfold Builtin.SmallTypes.ownedTupleIsFree
  refine wpAny_bind (wpAny_bind (wpAny_field hz rfl (x := Value.none) rfl (wpAny_pure ?_)))
  simp only [if_true]
  refine wpAny_bind (wpAny_rule (wpAny_bind (wpAny_field hz rfl (x := Value.ref (n + 3)) rfl (wpAny_bind (wpAny_setField_rec hz (by simp) fun g1 z1 t1 => ?_)))))
  replace z1 : IsZip g1 (n + 4) (n + 2) (n + 3) .ellipsis := z1
  refine wpAny_bind ?_
  simp only [List.forIn_cons, List.forIn_nil, List.zipIdx_cons, List.zipIdx_nil]
  refine wpAny_bind (wpAny_bind (wpAny_onRaise ?_))
  change wpAny (model prog w) _ (Builtin.SmallTypes.nextOf (Value.ref n) >>= _) _ _ _
  have f1 : S1 i g1 := D1.frame i _ _ h1 fun c hc o e => t1.extBut _ _ (m1_ne Z hc).2.2 e
  rcases l with rfl | ⟨l1, rfl⟩
  · refine wpAny_bind (D1.done { s with heap := g1 } _ _ f1 fun g2 e t2 he => ?_)
    obtain ⟨oe, e1, e2⟩ := he
    have z2 : IsZip g2 (n + 4) (n + 2) (n + 3) .ellipsis := t2 _ _ d04.symm z1
    have ez : e ≠ n + 4 := fun z => by rw [z, z2] at e1; cases e1; simp at e2
    exact wpAny_setField_rec (s := { s with heap := g2 }) z2 (by simp) fun g3 _ t3 => q g3 e s.toks (fun c o c1 _ c3 _ e' => t3.extBut _ _ c1 (t2 _ _ c3 (t1.extBut _ _ c1 e'))) ⟨oe, t3.extBut _ _ ez e1, e2⟩
  · refine wpAny_bind (D1.item i { s with heap := g1 } _ _ l1 f1 fun x g2 k2 px h1' t2 => wpAny_pure ?_)
    have o2 : IsPair g2 (n + 3) a b := t2.extBut _ _ d30 (t1.extBut _ _ d34 hO)
    refine wpAny_bind (wpAny_seqItems (s := { s with heap := g2, toks := k2 }) o2 rfl (wpAny_bind (wpAny_updateSeq_pair (s := { s with heap := g2, toks := k2 }) o2 fun g3 o3 t3 => ?_)))
    refine wpAny_bind (wpAny_letGo (wpAny_pure (wpAny_bind (wpAny_bind (wpAny_onRaise ?_)))))
    change wpAny (model prog w) _ (Builtin.SmallTypes.nextOf (Value.ref (n + 1)) >>= _) _ _ _
    refine wpAny_bind (D2.done { s with heap := g3, toks := k2 } _ _ (D2.frame i _ _ h2 fun c hc o e => t3.extBut _ _ (m2_ne Z hc).2.1 (t2.extBut _ _ (m2_ne Z hc).1 (t1.extBut _ _ (m2_ne Z hc).2.2 e))) fun g4 e t4 he => ?_)
    obtain ⟨oe, e1, e2⟩ := he
    have z4 : IsZip g4 (n + 4) (n + 2) (n + 3) .ellipsis := t4 _ _ d14.symm (t3.extBut _ _ d34.symm (t2.extBut _ _ d04.symm z1))
    have ez : e ≠ n + 4 := fun z => by rw [z, z4] at e1; cases e1; simp at e2
    exact wpAny_setField_rec (s := { s with heap := g4, toks := k2 }) z4 (by simp) fun g5 _ t5 => q g5 e k2 (fun c o c1 c2 c3 c4 e' => t5.extBut _ _ c1 (t4 _ _ c4 (t3.extBut _ _ c2 (t2.extBut _ _ c3 (t1.extBut _ _ c1 e'))))) ⟨oe, t5.extBut _ _ ez e1, e2⟩
end
def tH1 (h : Heap) (a : Addr) : Heap := h.push { cls := .type "tuple_iterator", data := .fields #[.ref a, .int 0 0] }
def tH2 (h : Heap) (a b : Addr) : Heap := (tH1 h a).push { cls := .type "tuple_iterator", data := .fields #[.ref b, .int 0 0] }
def tH3 (h : Heap) (a b : Addr) : Heap := (tH2 h a b).push { cls := .type "tuple", data := .seq #[.ref h.objs.size, .ref (tH1 h a).objs.size] }
def tH4 (h : Heap) (a b : Addr) : Heap := (tH3 h a b).push { cls := .type "tuple", data := .seq #[.none, .none] }
def tH5 (h : Heap) (a b : Addr) : Heap := (tH4 h a b).push { cls := .type "zip", data := .fields #[.none, .bool false, .bool false, .ref (tH2 h a b).objs.size, .ref (tH3 h a b).objs.size] }
theorem tup_push {h : Heap} {t : Addr} {its : Array Value} (x : h.IsTuple t its) (o : Obj) : (h.push o).IsTuple t its := let ⟨u, e, r⟩ := x; ⟨u, Heap.get?_push_of_some o e, r⟩
theorem zipT_new (a b : Addr) (xs ys : Array Value) : Meets (Builtin.«zip.__new__» ⟨[.type "zip", .ref a, .ref b], []⟩) (fun _ R s => s.heap.IsTuple a xs ∧ s.heap.IsTuple b ys ∧ R (.ok (.ret (.ref (tH4 s.heap a b).objs.size))) { s with heap := tH5 s.heap a b }) :=
  .of_wp fun prog w A R s h => by
    obtain ⟨hp, g, d, tk, os⟩ := s
    obtain ⟨q1, q2, q⟩ := h
    have hsub := sub_zip
    have u1 : Heap.IsTuple (Shared.heap ⟨hp, g, d, tk, os⟩) a xs := q1
    have u2 : Heap.IsTuple (Shared.heap ⟨hp.push { cls := .type "tuple_iterator", data := .fields #[.ref a, .int 0 0] }, g, d, tk, os⟩) b ys := tup_push q2 _
    wp_walk using wpAny_pyIter_tuple u1, wpAny_pyIter_tuple u2
    exact ⟨_, rfl, q⟩
theorem call_zipT {prog : Program} {w : World} {A : Around} {E : Value → Shared → Prop} {s : Shared} {a b : Addr} {xs ys : Array Value} {Q : Value → Shared → Prop} (q1 : s.heap.IsTuple a xs) (q2 : s.heap.IsTuple b ys)
    (q : ∀ h', IsZip h' (s.heap.objs.size + 4) (s.heap.objs.size + 2) (s.heap.objs.size + 3) .none → IsPair h' (s.heap.objs.size + 2) (.ref s.heap.objs.size) (.ref (s.heap.objs.size + 1)) → IsPair h' (s.heap.objs.size + 3) .none .none → h'.IsTupleIter s.heap.objs.size a 0 → h'.IsTupleIter (s.heap.objs.size + 1) b 0 →
      (∀ c o, s.heap.get? c = some o → h'.get? c = some o) → Q (.ref (s.heap.objs.size + 4)) { s with heap := h' }) : wpAny (model prog w) A (call (.type "zip") [.ref a, .ref b]) Q E s := by
  refine callType_new F.called_zip (by decide) (F.typeCall_zip_2 _ _) (F.newCall_zip_2 _ _) (fun obj => F.args_object_init_3 obj _ _) F.entry_zip_new (zipT_new a b xs ys) ⟨q1, q2, ?_⟩
  have z1 : (tH1 s.heap a).objs.size = s.heap.objs.size + 1 := Heap.size_push ..
  have z2 : (tH2 s.heap a b).objs.size = s.heap.objs.size + 2 := (Heap.size_push ..).trans (by rw [z1])
  have z3 : (tH3 s.heap a b).objs.size = s.heap.objs.size + 3 := (Heap.size_push ..).trans (by rw [z2])
  have z4 : (tH4 s.heap a b).objs.size = s.heap.objs.size + 4 := (Heap.size_push ..).trans (by rw [z3])
  have k4 : ∀ c o, (tH4 s.heap a b).get? c = some o → (tH5 s.heap a b).get? c = some o := fun c o e => Heap.get?_push_of_some _ e
  have k3 : ∀ c o, (tH3 s.heap a b).get? c = some o → (tH5 s.heap a b).get? c = some o := fun c o e => k4 c o (Heap.get?_push_of_some _ e)
  have k2 : ∀ c o, (tH2 s.heap a b).get? c = some o → (tH5 s.heap a b).get? c = some o := fun c o e => k3 c o (Heap.get?_push_of_some _ e)
  have k1 : ∀ c o, (tH1 s.heap a).get? c = some o → (tH5 s.heap a b).get? c = some o := fun c o e => k2 c o (Heap.get?_push_of_some _ e)
  have k0 : ∀ c o, s.heap.get? c = some o → (tH5 s.heap a b).get? c = some o := fun c o e => k1 c o (Heap.get?_push_of_some _ e)
  have g5 : (tH5 s.heap a b).get? (tH4 s.heap a b).objs.size = some { cls := .type "zip", data := .fields #[.none, .bool false, .bool false, .ref (tH2 s.heap a b).objs.size, .ref (tH3 s.heap a b).objs.size] } := Heap.get?_push_size _ rfl
  have g4 : (tH5 s.heap a b).get? (tH3 s.heap a b).objs.size = some { cls := .type "tuple", data := .seq #[.none, .none] } := k4 _ _ (Heap.get?_push_size _ rfl)
  have g3 : (tH5 s.heap a b).get? (tH2 s.heap a b).objs.size = some { cls := .type "tuple", data := .seq #[.ref s.heap.objs.size, .ref (tH1 s.heap a).objs.size] } := k3 _ _ (Heap.get?_push_size _ rfl)
  have g2 : (tH5 s.heap a b).get? (tH1 s.heap a).objs.size = some { cls := .type "tuple_iterator", data := .fields #[.ref b, .int 0 0] } := k2 _ _ (Heap.get?_push_size _ rfl)
  have g1 : (tH5 s.heap a b).get? s.heap.objs.size = some { cls := .type "tuple_iterator", data := .fields #[.ref a, .int 0 0] } := k1 _ _ (Heap.get?_push_size _ rfl)
  rw [z4, z2, z3] at g5
  rw [z3] at g4
  rw [z2, z1] at g3
  rw [z1] at g2
  change _ ∧ _
  rw [z4]
  exact ⟨⟨_, g5, rfl⟩, q _ g5 g3 g4 ⟨_, g1, rfl, rfl⟩ ⟨_, g2, rfl, rfl⟩ k0⟩
section
variable {prog : Program} {w : World} {A : Around} {E : Value → Shared → Prop} {s : Shared} {n : Addr} {fp1 fp2 : List Addr} {n1 n2 : Nat} {P1 P2 : Nat → Value → Prop} {S1 S2 : Nat → Heap → Prop}
theorem nextZ_item (Z : ZApart n fp1 fp2) (D1 : Draws prog w A.in1 n fp1 n1 P1 S1) (D2 : Draws prog w A.in1 (n + 1) fp2 n2 P2 S2) {a b : Value} {i : Nat} {Q : Option Value → Shared → Prop}
    (hz : IsZip s.heap (n + 4) (n + 2) (n + 3) .none) (hI : IsPair s.heap (n + 2) (.ref n) (.ref (n + 1))) (hO : IsPair s.heap (n + 3) a b) (h1 : S1 i s.heap) (h2 : S2 i s.heap) (l1 : i < n1) (l2 : i < n2)
    (q : ∀ x y h' tk, P1 i x → P2 i y → IsZip h' (n + 4) (n + 2) (n + 3) (rawInt s.heap.objs.size) → IsPair h' (n + 3) x y → S1 (i + 1) h' → S2 (i + 1) h' → IsPair h' s.heap.objs.size x y →
      (∀ c o, c ≠ n + 4 → c ≠ n + 3 → c ≠ n → c ≠ n + 1 → s.heap.get? c = some o → h'.get? c = some o) → Q (some (.ref s.heap.objs.size)) { s with heap := h', toks := tk }) : wpAny (model prog w) A (pyNext (.ref (n + 4))) Q E s := by
  have ty : s.TypeIs (.ref (n + 4)) "zip" := ⟨_, hz, rfl⟩
  unfold pyNext
  exact wpAny_bind (wpAny_attempt (wpAny_callSpecial?_slot (name := Str.ofString "__next__") ty F.slot_zip_next (wpAny_call_entry F.slot_zip_next ty F.entry_zip_next (zipD_item Z D1 D2 hz hI hO h1 h2 l1 l2 fun x y h' tk a1 a2 a3 a4 a5 a6 a7 a8 a9 => wpAny_pure (q x y h' tk a1 a2 a3 a4 a5 a6 a7 a9)) (F.args_zip_next_1 _))))
theorem nextZ_end (Z : ZApart n fp1 fp2) (D1 : Draws prog w A.in1 n fp1 n1 P1 S1) (D2 : Draws prog w A.in1 (n + 1) fp2 n2 P2 S2) {a b : Value} {i : Nat} {Q : Option Value → Shared → Prop}
    (hz : IsZip s.heap (n + 4) (n + 2) (n + 3) .none) (hI : IsPair s.heap (n + 2) (.ref n) (.ref (n + 1))) (hO : IsPair s.heap (n + 3) a b) (h1 : S1 i s.heap) (h2 : S2 i s.heap) (l : i = n1 ∨ (i < n1 ∧ i = n2))
    (q : ∀ h' tk, (∀ c o, c ≠ n + 4 → c ≠ n + 3 → c ≠ n → c ≠ n + 1 → s.heap.get? c = some o → h'.get? c = some o) → Q none { s with heap := h', toks := tk }) : wpAny (model prog w) A (pyNext (.ref (n + 4))) Q E s := by
  have ty : s.TypeIs (.ref (n + 4)) "zip" := ⟨_, hz, rfl⟩
  unfold pyNext
  refine wpAny_bind (wpAny_attempt (wpAny_callSpecial?_slot (name := Str.ofString "__next__") ty F.slot_zip_next (wpAny_call_entry F.slot_zip_next ty F.entry_zip_next (zipD_end Z D1 D2 hz hI hO h1 h2 l fun h' e tk k he => ?_) (F.args_zip_next_1 _))))
  obtain ⟨o, e1, e2⟩ := he
  exact wpAny_bind (wpAny_isInstance (s := { s with heap := h', toks := tk }) (T := "StopIteration") (b := true) ⟨o, e1, e2⟩ isSubtype_stop (wpAny_pure (q _ _ k)))
end
def Itzt (K : PySem.W.Frag) (a b : Addr) : It :=
  ⟨fun i H => ∃ xs ys x y, SqT K H a xs ∧ SqT K H b ys ∧ xs[i]? = some x ∧ ys[i]? = some y,
   fun i H v H' => ∃ T x y, H T = none ∧ v = .ref T ∧ H' = upd H T (.tup [x, y]) ∧ (∀ xs, SqT K H a xs → xs[i]? = some x) ∧ ∀ ys, SqT K H b ys → ys[i]? = some y,
   fun i H => ∃ xs ys, SqT K H a xs ∧ SqT K H b ys ∧ (i = xs.length ∨ (i < xs.length ∧ i = ys.length))⟩
theorem zt_apart {h : Heap} {n a b : Addr} {i : Nat} {f0 p q : Value} {xs ys : Array Value} (hz : IsZip h (n + 4) (n + 2) (n + 3) f0) (hO : IsPair h (n + 3) p q) (h1 : h.IsTupleIter n a i) (h2 : h.IsTupleIter (n + 1) b i) (l1 : h.IsTuple a xs) (l2 : h.IsTuple b ys) (na : a ≠ n + 3) (nb : b ≠ n + 3) :
    ZApart n [n, a] [n + 1, b] ∧ a ≠ n ∧ b ≠ n + 1 := by
  obtain ⟨o1, e1, c1, _⟩ := l1
  obtain ⟨o2, e2, c2, _⟩ := l2
  obtain ⟨p1, q1, d1, _⟩ := h1
  obtain ⟨p2, q2, d2, _⟩ := h2
  have nz : ∀ {c : Addr} {o : Obj}, h.get? c = some o → o.cls = .type "tuple" → c ≠ n + 4 ∧ c ≠ n ∧ c ≠ n + 1 := fun {c o} e z => ⟨ne_cls e hz (by rw [z]; show Value.type "tuple" ≠ Value.type "zip"; decide), ne_cls e q1 (by rw [z, d1]; decide), ne_cls e q2 (by rw [z, d2]; decide)⟩
  obtain ⟨a1, a2, a3⟩ := nz e1 c1
  obtain ⟨b1, b2, b3⟩ := nz e2 c2
  refine ⟨⟨fun c hc => ?_, fun c hc => ?_⟩, a2, b3⟩
  · rcases List.mem_cons.mp hc with r | r
    · exact .inl r
    · rw [List.mem_singleton] at r
      subst r
      exact .inr ⟨a3, na, a1⟩
  · rcases List.mem_cons.mp hc with r | r
    · exact .inl r
    · rw [List.mem_singleton] at r
      subst r
      exact .inr ⟨b2, nb, b1⟩
theorem turn_zipT {P : Program} {w : World} {K : PySem.W.Frag} {elts : List Expr} {kk : Nat} {tpos : Pos} (n a b : Addr) (na : a ≠ n + 3) (nb : b ≠ n + 3) : Turn P w K (.Tuple elts kk tpos) (Itzt K a b) [n + 4, n + 2, n + 3, n, n + 1] (n + 4)
    (fun i h => IsZip h (n + 4) (n + 2) (n + 3) .none ∧ IsPair h (n + 2) (.ref n) (.ref (n + 1)) ∧ (∃ p q, IsPair h (n + 3) p q) ∧ h.IsTupleIter n a i ∧ h.IsTupleIter (n + 1) b i) where
  mem := by simp
  obj := fun i h st c hc => by
    obtain ⟨hz, hTI, ⟨p, q, hTO⟩, ⟨o1, e1, c1, d1⟩, ⟨o2, e2, c2, d2⟩⟩ := st
    simp only [List.mem_cons, List.not_mem_nil, or_false] at hc
    rcases hc with rfl | rfl | rfl | rfl | rfl
    · exact ⟨_, hz, fun v z => nomatch z⟩
    · exact ⟨_, hTI, fun v z => nomatch z⟩
    · exact ⟨_, hTO, fun v z => nomatch z⟩
    · exact ⟨_, e1, fun v z => by rw [d1] at z; cases z⟩
    · exact ⟨_, e2, fun v z => by rw [d2] at z; cases z⟩
  keep := fun i h h' st k => by
    obtain ⟨hz, hTI, ⟨p, q, hTO⟩, h1, h2⟩ := st
    exact ⟨k _ (by simp) _ hz, k _ (by simp) _ hTI, ⟨p, q, k _ (by simp) _ hTO⟩, h1.at fun o e => k _ (by simp) o e, h2.at fun o e => k _ (by simp) o e⟩
  item := by
    intro X hP hw hK hc i pins s σ H E I hf st hg
    subst hP hw hK
    obtain ⟨xs, ys, x, y, hq1, hq2, hx, hy⟩ := hg
    obtain ⟨its1, rv1, p1, _⟩ := I.tuple hq1
    obtain ⟨its2, rv2, p2, _⟩ := I.tuple hq2
    obtain ⟨u1, hu1, ru1⟩ := rv1.get hx
    obtain ⟨u2, hu2, ru2⟩ := rv2.get hy
    obtain ⟨hz, hTI, ⟨pa, pb, hTO⟩, h1, h2⟩ := st
    obtain ⟨Z, a0, b1⟩ := zt_apart hz hTO h1 h2 p1 p2 na nb
    have hd : X.A.in1.handled = none := I.ok.hd hc
    refine nextZ_item Z (drawT hd n a a0 its1.toArray) (drawT hd (n + 1) b b1 its2.toArray) hz hTI hTO ⟨h1, p1⟩ ⟨h2, p2⟩ (by simpa using (List.getElem?_eq_some_iff.mp hu1).1) (by simpa using (List.getElem?_eq_some_iff.mp hu2).1) fun v1 v2 h' tk e1 e2 a1 a2 a3 a4 a5 k => ?_
    obtain rfl : u1 = v1 := by
      have e1' : its1[i]? = some v1 := by simpa using e1
      rw [hu1] at e1'
      exact Option.some.inj e1'
    obtain rfl : u2 = v2 := by
      have e2' : its2[i]? = some v2 := by simpa using e2
      rw [hu2] at e2'
      exact Option.some.inj e2'
    refine ⟨_, rfl, wpAny_letOwnedTupleGo_zip (s := { s with heap := h', toks := tk }) a1 fun h2' hz2 sb => ?_⟩
    have lt : ∀ c ∈ [n + 4, n + 2, n + 3, n, n + 1], c ≠ s.heap.objs.size := fun c hc => by
      simp only [List.mem_cons, List.not_mem_nil, or_false] at hc
      obtain ⟨_, q1, _, _⟩ := id h1
      obtain ⟨_, q2, _, _⟩ := id h2
      rcases hc with rfl | rfl | rfl | rfl | rfl
      · exact Nat.ne_of_lt (Heap.lt_size hz)
      · exact Nat.ne_of_lt (Heap.lt_size hTI)
      · exact Nat.ne_of_lt (Heap.lt_size hTO)
      · exact Nat.ne_of_lt (Heap.lt_size q1)
      · exact Nat.ne_of_lt (Heap.lt_size q2)
    have kk2 : ∀ c o, c ∉ [n + 4, n + 3, n, n + 1] → s.heap.get? c = some o → h2'.get? c = some o := fun c o hc e => by
      simp only [List.mem_cons, List.not_mem_nil, or_false, not_or] at hc
      exact (sb.2 c hc.1).trans (k c o hc.1 hc.2.1 hc.2.2.1 hc.2.2.2 e)
    have I1 : Inv X pins σ H { s with heap := h2', toks := tk } := I.turns (t' := tk) (ch := [n + 4, n + 3, n, n + 1]) kk2 fun c hc => by
      simp only [List.mem_cons, List.not_mem_nil, or_false] at hc
      exact hf c (by simp only [List.mem_cons, List.not_mem_nil, or_false]; rcases hc with z | z | z | z <;> simp [z])
    have fT : FpOk X pins H s.heap.objs.size := I.fpOk (Nat.le_refl _) (I.hok.fresh (Nat.le_refl _))
    have eT : h2'.get? s.heap.objs.size = some { cls := .type "tuple", data := .seq #[u1, u2] } := (sb.2 _ (Ne.symm (lt (n + 4) (by simp)))).trans a5
    refine ⟨.ref s.heap.objs.size, _, I1.adopt (o := .tup [x, y]) fT.1 fT.2.1 I.sz fT.2.2.2.2.1 fT.2.2.2.2.2 ⟨by show 2 ≤ sizeLine; decide, [u1, u2], .cons ru1 (.cons ru2 .nil), ⟨_, eT, rfl, 0, rfl⟩⟩, rfl, ⟨_, x, y, fT.1, rfl, rfl, fun zs hzs => ?_, fun zs hzs => ?_⟩, ?_, fun c hc => ?_⟩
    · rw [I.tuple_inj hzs hq1]; exact hx
    · rw [I.tuple_inj hzs hq2]; exact hy
    · refine ⟨hz2, (sb.2 _ (ap n 2 4 (by decide))).trans (k _ _ (ap n 2 4 (by decide)) (ap n 2 3 (by decide)) (ap n 2 0 (by decide)) (ap n 2 1 (by decide)) hTI), ⟨u1, u2, (sb.2 _ (ap n 3 4 (by decide))).trans a2⟩, a3.1.at fun o e => (sb.2 _ (ap n 0 4 (by decide))).trans e, a4.1.at fun o e => (sb.2 _ (ap n 1 4 (by decide))).trans e⟩
    · rw [upd_ne (lt c hc)]
      exact (hf c hc).1
  done := by
    intro X hP hw hK hc i pins s σ H E I hf st hg
    subst hP hw hK
    obtain ⟨xs, ys, hq1, hq2, hx⟩ := hg
    obtain ⟨its1, rv1, p1, _⟩ := I.tuple hq1
    obtain ⟨its2, rv2, p2, _⟩ := I.tuple hq2
    obtain ⟨hz, hTI, ⟨pa, pb, hTO⟩, h1, h2⟩ := st
    obtain ⟨Z, a0, b1⟩ := zt_apart hz hTO h1 h2 p1 p2 na nb
    have hd : X.A.in1.handled = none := I.ok.hd hc
    have l1 := rv1.length
    have l2 := rv2.length
    refine nextZ_end Z (drawT hd n a a0 its1.toArray) (drawT hd (n + 1) b b1 its2.toArray) hz hTI hTO ⟨h1, p1⟩ ⟨h2, p2⟩ (by simp; omega) fun h' tk k => ⟨rfl, ?_⟩
    refine I.turns (t' := tk) (ch := [n + 4, n + 3, n, n + 1]) (fun c o hc e => ?_) fun c hc => ?_
    · simp only [List.mem_cons, List.not_mem_nil, or_false, not_or] at hc
      exact k c o hc.1 hc.2.1 hc.2.2.1 hc.2.2.2 e
    · simp only [List.mem_cons, List.not_mem_nil, or_false] at hc
      exact hf c (by simp only [List.mem_cons, List.not_mem_nil, or_false]; rcases hc with z | z | z | z <;> simp [z])
  self := fun _ _ _ _ _ st h => wpAny_pyIter_zip st.1 h
def iZipT (K : PySem.W.Frag) (ta : TA) : TI := fun σ H R => ta σ H fun vs H1 => ∃ a b, vs = [.ref a, .ref b] ∧ (∃ xs, SqT K H1 a xs) ∧ (∃ ys, SqT K H1 b ys) ∧ R (Itzt K a b) H1
theorem pi_zipT {X : Cx} {elts : List Expr} {kk : Nat} {tpos : Pos} {a b : Expr} {ta : TA} {p pos : Pos} (hg : Gl X "zip") (hm : X.mg "zip" = none) (ha : PA X [a, b] ta) (hs : starEach [a, b] X.env = [(false, eval a X.env), (false, eval b X.env)] := by rfl) (hs2 : starEach [b] X.env = [(false, eval b X.env)] := by rfl) :
    PI X (.Tuple elts kk tpos) (.Call (.Name "zip" p) [a, b] [] pos) (iZipT X.K ta) := by
  intro pins s σ H R I h
  refine Call_ (ld_blt I hg hm boot_zip (PyProof.Rows.callWith_type1 (thn (ha pos pins s σ H _ I h) fun us s1 ⟨vs, H1, I1, r1, q1⟩ => ?_) (by rw [hs, hs2]) (by rw [hs2]; rfl)))
  obtain ⟨a', b', e, ⟨xs, hq1⟩, ⟨ys, hq2⟩, q⟩ := q1
  subst e
  obtain ⟨u, w', rfl, r, r'⟩ := vals2 r1
  cases r
  cases r'
  obtain ⟨its1, rv1, p1, _⟩ := I1.tuple hq1
  obtain ⟨its2, rv2, p2, _⟩ := I1.tuple hq2
  have lt : ∀ {c : Addr} {its : Array Value}, IsTup s1.heap c its → c ≠ s1.heap.objs.size + 3 := fun {c its} ⟨o, e, _⟩ => Nat.ne_of_lt (Nat.lt_of_lt_of_le (Heap.lt_size e) (Nat.le_add_right _ _))
  refine call_zipT (show s1.heap.IsTuple a' its1.toArray from p1) (show s1.heap.IsTuple b' its2.toArray from p2) fun h' z1 z2 z3 z4 z5 k => wpAny_pyIter_zip (s := { s1 with heap := h' }) z1 ?_
  refine ⟨s1.heap.objs.size + 4, [s1.heap.objs.size + 4, s1.heap.objs.size + 2, s1.heap.objs.size + 3, s1.heap.objs.size, s1.heap.objs.size + 1], _, _, H1, rfl, I1.kept (t' := s1.toks) k, turn_zipT s1.heap.objs.size a' b' (lt p1) (lt p2), ⟨z1, z2, ⟨_, _, z3⟩, z4, z5⟩, fun c hc => ?_, q⟩
  have hle : s1.heap.objs.size ≤ c := by
    simp only [List.mem_cons, List.not_mem_nil, or_false] at hc
    rcases hc with rfl | rfl | rfl | rfl | rfl
    · exact ap' _ 4
    · exact ap' _ 2
    · exact ap' _ 3
    · exact ap' _ 0
    · exact ap' _ 1
  exact I1.fpOk hle (I1.hok.fresh hle)
theorem turns_zipT0 {K : PySem.W.Frag} {a b : Addr} {xs zs : List V} {n : Nat} {fr : List (Str × Nat)} {g : TG} {te : TE} {σ : St} {H : Hp} {F : List V → Hp → Prop} (hlen : xs.length = zs.length) (Pv : Nat → List V → Hp → Prop) (h0 : Pv 0 [] H) (hl : ∀ i ys H, i ≤ xs.length → Pv i ys H → SqT K H a xs ∧ SqT K H b zs)
    (hs : ∀ i x z ys H T, xs[i]? = some x → zs[i]? = some z → Pv i ys H → H T = none → g (.ref T) (stC n fr σ) (upd H T (.tup [x, z])) fun σ2 H2 => te σ2 H2 fun y H4 => ys.length < sizeLine ∧ Pv (i + 1) (ys ++ [y]) H4)
    (hd : ∀ ys H, Pv xs.length ys H → F ys H) : tTurns n fr g tNoIf te σ (Itzt K a b) H F := by
  refine ⟨fun i m ys H => m = xs.length - i ∧ i ≤ xs.length ∧ Pv i ys H, ⟨xs.length, by simp, Nat.zero_le _, h0⟩, ?_⟩
  rintro i m ys H ⟨rfl, hi, p⟩
  obtain ⟨q1, q2⟩ := hl i ys H hi p
  by_cases hlt : i < xs.length
  · have hx := List.getElem?_eq_getElem hlt
    have hz : zs[i]? = some (zs[i]'(by omega)) := List.getElem?_eq_getElem (by omega)
    refine .inr ⟨⟨xs, zs, _, _, q1, q2, hx, hz⟩, Pv (i + 1), fun ys' H' p' => ⟨xs.length - (i + 1), by omega, rfl, hlt, p'⟩, fun y H' z => ?_⟩
    obtain ⟨T, x, z', hT, rfl, rfl, e1, e2⟩ := z
    exact hs i x z' ys H T (e1 _ q1) (e2 _ q2) p hT
  · have e : i = xs.length := by omega
    subst e
    exact .inl ⟨⟨xs, zs, q1, q2, .inl rfl⟩, hd ys H p⟩
end L2
namespace Mg
section
variable {α : Type} [DecidableEq α]
def cnt (rs : List (List α)) (x : α) : Nat := (rs.map fun r => r.tail.count x).sum
def pick (f : α → Nat) : List (List α) → Option α
  | [] => none
  | [] :: r => pick f r
  | (x :: _) :: r => if f x = 0 then some x else pick f r
def drop1 (x : α) : List α → List α
  | [] => []
  | y :: r => if y = x then r else y :: r
def runM : Nat → List (List α) → List α × List (List α)
  | 0, rs => ([], rs)
  | n + 1, rs => match pick (cnt rs) rs with
    | none => ([], rs)
    | some x => (x :: (runM n (rs.map (drop1 x))).1, (runM n (rs.map (drop1 x))).2)
def tot (rs : List (List α)) : Nat := (rs.map List.length).sum
theorem cnt_cons (r : List α) (rs : List (List α)) (x : α) : cnt (r :: rs) x = r.tail.count x + cnt rs x := rfl
theorem cnt_append (rs ss : List (List α)) (x : α) : cnt (rs ++ ss) x = cnt rs x + cnt ss x := by
  unfold cnt
  rw [List.map_append, List.sum_append]
theorem cnt_nil (x : α) : cnt [] x = 0 := rfl
theorem cnt_zero {rs : List (List α)} {x : α} : cnt rs x = 0 ↔ ∀ r ∈ rs, x ∉ r.tail := by
  induction rs with
  | nil => simp [cnt_nil]
  | cons r rs ih =>
    rw [cnt_cons]
    constructor
    · intro h q hq
      rcases List.mem_cons.mp hq with rfl | hq
      · exact List.count_eq_zero.mp (by omega)
      · exact ih.mp (by omega) q hq
    · intro h
      have h1 := List.count_eq_zero.mpr (h r List.mem_cons_self)
      have h2 := ih.mpr fun q hq => h q (List.mem_cons_of_mem _ hq)
      omega
theorem pick_mem {f : α → Nat} {x : α} : ∀ {rs : List (List α)}, pick f rs = some x → f x = 0 ∧ ∃ r ∈ rs, ∃ t, r = x :: t
  | [], h => nomatch h
  | [] :: r, h => by
    obtain ⟨h1, q, hq, t, e⟩ := pick_mem (rs := r) h
    exact ⟨h1, q, List.mem_cons_of_mem _ hq, t, e⟩
  | (y :: u) :: r, h => by
    unfold pick at h
    by_cases hy : f y = 0
    · rw [if_pos hy] at h
      cases h
      exact ⟨hy, _, List.mem_cons_self, u, rfl⟩
    · rw [if_neg hy] at h
      obtain ⟨h1, q, hq, t, e⟩ := pick_mem (rs := r) h
      exact ⟨h1, q, List.mem_cons_of_mem _ hq, t, e⟩
theorem tot_cons (r : List α) (rs : List (List α)) : tot (r :: rs) = r.length + tot rs := rfl
theorem drop1_cons (x y : α) (r : List α) : drop1 x (y :: r) = if y = x then r else y :: r := rfl
theorem drop1_le (x : α) (r : List α) : (drop1 x r).length ≤ r.length := by
  cases r with
  | nil => exact Nat.le_refl _
  | cons y r =>
    rw [drop1_cons]
    split
    · exact Nat.le_succ _
    · exact Nat.le_refl _
theorem tot_drop_le (x : α) : ∀ rs : List (List α), tot (rs.map (drop1 x)) ≤ tot rs
  | [] => Nat.le_refl _
  | r :: rs => by
    rw [List.map_cons, tot_cons, tot_cons]
    have := tot_drop_le x rs
    have := drop1_le x r
    omega
theorem tot_drop_lt {x : α} {t : List α} : ∀ {rs : List (List α)}, x :: t ∈ rs → tot (rs.map (drop1 x)) < tot rs
  | r :: rs, h => by
    rw [List.map_cons, tot_cons, tot_cons]
    rcases List.mem_cons.mp h with e | h
    · subst e
      have h1 := tot_drop_le x rs
      have h2 : (drop1 x (x :: t)).length = t.length := by rw [drop1_cons, if_pos rfl]
      rw [h2, List.length_cons]
      omega
    · have := tot_drop_lt h
      have := drop1_le x r
      omega
theorem run_none {n : Nat} {rs : List (List α)} (h : pick (cnt rs) rs = none) : runM n rs = ([], rs) := by
  cases n with
  | zero => rfl
  | succ n => unfold runM; rw [h]
theorem run_some {n : Nat} {rs : List (List α)} {x : α} (h : pick (cnt rs) rs = some x) : runM (n + 1) rs = (x :: (runM n (rs.map (drop1 x))).1, (runM n (rs.map (drop1 x))).2) := by
  rw [runM, h]
theorem drop1_self (x : α) (r : List α) : drop1 x (x :: r) = r := by rw [drop1_cons, if_pos rfl]
theorem pick_first {x : α} {t : List α} {rs : List (List α)} {f : α → Nat} (h : f x = 0) : pick f ((x :: t) :: rs) = some x := by unfold pick; rw [if_pos h]
end
end Mg
namespace Mg
section
variable {α : Type} [DecidableEq α]
def rests (rows : List (List α)) (st : List Nat) : List (List α) := List.zipWith (fun r n => r.drop n) rows st
theorem rests_get {rows : List (List α)} {st : List Nat} {i : Nat} {r : List α} {n : Nat} (h1 : rows[i]? = some r) (h2 : st[i]? = some n) : (rests rows st)[i]? = some (r.drop n) := by
  unfold rests
  rw [List.getElem?_zipWith, h1, h2]
theorem rests_length {rows : List (List α)} {st : List Nat} (h : st.length = rows.length) : (rests rows st).length = rows.length := by
  unfold rests
  rw [List.length_zipWith, h, Nat.min_self]
theorem rests_zero : ∀ rows : List (List α), rests rows (List.replicate rows.length 0) = rows
  | [] => rfl
  | r :: rows => by
    have ih := rests_zero rows
    show (r.drop 0) :: rests rows (List.replicate rows.length 0) = r :: rows
    rw [ih, List.drop_zero]
theorem drop_get {r : List α} {n : Nat} (h : n < r.length) : r.drop n = r[n] :: r.drop (n + 1) := List.drop_eq_getElem_cons h
theorem pick_drop0 {f : α → Nat} {rs : List (List α)} {i : Nat} (h : rs[i]? = some []) : pick f (rs.drop i) = pick f (rs.drop (i + 1)) := by
  obtain ⟨hi, e⟩ := List.getElem?_eq_some_iff.mp h
  rw [List.drop_eq_getElem_cons hi, e]
  rfl
theorem pick_drop1 {f : α → Nat} {rs : List (List α)} {i : Nat} {x : α} {t : List α} (h : rs[i]? = some (x :: t)) : pick f (rs.drop i) = if f x = 0 then some x else pick f (rs.drop (i + 1)) := by
  obtain ⟨hi, e⟩ := List.getElem?_eq_some_iff.mp h
  rw [List.drop_eq_getElem_cons hi, e]
  rfl
def half (x : α) (rs : List (List α)) (i : Nat) : List (List α) := (rs.take i).map (drop1 x) ++ rs.drop i
theorem half_zero (x : α) (rs : List (List α)) : half x rs 0 = rs := by unfold half; simp
theorem half_all (x : α) (rs : List (List α)) {i : Nat} (h : rs.length ≤ i) : half x rs i = rs.map (drop1 x) := by
  unfold half
  rw [List.take_of_length_le h, List.drop_eq_nil_of_le h, List.append_nil]
theorem half_split {x : α} {rs : List (List α)} {i : Nat} {r : List α} (h : rs[i]? = some r) : half x rs i = (rs.take i).map (drop1 x) ++ r :: rs.drop (i + 1) ∧ half x rs (i + 1) = (rs.take i).map (drop1 x) ++ drop1 x r :: rs.drop (i + 1) := by
  obtain ⟨hi, e⟩ := List.getElem?_eq_some_iff.mp h
  unfold half
  constructor
  · rw [List.drop_eq_getElem_cons hi, e]
  · rw [List.take_add_one, h, List.map_append]
    simp
theorem cnt_half {x : α} {rs : List (List α)} {i : Nat} {r : List α} (h : rs[i]? = some r) (y : α) : cnt (half x rs (i + 1)) y + r.tail.count y = cnt (half x rs i) y + (drop1 x r).tail.count y := by
  obtain ⟨e1, e2⟩ := half_split (x := x) h
  rw [e1, e2, cnt_append, cnt_append, cnt_cons, cnt_cons]
  omega
theorem set_rests {rows : List (List α)} {st : List Nat} {i n : Nat} {r : List α} (h1 : rows[i]? = some r) (hi : i < st.length) : rests rows (st.set i n) = (rests rows st).set i (r.drop n) := by
  apply List.ext_getElem?
  intro j
  unfold rests
  rw [List.getElem?_zipWith]
  by_cases hj : i = j
  · subst hj
    have hi2 : i < rows.length := (List.getElem?_eq_some_iff.mp h1).1
    rw [List.getElem?_set_self hi, h1, List.getElem?_set_self (by rw [List.length_zipWith]; omega)]
  · rw [List.getElem?_set_ne hj, List.getElem?_set_ne hj, List.getElem?_zipWith]
theorem tot_take_succ {rs : List (List α)} {i : Nat} {r : List α} (h : rs[i]? = some r) : tot (rs.take (i + 1)) = tot (rs.take i) + r.length := by
  unfold tot
  rw [List.take_add_one, h, List.map_append, List.sum_append]
  simp
theorem tot_take_le (rs : List (List α)) (i : Nat) : tot (rs.take i) ≤ tot rs := by
  have e : tot rs = tot (rs.take i) + tot (rs.drop i) := by
    unfold tot
    rw [← List.sum_append, ← List.map_append, List.take_append_drop]
  omega
theorem cnt_take_succ {rs : List (List α)} {i : Nat} {r : List α} (h : rs[i]? = some r) (x : α) : cnt (rs.take (i + 1)) x = cnt (rs.take i) x + r.tail.count x := by
  unfold cnt
  rw [List.take_add_one, h, List.map_append, List.sum_append]
  simp
theorem count_take_succ {r : List α} {j : Nat} {y : α} (h : r[j]? = some y) (x : α) : (r.take (j + 1)).count x = (r.take j).count x + if x = y then 1 else 0 := by
  rw [List.take_add_one, h, List.count_append]
  by_cases e : x = y
  · subst e
    rw [if_pos rfl]
    simp
  · rw [if_neg e]
    have : ¬ y = x := fun z => e z.symm
    simp [this]
end
end Mg
namespace Mg
section
variable {α : Type} [DecidableEq α]
theorem half_set {x : α} {rs : List (List α)} {i : Nat} {r : List α} (h : rs[i]? = some r) : (half x rs i).set i (drop1 x r) = half x rs (i + 1) := by
  obtain ⟨e1, e2⟩ := half_split (x := x) h
  have hi : i < rs.length := (List.getElem?_eq_some_iff.mp h).1
  have hl : ((rs.take i).map (drop1 x)).length = i := by rw [List.length_map, List.length_take]; omega
  rw [e1, e2, List.set_append_right _ _ (by rw [hl]; exact Nat.le_refl _), hl, Nat.sub_self]
  rfl
theorem half_same {x : α} {rs : List (List α)} {i : Nat} {r : List α} (h : rs[i]? = some r) (e : drop1 x r = r) : half x rs (i + 1) = half x rs i := by
  obtain ⟨e1, e2⟩ := half_split (x := x) h
  rw [e1, e2, e]
end
end Mg
namespace Nm
open PySem PyProof.Rows
def letters : Str := "abcdefghijklmnopqrstuvwxyz"
def fill (c : Int) : Str := Txt.slice (letters ++ letters) (some (c % 26)) (some (c % 26 + c / 26 % 19))
def place (c : Int) : Int := c / 494 % (((fill c).length : Int) + 1)
def sign (k : Int) : Str := ⟨#[97 + k.toNat]⟩
def nameBy (k c : Int) : Str := Txt.slice (fill c) none (some (place c)) ++ sign (k / 26 % 26) ++ sign (k % 26) ++ Txt.slice (fill c) (some (place c)) none
def isNm (x : Str) : Prop := 1 ≤ x.length ∧ x.length ≤ 20 ∧ ∀ c ∈ x.cps.toList, 97 ≤ c ∧ c ≤ 122
theorem letters_len : letters.length = 26 := by decide +kernel
theorem letters_cps : letters.cps.toList = (List.range 26).map (97 + ·) := by decide +kernel
theorem len_app (a b : Str) : (a ++ b).length = a.length + b.length := by
  show (a.cps ++ b.cps).size = _
  rw [Array.size_append]
  rfl
theorem app_list (a b : Str) : (a ++ b).cps.toList = a.cps.toList ++ b.cps.toList := by
  show (a.cps ++ b.cps).toList = _
  rw [Array.toList_append]
theorem len_list (a : Str) : a.length = a.cps.toList.length := by
  show a.cps.size = _
  rw [Array.length_toList]
theorem cut_mid {x : Str} {i j : Int} (h0 : 0 ≤ i) (h1 : i ≤ j) (h2 : j ≤ x.length) : (Txt.slice x (some i) (some j)).cps.toList = (x.cps.toList.drop i.toNat).take (j - i).toNat := by
  have e := eq_of_beq (slice_closesL h0 h1 h2)
  rw [e]
theorem cut_to {x : Str} {j : Int} (h0 : 0 ≤ j) (h2 : j ≤ x.length) : (Txt.slice x none (some j)).cps.toList = x.cps.toList.take j.toNat := by
  have e := eq_of_beq (slice_closes_toL h0 h2)
  rw [e]
  simp
theorem cut_from {x : Str} {i : Int} (h0 : 0 ≤ i) (h2 : i ≤ x.length) : (Txt.slice x (some i) none).cps.toList = x.cps.toList.drop i.toNat := by
  have e := eq_of_beq (slice_closes_fromL h0 h2 rfl)
  rw [e]
  show (x.cps.toList.drop i.toNat).take ((x.length : Int) - i).toNat = _
  refine List.take_of_length_le ?_
  rw [List.length_drop, ← len_list]
  omega
theorem fill_cps (c : Int) : (fill c).cps.toList = ((letters ++ letters).cps.toList.drop (c % 26).toNat).take (c / 26 % 19).toNat := by
  have a1 := Int.emod_nonneg c (show (26 : Int) ≠ 0 by decide)
  have a2 := Int.emod_lt_of_pos c (show (0 : Int) < 26 by decide)
  have b1 := Int.emod_nonneg (c / 26) (show (19 : Int) ≠ 0 by decide)
  have b2 := Int.emod_lt_of_pos (c / 26) (show (0 : Int) < 19 by decide)
  unfold fill
  rw [cut_mid a1 (by omega) (by rw [len_app, letters_len]; omega)]
  congr 2
  omega
theorem fill_len (c : Int) : (fill c).length ≤ 18 := by
  rw [len_list, fill_cps, List.length_take]
  have b1 := Int.emod_nonneg (c / 26) (show (19 : Int) ≠ 0 by decide)
  have b2 := Int.emod_lt_of_pos (c / 26) (show (0 : Int) < 19 by decide)
  omega
theorem fill_small (c : Int) : ∀ x ∈ (fill c).cps.toList, 97 ≤ x ∧ x ≤ 122 := fun x hx => by
  rw [fill_cps, app_list, letters_cps] at hx
  have h := List.mem_of_mem_drop (List.mem_of_mem_take hx)
  have h' : x ∈ (List.range 26).map (97 + ·) := by
    rcases List.mem_append.mp h with z | z <;> exact z
  obtain ⟨i, hi, rfl⟩ := List.mem_map.mp h'
  have := List.mem_range.mp hi
  omega
theorem place_in (c : Int) : 0 ≤ place c ∧ place c ≤ (fill c).length := by
  unfold place
  have b1 := Int.emod_nonneg (c / 494) (show (((fill c).length : Int) + 1) ≠ 0 by omega)
  have b2 := Int.emod_lt_of_pos (c / 494) (show (0 : Int) < (((fill c).length : Int) + 1) by omega)
  omega
theorem name_cps (k c : Int) : (nameBy k c).cps.toList = (fill c).cps.toList.take (place c).toNat ++ [97 + (k / 26 % 26).toNat] ++ [97 + (k % 26).toNat] ++ (fill c).cps.toList.drop (place c).toNat := by
  obtain ⟨h0, h1⟩ := place_in c
  unfold nameBy
  rw [app_list, app_list, app_list, cut_to h0 h1, cut_from h0 h1]
  rfl
theorem name_len (k c : Int) : (nameBy k c).length = (fill c).length + 2 := by
  rw [len_list, name_cps]
  simp only [List.length_append, List.length_take, List.length_drop, List.length_singleton]
  rw [len_list]
  omega
theorem name_is (k c : Int) : isNm (nameBy k c) := by
  have h1 := name_len k c
  have h2 := fill_len c
  refine ⟨by omega, by omega, fun x hx => ?_⟩
  rw [name_cps] at hx
  have k1 := Int.emod_nonneg (k / 26) (show (26 : Int) ≠ 0 by decide)
  have k2 := Int.emod_lt_of_pos (k / 26) (show (0 : Int) < 26 by decide)
  have k3 := Int.emod_nonneg k (show (26 : Int) ≠ 0 by decide)
  have k4 := Int.emod_lt_of_pos k (show (0 : Int) < 26 by decide)
  rcases List.mem_append.mp hx with hx | hx
  · rcases List.mem_append.mp hx with hx | hx
    · rcases List.mem_append.mp hx with hx | hx
      · exact fill_small c x (List.mem_of_mem_take hx)
      · have := List.mem_singleton.mp hx
        omega
    · have := List.mem_singleton.mp hx
      omega
  · exact fill_small c x (List.mem_of_mem_drop hx)
theorem name_inj {k j c : Int} (h0 : 0 ≤ k) (h1 : k < 676) (h2 : 0 ≤ j) (h3 : j < 676) (h : nameBy k c = nameBy j c) : k = j := by
  have e := congrArg (fun x : Str => x.cps.toList) h
  rw [name_cps, name_cps, List.append_assoc, List.append_assoc, List.append_assoc, List.append_assoc] at e
  have e2 := List.append_cancel_left e
  have e3 : (97 + (k / 26 % 26).toNat) = (97 + (j / 26 % 26).toNat) ∧ (97 + (k % 26).toNat) = (97 + (j % 26).toNat) := by
    simpa using e2
  omega
theorem sign_ge (c : Nat) : (!decide (([c] : List Nat) < [97])) = decide (97 ≤ c) := by
  by_cases h : 97 ≤ c
  · rw [decide_eq_true h]
    have : ¬ ([c] : List Nat) < [97] := fun z => by
      rcases List.cons_lt_cons_iff.mp z with z | ⟨_, z⟩
      · omega
      · exact absurd z (List.not_lt_nil _)
    rw [decide_eq_false this]; rfl
  · rw [decide_eq_false h]
    have : ([c] : List Nat) < [97] := List.cons_lt_cons_iff.mpr (.inl (by omega))
    rw [decide_eq_true this]; rfl
theorem sign_le (c : Nat) : (!decide (([122] : List Nat) < [c])) = decide (c ≤ 122) := by
  by_cases h : c ≤ 122
  · rw [decide_eq_true h]
    have : ¬ ([122] : List Nat) < [c] := fun z => by
      rcases List.cons_lt_cons_iff.mp z with z | ⟨_, z⟩
      · omega
      · exact absurd z (List.not_lt_nil _)
    rw [decide_eq_false this]; rfl
  · rw [decide_eq_false h]
    have : ([122] : List Nat) < [c] := List.cons_lt_cons_iff.mpr (.inl (by omega))
    rw [decide_eq_true this]; rfl
end Nm
namespace Bk
open PySem L2 Mg
def top (i : Nat) : Stmt := PySem.Challenge.pw_elderline_k15_refused.main.body.getD i (.Pass ⟨0, 0, 0, 0⟩)
abbrev sMerged : Stmt := top 14
abbrev sCounts : Stmt := top 15
abbrev sFree : Stmt := top 16
abbrev sTake : Stmt := top 17
abbrev sMade : Stmt := top 22
abbrev sIsName : Stmt := top 24
abbrev sWhole : Stmt := top 25
abbrev sAmount : Stmt := top 26
abbrev sCheck : Stmt := top 27
abbrev sIsBody : Stmt := top 30
abbrev sIsStep : Stmt := top 31
abbrev sIsPart : Stmt := top 32
abbrev sAnswered : Stmt := top 42
abbrev sLeft : Stmt := top 45
abbrev sCell : Stmt := top 50
abbrev sName : Stmt := top 51
abbrev sBad : Stmt := top 52
abbrev sGood : Stmt := top 53
abbrev sRefusal : Stmt := top 54
abbrev sTaught : Stmt := top 55
abbrev sLAsked : Stmt := top 56
abbrev sBodyBy : Stmt := top 57
abbrev sFirstT : Stmt := top 58
abbrev sOthers : Stmt := top 59
abbrev sBadSteps : Stmt := top 60
abbrev sThen : Stmt := top 61
abbrev sLaw : Stmt := top 62
abbrev sInitH : Stmt := inClass (top 34) 0
abbrev sInitB : Stmt := inClass (top 35) 0
abbrev sFound : Stmt := inClass (top 35) 1
abbrev sHouses : Stmt := inClass (top 35) 2
abbrev sOrder : Stmt := inClass (top 35) 3
abbrev sElders : Stmt := inClass (top 35) 4
abbrev sWords : Stmt := inClass (top 35) 5
abbrev sOwn : Stmt := inClass (top 35) 6
abbrev sTeach : Stmt := inClass (top 35) 7
abbrev sForget : Stmt := inClass (top 35) 8
abbrev sBody : Stmt := inClass (top 35) 9
abbrev sHouse : Stmt := inClass (top 35) 10
abbrev sInitT : Stmt := inClass (top 40) 0
abbrev sInitA : Stmt := inClass (top 43) 0
abbrev sAsked : Stmt := inClass (top 43) 1
structure Txt (mg : Str → Option Value) : Prop where
  len : mg "len" = none
  zip : mg "zip" = none
  enum : mg "enumerate" = none
  any : mg "any" = none
  range : mg "range" = none
  isi : mg "isinstance" = none
  list : mg "list" = none
  str : mg "str" = none
  all : mg "all" = none
  rev : mg "reversed" = none
  set : mg "set" = none
  tup : mg "tuple" = none
  int : mg "int" = none
  bool : mg "bool" = none
  vErr : mg "ValueError" = none
def sVs (r : List Str) : List V := r.map V.str
theorem sVs_len (r : List Str) : (sVs r).length = r.length := List.length_map _
theorem sVs_get {r : List Str} {i : Nat} {v : V} (h : (sVs r)[i]? = some v) : ∃ x, r[i]? = some x ∧ v = .str x := by
  unfold sVs at h
  rw [List.getElem?_map] at h
  cases e : r[i]? with
  | none => rw [e] at h; cases h
  | some x => rw [e] at h; exact ⟨x, rfl, (Option.some.inj h).symm⟩
theorem sVs_at {r : List Str} {i : Nat} {x : Str} (h : r[i]? = some x) : (sVs r)[i]? = some (.str x) := by
  unfold sVs
  rw [List.getElem?_map, h] <;> rfl
structure RowsAt (H : Hp) (ra : Addr) (as : List Addr) (rows : List (List Str)) : Prop where
  lst : H ra = some (.lst (as.map V.ref))
  len : as.length = rows.length
  row : ∀ (i : Nat) (a : Addr) (r : List Str), as[i]? = some a → rows[i]? = some r → H a = some (.lst (sVs r))
theorem RowsAt.same {H H' : Hp} {ra : Addr} {as : List Addr} {rows : List (List Str)} (R : RowsAt H ra as rows) (h : Same H H') : RowsAt H' ra as rows := ⟨h _ _ R.lst, R.len, fun i a r h1 h2 => h _ _ (R.row i a r h1 h2)⟩
theorem refs_get {as : List Addr} {i : Nat} {v : V} (h : (as.map V.ref)[i]? = some v) : ∃ a, as[i]? = some a ∧ v = .ref a := by
  rw [List.getElem?_map] at h
  cases e : as[i]? with
  | none => rw [e] at h; cases h
  | some x => rw [e] at h; exact ⟨x, rfl, (Option.some.inj h).symm⟩
theorem RowsAt.get {H : Hp} {ra : Addr} {as : List Addr} {rows : List (List Str)} (R : RowsAt H ra as rows) {i : Nat} {a : Addr} (h : as[i]? = some a) : ∃ r, rows[i]? = some r ∧ H a = some (.lst (sVs r)) := by
  have hi : i < rows.length := by rw [← R.len]; exact (List.getElem?_eq_some_iff.mp h).1
  exact ⟨rows[i], List.getElem?_eq_getElem hi, R.row i a _ h (List.getElem?_eq_getElem hi)⟩
def iVs (st : List Nat) : List V := st.map fun n : Nat => V.int (n : Int)
theorem iVs_len (st : List Nat) : (iVs st).length = st.length := List.length_map _
theorem iVs_get {st : List Nat} {i : Nat} {v : V} (h : (iVs st)[i]? = some v) : ∃ n : Nat, st[i]? = some n ∧ v = .int n := by
  unfold iVs at h
  rw [List.getElem?_map] at h
  cases e : st[i]? with
  | none => rw [e] at h; cases h
  | some x => rw [e] at h; exact ⟨x, rfl, (Option.some.inj h).symm⟩
theorem iVs_at {st : List Nat} {i n : Nat} (h : st[i]? = some n) : (iVs st)[i]? = some (.int n) := by
  unfold iVs
  rw [List.getElem?_map, h] <;> rfl
def Beh (kvs : List (Key × V)) (f : Str → Nat) : Prop := ∀ x : Str, (valV kvs (Sum.inr x : Key)).getD (V.int 0) = V.int (f x)
theorem Beh.put {kvs : List (Key × V)} {f g : Str → Nat} {x : Str} {n : Int} (h : Beh kvs f) (hx : n = (g x : Int)) (hg : ∀ y, ¬ y = x → g y = f y) : Beh (putK kvs (Sum.inr x : Key) (.int n)) g := fun y => by
  rw [valV_put]
  by_cases e : y = x
  · subst e
    rw [if_pos rfl, hx]
    all_goals rfl
  · rw [if_neg (fun z : (Sum.inr y : Key) = Sum.inr x => e (Sum.inr.inj z)), h y, hg y e]
theorem Beh.pos {kvs : List (Key × V)} {f : Str → Nat} {x : Str} (h : Beh kvs f) (hx : 0 < f x) : valV kvs (Sum.inr x : Key) = some (.int (f x)) := by
  have q := h x
  cases e : valV kvs (Sum.inr x : Key) with
  | none =>
    rw [e] at q
    have q' : (0 : Int) = (f x : Int) := V.int.inj q
    omega
  | some v =>
    rw [e] at q
    exact congrArg some q
theorem len_put {kvs : List (Key × V)} {k : Key} {u v : V} (h : valV kvs k = some u) : (putK kvs k v).length = kvs.length := by
  unfold putK
  rw [valV_any, h, if_pos (show (some u).isSome = true from rfl), List.length_map]
theorem same_new {H : Hp} {p : Addr} (h : H p = none) (o : HO) : Same H (upd H p o) := fun b u q => by rw [upd_ne (ne_of_none q h)]; exact q
theorem cut1 (xs : List V) : cutV xs (some 1) none = xs.tail := by
  unfold cutV
  rw [HT.sIx_none]
  have e : HT.sIx xs.length 0 (some 1) = min 1 xs.length := HT.sIx_nat xs.length 0 1
  rw [e]
  cases xs with
  | nil => rfl
  | cons x r =>
    have e2 : min 1 (x :: r).length = 1 := by rw [List.length_cons]; omega
    rw [e2]
    simp
theorem cutFrom (xs : List V) (n : Nat) (h : n ≤ xs.length) : cutV xs (some (n : Int)) none = xs.drop n := by
  unfold cutV
  rw [HT.sIx_none, HT.sIx_nat, Nat.min_eq_left h]
  rw [List.take_of_length_le (by rw [List.length_drop]; omega)]
def spCounts : Sp := fun vs H Q _ => ∃ (ra : Addr) (as : List Addr) (rows : List (List Str)), vs = [.ref ra] ∧ RowsAt H ra as rows ∧ tot rows ≤ 1000000 ∧
  ∀ (d : Addr) (kvs : List (Key × V)) (H' : Hp), H d = none → Same H H' → H' d = some (.dK kvs) → Beh kvs (cnt rows) → kvs.length ≤ tot rows → Q (.ref d) H'
structure StAt (H : Hp) (rows : List (List Str)) (sa ba : Addr) (st : List Nat) (kvs : List (Key × V)) : Prop where
  lst : H sa = some (.lst (iVs st))
  len : st.length = rows.length
  dic : H ba = some (.dK kvs)
def nameV : Option Str → V
  | some x => .str x
  | none => .non
def spFree : Sp := fun vs H Q _ => ∃ (ra sa ba : Addr) (as : List Addr) (rows : List (List Str)) (st : List Nat) (kvs : List (Key × V)) (g : Str → Nat), vs = [.ref ra, .ref sa, .ref ba] ∧ RowsAt H ra as rows ∧ StAt H rows sa ba st kvs ∧ Beh kvs g ∧
  ∀ H', Same H H' → Q (nameV (pick g (rests rows st))) H'
def spTake : Sp := fun vs H Q _ => ∃ (x : Str) (ra sa ba : Addr) (as : List Addr) (rows : List (List Str)) (st : List Nat) (kvs : List (Key × V)), vs = [.str x, .ref ra, .ref sa, .ref ba] ∧ RowsAt H ra as rows ∧ StAt H rows sa ba st kvs ∧
  (∀ (i : Nat) (r : List Str) (n : Nat), rows[i]? = some r → st[i]? = some n → n ≤ r.length) ∧ Beh kvs (cnt (rests rows st)) ∧ kvs.length ≤ 1000000 ∧ sa ≠ ra ∧ (∀ a ∈ as, a ≠ sa) ∧
  ∀ (st' : List Nat) (kvs' : List (Key × V)) (H' : Hp), StAt H' rows sa ba st' kvs' → rests rows st' = (rests rows st).map (drop1 x) → (∀ (i : Nat) (r : List Str) (n : Nat), rows[i]? = some r → st'[i]? = some n → n ≤ r.length) →
    Beh kvs' (cnt (rests rows st')) → kvs'.length = kvs.length → (∀ b o, H b = some o → b ≠ sa → b ≠ ba → H' b = some o) → Q .non H'
section
variable {P : Program} {w : World} {K : PySem.W.Frag} {mg : Str → Option Value} {base : Heap} {f : Addr} {fd : FuncData}
theorem scCounts : FnScope ["rows", "behind", "row", "name"] ["rows"] (defScope sCounts) := ⟨rfl, rfl, rfl, by decide +kernel, rfl, by decide +kernel, by decide +kernel⟩
theorem ok_counts (F : Fun K "counts_behind" "counts_behind" sCounts f fd) (T : Txt mg) : FnOk P w K mg base CX0 1 f fd ["rows"] spCounts := by
  refine F.ok scCounts (fun vs H Q E h => ?_) (fun cdv A outer s H vs Q E hr h => ?_)
  · obtain ⟨ra, as, rows, rfl, _⟩ := h
    rfl
  obtain ⟨ra, as, rows, rfl, R, ht, q⟩ := h
  have hu := hu_of hr
  refine ⟨_, pss_cons (ps_set (i := 1) scCounts.nd rfl (Or.inl rfl) pe_dnewK)
    (pss_cons (ps_for PassesOwn.never rfl (pi_list (pv 0)) (pg_name (i := 2) scCounts.nd rfl (Or.inl rfl))
      (pss_one (ps_for PassesOwn.never rfl (pi_list (pe_slice sl_list (pv 2) (po_some pe_int) po_none)) (pg_name (i := 3) scCounts.nd rfl (Or.inl rfl))
        (pss_one (ps_dput hu (pv 1) (pv 3) (pe_op op_add (pe_dget2 hu (pv 1) (pv 3) pe_int ⟨rfl, rfl, rfl, rfl⟩) pe_int) rfl)))))
    (pss_one (ps_ret (pv 1)))), ?_⟩
  intro d hd
  have s0 : Same H (upd H d (.dK [])) := same_new hd _
  refine ⟨_, rfl, ra, rfl, ⟨_, SqL.of (s0 _ _ R.lst)⟩, for_list (K := K) (a := ra) (xs := as.map V.ref) (fun i σ H2 => ∃ (kvs : List (Key × V)) (v3 v4 : Option V), σ = [some (.ref ra), some (.ref d), v3, v4] ∧ Same H H2 ∧ H2 d = some (.dK kvs) ∧ Beh kvs (cnt (rows.take i)) ∧ kvs.length ≤ tot (rows.take i))
    ⟨[], none, none, rfl, s0, upd_same, fun x => rfl, Nat.zero_le _⟩ (fun i σ H2 _ ⟨_, _, _, _, s2, _⟩ => SqL.of (s2 _ _ R.lst)) ?_ ?_⟩
  · rintro i y σ H2 hi ⟨kvs, v3, v4, rfl, s2, hd2, B, hl⟩
    obtain ⟨a, ha, rfl⟩ := refs_get hi
    obtain ⟨r, hr', er⟩ := R.get ha
    refine ⟨_, rfl, _, rfl, a, _, rfl, SqL.of (s2 _ _ er), fun p hp => ?_⟩
    rw [cut1]
    have npd : p ≠ d := fun e => by rw [e] at hp; rw [hd2] at hp; cases hp
    refine ⟨p, rfl, ⟨_, SqL.of upd_same⟩, for_list (K := K) (a := p) (xs := (sVs r).tail) (fun j σ H3 => ∃ (kvs : List (Key × V)) (v4 : Option V), σ = [some (.ref ra), some (.ref d), some (.ref a), v4] ∧ Same H H3 ∧ H3 p = some (.lst (sVs r).tail) ∧ H3 d = some (.dK kvs) ∧ Beh kvs (fun x => cnt (rows.take i) x + (r.tail.take j).count x) ∧ kvs.length ≤ tot (rows.take i) + j)
      ⟨kvs, v4, rfl, s2.trans (same_new hp _), upd_same, by rw [upd_ne (Ne.symm npd)]; exact hd2, fun x => by rw [B x]; simp, Nat.le_add_right_of_le hl⟩ (fun j σ H3 _ ⟨_, _, _, _, e, _⟩ => SqL.of e) ?_ ?_⟩
    · rintro j y σ H3 hj ⟨kvs, v4, rfl, s3, ep, ed, B, hl⟩
      have hj' : (sVs r.tail)[j]? = some y := by
        unfold sVs at hj ⊢
        rw [List.map_tail]
        exact hj
      obtain ⟨x, hx, rfl⟩ := sVs_get hj'
      refine ⟨_, rfl, d, rfl, .inl ⟨kvs, .inl ed⟩, _, rfl, _, DGet.k (k := Sum.inr x) ed, _, _, B x, rfl, _, rfl, _, rfl, d, _, rfl, DPut.k (k := Sum.inr x) ed (Nat.lt_of_le_of_lt hl ?_), ?_⟩
      · have h1 := tot_take_le rows (i + 1)
        rw [tot_take_succ hr'] at h1
        have h2 : j < r.tail.length := (List.getElem?_eq_some_iff.mp hx).1
        rw [List.length_tail] at h2
        rw [sizeLine_eq]
        omega
      · refine ⟨_, _, rfl, fun b o e => ?_, by rw [upd_ne npd]; exact ep, upd_same, B.put ?_ fun z hz => ?_, Nat.le_trans (length_putK _ _ _) (by omega)⟩
        · rw [upd_ne (ne_of_none e hd)]; exact s3 b o e
        · show ((cnt (rows.take i) x + (r.tail.take j).count x : Nat) : Int) + 1 = ((cnt (rows.take i) x + (r.tail.take (j + 1)).count x : Nat) : Int)
          rw [count_take_succ hx, if_pos rfl]
          omega
        · show cnt (rows.take i) z + (r.tail.take (j + 1)).count z = cnt (rows.take i) z + (r.tail.take j).count z
          rw [count_take_succ hx, if_neg hz]
          omega
    · rintro σ H3 ⟨kvs, v4, rfl, s3, ep, ed, B, hl⟩
      have hlen : (sVs r).tail.length = r.tail.length := by unfold sVs; rw [← List.map_tail, List.length_map]
      rw [hlen] at B hl
      refine ⟨kvs, _, _, rfl, s3, ed, fun x => ?_, ?_⟩
      · rw [B x, cnt_take_succ hr', List.take_of_length_le (Nat.le_refl _)]
      · rw [tot_take_succ hr']
        rw [List.length_tail] at hl
        omega
  · rintro σ H2 ⟨kvs, v3, v4, rfl, s2, hd2, B, hl⟩
    have hlen : (as.map V.ref).length = rows.length := by rw [List.length_map, R.len]
    rw [hlen, List.take_of_length_le (Nat.le_refl _)] at B hl
    exact ⟨_, rfl, q d kvs H2 hd s2 hd2 B hl⟩
end
theorem nat_at {r : List Str} {n : Nat} (h : n < r.length) : atI (sVs r) (n : Int) = some (.str r[n]) := atI_nat (sVs_at (List.getElem?_eq_getElem h))
section
variable {P : Program} {w : World} {K : PySem.W.Frag} {mg : Str → Option Value} {base : Heap} {f : Addr} {fd : FuncData}
theorem scFree : FnScope ["rows", "starts", "behind", "row", "start"] ["rows", "starts", "behind"] (defScope sFree) := ⟨rfl, rfl, rfl, by decide +kernel, rfl, by decide +kernel, by decide +kernel⟩
theorem ok_free (F : Fun K "free_name" "free_name" sFree f fd) (T : Txt mg) : FnOk P w K mg base CX0 1 f fd ["rows", "starts", "behind"] spFree := by
  refine F.ok scFree (fun vs H Q E h => ?_) (fun cdv A outer s H vs Q E hr h => ?_)
  · obtain ⟨ra, sa, ba, as, rows, st, kvs, g, rfl, _⟩ := h
    rfl
  obtain ⟨ra, sa, ba, as, rows, st, kvs, g, rfl, R, S, B, q⟩ := h
  have hu := hu_of hr
  refine ⟨_, pss_cons (ps_for PassesOwn.never rfl (pi_zip rfl T.zip (pa_cons (pv 0) (pa_cons (pv 1) pa_nil))) (pg_tup rfl (pgs_cons (pg_name (i := 3) scFree.nd rfl (Or.inl rfl)) (pgs_cons (pg_name (i := 4) scFree.nd rfl (Or.inl rfl)) pgs_nil)))
      (pss_one (ps_if (PW.pt (pw_and (pt_cmpR op_lt (pv 4) (pe_callB call_len_seq rfl T.len PySem.boot_len (pa_cons (pv 3) pa_nil)) (nomark _)) (pw_and1 (pt_cmpR op_eq (pe_dget2 hu (pv 2) (pe_ix ix_list (pv 3) (pv 4) (fun _ _ => rfl)) pe_int ⟨rfl, rfl, rfl, rfl⟩) pe_int (nomark _)))))
        (pss_one (ps_ret (pe_ix ix_list (pv 3) (pv 4) (fun _ _ => rfl)))) pss_nil)))
    (pss_one (ps_ret pe_non)), ?_⟩
  refine ⟨_, rfl, _, rfl, ra, sa, rfl, ⟨_, SqL.of R.lst⟩, ⟨_, SqL.of S.lst⟩, for_zip (K := K) (a := ra) (b := sa) (xs := as.map V.ref) (ys := iVs st) (by rw [List.length_map, iVs_len, S.len, R.len])
    (fun i σ H2 => ∃ v3 v4 : Option V, σ = [some (.ref ra), some (.ref sa), some (.ref ba), v3, v4] ∧ Same H H2 ∧ pick g (rests rows st) = pick g ((rests rows st).drop i)) ⟨none, none, rfl, Same.refl _, rfl⟩
    (fun i σ H2 _ ⟨_, _, _, s2, _⟩ => ⟨SqL.of (s2 _ _ R.lst), SqL.of (s2 _ _ S.lst)⟩) ?_ ?_⟩
  · rintro i x y σ H2 Tp hx hy ⟨v3, v4, rfl, s2, hp⟩ hT
    obtain ⟨a, ha, rfl⟩ := refs_get hx
    obtain ⟨n, hn, rfl⟩ := iVs_get hy
    obtain ⟨r, hr', er⟩ := R.get ha
    have s3 : Same H (upd H2 Tp (.tup [.ref a, .int n])) := s2.trans (same_new hT _)
    have hrs := rests_get hr' hn
    refine ⟨Tp, _, rfl, SqT.of upd_same, rfl, _, _, rfl, _, _, rfl, rfl, ?_⟩
    refine ⟨_, rfl, _, rfl, a, _, rfl, .inl (SqL.of (s3 _ _ er)), _, _, rfl, rfl, _, rfl, ?_⟩
    refine ite2 (fun c => ?_) (fun c => ?_)
    · have c' : (n : Int) < ((sVs r).length : Int) := of_decide_eq_true c
      rw [sVs_len] at c'
      have c2 : n < r.length := by omega
      refine ⟨_, rfl, ba, rfl, .inl ⟨kvs, .inl (s3 _ _ S.dic)⟩, _, rfl, _, rfl, a, _, _, _, rfl, rfl, SqL.of (s3 _ _ er), nat_at c2, _, DGet.k (k := Sum.inr r[n]) (s3 _ _ S.dic), ?_⟩
      rw [B r[n]]
      refine ⟨rfl, _, rfl, ?_⟩
      have hd : pick g ((rests rows st).drop i) = if g r[n] = 0 then some r[n] else pick g ((rests rows st).drop (i + 1)) := by
        rw [drop_get c2] at hrs
        exact pick_drop1 hrs
      refine ite2 (fun c3 => ?_) (fun c3 => ?_)
      · have c4 : V.int (g r[n] : Int) = V.int 0 := of_decide_eq_true c3
        have c5 : g r[n] = 0 := by
          have := V.int.inj c4
          omega
        refine ⟨_, rfl, _, rfl, a, _, _, _, rfl, rfl, SqL.of (s3 _ _ er), nat_at c2, ?_⟩
        have qq := q _ s3
        rw [hp, hd, if_pos c5] at qq
        exact qq
      · have c4 : ¬ V.int (g r[n] : Int) = V.int 0 := of_decide_eq_false (Bool.eq_false_iff.mpr c3)
        have c5 : ¬ g r[n] = 0 := fun z => c4 (by rw [z] <;> rfl)
        rw [if_neg c5] at hd
        exact ⟨_, _, rfl, s3, hp.trans hd⟩
    · have c' : ¬ (n : Int) < ((sVs r).length : Int) := of_decide_eq_false (Bool.eq_false_iff.mpr c)
      rw [sVs_len] at c'
      refine iteF ?_
      have hd : pick g ((rests rows st).drop i) = pick g ((rests rows st).drop (i + 1)) := by
        rw [List.drop_eq_nil_of_le (by omega)] at hrs
        exact pick_drop0 hrs
      exact ⟨_, _, rfl, s3, hp.trans hd⟩
  · rintro σ H2 ⟨v3, v4, rfl, s2, hp⟩
    have qq := q H2 s2
    rw [hp, List.drop_eq_nil_of_le (by rw [rests_length S.len, List.length_map, R.len]; exact Nat.le_refl _)] at qq
    exact qq
theorem scTake : FnScope ["name", "rows", "starts", "behind", "index", "row", "start"] ["name", "rows", "starts", "behind"] (defScope sTake) := ⟨rfl, rfl, rfl, by decide +kernel, rfl, by decide +kernel, by decide +kernel⟩
theorem ok_take (F : Fun K "take_out" "take_out" sTake f fd) (T : Txt mg) : FnOk P w K mg base CX0 1 f fd ["name", "rows", "starts", "behind"] spTake := by
  refine F.ok scTake (fun vs H Q E h => ?_) (fun cdv A outer s H vs Q E hr h => ?_)
  · obtain ⟨x, ra, sa, ba, as, rows, st, kvs, rfl, _⟩ := h
    rfl
  obtain ⟨x, ra, sa, ba, as, rows, st, kvs, rfl, R, S, hb, B, hk, nsr, nsa, q⟩ := h
  have hu := hu_of hr
  refine ⟨_, pss_one (ps_for PassesOwn.never rfl (pi_enum rfl T.enum (pa_cons (pv 1) pa_nil)) (pg_tup rfl (pgs_cons (pg_name (i := 4) scTake.nd rfl (Or.inl rfl)) (pgs_cons (pg_name (i := 5) scTake.nd rfl (Or.inl rfl)) pgs_nil)))
    (pss_cons (ps_set (i := 6) scTake.nd rfl (Or.inl rfl) (pe_ix ix_list (pv 2) (pv 4) (fun _ _ => rfl)))
    (pss_one (ps_if (PW.pt (pw_and (pt_cmpR op_lt (pv 6) (pe_callB call_len_seq rfl T.len PySem.boot_len (pa_cons (pv 5) pa_nil)) (nomark _)) (pw_and1 (pt_cmpR op_eq (pe_ix ix_list (pv 5) (pv 6) (fun _ _ => rfl)) (pv 0) (nomark _)))))
      (pss_cons (ps_asg (pe_op op_add (pv 6) pe_int) (pg_sub (pv 2) (pv 4) set_list))
      (pss_one (ps_if (pt_cmpR op_lt (pe_op op_add (pv 6) pe_int) (pe_callB call_len_seq rfl T.len PySem.boot_len (pa_cons (pv 5) pa_nil)) (nomark _))
        (pss_one (ps_dput hu (pv 3) (pe_ix ix_list (pv 5) (pe_op op_add (pv 6) pe_int) (fun _ _ => rfl)) (pe_op op_sub (pe_dget hu (pv 3) (pe_ix ix_list (pv 5) (pe_op op_add (pv 6) pe_int) (fun _ _ => rfl)) (fun _ _ => rfl)) pe_int) rfl)) pss_nil))) pss_nil)))), ?_⟩
  have hba : ba ≠ sa := ne_of S.dic S.lst (by intro z; cases z)
  have hra : ra ≠ ba := ne_of R.lst S.dic (by intro z; cases z)
  have naa : ∀ (i : Nat) (a : Addr), as[i]? = some a → a ≠ sa ∧ a ≠ ba := fun i a ha => ⟨nsa a (List.mem_of_getElem? ha), by
    obtain ⟨r, _, er⟩ := R.get ha
    exact ne_of er S.dic (by intro z; cases z)⟩
  refine ⟨_, rfl, ra, rfl, ⟨_, SqL.of R.lst⟩, for_enum (K := K) (a := ra) (xs := as.map V.ref)
    (fun i σ H2 => ∃ (v4 v5 v6 : Option V) (st2 : List Nat) (kvs2 : List (Key × V)), σ = [some (.str x), some (.ref ra), some (.ref sa), some (.ref ba), v4, v5, v6] ∧ (∀ b o, H b = some o → b ≠ sa → b ≠ ba → H2 b = some o) ∧ StAt H2 rows sa ba st2 kvs2 ∧
      rests rows st2 = half x (rests rows st) i ∧ (∀ (j : Nat) (r : List Str) (n : Nat), rows[j]? = some r → st2[j]? = some n → n ≤ r.length) ∧ Beh kvs2 (cnt (rests rows st2)) ∧ kvs2.length = kvs.length ∧ ∀ j, i ≤ j → st2[j]? = st[j]?)
    ⟨none, none, none, st, kvs, rfl, fun b o e _ _ => e, S, (half_zero _ _).symm, hb, B, rfl, fun _ _ => rfl⟩
    (fun i σ H2 _ ⟨_, _, _, _, _, _, k, _⟩ => SqL.of (k _ _ R.lst (Ne.symm nsr) hra)) ?_ ?_⟩
  · rintro i y σ H2 Tp hx ⟨v4, v5, v6, st2, kvs2, rfl, k2, S2, h2, hb2, B2, hl2, hst⟩ hT
    obtain ⟨a, ha, rfl⟩ := refs_get hx
    obtain ⟨r, hr', er⟩ := R.get ha
    obtain ⟨na1, na2⟩ := naa i a ha
    have hi : i < st2.length := by rw [S2.len]; exact (List.getElem?_eq_some_iff.mp hr').1
    obtain ⟨n, hn⟩ : ∃ n, st2[i]? = some n := ⟨st2[i], List.getElem?_eq_getElem hi⟩
    have hn0 : st[i]? = some n := by rw [← hst i (Nat.le_refl _)]; exact hn
    have hle : n ≤ r.length := hb2 i r n hr' hn
    have hrs := rests_get hr' hn0
    have hrs2 := rests_get hr' hn
    have eT : ∀ b o, H2 b = some o → (upd H2 Tp (.tup [.int i, .ref a])) b = some o := fun b o e => same_new hT _ b o e
    have ea : (upd H2 Tp (.tup [.int i, .ref a])) a = some (.lst (sVs r)) := eT _ _ (k2 _ _ er na1 na2)
    have es : (upd H2 Tp (.tup [.int i, .ref a])) sa = some (.lst (iVs st2)) := eT _ _ S2.lst
    have ed : (upd H2 Tp (.tup [.int i, .ref a])) ba = some (.dK kvs2) := eT _ _ S2.dic
    have k3 : ∀ b o, H b = some o → b ≠ sa → b ≠ ba → (upd H2 Tp (.tup [.int i, .ref a])) b = some o := fun b o e n1 n2 => eT _ _ (k2 b o e n1 n2)
    have hil : ixN (iVs st2).length (i : Int) = some i := by
      unfold ixN
      rw [iVs_len, if_pos (by omega), if_pos (by omega)]
      simp
    refine ⟨Tp, _, rfl, SqT.of upd_same, rfl, _, _, rfl, _, _, rfl, rfl, ?_⟩
    refine ⟨_, rfl, _, rfl, sa, _, _, _, rfl, rfl, SqL.of es, atI_nat (iVs_at hn), ?_⟩
    refine ⟨_, rfl, _, rfl, a, _, rfl, .inl (SqL.of ea), _, _, rfl, rfl, _, rfl, ?_⟩
    have stay : drop1 x (r.drop n) = r.drop n → StAt (upd H2 Tp (.tup [.int i, .ref a])) rows sa ba st2 kvs2 ∧ rests rows st2 = half x (rests rows st) (i + 1) := fun e => ⟨⟨es, S2.len, ed⟩, by rw [h2, half_same hrs e]⟩
    refine ite2 (fun c => ?_) (fun c => ?_)
    · have c' : (n : Int) < ((sVs r).length : Int) := of_decide_eq_true c
      rw [sVs_len] at c'
      have c2 : n < r.length := by omega
      refine ⟨_, rfl, _, rfl, a, _, _, _, rfl, rfl, SqL.of ea, nat_at c2, _, rfl, rfl, _, rfl, ?_⟩
      refine ite2 (fun c3 => ?_) (fun c3 => ?_)
      · have c4 : V.str r[n] = V.str x := of_decide_eq_true c3
        have c5 : r[n] = x := V.str.inj c4
        have hdr : drop1 x (r.drop n) = r.drop (n + 1) := by rw [drop_get c2, c5, drop1_self]
        -- starts[index] = start + 1
        refine ⟨_, rfl, _, _, rfl, rfl, _, rfl, _, rfl, sa, _, _, _, rfl, rfl, es, hil, ?_⟩
        have e1 : (iVs st2).set i (.int ((n : Int) + 1)) = iVs (st2.set i (n + 1)) := by
          unfold iVs
          rw [List.map_set]
          rfl
        rw [e1]
        have hnew : rests rows (st2.set i (n + 1)) = half x (rests rows st) (i + 1) := by
          rw [set_rests hr' hi, h2, ← hdr, half_set hrs]
        have eT4 : ∀ b o, b ≠ sa → (upd H2 Tp (.tup [.int i, .ref a])) b = some o → (upd (upd H2 Tp (.tup [.int i, .ref a])) sa (.lst (iVs (st2.set i (n + 1))))) b = some o := fun b o hne e => by rw [upd_ne hne]; exact e
        have hb3 : ∀ (j : Nat) (r' : List Str) (m : Nat), rows[j]? = some r' → (st2.set i (n + 1))[j]? = some m → m ≤ r'.length := fun j r' m h1 h3 => by
          by_cases hj : i = j
          · subst hj
            rw [List.getElem?_set_self hi] at h3
            cases h3
            rw [hr'] at h1
            cases h1
            omega
          · rw [List.getElem?_set_ne hj] at h3
            exact hb2 j r' m h1 h3
        have hst3 : ∀ j, i + 1 ≤ j → (st2.set i (n + 1))[j]? = st[j]? := fun j hj => by rw [List.getElem?_set_ne (by omega)]; exact hst j (by omega)
        have hc := cnt_half (x := x) hrs
        rw [hdr] at hc
        refine ⟨_, rfl, _, _, rfl, rfl, _, rfl, a, _, rfl, .inl (SqL.of (eT4 _ _ na1 ea)), _, _, rfl, rfl, _, rfl, ?_⟩
        refine ite2 (fun c6 => ?_) (fun c6 => ?_)
        · have c7 : (n : Int) + 1 < ((sVs r).length : Int) := of_decide_eq_true c6
          rw [sVs_len] at c7
          have c8 : n + 1 < r.length := by omega
          have e2 : ((n : Int) + 1) = ((n + 1 : Nat) : Int) := by omega
          have hat : atI (sVs r) ((n : Int) + 1) = some (.str r[n + 1]) := by rw [e2]; exact nat_at c8
          have ht1 : (r.drop n).tail = r[n + 1] :: r.drop (n + 2) := by rw [drop_get c2, List.tail_cons, drop_get c8]
          have ht2 : (r.drop (n + 1)).tail = r.drop (n + 2) := by rw [drop_get c8, List.tail_cons]
          rw [ht1, ht2] at hc
          have hpos : 0 < cnt (rests rows st2) r[n + 1] := by
            have := hc r[n + 1]
            rw [List.count_cons_self] at this
            rw [h2]
            omega
          have hv := B2.pos hpos
          refine ⟨_, rfl, _, rfl, _, rfl, _, _, rfl, rfl, a, _, _, _, rfl, rfl, SqL.of (eT4 _ _ na1 ea), hat, ba, .int (cnt (rests rows st2) r[n + 1]), rfl, ?_, _, _, rfl, rfl, _, rfl, _, rfl, _, rfl, _, _, rfl, rfl, a, _, _, _, rfl, rfl, SqL.of (eT4 _ _ na1 ea), hat, ba, _, rfl, DPut.k (k := Sum.inr r[n + 1]) (eT4 _ _ hba ed) (by rw [hl2, sizeLine_eq]; omega), ?_⟩
          · exact hv ▸ DGet.k (k := Sum.inr r[n + 1]) (eT4 _ _ hba ed)
          · refine ⟨_, _, _, st2.set i (n + 1), _, rfl, fun b o e n1 n2 => by rw [upd_ne n2]; exact eT4 _ _ n1 (k3 b o e n1 n2), ⟨by rw [upd_ne (Ne.symm hba), upd_same], by rw [List.length_set]; exact S2.len, upd_same⟩, hnew, hb3, B2.put ?_ fun z hz => ?_, (len_put hv).trans hl2, hst3⟩
            · have := hc r[n + 1]
              rw [List.count_cons_self] at this
              rw [hnew, h2]
              omega
            · have := hc z
              rw [List.count_cons_of_ne (fun e => hz e.symm)] at this
              rw [hnew, h2]
              omega
        · have c7 : ¬ (n : Int) + 1 < ((sVs r).length : Int) := of_decide_eq_false (Bool.eq_false_iff.mpr c6)
          rw [sVs_len] at c7
          have hd0 : r.drop (n + 1) = [] := List.drop_eq_nil_of_le (by omega)
          have ht1 : (r.drop n).tail = [] := by rw [drop_get c2, List.tail_cons, hd0]
          rw [ht1, hd0] at hc
          refine ⟨_, _, _, st2.set i (n + 1), kvs2, rfl, fun b o e n1 n2 => eT4 _ _ n1 (k3 b o e n1 n2), ⟨upd_same, by rw [List.length_set]; exact S2.len, eT4 _ _ hba ed⟩, hnew, hb3, fun z => ?_, hl2, hst3⟩
          rw [B2 z, hnew, h2]
          have := hc z
          simp only [List.tail_nil, List.count_nil, Nat.add_zero] at this
          rw [this]
      · have c4 : ¬ V.str r[n] = V.str x := of_decide_eq_false (Bool.eq_false_iff.mpr c3)
        have c5 : ¬ r[n] = x := fun z => c4 (by rw [z])
        obtain ⟨z1, z2⟩ := stay (by rw [drop_get c2, drop1_cons, if_neg c5])
        exact ⟨_, _, _, st2, kvs2, rfl, k3, z1, z2, hb2, B2, hl2, fun j hj => hst j (by omega)⟩
    · have c' : ¬ (n : Int) < ((sVs r).length : Int) := of_decide_eq_false (Bool.eq_false_iff.mpr c)
      rw [sVs_len] at c'
      refine iteF ?_
      obtain ⟨z1, z2⟩ := stay (by rw [List.drop_eq_nil_of_le (by omega)] <;> rfl)
      exact ⟨_, _, _, st2, kvs2, rfl, k3, z1, z2, hb2, B2, hl2, fun j hj => hst j (by omega)⟩
  · rintro σ H2 ⟨v4, v5, v6, st2, kvs2, rfl, k2, S2, h2, hb2, B2, hl2, hst⟩
    rw [half_all _ _ (by rw [rests_length S.len, List.length_map, R.len]; exact Nat.le_refl _)] at h2
    exact q st2 kvs2 H2 S2 h2 hb2 B2 hl2 k2
end
end Bk
namespace Bk
open PySem L2 Mg Nm
def spCell (K : PySem.W.Frag) : Sp := fun vs H Q _ => ∃ (a : Addr) (ns : List Int) (k : Nat), vs = [.ref a, .int (k : Int)] ∧ SqL K H a (ns.map V.int) ∧ Q (.int (ns.getD k 0)) H
def spName : Sp := fun vs H Q _ => ∃ k c : Int, vs = [.int k, .int c] ∧ Q (.str (nameBy k c)) H
theorem letter_at {i : Int} (h0 : 0 ≤ i) (h1 : i < 26) : atI letters.cps.toList i = some (97 + i.toNat) := by
  obtain ⟨n, rfl⟩ := Int.eq_ofNat_of_zero_le h0
  refine atI_nat ?_
  rw [letters_cps, List.getElem?_map, List.getElem?_range (by omega)]
  simp
theorem sl52 : (52 : Nat) ≤ sizeLine := by rw [sizeLine_eq]; decide
section
variable {P : Program} {w : World} {K : PySem.W.Frag} {mg : Str → Option Value} {base : Heap} {f : Addr} {fd : FuncData}
theorem scCell : FnScope ["_law_script", "_law_k"] ["_law_script", "_law_k"] (defScope sCell) := ⟨rfl, rfl, rfl, by decide +kernel, rfl, by decide +kernel, by decide +kernel⟩
theorem ok_cell (F : Fun K "_law_cell_at" "_law_cell_at" sCell f fd) (T : Txt mg) : FnOk P w K mg base CX0 1 f fd ["_law_script", "_law_k"] (spCell K) := by
  refine F.ok scCell (fun vs H Q E h => ?_) (fun cdv A outer s H vs Q E hr h => ?_)
  · obtain ⟨a, ns, k, rfl, _⟩ := h
    rfl
  obtain ⟨a, ns, k, rfl, S, q⟩ := h
  refine ⟨_, pss_cons (ps_if (pt_cmpR op_lt (pv 1) (pe_callB call_len_seq rfl T.len PySem.boot_len (pa_cons (pv 0) pa_nil)) (nomark _)) (pss_one (ps_ret (pe_ix ix_list (pv 0) (pv 1) (fun _ _ => rfl)))) pss_nil) (pss_one (ps_ret pe_int)), ?_⟩
  refine ⟨_, rfl, _, rfl, a, _, rfl, .inl S, _, _, rfl, rfl, _, rfl, ?_⟩
  refine ite2 (fun c => ?_) (fun c => ?_)
  · have c' : (k : Int) < ((ns.map V.int).length : Int) := of_decide_eq_true c
    rw [List.length_map] at c'
    have c2 : k < ns.length := by omega
    refine ⟨_, rfl, _, rfl, a, _, _, _, rfl, rfl, S, atI_nat (v := .int ns[k]) (by rw [List.getElem?_map, List.getElem?_eq_getElem c2] <;> rfl), ?_⟩
    have e : ns.getD k 0 = ns[k] := by rw [List.getD_eq_getElem?_getD, List.getElem?_eq_getElem c2]; rfl
    rw [e] at q
    exact q
  · have c' : ¬ (k : Int) < ((ns.map V.int).length : Int) := of_decide_eq_false (Bool.eq_false_iff.mpr c)
    rw [List.length_map] at c'
    have e : ns.getD k 0 = 0 := by rw [List.getD_eq_getElem?_getD, List.getElem?_eq_none (by omega)]; rfl
    rw [e] at q
    exact q
theorem kit_self (K : PySem.W.Frag) (n : String) : PySem.W.kitOne K (.type n) (.type n) = some true := by
  unfold PySem.W.kitOne
  exact if_pos (by simp)
end
def okNm (x : Str) : Bool := decide (1 ≤ x.length) && decide (x.length ≤ 20) && x.cps.toList.all fun c => decide (97 ≤ c) && decide (c ≤ 122)
theorem okNm_of {x : Str} (h : isNm x) : okNm x = true := by
  obtain ⟨h1, h2, h3⟩ := h
  unfold okNm
  rw [decide_eq_true h1, decide_eq_true h2, Bool.true_and, Bool.true_and, List.all_eq_true]
  intro c hc
  obtain ⟨a, b⟩ := h3 c hc
  rw [decide_eq_true a, decide_eq_true b]
  rfl
def PV (v : V) : Prop := (∃ i, v = .int i) ∨ ∃ x, v = .str x ∧ x.length ≤ sizeLine
def nmV : V → Bool
  | .str x => okNm x
  | _ => false
def spIsName : Sp := fun vs H Q _ => ∃ v : V, vs = [v] ∧ PV v ∧ ∀ H', Same H H' → Q (.bl (nmV v)) H'
theorem truL_bools {K : PySem.W.Frag} {H : Hp} : ∀ ks : List Bool, TruL K H (ks.map V.bl) ks
  | [] => .nil
  | k :: ks => .cons rfl (truL_bools ks)
section
variable {P : Program} {w : World} {K : PySem.W.Frag} {mg : Str → Option Value} {base : Heap} {f fM fC fF fT : Addr} {fd dM dC dF dT : FuncData}
theorem nds1 : (["sign"] : List Str).Nodup := by decide +kernel
theorem scIsName : FnScope ["value"] ["value"] (defScope sIsName) := ⟨rfl, rfl, rfl, by decide +kernel, rfl, by decide +kernel, by decide +kernel⟩
theorem ok_isName (F : Fun K "is_name" "is_name" sIsName f fd) (T : Txt mg) : FnOk P w K mg base CX0 1 f fd ["value"] spIsName := by
  refine F.ok scIsName (fun vs H Q E h => ?_) (fun cdv A outer s H vs Q E hr h => ?_)
  · obtain ⟨v, rfl, _⟩ := h
    rfl
  obtain ⟨v, rfl, hv, q⟩ := h
  refine ⟨_, pss_one (ps_ret (pe_and (pe_callB call_isinst rfl T.isi PyProof.Rows.boot_isinstance (pa_cons (pv 0) (pa_cons (pe_bltn (v := .ty "str") rfl T.str PyProof.Rows.boot_str rfl) pa_nil)))
    (pe_and (pe_chain op_le op_le pe_int (pe_callB call_len_str rfl T.len PySem.boot_len (pa_cons (pv 0) pa_nil)) pe_int)
    (pe_one (pe_callB (call_all rfl) rfl T.all boot_all' (pa_cons (pe_comp (defScope sIsName) ["value"] ["sign"] [] rfl (pi_str (pv 0)) (own_name (i := 0) (by decide)) (fun _ _ _ _ _ _ => ⟨pg_name (i := 0) nds1 rfl (Or.inl rfl), pts_nil,
      pe_chain op_le_str op_le_str pe_str (pv 0) pe_str⟩)) pa_nil)))))), ?_⟩
  rcases hv with ⟨i, rfl⟩ | ⟨x, rfl, hx⟩
  · exact ⟨_, rfl, _, _, _, _, rfl, .int _, (show PySem.W.kitOne K (.type "int") (.type "str") = some false from rfl), _, rfl, iteF (q _ (Same.refl _))⟩
  replace q : ∀ H', Same H H' → Q (.bl (okNm x)) H' := q
  refine ⟨_, rfl, _, _, _, _, rfl, .str _, kit_self K "str", _, rfl, iteT ?_⟩
  refine ⟨_, rfl, x, rfl, hx, _, _, rfl, rfl, _, rfl, ite2 (fun c1 => ?_) (fun c1 => ?_)⟩
  rotate_left
  · have h1 : ¬ 1 ≤ x.length := fun z => c1 (decide_eq_true (by omega))
    have e : okNm x = false := by unfold okNm; rw [decide_eq_false h1, Bool.false_and, Bool.false_and]
    rw [e] at q
    exact ⟨_, rfl, iteF (q _ (Same.refl _))⟩
  have h1 : 1 ≤ x.length := by have := of_decide_eq_true c1; omega
  refine ⟨_, _, rfl, rfl, _, rfl, ite2 (fun c2 => ?_) (fun c2 => ?_)⟩
  rotate_left
  · have h2 : ¬ x.length ≤ 20 := fun z => c2 (decide_eq_true (by omega))
    have e : okNm x = false := by unfold okNm; rw [decide_eq_false h2, Bool.and_false, Bool.false_and]
    rw [e] at q
    exact q _ (Same.refl _)
  have h2 : x.length ≤ 20 := by have := of_decide_eq_true c2; omega
  have ea : ("a" : Str).cps.toList = [97] := by decide +kernel
  have ez : ("z" : Str).cps.toList = [122] := by decide +kernel
  refine ⟨_, rfl, x, rfl, turns_str0 (fun i ys H2 => H2 = H ∧ ys = ((x.cps.toList.take i).map fun c => decide (97 ≤ c) && decide (c ≤ 122)).map V.bl) ⟨rfl, rfl⟩ ?_ ?_⟩
  · rintro i c ys H2 hc ⟨rfl, rfl⟩
    have ga : (!decide ((⟨#[c]⟩ : Str).cps.toList < ("a" : Str).cps.toList)) = decide (97 ≤ c) := by rw [ea]; exact sign_ge c
    have gz : (!decide (("z" : Str).cps.toList < (⟨#[c]⟩ : Str).cps.toList)) = decide (c ≤ 122) := by rw [ez]; exact sign_le c
    have hc' : x.cps.toList[i]? = some c := by rw [Array.getElem?_toList]; exact hc
    have hil : i < x.cps.toList.length := (List.getElem?_eq_some_iff.mp hc').1
    have hxl : x.length = x.cps.toList.length := len_list x
    have hlen : (((x.cps.toList.take i).map fun c => decide (97 ≤ c) && decide (c ≤ 122)).map V.bl).length < sizeLine := by
      rw [List.length_map, List.length_map, List.length_take, sizeLine_eq]
      omega
    have htk : x.cps.toList.take (i + 1) = x.cps.toList.take i ++ [c] := by rw [List.take_add_one, hc']; rfl
    refine ⟨_, rfl, _, _, rfl, rfl, _, rfl, ite2 (fun k => ?_) (fun k => ?_)⟩
    · refine ⟨_, _, rfl, rfl, hlen, rfl, ?_⟩
      have k' : decide (97 ≤ c) = true := ga.symm.trans k
      rw [htk, List.map_append, List.map_append]
      refine congrArg (_ ++ ·) ?_
      show [V.bl (!decide (("z" : Str).cps.toList < (⟨#[c]⟩ : Str).cps.toList))] = [V.bl (decide (97 ≤ c) && decide (c ≤ 122))]
      rw [gz, k', Bool.true_and]
    · refine ⟨hlen, rfl, ?_⟩
      have k' : decide (97 ≤ c) = false := by
        rw [← ga]
        exact Bool.eq_false_iff.mpr k
      rw [htk, List.map_append, List.map_append]
      refine congrArg (_ ++ ·) ?_
      show [V.bl false] = [V.bl (decide (97 ≤ c) && decide (c ≤ 122))]
      rw [k', Bool.false_and]
  · rintro ys H2 ⟨rfl, rfl⟩ p hp
    refine ⟨p, _, _, rfl, SqL.of upd_same, truL_bools _, ?_⟩
    have e : okNm x = ((x.cps.toList.take x.cps.size).map fun c => decide (97 ≤ c) && decide (c ≤ 122)).all id := by
      unfold okNm
      rw [decide_eq_true h1, decide_eq_true h2, Bool.true_and, Bool.true_and, List.take_of_length_le (by simp), List.all_map]
      rfl
    rw [e] at q
    exact q _ (same_new hp _)
theorem RowsAt.snoc {H H' : Hp} {ra q ea : Addr} {as : List Addr} {rows : List (List Str)} {el : List Str} (R : RowsAt H ra as rows) (s : Same H H') (e : H' ea = some (.lst (sVs el))) (l : H' q = some (.lst ((as ++ [ea]).map V.ref))) : RowsAt H' q (as ++ [ea]) (rows ++ [el]) := by
  refine ⟨l, by rw [List.length_append, List.length_append, R.len]; rfl, fun i a r h1 h2 => ?_⟩
  by_cases hi : i < as.length
  · rw [List.getElem?_append_left hi] at h1
    rw [List.getElem?_append_left (by rw [← R.len]; exact hi)] at h2
    exact s _ _ (R.row i a r h1 h2)
  · have hl : i < (as ++ [ea]).length := (List.getElem?_eq_some_iff.mp h1).1
    rw [List.length_append, List.length_singleton] at hl
    obtain rfl : i = as.length := by omega
    rw [List.getElem?_concat_length] at h1
    cases h1
    rw [R.len, List.getElem?_concat_length] at h2
    cases h2
    exact e
end
def hF (ea oa ba : Addr) : List (Str × V) := [("elder_row", .ref ea), ("order_row", .ref oa), ("bodies", .ref ba)]
def bF (d : Addr) : List (Str × V) := [("by_name", .ref d)]
theorem bF_by (d : Addr) : (bF d).lookup ("by_name" : Str) = some (.ref d) := by
  unfold bF
  rw [List.lookup_cons, beq_self_eq_true]
theorem bF_no (d : Addr) {m : Str} (h : (m == ("by_name" : Str)) = false) : (bF d).lookup m = none := by
  unfold bF
  rw [List.lookup_cons, h]
  rfl
theorem hF_od (ea oa ba : Addr) : (hF ea oa ba).lookup ("order_row" : Str) = some (.ref oa) := by
  unfold hF
  rw [List.lookup_cons, show (("order_row" : Str) == "elder_row") = false by decide +kernel, List.lookup_cons, beq_self_eq_true]
theorem hF_bd (ea oa ba : Addr) : (hF ea oa ba).lookup ("bodies" : Str) = some (.ref ba) := by
  unfold hF
  rw [List.lookup_cons, show (("bodies" : Str) == "elder_row") = false by decide +kernel, List.lookup_cons, show (("bodies" : Str) == "order_row") = false by decide +kernel, List.lookup_cons, beq_self_eq_true]
theorem hF_put (ea oa ba : Addr) : putF "bodies" (.ref ba) (putF "order_row" (.ref oa) (putF "elder_row" (.ref ea) [])) = hF ea oa ba := by
  show putF "bodies" (.ref ba) (if ("elder_row" : Str) = "order_row" then [(("elder_row" : Str), V.ref oa)] else (("elder_row" : Str), V.ref ea) :: putF "order_row" (.ref oa) []) = hF ea oa ba
  rw [if_neg (by decide +kernel)]
  show (if ("elder_row" : Str) = "bodies" then _ else (("elder_row" : Str), V.ref ea) :: (if ("order_row" : Str) = "bodies" then _ else (("order_row" : Str), V.ref oa) :: [(("bodies" : Str), V.ref ba)])) = hF ea oa ba
  rw [if_neg (by decide +kernel), if_neg (by decide +kernel)]
  rfl
structure Ent where
  nm : Str
  at_ : Addr
  dx : Addr
  ea : Addr
  oa : Addr
  ba : Addr
  el : List Str
  od : List Str
  bd : List (Key × V)
structure EntAt (CH : Addr) (H : Hp) (e : Ent) : Prop where
  ob : H e.at_ = some (.ins CH e.dx (hF e.ea e.oa e.ba))
  el : H e.ea = some (.lst (sVs e.el))
  od : H e.oa = some (.lst (sVs e.od))
  bd : H e.ba = some (.dK e.bd)
theorem EntAt.same {CH : Addr} {H H' : Hp} {e : Ent} (E : EntAt CH H e) (h : Same H H') : EntAt CH H' e := ⟨h _ _ E.ob, h _ _ E.el, h _ _ E.od, h _ _ E.bd⟩
def kvB (L : List Ent) : List (Key × V) := L.map fun e => ((Sum.inr e.nm : Key), V.ref e.at_)
def fnd (L : List Ent) (x : Str) : Option Ent := L.find? fun e => decide (e.nm = x)
theorem val_kvB (L : List Ent) (x : Str) : valV (kvB L) (Sum.inr x : Key) = (fnd L x).map fun e => V.ref e.at_ := by
  unfold kvB fnd
  induction L with
  | nil => rfl
  | cons e L ih =>
    rw [List.map_cons]
    by_cases h : e.nm = x
    · rw [valV_pos (show ((Sum.inr e.nm : Key), V.ref e.at_).1 = Sum.inr x by rw [h]), List.find?_cons_of_pos (by rw [decide_eq_true h])]
      rfl
    · rw [valV_neg (fun z => h (Sum.inr.inj z)), ih, List.find?_cons_of_neg (by rw [decide_eq_false h]; exact Bool.false_ne_true)]
theorem fnd_mem {L : List Ent} {x : Str} {e : Ent} (h : fnd L x = some e) : e ∈ L ∧ e.nm = x := ⟨List.mem_of_find?_eq_some h, of_decide_eq_true (List.find?_some (p := fun e : Ent => decide (e.nm = x)) h)⟩
theorem fnd_none {L : List Ent} {x : Str} (h : ∀ e ∈ L, e.nm ≠ x) : fnd L x = none := List.find?_eq_none.mpr fun e he => by rw [decide_eq_false (h e he)]; exact Bool.false_ne_true
theorem fnd_of {L : List Ent} {e : Ent} (nd : (L.map (·.nm)).Nodup) (h : e ∈ L) : fnd L e.nm = some e := by
  unfold fnd
  induction L with
  | nil => cases h
  | cons a L ih =>
    rw [List.map_cons, List.nodup_cons] at nd
    rcases List.mem_cons.mp h with rfl | h'
    · rw [List.find?_cons_of_pos (by rw [decide_eq_true rfl])]
    · rw [List.find?_cons_of_neg, ih nd.2 h']
      have : a.nm ≠ e.nm := fun z => nd.1 (by rw [z]; exact List.mem_map_of_mem h')
      rw [decide_eq_false this]
      exact Bool.false_ne_true
structure BookAt (CB CH : Addr) (H : Hp) (p d : Addr) (L : List Ent) : Prop where
  ob : ∃ dx, H p = some (.ins CB dx (bF d))
  dc : H d = some (.dK (kvB L))
  en : ∀ e ∈ L, EntAt CH H e
  nb : ∀ e ∈ L, e.ba ≠ d
  nd : (L.map (·.nm)).Nodup
  nn : (L.map (·.ba)).Nodup
theorem BookAt.same {CB CH : Addr} {H H' : Hp} {p d : Addr} {L : List Ent} (B : BookAt CB CH H p d L) (h : Same H H') : BookAt CB CH H' p d L :=
  ⟨let ⟨dx, e⟩ := B.ob; ⟨dx, h _ _ e⟩, h _ _ B.dc, fun e he => (B.en e he).same h, B.nb, B.nd, B.nn⟩
theorem BookAt.get {CB CH : Addr} {H : Hp} {p d : Addr} {L : List Ent} {x : Str} {e : Ent} (B : BookAt CB CH H p d L) (h : fnd L x = some e) : DGet H d (.str x) (some (.ref e.at_)) := by
  have := DGet.k (k := (Sum.inr x : Key)) B.dc
  rw [val_kvB, h] at this
  exact this
theorem BookAt.no {CB CH : Addr} {H : Hp} {p d : Addr} {L : List Ent} {x : Str} (B : BookAt CB CH H p d L) (h : fnd L x = none) : DGet H d (.str x) none := by
  have := DGet.k (k := (Sum.inr x : Key)) B.dc
  rw [val_kvB, h] at this
  exact this
structure ClsB (K : PySem.W.Frag) (mg : Str → Option Value) (CB CH : Addr) : Prop where
  clB : Cls K CB
  clH : Cls K CH
  nBy : NoAttr K CB "by_name"
  nEl : NoAttr K CH "elder_row"
  nOd : NoAttr K CH "order_row"
  nBd : NoAttr K CH "bodies"
  mgB : mg "Book" = some (.ref CB)
  mgH : mg "House" = some (.ref CH)
def spInitB (CB : Addr) : Sp := fun vs H Q _ => ∃ (p dx : Addr), vs = [.ref p] ∧ H p = some (.ins CB dx []) ∧ ∀ d, H d = none → Q .non (upd (upd H d (.dK [])) p (.ins CB dx (bF d)))
def spInitH (CH : Addr) : Sp := fun vs H Q _ => ∃ (p ea oa dx : Addr), vs = [.ref p, .ref ea, .ref oa] ∧ H p = some (.ins CH dx []) ∧ ∀ (b : Addr) (H' : Hp), H b = none → H' p = some (.ins CH dx (hF ea oa b)) → H' b = some (.dK []) → (∀ c o, H c = some o → c ≠ p → H' c = some o) → Q .non H'
def spHouse (CB CH : Addr) : Sp := fun vs H Q _ => ∃ (p d : Addr) (L : List Ent) (x : Str) (e : Ent), vs = [.ref p, .str x] ∧ BookAt CB CH H p d L ∧ fnd L x = some e ∧ Q (.ref e.at_) H
def spOrder (CB CH : Addr) : Sp := fun vs H Q _ => ∃ (p d : Addr) (L : List Ent) (x : Str) (e : Ent), vs = [.ref p, .str x] ∧ BookAt CB CH H p d L ∧ fnd L x = some e ∧ ∀ l, H l = none → Q (.ref l) (upd H l (.lst (sVs e.od)))
def spHouses (CB CH : Addr) : Sp := fun vs H Q _ => ∃ (p d : Addr) (L : List Ent), vs = [.ref p] ∧ BookAt CB CH H p d L ∧ ∀ l, H l = none → Q (.ref l) (upd H l (.lst (sVs (L.map (·.nm)))))
section
variable {P : Program} {w : World} {K : PySem.W.Frag} {mg : Str → Option Value} {base : Heap} {f fH CB CH : Addr} {fd dH : FuncData}
theorem scInitB : FnScope ["self"] ["self"] (defScope sInitB) := ⟨rfl, rfl, rfl, by decide +kernel, rfl, by decide +kernel, by decide +kernel⟩
theorem ok_initB (F : Fun K "__init__" "Book.__init__" sInitB f fd) (T : ClsB K mg CB CH) : FnOk P w K mg base CX0 1 f fd ["self"] (spInitB CB) := by
  refine F.ok scInitB (fun vs H Q E h => ?_) (fun cdv A outer s H vs Q E hr h => ?_)
  · obtain ⟨p, dx, rfl, _⟩ := h
    rfl
  obtain ⟨p, dx, rfl, hp, k⟩ := h
  refine ⟨_, pss_one (ps_fld (pv 0) pe_dnewK rfl), ?_⟩
  intro d hd
  have npd : p ≠ d := ne_of_none hp hd
  refine ⟨_, rfl, p, CB, dx, [], rfl, (by rw [upd_ne npd]; exact hp), T.clB, T.nBy, (by show 0 < 1000; decide), ?_⟩
  exact k d hd
theorem scInitH : FnScope ["self", "elder_row", "order_row"] ["self", "elder_row", "order_row"] (defScope sInitH) := ⟨rfl, rfl, rfl, by decide +kernel, rfl, by decide +kernel, by decide +kernel⟩
theorem ok_initH (F : Fun K "__init__" "House.__init__" sInitH f fd) (T : ClsB K mg CB CH) : FnOk P w K mg base CX0 1 f fd ["self", "elder_row", "order_row"] (spInitH CH) := by
  refine F.ok scInitH (fun vs H Q E h => ?_) (fun cdv A outer s H vs Q E hr h => ?_)
  · obtain ⟨p, ea, oa, dx, rfl, _⟩ := h
    rfl
  obtain ⟨p, ea, oa, dx, rfl, hp, k⟩ := h
  refine ⟨_, pss_cons (ps_fld (pv 0) (pv 1) rfl) (pss_cons (ps_fld (pv 0) (pv 2) rfl) (pss_one (ps_fld (pv 0) pe_dnewK rfl))), ?_⟩
  refine ⟨_, rfl, _, rfl, p, CH, dx, [], rfl, hp, T.clH, T.nEl, (by show 0 < 1000; decide), ?_⟩
  refine ⟨_, rfl, _, rfl, p, CH, dx, _, rfl, upd_same, T.clH, T.nOd, (by show 1 < 1000; decide), ?_⟩
  intro b hb
  have hb2 : p ≠ b := fun z => by rw [← z, upd_same] at hb; cases hb
  have hb' : H b = none := by rw [upd_ne (Ne.symm hb2), upd_ne (Ne.symm hb2)] at hb; exact hb
  refine ⟨_, rfl, p, CH, dx, _, rfl, (by rw [upd_ne hb2]; exact upd_same), T.clH, T.nBd, ?_, ?_⟩
  · exact Nat.lt_of_le_of_lt (length_putF _ _ _) (by show 2 < 1000; decide)
  · refine k b _ hb' (by rw [upd_same, hF_put]) (by rw [upd_ne (Ne.symm hb2), upd_same]) fun c o e hc => ?_
    rw [upd_ne hc, upd_ne (ne_of_none e hb'), upd_ne hc, upd_ne hc]
    exact e
theorem scHouse : FnScope ["self", "name"] ["self", "name"] (defScope sHouse) := ⟨rfl, rfl, rfl, by decide +kernel, rfl, by decide +kernel, by decide +kernel⟩
theorem ok_house (F : Fun K "house" "Book.house" sHouse f fd) (T : ClsB K mg CB CH) : FnOk P w K mg base CX0 1 f fd ["self", "name"] (spHouse CB CH) := by
  refine F.ok scHouse (fun vs H Q E h => ?_) (fun cdv A outer s H vs Q E hr h => ?_)
  · obtain ⟨p, d, L, x, e, rfl, _⟩ := h
    rfl
  obtain ⟨p, d, L, x, e, rfl, B, he, q⟩ := h
  have hu := hu_of hr
  obtain ⟨dx, hp⟩ := B.ob
  refine ⟨_, pss_cons (ps_if (pt_cmp (pc_dnotin hu (pv 1) (pe_fld (pv 0) rfl))) pss_never pss_nil) (pss_one (ps_ret (pe_dget hu (pe_fld (pv 0) rfl) (pv 1) (fun _ _ => rfl)))), ?_⟩
  refine ⟨_, rfl, _, rfl, p, CB, dx, _, _, rfl, hp, T.clB, T.nBy, bF_by d, d, _, rfl, B.get he, _, rfl, iteF ?_⟩
  exact ⟨_, rfl, p, CB, dx, _, _, rfl, hp, T.clB, T.nBy, bF_by d, _, rfl, d, _, rfl, B.get he, q⟩
theorem scOrder : FnScope ["self", "name"] ["self", "name"] (defScope sOrder) := ⟨rfl, rfl, rfl, by decide +kernel, rfl, by decide +kernel, by decide +kernel⟩
theorem ok_order (F : Fun K "order" "Book.order" sOrder f fd) (T : ClsB K mg CB CH) (Tx : Txt mg) (GH : FnOk P w K mg base CX0 1 fH dH ["self", "name"] (spHouse CB CH)) (bH : Binds K dH ["self", "name"] []) (mH : Meth K CB "house" fH) : FnOk P w K mg base CX0 2 f fd ["self", "name"] (spOrder CB CH) := by
  refine F.ok scOrder (fun vs H Q E h => ?_) (fun cdv A outer s H vs Q E hr h => ?_)
  · obtain ⟨p, d, L, x, e, rfl, _⟩ := h
    rfl
  obtain ⟨p, d, L, x, e, rfl, B, he, q⟩ := h
  obtain ⟨dx, hp⟩ := B.ob
  have E := B.en e (fnd_mem he).1
  refine ⟨_, pss_one (ps_ret (pe_callTy call_list_of rfl Tx.list PyProof.Rows.boot_list (pa_cons (pe_fld (pe_meth (pv 0) T.clB mH GH hr bH .nil pass0 (pa_cons (pv 1) pa_nil)) rfl) pa_nil))), ?_⟩
  exact ⟨_, rfl, p, dx, _, rfl, hp, bF_no d (by decide +kernel), _, rfl, p, d, L, x, e, rfl, B, he, e.at_, CH, e.dx, _, _, rfl, E.ob, T.clH, T.nOd, hF_od _ _ _, e.oa, _, rfl, .inl (SqL.of E.od), q⟩
theorem scElders : FnScope ["self", "name"] ["self", "name"] (defScope sElders) := ⟨rfl, rfl, rfl, by decide +kernel, rfl, by decide +kernel, by decide +kernel⟩
end
end Bk
namespace Bk
open PySem L2 Mg
def spMerged : Sp := fun vs H Q _ => ∃ (ra la : Addr) (as : List Addr) (rows : List (List Str)) (n : Nat), vs = [.ref ra, .ref la] ∧ RowsAt H ra as rows ∧ tot rows ≤ 1000 ∧ rows.length ≤ 1000 ∧ (∀ r ∈ (runM n rows).2, r = []) ∧
  ∀ (p : Addr) (H' : Hp), H p = none → Same H H' → H' p = some (.lst (sVs (runM n rows).1)) → Q (.ref p) H'
theorem iVs_zero (n : Nat) : (List.replicate n (V.int 0)) = iVs (List.replicate n 0) := by
  unfold iVs
  rw [List.map_replicate]
  rfl
theorem truL_false {K : PySem.W.Frag} {H : Hp} : ∀ ps : List Addr, (∀ p ∈ ps, H p = some (.lst [])) → TruL K H (ps.map V.ref) (List.replicate ps.length false)
  | [], _ => .nil
  | p :: ps, h => .cons (.inl ⟨[], SqL.of (h p List.mem_cons_self), rfl⟩) (truL_false ps fun q hq => h q (List.mem_cons_of_mem _ hq))
theorem any_false (n : Nat) : (List.replicate n false).any id = false := by
  induction n with
  | zero => rfl
  | succ n ih => rw [List.replicate_succ, List.any_cons, ih]; rfl
section
variable {P : Program} {w : World} {K : PySem.W.Frag} {mg : Str → Option Value} {base : Heap} {f fC fF fT : Addr} {fd dC dF dT : FuncData}
abbrev nMerged : List Str := ["rows", "labels", "starts", "behind", "joined", "name", "rests"]
theorem nd1 : (["row"] : List Str).Nodup := by decide +kernel
theorem nd2 : (["row", "start"] : List Str).Nodup := by decide +kernel
theorem scMerged : FnScope ["rows", "labels", "starts", "behind", "joined", "name", "rests"] ["rows", "labels"] (defScope sMerged) := ⟨rfl, rfl, rfl, by decide +kernel, rfl, by decide +kernel, by decide +kernel⟩
theorem ok_merged (F : Fun K "merged" "merged" sMerged f fd) (T : Txt mg) (FC : Fun K "counts_behind" "counts_behind" sCounts fC dC) (bC : Binds K dC ["rows"] []) (mC : mg "counts_behind" = some (.ref fC))
    (FF : Fun K "free_name" "free_name" sFree fF dF) (bF : Binds K dF ["rows", "starts", "behind"] []) (mF : mg "free_name" = some (.ref fF))
    (FT : Fun K "take_out" "take_out" sTake fT dT) (bT : Binds K dT ["name", "rows", "starts", "behind"] []) (mT : mg "take_out" = some (.ref fT)) : FnOk P w K mg base CX0 2 f fd ["rows", "labels"] spMerged := by
  have GC : FnOk P w K mg base CX0 1 fC dC ["rows"] spCounts := ok_counts FC T
  have GF : FnOk P w K mg base CX0 1 fF dF ["rows", "starts", "behind"] spFree := ok_free FF T
  have GT : FnOk P w K mg base CX0 1 fT dT ["name", "rows", "starts", "behind"] spTake := ok_take FT T
  refine F.ok scMerged (fun vs H Q E h => ?_) (fun cdv A outer s H vs Q E hr h => ?_)
  · obtain ⟨ra, la, as, rows, n, rfl, _⟩ := h
    rfl
  obtain ⟨ra, la, as, rows, n, rfl, R, ht, hrl, hend, q⟩ := h
  refine ⟨_, pss_cons (ps_setcomp (i := 2) (defScope sMerged) nMerged ["row"] [] rfl scMerged.nd rfl rfl (pi_list (pv 0)) (own_name (i := 0) (by decide)) (fun _ _ _ _ _ _ => ⟨pg_name (i := 0) nd1 rfl (Or.inl rfl), pts_nil, pe_int⟩))
    (pss_cons (ps_set (i := 3) scMerged.nd rfl (Or.inl rfl) (pe_call GC hr rfl mC FC.kp bC .nil pass0 (pa_cons (pv 0) pa_nil)))
    (pss_cons (ps_set (i := 4) scMerged.nd rfl (Or.inl rfl) (pe_lst pa_nil))
    (pss_cons (ps_set (i := 5) scMerged.nd rfl (Or.inl rfl) (pe_call GF hr rfl mF FF.kp bF .nil pass0 (pa_cons (pv 0) (pa_cons (pv 2) (pa_cons (pv 3) pa_nil)))))
    (pss_cons (ps_while PassesOwn.never (pt_cmp (pc_notN (pv 5)))
      (pss_cons (ps_expr (pe_bm PySem.F.plainAttrs_list PySem.F.slot_list_append PySem.F.type_list_append mt_append (pv 4) (pa_cons (pv 5) pa_nil)))
      (pss_cons (ps_expr (pe_call GT hr rfl mT FT.kp bT .nil pass0 (pa_cons (pv 5) (pa_cons (pv 0) (pa_cons (pv 2) (pa_cons (pv 3) pa_nil))))))
      (pss_one (ps_set (i := 5) scMerged.nd rfl (Or.inl rfl) (pe_call GF hr rfl mF FF.kp bF .nil pass0 (pa_cons (pv 0) (pa_cons (pv 2) (pa_cons (pv 3) pa_nil)))))))))
    (pss_cons (ps_setcomp (i := 6) (defScope sMerged) nMerged ["row", "start"] [] rfl scMerged.nd rfl rfl (pi_zip rfl T.zip (pa_cons (pv 0) (pa_cons (pv 2) pa_nil))) (own_tup (K := K) (owns_cons (own_name (i := 0) (by decide)) (owns_cons (own_name (i := 1) (by decide)) owns_nil)))
      (fun _ _ _ _ _ _ => ⟨pg_tup (n := 2) rfl (pgs_cons (pg_name (i := 0) nd2 rfl (Or.inl rfl)) (pgs_cons (pg_name (i := 1) nd2 rfl (Or.inl rfl)) pgs_nil)), pts_nil, pe_slice (r := rSlL K) sl_list (pv 0) (po_some (pv 1)) po_none⟩))
    (pss_cons (ps_if (pt_val (pe_callB (call_any rfl) rfl T.any boot_any' (pa_cons (pv 6) pa_nil))) pss_never pss_nil)
    (pss_one (ps_ret (pv 4))))))))), ?_⟩
  -- starts = [0 for row in rows]
  refine ⟨_, rfl, ra, rfl, ⟨_, SqL.of R.lst⟩, turns_list0 (K := K) (a := ra) (xs := as.map V.ref) (fun i ys H2 => H2 = H ∧ ys = List.replicate i (V.int 0)) ⟨rfl, rfl⟩ (fun i ys H2 _ h => by rw [h.1]; exact SqL.of R.lst) ?_ ?_⟩
  · rintro i y ys H2 hi ⟨rfl, rfl⟩
    refine ⟨?_, rfl, ?_⟩
    · have hi' := (List.getElem?_eq_some_iff.mp hi).1
      rw [List.length_map, R.len] at hi'
      rw [List.length_replicate, sizeLine_eq]
      omega
    · exact List.replicate_succ'.symm
  rintro ys H2 ⟨rfl, rfl⟩ sa hsa
  rw [List.length_map, R.len, iVs_zero]
  have s1 : Same H2 (upd H2 sa (.lst (iVs (List.replicate rows.length 0)))) := same_new hsa _
  -- behind = counts_behind(rows)
  refine ⟨_, rfl, ra, as, rows, rfl, R.same s1, by omega, fun ba kvs H3 hba s2 eb B hl => ?_⟩
  -- joined = []
  refine ⟨(by show 0 ≤ sizeLine; decide), fun ja hja => ?_⟩
  have s3 : Same H3 (upd H3 ja (.lst [])) := same_new hja _
  have hsa3 : H3 sa = some (.lst (iVs (List.replicate rows.length 0))) := s2 _ _ upd_same
  have n_sj : sa ≠ ja := ne_of_none hsa3 hja
  have n_bj : ba ≠ ja := ne_of_none eb hja
  have n_sb : sa ≠ ba := ne_of hsa3 eb (by intro z; cases z)
  have st0 : StAt (upd H3 ja (.lst [])) rows sa ba (List.replicate rows.length 0) kvs := ⟨s3 _ _ hsa3, List.length_replicate, s3 _ _ eb⟩
  have sH : Same H2 (upd H3 ja (.lst [])) := s1.trans (s2.trans s3)
  have hba2 : H2 ba = none := s1.free hba
  have hja2 : H2 ja = none := s1.free (s2.free hja)
  have nsr : sa ≠ ra := Ne.symm (ne_of_none R.lst hsa)
  have nsa : ∀ a ∈ as, a ≠ sa := fun a ha => by
    obtain ⟨i, hi⟩ := List.getElem?_of_mem ha
    obtain ⟨r, _, er⟩ := R.get hi
    exact ne_of_none er hsa
  -- name = free_name(rows, starts, behind)
  refine ⟨_, rfl, _, rfl, _, rfl, ra, sa, ba, as, rows, _, kvs, cnt rows, rfl, R.same sH, st0, B, fun H4 s4 => ?_⟩
  rw [rests_zero]
  have hb0 : ∀ (i : Nat) (r : List Str) (m : Nat), rows[i]? = some r → (List.replicate rows.length 0)[i]? = some m → m ≤ r.length := fun i r m _ h2 => by
    rw [List.getElem?_replicate] at h2
    split at h2
    · cases h2; exact Nat.zero_le _
    · cases h2
  -- while name is not None
  refine ⟨fun m σ H5 => ∃ (joined : List Str) (st : List Nat) (kvs : List (Key × V)) (k : Nat) (v6 : Option V), σ = [some (.ref ra), some (.ref la), some (.ref sa), some (.ref ba), some (.ref ja), some (nameV (pick (cnt (rests rows st)) (rests rows st))), v6] ∧
      Same H2 H5 ∧ H5 ja = some (.lst (sVs joined)) ∧ StAt H5 rows sa ba st kvs ∧ (∀ (i : Nat) (r : List Str) (m : Nat), rows[i]? = some r → st[i]? = some m → m ≤ r.length) ∧ Beh kvs (cnt (rests rows st)) ∧ kvs.length ≤ 1000 ∧
      (joined ++ (runM k (rests rows st)).1 = (runM n rows).1 ∧ (runM k (rests rows st)).2 = (runM n rows).2) ∧ m = tot (rests rows st) ∧ joined.length + tot (rests rows st) ≤ tot rows,
    ⟨_, [], List.replicate rows.length 0, kvs, n, none, by rw [rests_zero]; rfl, sH.trans s4, s4 _ _ upd_same, ⟨s4 _ _ st0.lst, st0.len, s4 _ _ st0.dic⟩, hb0, by rw [rests_zero]; exact B, by omega, by rw [rests_zero]; exact ⟨rfl, rfl⟩, rfl, by rw [rests_zero]; simp⟩, ?_⟩
  rintro m σ H5 ⟨joined, st, kvs, k, v6, rfl, s5, ej, S, hb, B, hl, ⟨e1, e2⟩, rfl, hj⟩
  refine ⟨_, rfl, _, rfl, ?_⟩
  cases hp : pick (cnt (rests rows st)) (rests rows st) with
  | some x =>
    refine iteT ?_
    obtain ⟨hx0, r0, hr0, t0, er0⟩ := pick_mem hp
    have hlt : tot ((rests rows st).map (drop1 x)) < tot (rests rows st) := tot_drop_lt (by rw [← er0]; exact hr0)
    refine ⟨fun σ' H' => ∃ m', m' < tot (rests rows st) ∧ ∃ (joined : List Str) (st : List Nat) (kvs : List (Key × V)) (k : Nat) (v6 : Option V), σ' = [some (.ref ra), some (.ref la), some (.ref sa), some (.ref ba), some (.ref ja), some (nameV (pick (cnt (rests rows st)) (rests rows st))), v6] ∧
      Same H2 H' ∧ H' ja = some (.lst (sVs joined)) ∧ StAt H' rows sa ba st kvs ∧ (∀ (i : Nat) (r : List Str) (m : Nat), rows[i]? = some r → st[i]? = some m → m ≤ r.length) ∧ Beh kvs (cnt (rests rows st)) ∧ kvs.length ≤ 1000 ∧
      (joined ++ (runM k (rests rows st)).1 = (runM n rows).1 ∧ (runM k (rests rows st)).2 = (runM n rows).2) ∧ m' = tot (rests rows st) ∧ joined.length + tot (rests rows st) ≤ tot rows, fun σ' H' h => h, ?_⟩
    -- joined.append(name)
    refine ⟨_, rfl, .inl ⟨rfl, _, SqL.of ej⟩, _, rfl, ja, _, _, rfl, rfl, ej, by rw [sVs_len, sizeLine_eq]; omega, ?_⟩
    have ejx : sVs joined ++ [V.str x] = sVs (joined ++ [x]) := by unfold sVs; rw [List.map_append]; rfl
    have hup : ∀ b o, b ≠ ja → H5 b = some o → (upd H5 ja (.lst (sVs joined ++ [V.str x]))) b = some o := fun b o hne e => by rw [upd_ne hne]; exact e
    have s6 : Same H2 (upd H5 ja (.lst (sVs joined ++ [V.str x]))) := fun b o e => hup b o (ne_of_none e hja2) (s5 b o e)
    -- take_out(name, rows, starts, behind)
    refine ⟨_, rfl, _, rfl, _, rfl, _, rfl, x, ra, sa, ba, as, rows, st, kvs, rfl, R.same s6, ⟨hup _ _ n_sj S.lst, S.len, hup _ _ n_bj S.dic⟩, hb, B, by omega, nsr, nsa, fun st' kvs' H6 S6 h6 hb6 B6 hl6 k6 => ?_⟩
    have s7 : Same H2 H6 := fun b o e => k6 b o (s6 b o e) (ne_of_none e hsa) (ne_of_none e hba2)
    -- name = free_name(rows, starts, behind)
    refine ⟨_, rfl, _, rfl, _, rfl, ra, sa, ba, as, rows, st', kvs', _, rfl, R.same s7, S6, B6, fun H7 s8 => ?_⟩
    obtain ⟨k', rfl⟩ : ∃ k', k = k' + 1 := by
      cases k with
      | zero =>
        have z := hend r0 (by rw [← e2]; exact hr0)
        rw [er0] at z
        cases z
      | succ k' => exact ⟨k', rfl⟩
    rw [run_some hp] at e1 e2
    refine ⟨_, ?_, joined ++ [x], st', kvs', k', v6, rfl, s7.trans s8, s8 _ _ ?_, ⟨s8 _ _ S6.lst, S6.len, s8 _ _ S6.dic⟩, hb6, B6, by omega, ⟨?_, ?_⟩, rfl, ?_⟩
    · rw [h6]; exact hlt
    · rw [← ejx]
      exact k6 _ _ upd_same (Ne.symm n_sj) (Ne.symm n_bj)
    · rw [h6, List.append_assoc]; exact e1
    · rw [h6]; exact e2
    · rw [h6, List.length_append, List.length_singleton]; omega
  | none =>
    refine iteF ?_
    rw [run_none hp] at e1 e2
    have e1' : joined = (runM n rows).1 := by rw [← e1, List.append_nil]
    have e2' : rests rows st = (runM n rows).2 := e2
    have hall : ∀ (i : Nat) (r : List Str) (j : Nat), rows[i]? = some r → st[i]? = some j → r.drop j = [] := fun i r j h1 h2 => hend _ (by rw [← e2']; exact List.mem_of_getElem? (rests_get h1 h2))
    -- rests = [row[start:] for row, start in zip(rows, starts)]
    have R5 := R.same s5
    refine ⟨_, rfl, _, rfl, ra, sa, rfl, ⟨_, SqL.of R5.lst⟩, ⟨_, SqL.of S.lst⟩, turns_zip0 (K := K) (a := ra) (b := sa) (xs := as.map V.ref) (zs := iVs st) (by rw [List.length_map, iVs_len, S.len, R.len])
      (fun i ys H6 => Same H5 H6 ∧ ∃ ps : List Addr, ys = ps.map V.ref ∧ ps.length = i ∧ ∀ p ∈ ps, H6 p = some (.lst [])) ⟨Same.refl _, [], rfl, rfl, fun p hp => nomatch hp⟩ (fun i ys H6 _ h => ⟨SqL.of (h.1 _ _ R5.lst), SqL.of (h.1 _ _ S.lst)⟩) ?_ ?_⟩
    · rintro i y z ys H6 Tp hy hz ⟨s6, ps, rfl, hps, hpl⟩ hT
      obtain ⟨a, ha, rfl⟩ := refs_get hy
      obtain ⟨j, hj', rfl⟩ := iVs_get hz
      obtain ⟨r, hr', er⟩ := R5.get ha
      have s9 : Same H5 (upd H6 Tp (.tup [.ref a, .int j])) := s6.trans (same_new hT _)
      refine ⟨Tp, _, rfl, SqT.of upd_same, rfl, _, _, rfl, _, _, rfl, rfl, ?_⟩
      refine ⟨_, rfl, _, rfl, _, rfl, a, _, rfl, SqL.of (s9 _ _ er), fun p hp' => ?_⟩
      have hc : cutV (sVs r) (some (j : Int)) none = [] := by
        rw [cutFrom _ _ (by rw [sVs_len]; exact hb i r j hr' hj')]
        unfold sVs
        rw [← List.map_drop, hall i r j hr' hj']
        rfl
      rw [hc]
      refine ⟨?_, s9.trans (same_new hp' _), ps ++ [p], by rw [List.map_append]; rfl, by rw [List.length_append, hps]; rfl, fun p' hp2 => ?_⟩
      · have := (List.getElem?_eq_some_iff.mp hr').1
        rw [List.length_map, hps, sizeLine_eq]
        omega
      · rcases List.mem_append.mp hp2 with z | z
        · have e := same_new hT (.tup [.ref a, .int j]) _ _ (hpl p' z)
          exact same_new hp' _ _ _ e
        · have e : p' = p := by simpa using z
          subst e
          exact upd_same
    · rintro ys H6 ⟨s6, ps, rfl, hps, hpl⟩ qa hqa
      -- if any(rests)
      have s9 := same_new (H := H6) hqa (.lst (ps.map V.ref))
      refine ⟨_, rfl, qa, _, _, rfl, SqL.of upd_same, truL_false ps fun p hp' => s9 _ _ (hpl p hp'), ?_⟩
      rw [any_false]
      refine ⟨_, rfl, iteF ?_⟩
      -- return joined
      refine ⟨_, rfl, q ja _ hja2 (s5.trans (s6.trans s9)) ?_⟩
      rw [← e1']
      exact s9 _ _ (s6 _ _ ej)
end
end Bk
namespace Bk
open PySem L2 Mg Nm
section
variable {P : Program} {w : World} {K : PySem.W.Frag} {mg : Str → Option Value} {base : Heap} {f fM fC fF fT : Addr} {fd dM dC dF dT : FuncData}
def spMade : Sp := fun vs H Q _ => ∃ (x : Str) (ea oa : Addr) (as : List Addr) (el : List Str) (rows : List (List Str)) (n : Nat), vs = [.str x, .ref ea, .ref oa] ∧ H ea = some (.lst (sVs el)) ∧ RowsAt H oa as rows ∧ tot (rows ++ [el]) ≤ 900 ∧ rows.length ≤ 900 ∧ el.length ≤ 900 ∧ (∀ r ∈ (runM n (rows ++ [el])).2, r = []) ∧ (runM n (rows ++ [el])).1.length ≤ 900 ∧
  ∀ (p : Addr) (H' : Hp), H p = none → Same H H' → H' p = some (.lst (sVs (x :: (runM n (rows ++ [el])).1))) → Q (.ref p) H'
theorem scMade : FnScope ["name", "elders", "orders"] ["name", "elders", "orders"] (defScope sMade) := ⟨rfl, rfl, rfl, by decide +kernel, rfl, by decide +kernel, by decide +kernel⟩
theorem ok_made (F : Fun K "made_order" "made_order" sMade f fd) (T : Txt mg) (GM : FnOk P w K mg base CX0 2 fM dM ["rows", "labels"] spMerged) (kM : PySem.W.keepIn K (.ref fM) = true) (bM : Binds K dM ["rows", "labels"] []) (mM : mg "merged" = some (.ref fM)) :
    FnOk P w K mg base CX0 3 f fd ["name", "elders", "orders"] spMade := by
  refine F.ok scMade (fun vs H Q E h => ?_) (fun cdv A outer s H vs Q E hr h => ?_)
  · obtain ⟨x, ea, oa, as, el, rows, n, rfl, _⟩ := h
    rfl
  obtain ⟨x, ea, oa, as, el, rows, n, rfl, eel, R, ht, hrl, hell, hrun, hjl, q⟩ := h
  refine ⟨_, pss_one (ps_ret (pe_op op_cat (pe_lst (pa_cons (pv 0) pa_nil)) (pe_call GM hr rfl mM kM bM .nil pass0 (pa_cons (pe_op op_cat (pv 2) (pe_lst (pa_cons (pv 1) pa_nil))) (pa_cons (pe_op op_cat (pv 1) (pe_lst (pa_cons (pv 0) pa_nil))) pa_nil))))), ?_⟩
  have hlR : as.length = rows.length := R.len
  refine ⟨_, rfl, by show 1 ≤ sizeLine; decide, fun l1 hl1 => ?_⟩
  have s1 := same_new hl1 (.lst [V.str x])
  refine ⟨_, rfl, _, rfl, by show 1 ≤ sizeLine; decide, fun l2 hl2 => ?_⟩
  have s2 := same_new hl2 (.lst [V.ref ea])
  refine ⟨oa, l2, _, _, rfl, rfl, s2 _ _ (s1 _ _ R.lst), upd_same, by rw [List.length_map, sizeLine_eq, List.length_singleton]; omega, fun l3 hl3 => ?_⟩
  have s3 := same_new hl3 (.lst (as.map V.ref ++ [V.ref ea]))
  refine ⟨_, rfl, _, rfl, by show 1 ≤ sizeLine; decide, fun l4 hl4 => ?_⟩
  have s4 := same_new hl4 (.lst [V.str x])
  have sA := s1.trans (s2.trans (s3.trans s4))
  refine ⟨ea, l4, _, _, rfl, rfl, sA _ _ eel, upd_same, by rw [sVs_len, sizeLine_eq, List.length_singleton]; omega, fun l5 hl5 => ?_⟩
  have s5 := same_new hl5 (.lst (sVs el ++ [V.str x]))
  have sB := sA.trans s5
  have e3 := s5 _ _ (s4 _ _ (upd_same (H := upd (upd H l1 (.lst [V.str x])) l2 (.lst [V.ref ea])) (a := l3) (o := .lst (as.map V.ref ++ [V.ref ea]))))
  have R5 := R.snoc sB (sB _ _ eel) (q := l3) (by rw [List.map_append]; exact e3)
  have n1 := s5 _ _ (s4 _ _ (s3 _ _ (s2 _ _ (upd_same (H := H) (a := l1) (o := .lst [V.str x])))))
  refine ⟨l3, l5, as ++ [ea], rows ++ [el], n, rfl, R5, by omega, by rw [List.length_append, List.length_singleton]; omega, hrun, fun p H6 hp s6 ep => ?_⟩
  refine ⟨l1, p, _, _, rfl, rfl, s6 _ _ n1, ep, by rw [sVs_len, sizeLine_eq, List.length_singleton]; omega, fun z hz => ?_⟩
  exact q z _ (sB.free (s6.free hz)) (sB.trans (s6.trans (same_new hz _))) upd_same
end
def Hand (H : Hp) (v : V) (el : List Str) : Prop := (v = .non ∧ el = []) ∨ ∃ a, v = .ref a ∧ H a = some (.lst (sVs el))
theorem Hand.same {H H' : Hp} {v : V} {el : List Str} (h : Hand H v el) (s : Same H H') : Hand H' v el := by
  rcases h with h | ⟨a, e, h⟩
  · exact .inl h
  · exact .inr ⟨a, e, s _ _ h⟩
def odOf (L : List Ent) (y : Str) : List Str := ((fnd L y).map (·.od)).getD []
theorem odOf_of {L : List Ent} {y : Str} {e : Ent} (h : fnd L y = some e) : odOf L y = e.od := by
  unfold odOf
  rw [h]
  rfl
def rowsOf (L : List Ent) (el : List Str) : List (List Str) := el.map (odOf L) ++ [el]
structure Fresh (H : Hp) (e : Ent) : Prop where
  at_ : H e.at_ = none
  ea : H e.ea = none
  oa : H e.oa = none
  ba : H e.ba = none
structure CanFound (CB CH : Addr) (H : Hp) (p d : Addr) (L : List Ent) (x : Str) (el : List Str) (n : Nat) : Prop where
  bk : BookAt CB CH H p d L
  nm : okNm x = true
  nl : x.length ≤ sizeLine
  new : fnd L x = none
  els : ∀ y ∈ el, ∃ e, fnd L y = some e
  nd : el.Nodup
  ell : el.length ≤ 60
  ll : L.length ≤ 100
  tot : tot (rowsOf L el) ≤ 900
  run : ∀ r ∈ (runM n (rowsOf L el)).2, r = []
  jl : (runM n (rowsOf L el)).1.length ≤ 900
def IsNew (H : Hp) (L : List Ent) (x : Str) (el : List Str) (n : Nat) (e : Ent) : Prop := e.nm = x ∧ e.el = el ∧ e.od = x :: (runM n (rowsOf L el)).1 ∧ e.bd = [] ∧ Fresh H e
def spFound (CB CH : Addr) : Sp := fun vs H Q _ => ∃ (p d : Addr) (L : List Ent) (x : Str) (v : V) (el : List Str) (n : Nat), vs = [.ref p, .str x, v] ∧ CanFound CB CH H p d L x el n ∧ Hand H v el ∧
  ∀ (e : Ent) (H' : Hp), IsNew H L x el n e → BookAt CB CH H' p d (L ++ [e]) → (∀ b o, H b = some o → b ≠ d → H' b = some o) → Q .non H'
theorem BookAt.add {CB CH : Addr} {H H' : Hp} {p d : Addr} {L : List Ent} {e : Ent} (B : BookAt CB CH H p d L) (hn : fnd L e.nm = none) (fr : H e.ba = none) (E : EntAt CH H' e) (hd : H' d = some (.dK (putK (kvB L) (Sum.inr e.nm) (.ref e.at_)))) (k : ∀ b o, H b = some o → b ≠ d → H' b = some o) : BookAt CB CH H' p d (L ++ [e]) := by
  obtain ⟨dx, hp⟩ := B.ob
  have npd : p ≠ d := ne_of hp B.dc (by intro z; cases z)
  refine ⟨⟨dx, k _ _ hp npd⟩, ?_, ?_, ?_, ?_, ?_⟩
  · rw [hd, putK_new _ (by rw [val_kvB, hn]; rfl)]
    unfold kvB
    rw [List.map_append]
    rfl
  · intro a ha
    rcases List.mem_append.mp ha with h | h
    · have A := B.en a h
      exact ⟨k _ _ A.ob (ne_of A.ob B.dc (by intro z; cases z)), k _ _ A.el (ne_of A.el B.dc (by intro z; cases z)), k _ _ A.od (ne_of A.od B.dc (by intro z; cases z)), k _ _ A.bd (B.nb a h)⟩
    · rw [List.mem_singleton] at h
      subst h
      exact E
  · intro a ha
    rcases List.mem_append.mp ha with h | h
    · exact B.nb a h
    · rw [List.mem_singleton] at h
      subst h
      exact Ne.symm (ne_of_none B.dc fr)
  · rw [List.map_append, List.nodup_append]
    refine ⟨B.nd, by simp, fun a ha b hb => ?_⟩
    obtain ⟨c, hc, rfl⟩ := List.mem_map.mp ha
    have hb' : b = e.nm := by simpa using hb
    subst hb'
    intro z
    have := List.find?_eq_none.mp hn c hc
    exact this (decide_eq_true z)
  · rw [List.map_append, List.nodup_append]
    refine ⟨B.nn, by simp, fun a ha b hb => ?_⟩
    obtain ⟨c, hc, rfl⟩ := List.mem_map.mp ha
    have hb' : b = e.ba := by simpa using hb
    subst hb'
    exact ne_of_none (B.en c hc).bd fr
section
variable {P : Program} {w : World} {K : PySem.W.Frag} {mg : Str → Option Value} {base : Heap} {f fO fN fM fI CB CH T0 : Addr} {fd dO dN dM dI : FuncData}
abbrev nFound : List Str := ["self", "name", "elders", "elder_row", "orders"]
theorem nde2 : (["elder", "self"] : List Str).Nodup := by decide +kernel
theorem scFound : FnScope ["self", "name", "elders", "elder_row", "orders"] ["self", "name", "elders"] (defScope sFound) := ⟨rfl, rfl, rfl, by decide +kernel, rfl, by decide +kernel, by decide +kernel⟩
theorem ok_found (F : FunD K "found" "Book.found" sFound f fd T0) (T : ClsB K mg CB CH) (Tx : Txt mg) (GO : FnOk P w K mg base CX0 2 fO dO ["self", "name"] (spOrder CB CH)) (bO : Binds K dO ["self", "name"] []) (mO : Meth K CB "order" fO)
    (GN : FnOk P w K mg base CX0 1 fN dN ["value"] spIsName) (kN : PySem.W.keepIn K (.ref fN) = true) (bN : Binds K dN ["value"] []) (mN : mg "is_name" = some (.ref fN))
    (GM : FnOk P w K mg base CX0 3 fM dM ["name", "elders", "orders"] spMade) (kM : PySem.W.keepIn K (.ref fM) = true) (bM : Binds K dM ["name", "elders", "orders"] []) (mM : mg "made_order" = some (.ref fM))
    (GI : FnOk P w K mg base CX0 1 fI dI ["self", "elder_row", "order_row"] (spInitH CH)) (bI : Binds K dI ["self", "elder_row", "order_row"] []) (MH : Mk K CH fI) : FnOk P w K mg base CX0 4 f fd ["self", "name", "elders"] (spFound CB CH) := by
  refine F.ok scFound (fun vs H Q E h => ?_) (fun cdv A outer s H vs Q E hr h => ?_)
  · obtain ⟨p, d, L, x, v, el, n, rfl, _⟩ := h
    rfl
  obtain ⟨p, d, L, x, v, el, n, rfl, ⟨B, hok, hxl, hno, hel, hnd, hell, hll, htot, hrun, hjl⟩, hand, q⟩ := h
  have hu := hu_of hr
  have hr1 := hr.mono (j := 1) (by decide)
  have hr2 := hr.mono (j := 2) (by decide)
  obtain ⟨dx, hp⟩ := B.ob
  refine ⟨_, pss_cons (ps_if (pt_not (pt_val (pe_call GN hr1 rfl mN kN bN .nil pass0 (pa_cons (pv 1) pa_nil)))) pss_never pss_nil)
    (pss_cons (ps_if (pt_cmp (pc_din hu (pv 1) (pe_fld (pv 0) rfl))) pss_never pss_nil)
    (pss_cons (ps_set (i := 3) scFound.nd rfl (Or.inl rfl) (PE.imp (t' := fun σ H Q => ∃ v el, σ[2]? = some (some v) ∧ Hand H v el ∧ ∀ l, H l = none → Q (.ref l) (upd H l (.lst (sVs el)))) (pe_ifExp (pt_cmp (pc_isN (pv 2))) (pe_lst pa_nil) (pe_callTy (call_listK (K := K)) rfl Tx.list PyProof.Rows.boot_list (pa_cons (pv 2) pa_nil)))
      (fun σ H Q ⟨v, el, h1, h2, h3⟩ => ?imp)))
    (pss_cons (ps_setcomp (i := 4) (defScope sFound) nFound ["elder"] [("self", 0)] rfl scFound.nd rfl rfl (pi_list (pv 3)) (own_name (i := 0) (by decide)) (fun _ _ _ _ _ _ => ⟨pg_name (i := 0) nde2 rfl (Or.inl rfl), pts_nil, pe_meth (pv 1) T.clB mO GO hr2 bO .nil pass0 (pa_cons (pv 0) pa_nil)⟩))
    (pss_cons (ps_if (pt_cmpR op_lt (pe_callB call_len_setS rfl Tx.len PySem.boot_len (pa_cons (pe_callTy (call_set_texts rfl) rfl Tx.set boot_set' (pa_cons (pv 3) pa_nil)) pa_nil)) (pe_callB call_len_seq rfl Tx.len PySem.boot_len (pa_cons (pv 3) pa_nil)) (nomark _)) pss_never pss_nil)
    (pss_one (ps_dput hu (pe_fld (pv 0) rfl) (pv 1) (pe_make MH GI hr2 rfl T.mgH bI .nil pass0 (pa_cons (pv 3) (pa_cons (pe_call GM hr rfl mM kM bM .nil pass0 (pa_cons (pv 1) (pa_cons (pv 3) (pa_cons (pv 4) pa_nil)))) pa_nil))) rfl)))))), ?_⟩
  case imp =>
    refine ⟨_, h1, _, rfl, ?_⟩
    rcases h2 with ⟨rfl, rfl⟩ | ⟨a, rfl, ea⟩
    · exact iteT ⟨by show 0 ≤ sizeLine; decide, h3⟩
    · exact iteF ⟨_, h1, a, _, rfl, .inl (SqL.of ea), h3⟩
  -- is_name(name)
  refine ⟨_, rfl, .str x, rfl, .inr ⟨x, rfl, hxl⟩, fun H1 s1 => ?_⟩
  rw [show nmV (.str x) = true from hok]
  refine ⟨_, rfl, iteF ?_⟩
  -- name in self.by_name
  have B1 := B.same s1
  refine ⟨_, rfl, _, rfl, p, CB, dx, _, _, rfl, s1 _ _ hp, T.clB, T.nBy, bF_by d, d, _, rfl, B1.no hno, _, rfl, iteF ?_⟩
  -- elder_row
  refine ⟨v, el, rfl, hand.same s1, fun la hla => ?_⟩
  have s2 := same_new hla (.lst (sVs el))
  have sA := s1.trans s2
  have hla0 : H la = none := s1.free hla
  have ela : (upd H1 la (.lst (sVs el))) la = some (.lst (sVs el)) := upd_same
  generalize upd H1 la (.lst (sVs el)) = H2 at *
  -- orders
  refine ⟨_, rfl, la, rfl, ⟨_, SqL.of ela⟩, turns_list0 (K := K) (a := la) (xs := sVs el) (fun i ys H3 => Same H2 H3 ∧ ∃ ps : List Addr, ys = ps.map V.ref ∧ ps.length = i ∧ ∀ (j : Nat) (a : Addr) (r : List Str), ps[j]? = some a → (el.map (odOf L))[j]? = some r → H3 a = some (.lst (sVs r)))
    ⟨Same.refl _, [], rfl, rfl, fun j a r h => by simp at h⟩ (fun i ys H3 _ h => SqL.of (h.1 _ _ ela)) ?_ ?_⟩
  · rintro i y ys H3 hi ⟨s3, ps, rfl, hps, hpl⟩
    obtain ⟨z, hz, rfl⟩ := sVs_get hi
    obtain ⟨e, he⟩ := hel z (List.mem_of_getElem? hz)
    have sB := sA.trans s3
    have hil : i < el.length := (List.getElem?_eq_some_iff.mp hz).1
    refine ⟨_, rfl, p, dx, _, rfl, sB _ _ hp, bF_no d (by decide +kernel), _, rfl, p, d, L, z, e, rfl, B.same sB, he, fun l hl => ?_⟩
    have s4 := same_new hl (.lst (sVs e.od))
    refine ⟨by rw [List.length_map, hps, sizeLine_eq]; omega, s3.trans s4, ps ++ [l], by rw [List.map_append]; rfl, by rw [List.length_append, hps]; rfl, fun j a r h1 h2 => ?_⟩
    by_cases hj : j < ps.length
    · rw [List.getElem?_append_left hj] at h1
      exact s4 _ _ (hpl j a r h1 h2)
    · have hjl : j < (ps ++ [l]).length := (List.getElem?_eq_some_iff.mp h1).1
      rw [List.length_append, List.length_singleton] at hjl
      obtain rfl : j = ps.length := by omega
      rw [List.getElem?_concat_length] at h1
      cases h1
      rw [List.getElem?_map, hps, hz] at h2
      cases h2
      rw [odOf_of he]
      exact upd_same
  rintro ys H3 ⟨s3, ps, rfl, hps, hpl⟩ qa hqa
  rw [sVs_len] at hps
  have s4 := same_new hqa (.lst (ps.map V.ref))
  have R : RowsAt (upd H3 qa (.lst (ps.map V.ref))) qa ps (el.map (odOf L)) := ⟨upd_same, by rw [hps, List.length_map], fun i a r h1 h2 => s4 _ _ (hpl i a r h1 h2)⟩
  have sB := s3.trans s4
  have sC := sA.trans sB
  generalize upd H3 qa (.lst (ps.map V.ref)) = H4 at *
  -- len(set(elder_row)) < len(elder_row)
  refine ⟨_, rfl, la, el, rfl, SqL.of (sB _ _ ela), hnd, by show el.length + 1 < 4096; omega, fun sa hsa => ?_⟩
  have s5 := same_new hsa (SetSO P w sa el.length)
  refine ⟨sa, _, rfl, upd_same, _, rfl, la, _, rfl, .inl (SqL.of (s5 _ _ (sB _ _ ela))), _, _, rfl, rfl, _, rfl, ite2 (fun c => ?_) (fun _ => ?_)⟩
  · have := of_decide_eq_true c
    rw [sVs_len] at this
    omega
  have sD := sC.trans s5
  have R5 := R.same s5
  have ela5 := s5 _ _ (sB _ _ ela)
  -- self.by_name[name] = House(elder_row, made_order(name, elder_row, orders))
  refine ⟨_, rfl, _, rfl, _, rfl, _, rfl, x, la, qa, ps, el, el.map (odOf L), n, rfl, ela5, R5, htot, by rw [List.length_map]; omega, by omega, hrun, hjl, fun oa H6 hoa s6 eoa => ?_⟩
  intro hx hdx nx ndx nex
  have sE := sD.trans s6
  have s7 : Same H6 (upd (upd H6 hdx (.own hx)) hx (.ins CH hdx [])) := fun b o e => by
    rw [upd_ne (ne_of_none e nx), upd_ne (ne_of_none e ndx)]
    exact e
  refine ⟨hx, la, oa, hdx, rfl, upd_same, fun ba H7 hba e1 e2 kp => ⟨rfl, ?_⟩⟩
  have s8 : Same H6 H7 := fun b o e => kp b o (s7 b o e) (ne_of_none e nx)
  have sF := sE.trans s8
  have B7 := B.same sF
  refine ⟨_, rfl, p, CB, dx, _, _, rfl, sF _ _ hp, T.clB, T.nBy, bF_by d, _, rfl, d, _, rfl, DPut.k (k := (Sum.inr x : Key)) B7.dc (by unfold kvB; rw [List.length_map, sizeLine_eq]; omega), ?_⟩
  have hla6 : H6 la = some (.lst (sVs el)) := s6 _ _ ela5
  have hba6 : H6 ba = none := s7.free hba
  have nlx : la ≠ hx := ne_of_none hla6 nx
  have frE : Fresh H ⟨x, hx, hdx, la, oa, ba, el, x :: (runM n (rowsOf L el)).1, []⟩ := ⟨sE.free nx, hla0, sD.free hoa, sE.free hba6⟩
  have k8 : ∀ b o, H b = some o → b ≠ d → (upd H7 d (.dK (putK (kvB L) (Sum.inr x : Key) (.ref hx)))) b = some o := fun b o e hb => by rw [upd_ne hb]; exact sF _ _ e
  have nd_of : ∀ b, H b = none → b ≠ d := fun b hb => Ne.symm (ne_of_none B.dc hb)
  refine q ⟨x, hx, hdx, la, oa, ba, el, x :: (runM n (rowsOf L el)).1, []⟩ _ ⟨rfl, rfl, rfl, rfl, frE⟩ (B.add (e := ⟨x, hx, hdx, la, oa, ba, el, x :: (runM n (rowsOf L el)).1, []⟩) hno frE.ba ⟨?_, ?_, ?_, ?_⟩ upd_same k8) k8
  · rw [upd_ne (nd_of _ frE.at_)]; exact e1
  · rw [upd_ne (nd_of _ frE.ea)]; exact s8 _ _ hla6
  · rw [upd_ne (nd_of _ frE.oa)]; exact s8 _ _ eoa
  · rw [upd_ne (nd_of _ frE.ba)]; exact e2
end
def big : Int := 10 ^ 30
def whV (lo hi : Int) : V → Bool
  | .int i => decide (lo ≤ i) && decide (i ≤ hi)
  | _ => false
def partOk (kd : Str) (v : V) : Bool := if kd = "word" then nmV v else if kd = "shift" then whV 0 64 v else if kd = "divisor" then whV (-big) big v && !decide (v = .int 0) else whV (-big) big v
def spWhole : Sp := fun vs H Q _ => ∃ (v : V) (lo hi : Int), vs = [v, .int lo, .int hi] ∧ PV v ∧ Q (.bl (whV lo hi v)) H
def spAmount : Sp := fun vs H Q _ => ∃ v : V, vs = [v] ∧ PV v ∧ Q (.bl (whV (-big) big v)) H
def spPart : Sp := fun vs H Q _ => ∃ (v : V) (kd : Str), vs = [v, .str kd] ∧ PV v ∧ ∀ H', Same H H' → Q (.bl (partOk kd v)) H'
section
variable {P : Program} {w : World} {K : PySem.W.Frag} {mg : Str → Option Value} {base : Heap} {f fW fA fN fP fS aP : Addr} {fd dW dA dN dP dS : FuncData}
theorem scWhole : FnScope ["value", "least", "most"] ["value", "least", "most"] (defScope sWhole) := ⟨rfl, rfl, rfl, by decide +kernel, rfl, by decide +kernel, by decide +kernel⟩
theorem ok_whole (F : Fun K "is_whole" "is_whole" sWhole f fd) (T : Txt mg) : FnOk P w K mg base CX0 1 f fd ["value", "least", "most"] spWhole := by
  refine F.ok scWhole (fun vs H Q E h => ?_) (fun cdv A outer s H vs Q E hr h => ?_)
  · obtain ⟨v, lo, hi, rfl, _⟩ := h
    rfl
  obtain ⟨v, lo, hi, rfl, hv, q⟩ := h
  refine ⟨_, pss_one (ps_ret (pe_and (pe_callB call_isinst rfl T.isi PyProof.Rows.boot_isinstance (pa_cons (pv 0) (pa_cons (pe_bltn (v := .ty "int") rfl T.int PyProof.Rows.boot_int rfl) pa_nil)))
    (pe_and (pe_not (pe_callB call_isinst rfl T.isi PyProof.Rows.boot_isinstance (pa_cons (pv 0) (pa_cons (pe_bltn (v := .ty "bool") rfl T.bool PyProof.Rows.boot_bool rfl) pa_nil))))
    (pe_one (pe_chain op_le op_le (pv 1) (pv 0) (pv 2)))))), ?_⟩
  rcases hv with ⟨i, rfl⟩ | ⟨x, rfl, hx⟩
  · refine ⟨_, rfl, _, _, _, _, rfl, .int _, kit_self K "int", _, rfl, iteT ?_⟩
    refine ⟨_, rfl, _, _, _, _, rfl, .int _, (show PySem.W.kitOne K (.type "int") (.type "bool") = some false from rfl), _, rfl, _, rfl, iteT ?_⟩
    refine ⟨_, rfl, _, rfl, _, _, rfl, rfl, _, rfl, ite2 (fun c => ?_) (fun c => ?_)⟩
    · refine ⟨_, rfl, _, _, rfl, rfl, ?_⟩
      have e : whV lo hi (.int i) = decide (i ≤ hi) := by
        show (decide (lo ≤ i) && decide (i ≤ hi)) = _
        rw [c, Bool.true_and]
      rw [e] at q
      exact q
    · have e : whV lo hi (.int i) = false := by
        show (decide (lo ≤ i) && decide (i ≤ hi)) = _
        rw [Bool.eq_false_iff.mpr c, Bool.false_and]
      rw [e] at q
      exact q
  · exact ⟨_, rfl, _, _, _, _, rfl, .str _, (show PySem.W.kitOne K (.type "str") (.type "int") = some false from rfl), _, rfl, iteF q⟩
theorem scAmount : FnScope ["value"] ["value"] (defScope sAmount) := ⟨rfl, rfl, rfl, by decide +kernel, rfl, by decide +kernel, by decide +kernel⟩
theorem ok_amount (F : Fun K "is_amount" "is_amount" sAmount f fd) (T : Txt mg) (GW : FnOk P w K mg base CX0 1 fW dW ["value", "least", "most"] spWhole) (kW : PySem.W.keepIn K (.ref fW) = true) (bW : Binds K dW ["value", "least", "most"] []) (mW : mg "is_whole" = some (.ref fW)) : FnOk P w K mg base CX0 2 f fd ["value"] spAmount := by
  refine F.ok scAmount (fun vs H Q E h => ?_) (fun cdv A outer s H vs Q E hr h => ?_)
  · obtain ⟨v, rfl, _⟩ := h
    rfl
  obtain ⟨v, rfl, hv, q⟩ := h
  refine ⟨_, pss_one (ps_ret (pe_call GW hr rfl mW kW bW .nil pass0 (pa_cons (pv 0) (pa_cons (pe_un un_neg (pe_op op_pow pe_int pe_int)) (pa_cons (pe_op op_pow pe_int pe_int) pa_nil))))), ?_⟩
  exact ⟨_, rfl, _, _, rfl, rfl, ⟨by decide, by decide, by decide⟩, _, rfl, _, _, rfl, rfl, ⟨by decide, by decide, by decide⟩, v, -big, big, rfl, hv, q⟩
theorem scPart : FnScope ["part", "kind"] ["part", "kind"] (defScope sIsPart) := ⟨rfl, rfl, rfl, by decide +kernel, rfl, by decide +kernel, by decide +kernel⟩
theorem ok_part (F : Fun K "is_part" "is_part" sIsPart f fd) (T : Txt mg) (GW : FnOk P w K mg base CX0 1 fW dW ["value", "least", "most"] spWhole) (kW : PySem.W.keepIn K (.ref fW) = true) (bW : Binds K dW ["value", "least", "most"] []) (mW : mg "is_whole" = some (.ref fW))
    (GA : FnOk P w K mg base CX0 2 fA dA ["value"] spAmount) (kA : PySem.W.keepIn K (.ref fA) = true) (bA : Binds K dA ["value"] []) (mA : mg "is_amount" = some (.ref fA))
    (GN : FnOk P w K mg base CX0 1 fN dN ["value"] spIsName) (kN : PySem.W.keepIn K (.ref fN) = true) (bN : Binds K dN ["value"] []) (mN : mg "is_name" = some (.ref fN)) : FnOk P w K mg base CX0 3 f fd ["part", "kind"] spPart := by
  refine F.ok scPart (fun vs H Q E h => ?_) (fun cdv A outer s H vs Q E hr h => ?_)
  · obtain ⟨v, kd, rfl, _⟩ := h
    rfl
  obtain ⟨v, kd, rfl, hv, q⟩ := h
  have hr1 := hr.mono (j := 1) (by decide)
  refine ⟨_, pss_cons (ps_if (pt_cmpR op_eq (pv 1) pe_str (nomark _)) (pss_one (ps_ret (pe_call GN hr1 rfl mN kN bN .nil pass0 (pa_cons (pv 0) pa_nil)))) pss_nil)
    (pss_cons (ps_if (pt_cmpR op_eq (pv 1) pe_str (nomark _)) (pss_one (ps_ret (pe_call GW hr1 rfl mW kW bW .nil pass0 (pa_cons (pv 0) (pa_cons pe_int (pa_cons pe_int pa_nil)))))) pss_nil)
    (pss_cons (ps_if (pt_cmpR op_eq (pv 1) pe_str (nomark _)) (pss_one (ps_ret (pe_and (pe_call GA hr rfl mA kA bA .nil pass0 (pa_cons (pv 0) pa_nil)) (pe_one (pe_cmpR op_ne (pv 0) pe_int (nomark _)))))) pss_nil)
    (pss_one (ps_ret (pe_call GA hr rfl mA kA bA .nil pass0 (pa_cons (pv 0) pa_nil)))))), ?_⟩
  unfold partOk at q
  have de : ∀ {a b : Str}, decide (V.str a = V.str b) = true → a = b := fun h => V.str.inj (of_decide_eq_true h)
  have dn : ∀ {a b : Str}, ¬ decide (V.str a = V.str b) = true → ¬ a = b := fun h e => h (by rw [e]; exact decide_eq_true rfl)
  refine ⟨_, rfl, rfl, _, rfl, ite2 (fun c => ?_) (fun c => ?_)⟩
  · rw [if_pos (de c)] at q
    exact ⟨_, rfl, v, rfl, hv, q⟩
  rw [if_neg (dn c)] at q
  refine ⟨_, rfl, rfl, _, rfl, ite2 (fun c => ?_) (fun c => ?_)⟩
  · rw [if_pos (de c)] at q
    exact ⟨_, rfl, v, 0, 64, rfl, hv, q _ (Same.refl _)⟩
  rw [if_neg (dn c)] at q
  refine ⟨_, rfl, rfl, _, rfl, ite2 (fun c => ?_) (fun c => ?_)⟩
  · rw [if_pos (de c)] at q
    refine ⟨_, rfl, v, rfl, hv, _, rfl, ite2 (fun c2 => ?_) (fun c2 => ?_)⟩
    · rw [c2, Bool.true_and] at q
      rcases hv with ⟨i, rfl⟩ | ⟨x, rfl, _⟩
      · exact ⟨_, rfl, rfl, q _ (Same.refl _)⟩
      · cases c2
    · rw [Bool.eq_false_iff.mpr c2, Bool.false_and] at q
      exact q _ (Same.refl _)
  rw [if_neg (dn c)] at q
  exact ⟨_, rfl, v, rfl, hv, q _ (Same.refl _)⟩
theorem nde_pk : (["part", "kind"] : List Str).Nodup := by decide +kernel
theorem nde_st : (["step"] : List Str).Nodup := by decide +kernel
structure Tab (P : Program) (w : World) (K : PySem.W.Frag) (aP : Addr) (ks : List (Str × Addr × List Str)) : Prop where
  dic : KDic P w K aP (ks.map fun p => ((Sum.inr p.1 : Key), V.ref p.2.1))
  tup : ∀ p ∈ ks, ∀ H : Hp, SqT K H p.2.1 (sVs p.2.2)
def kindsOf (ks : List (Str × Addr × List Str)) (kd : Str) : Option (Addr × List Str) := (ks.find? fun p => decide (p.1 = kd)).map (·.2)
theorem val_tab (ks : List (Str × Addr × List Str)) (kd : Str) : valV (ks.map fun p => ((Sum.inr p.1 : Key), V.ref p.2.1)) (Sum.inr kd : Key) = (kindsOf ks kd).map fun q => V.ref q.1 := by
  unfold kindsOf
  induction ks with
  | nil => rfl
  | cons e L ih =>
    rw [List.map_cons]
    by_cases h : e.1 = kd
    · rw [valV_pos (show ((Sum.inr e.1 : Key), V.ref e.2.1).1 = Sum.inr kd by rw [h]), List.find?_cons_of_pos (by rw [decide_eq_true h])]
      rfl
    · rw [valV_neg (fun z => h (Sum.inr.inj z)), ih, List.find?_cons_of_neg (by rw [decide_eq_false h]; exact Bool.false_ne_true)]
theorem kinds_mem {ks : List (Str × Addr × List Str)} {kd : Str} {a : Addr} {r : List Str} (h : kindsOf ks kd = some (a, r)) : ∃ p ∈ ks, p.2 = (a, r) := by
  unfold kindsOf at h
  cases e : ks.find? fun p => decide (p.1 = kd) with
  | none => rw [e] at h; cases h
  | some p =>
    rw [e] at h
    exact ⟨p, List.mem_of_find?_eq_some e, Option.some.inj h⟩
def goodStep (ks : List (Str × Addr × List Str)) (kd : Str) (ps : List V) : Prop := ∃ a r, kindsOf ks kd = some (a, r) ∧ ps.length = r.length ∧ ∀ (i : Nat) (v : V) (k : Str), ps[i]? = some v → r[i]? = some k → partOk k v = true
def spStep (K : PySem.W.Frag) (ks : List (Str × Addr × List Str)) : Sp := fun vs H Q _ => ∃ (t : Addr) (kd : Str) (ps : List V), vs = [.ref t] ∧ SqT K H t (.str kd :: ps) ∧ H t = some (.tup (.str kd :: ps)) ∧ goodStep ks kd ps ∧ (∀ v ∈ ps, PV v) ∧ ps.length ≤ 100 ∧ ∀ H', Same H H' → Q (.bl true) H'
theorem cutT1 (x : V) (xs : List V) : cutV (x :: xs) (some 1) none = xs := by rw [cut1]; rfl
theorem scStep : FnScope ["value", "kinds"] ["value"] (defScope sIsStep) := ⟨rfl, rfl, rfl, by decide +kernel, rfl, by decide +kernel, by decide +kernel⟩
theorem ok_step {ks : List (Str × Addr × List Str)} (F : Fun K "is_step" "is_step" sIsStep f fd) (T : Txt mg) (Tb : Tab P w K aP ks) (mP : mg "PARTS" = some (.ref aP)) (GP : FnOk P w K mg base CX0 3 fP dP ["part", "kind"] spPart) (kP : PySem.W.keepIn K (.ref fP) = true) (bP : Binds K dP ["part", "kind"] []) (mPt : mg "is_part" = some (.ref fP)) : FnOk P w K mg base CX0 4 f fd ["value"] (spStep K ks) := by
  refine F.ok scStep (fun vs H Q E h => ?_) (fun cdv A outer s H vs Q E hr h => ?_)
  · obtain ⟨t, kd, ps, rfl, _⟩ := h
    rfl
  obtain ⟨t, kd, ps, rfl, ht, ht', ⟨a, r, hk, hl, hg⟩, hpv, hps, q⟩ := h
  refine ⟨_, pss_cons (ps_if (PW.pt (pw_or (pt_not (pt_val (pe_callB call_isinst rfl T.isi PyProof.Rows.boot_isinstance (pa_cons (pv 0) (pa_cons (pe_bltn (v := .ty "tuple") rfl T.tup PyProof.Rows.boot_tuple rfl) pa_nil)))))
      (pw_or (pt_cmpR op_eq (pe_callB call_len_seq rfl T.len PySem.boot_len (pa_cons (pv 0) pa_nil)) pe_int (nomark _))
      (pw_or1 (pt_not (pt_val (pe_callB call_isinst rfl T.isi PyProof.Rows.boot_isinstance (pa_cons (pe_ix ix_tup (pv 0) pe_int (fun _ _ => rfl)) (pa_cons (pe_bltn (v := .ty "str") rfl T.str PyProof.Rows.boot_str rfl) pa_nil))))))))) pss_never pss_nil)
    (pss_cons (ps_set (i := 1) scStep.nd rfl (Or.inl rfl) (pe_kget (pe_glob (v := .ref aP) rfl mP rfl) (pe_ix ix_tup (pv 0) pe_int (fun _ _ => rfl)) ⟨rfl, rfl, rfl, rfl⟩))
    (pss_cons (ps_if (PW.pt (pw_or (pt_cmp (pc_isN (pv 1))) (pw_or1 (pt_cmpR op_ne (pe_callB call_len_seq rfl T.len PySem.boot_len (pa_cons (pv 0) pa_nil)) (pe_op op_add pe_int (pe_callB call_len_seq rfl T.len PySem.boot_len (pa_cons (pv 1) pa_nil))) (nomark _))))) pss_never pss_nil)
    (pss_one (ps_ret (pe_callB (call_all rfl) rfl T.all boot_all' (pa_cons (pe_comp (defScope sIsStep) ["value", "kinds"] ["part", "kind"] [] rfl (pi_zipT rfl T.zip (pa_cons (pe_slice sl_tup (pv 0) (po_some pe_int) po_none) (pa_cons (pv 1) pa_nil))) (own_tup (K := K) (owns_cons (own_name (i := 0) (by decide)) (owns_cons (own_name (i := 1) (by decide)) owns_nil)))
      (fun _ _ _ _ _ _ => ⟨pg_tup (n := 2) rfl (pgs_cons (pg_name (i := 0) nde_pk rfl (Or.inl rfl)) (pgs_cons (pg_name (i := 1) nde_pk rfl (Or.inl rfl)) pgs_nil)), pts_nil, pe_call GP hr rfl mPt kP bP .nil pass0 (pa_cons (pv 0) (pa_cons (pv 1) pa_nil))⟩)) pa_nil)))))), ?_⟩
  have at0 : atI (V.str kd :: ps) 0 = some (.str kd) := atI_nat (j := 0) rfl
  obtain ⟨pr, hpr, epr⟩ := kinds_mem hk
  have hr0 : ∀ H : Hp, SqT K H a (sVs r) := fun H => by
    have := Tb.tup pr hpr H
    rw [epr] at this
    exact this
  refine ⟨_, rfl, _, _, _, _, rfl, .tup ht', kit_self K "tuple", _, rfl, iteF ?_⟩
  refine ⟨_, rfl, t, _, rfl, .inr ht, rfl, _, rfl, ite2 (fun c => ?_) (fun _ => ?_)⟩
  · have := V.int.inj (of_decide_eq_true c)
    rw [List.length_cons] at this
    omega
  refine ⟨_, rfl, t, _, _, _, rfl, rfl, ht, at0, _, _, _, _, rfl, .str _, kit_self K "str", _, rfl, iteF ?_⟩
  -- kinds = PARTS.get(value[0])
  refine ⟨aP, _, rfl, Tb.dic, _, rfl, t, _, _, _, rfl, rfl, ht, at0, Sum.inr kd, rfl, ?_⟩
  rw [val_tab, hk]
  refine ⟨_, rfl, _, rfl, iteF ?_⟩
  refine ⟨_, rfl, t, _, rfl, .inr ht, _, rfl, a, _, rfl, .inr (hr0 _), _, _, rfl, rfl, rfl, _, rfl, ?_⟩
  have hlen : (V.int ((V.str kd :: ps).length : Int)) = V.int (1 + ((sVs r).length : Int)) := by rw [List.length_cons, sVs_len, hl]; congr 1; omega
  refine iteNS hlen ?_
  -- all([is_part(part, kind) for part, kind in zip(value[1:], kinds)])
  refine ⟨_, rfl, _, rfl, t, _, rfl, ht, ?_, fun p hp => ?_⟩
  · intro z
    have z1 := z.1
    rw [show HT.sIx (V.str kd :: ps).length 0 (some 1) = min 1 (V.str kd :: ps).length from HT.sIx_nat _ _ 1, List.length_cons] at z1
    omega
  rw [cutT1]
  have s1 := same_new hp (.tup ps)
  refine ⟨_, rfl, p, a, rfl, ⟨_, SqT.of upd_same⟩, ⟨_, hr0 _⟩, turns_zipT0 (K := K) (a := p) (b := a) (xs := ps) (zs := sVs r) (by rw [sVs_len]; exact hl) (fun i ys H2 => Same (upd H p (.tup ps)) H2 ∧ ys = (List.replicate i true).map V.bl) ⟨Same.refl _, rfl⟩ (fun i ys H2 _ h => ⟨SqT.of (h.1 _ _ upd_same), hr0 _⟩) ?_ ?_⟩
  · rintro i x z ys H2 Tp hx hz ⟨s2, rfl⟩ hT
    obtain ⟨k, hk', rfl⟩ := sVs_get hz
    have s3 := same_new hT (.tup [x, .str k])
    refine ⟨Tp, _, rfl, SqT.of upd_same, rfl, _, _, rfl, _, _, rfl, rfl, ?_⟩
    have hil : i < ps.length := (List.getElem?_eq_some_iff.mp hx).1
    refine ⟨_, rfl, _, rfl, x, k, rfl, hpv x (List.mem_of_getElem? hx), fun H3 s4 => ?_⟩
    rw [hg i x k hx hk']
    refine ⟨by rw [List.length_map, List.length_replicate, sizeLine_eq]; omega, s2.trans (s3.trans s4), ?_⟩
    rw [List.replicate_succ', List.map_append]
    rfl
  · rintro ys H2 ⟨s2, rfl⟩ l hl'
    refine ⟨l, _, List.replicate ps.length true, rfl, SqL.of upd_same, truL_bools _, ?_⟩
    have e : (List.replicate ps.length true).all id = true := by simp
    rw [e]
    exact q _ (s1.trans (s2.trans (same_new hl' _)))
def stepsAt (H : Hp) (ts : List Addr) (ss : List (Str × List V)) : Prop := ts.length = ss.length ∧ ∀ (i : Nat) (t : Addr) (p : Str × List V), ts[i]? = some t → ss[i]? = some p → H t = some (.tup (.str p.1 :: p.2))
theorem stepsAt.same {H H' : Hp} {ts : List Addr} {ss : List (Str × List V)} (h : stepsAt H ts ss) (s : Same H H') : stepsAt H' ts ss := ⟨h.1, fun i t p a b => s _ _ (h.2 i t p a b)⟩
def goodSteps (ks : List (Str × Addr × List Str)) (ss : List (Str × List V)) : Prop := ss.length ≤ 30 ∧ ∀ p ∈ ss, goodStep ks p.1 p.2 ∧ (∀ v ∈ p.2, PV v) ∧ p.2.length ≤ 100
def spIsBody (ks : List (Str × Addr × List Str)) : Sp := fun vs H Q _ => ∃ (l : Addr) (ts : List Addr) (ss : List (Str × List V)), vs = [.ref l] ∧ H l = some (.lst (ts.map V.ref)) ∧ stepsAt H ts ss ∧ goodSteps ks ss ∧ ∀ H', Same H H' → Q (.bl true) H'
theorem scIsBody : FnScope ["value"] ["value"] (defScope sIsBody) := ⟨rfl, rfl, rfl, by decide +kernel, rfl, by decide +kernel, by decide +kernel⟩
theorem ok_isBody {ks : List (Str × Addr × List Str)} (F : Fun K "is_body" "is_body" sIsBody f fd) (T : Txt mg) (GS : FnOk P w K mg base CX0 4 fS dS ["value"] (spStep K ks)) (kS : PySem.W.keepIn K (.ref fS) = true) (bS : Binds K dS ["value"] []) (mS : mg "is_step" = some (.ref fS)) : FnOk P w K mg base CX0 5 f fd ["value"] (spIsBody ks) := by
  refine F.ok scIsBody (fun vs H Q E h => ?_) (fun cdv A outer s H vs Q E hr h => ?_)
  · obtain ⟨l, ts, ss, rfl, _⟩ := h
    rfl
  obtain ⟨l, ts, ss, rfl, el, ⟨hts, hat⟩, ⟨hs30, hgs⟩, q⟩ := h
  refine ⟨_, pss_one (ps_ret (pe_and (pe_callB call_isinst rfl T.isi PyProof.Rows.boot_isinstance (pa_cons (pv 0) (pa_cons (pe_bltn (v := .ty "list") rfl T.list PyProof.Rows.boot_list rfl) pa_nil)))
    (pe_and (pe_cmpR op_le (pe_callB call_len_seq rfl T.len PySem.boot_len (pa_cons (pv 0) pa_nil)) pe_int (nomark _))
    (pe_one (pe_callB (call_all rfl) rfl T.all boot_all' (pa_cons (pe_comp (defScope sIsBody) ["value"] ["step"] [] rfl (pi_list (pv 0)) (own_name (i := 0) (by decide)) (fun _ _ _ _ _ _ => ⟨pg_name (i := 0) nde_st rfl (Or.inl rfl), pts_nil,
      pe_call GS hr rfl mS kS bS .nil pass0 (pa_cons (pv 0) pa_nil)⟩)) pa_nil)))))), ?_⟩
  refine ⟨_, rfl, _, _, _, _, rfl, .lst el, kit_self K "list", _, rfl, iteT ?_⟩
  refine ⟨_, rfl, l, _, rfl, .inl (SqL.of el), _, _, rfl, rfl, _, rfl, ite2 (fun _ => ?_) (fun c => absurd (decide_eq_true (by rw [List.length_map]; omega)) c)⟩
  refine ⟨_, rfl, l, rfl, ⟨_, SqL.of el⟩, turns_list0 (K := K) (a := l) (xs := ts.map V.ref) (fun i ys H2 => Same H H2 ∧ ys = (List.replicate i true).map V.bl) ⟨Same.refl _, rfl⟩ (fun i ys H2 _ h => SqL.of (h.1 _ _ el)) ?_ ?_⟩
  · rintro i y ys H2 hi ⟨s2, rfl⟩
    obtain ⟨t, ht, rfl⟩ := refs_get hi
    have hil : i < ss.length := by rw [← hts]; exact (List.getElem?_eq_some_iff.mp ht).1
    have hp := List.getElem?_eq_getElem hil
    have et := s2 _ _ (hat i t _ ht hp)
    obtain ⟨g1, g2, g3⟩ := hgs _ (List.getElem_mem hil)
    refine ⟨_, rfl, t, _, _, rfl, SqT.of et, et, g1, g2, g3, fun H3 s3 => ⟨by rw [List.length_map, List.length_replicate, sizeLine_eq]; omega, s2.trans s3, ?_⟩⟩
    rw [List.replicate_succ', List.map_append]
    rfl
  · rintro ys H2 ⟨s2, rfl⟩ p hp
    refine ⟨p, _, List.replicate (ts.map V.ref).length true, rfl, SqL.of upd_same, truL_bools _, ?_⟩
    have e : (List.replicate (ts.map V.ref).length true).all id = true := by simp
    rw [e]
    exact q _ (s2.trans (same_new hp _))
end
end Bk
namespace Rk
open PySem
end Rk
namespace L2
open PySem PySem.Spec PyProof.Rows Rk
section
variable {X : Cx}
end
structure PSw (X : Cx) (st : Stmt) (t : TS) : Prop where
  ok : PS X st t
theorem wt_cons {X : Cx} {st : Stmt} {rest : List Stmt} {t : TS} {G : TS → Prop} (h1 : PSw X st t) (h2 : ∃ u, PSs X rest u ∧ G (tSeq t u)) : ∃ t', PSs X (st :: rest) t' ∧ G t' := let ⟨u, a, b⟩ := h2; ⟨_, pss_cons h1.ok a, b⟩
end L2
namespace Bk
open PySem L2 Mg Nm Rk
theorem de_str {a b : Str} (h : decide (V.str a = V.str b) = true) : a = b := V.str.inj (of_decide_eq_true h)
theorem dn_str {a b : Str} (h : ¬ decide (V.str a = V.str b) = true) : ¬ a = b := fun e => h (by rw [e]; exact decide_eq_true rfl)
section
variable {P : Program} {w : World} {K : PySem.W.Frag} {mg : Str → Option Value} {base : Heap} {f fC : Addr} {fd dC : FuncData}
end
end Bk
namespace L2
open PySem PySem.Spec PyProof.Rows PySem.W
structure XCls (K : PySem.W.Frag) (C : Addr) : Prop where
  cs : (clsIn K C).isSome = true
  ga : findIn K (.ref C) "__getattribute__" = some (some (.builtin "BaseException.__getattribute__"))
  gn : findIn K (.ref C) "__getattr__" = some none
  be : mroIn K C (.type "BaseException") = some true
  ca : findIn K (.ref C) "__class__" = some (some (.builtin "object.__class__"))
  sp : specialIn K (.builtin "object.__class__") "__get__" = some (some (.builtin "getset_descriptor.__get__"))
  tk : takesIn K (.builtin "object.__class__") = some true
  ob : mroIn K C (.type "object") = some true
section
variable {prog : Program} {w : World} {A : Around} {E : Value → Shared → Prop} {s : Shared} {K : PySem.W.Frag} {C x : Addr} {ox : Obj} {odo : Option Obj}
theorem exc_find (F : XCls K C) : findObj K C odo "__class__" = some (.bind (.builtin "getset_descriptor.__get__") (.builtin "object.__class__")) := by
  obtain ⟨cd, hc⟩ := Option.isSome_iff_exists.mp F.cs
  unfold findObj
  rw [hc, Option.bind_some, F.ca, Option.bind_some]
  simp [F.sp, F.tk]
theorem exc_class {Q : Option Value → Shared → Prop} (X : K.In s.heap) (F : XCls K C) (I : InstAt s.heap x ox C odo) (h : Q (some (.ref C)) { s with toks := s.toks + 1 }) : wpAny (model prog w) A (getAttr? (.ref x) "__class__") Q E s := by
  obtain ⟨hp, g, d, t, os⟩ := s
  have L0 := I.type (M := model prog w)
  have L1 := looks_findIn (M := model prog w) X F.ga
  have L2 := looks_findIn (M := model prog w) X F.gn
  have FB := PySem.F.attr_ValueError
  have f3 := FB.ga.bind (.ref x)
  have L4 := looks_find (M := model prog w) X I (exc_find F)
  have sb : Looks (model prog w) hp (isInstance (.ref x) (.type "BaseException")) true := L0.andThen (looks_mroIn X F.be)
  have hx0 : ∀ expr : Bool, (expr && onTheHeap (Value.builtin "BaseException.__getattribute__")) = false := fun expr => by cases expr <;> rfl
  have hx2 : (Value.builtin "BaseException.__getattribute__" == Value.builtin "object.__getattribute__") = false := by decide +kernel
  have hx1 : (onTheHeap (Value.ref C) && Value.builtin "BaseException.__getattribute__" == Value.builtin "object.__getattribute__") = false := by rw [hx2]; rfl
  unfold getAttr? getAttrBy? getAttrBy
  refine wpAny_bind (wpAny_mkText (wpAny_bind (wpAny_attempt (wpAny_holding (wpAny_bind (L0.at (wpAny_bind (L1.at ?_))))))))
  dsimp only
  rw [hx1, if_neg (by decide)]
  unfold getAttrByItsOwn
  refine wpAny_bind (L2.at (wpAny_bind (wpAny_attempt (wpAny_holding ?_))))
  unfold callGetattribute
  rw [hx0, if_neg (by decide)]
  unfold boundAndCalled
  rw [f3]
  refine wpAny_bind (wpAny_pure (wpAny_call ?_))
  refine codeAny_call_builtin FB.ga.plain PySem.F.entry_bexc_ga (@check_slot (model prog w) _ _ ⟨hp, g, d, t + 1, os⟩ "BaseException.__getattribute__" "BaseException" "__getattribute__" (.ref x) [.str "__class__" t] [] _ (by decide +kernel) (by decide +kernel) sb (PySem.F.args_bexc_ga _ _) ?_)
  refine wpAny_bind (wpAny_pure (wpAny_bind (wpAny_pure (wpAny_bind (L0.at (wpAny_bind (L4.at ?_)))))))
  show wpAny _ _ (holding [Value.builtin "object.__class__"] (call (.builtin "getset_descriptor.__get__") [.builtin "object.__class__", .ref x, .ref C]) >>= ret) _ _ _
  refine wpAny_bind (wpAny_holding (wpAny_call (class_get (s := ⟨hp, g, d, t + 1, os⟩) (ox := ox) (od := odo) X I F.ob ?_)))
  refine wpAny_pure ?_
  show wpAny _ _ (handedOut (.ref C)) _ _ _
  rw [handedOut_of rfl]
  exact wpAny_pure (wpAny_pure h)
theorem exc_cls {cd : ClassData} (hc : clsIn K C = some cd) : ∃ o, K.lookup C = some o ∧ ∃ z, o.data = .cls z := by
  unfold clsIn at hc
  split at hc
  · rename_i c' d' cd' sl' ho
    exact ⟨_, ho, _, rfl⟩
  · cases hc
theorem kitx_exc (F : XCls K C) : KitX K (.ref x) (.ref C) (fun h => ∃ oe odo, InstAt h x oe C odo) where
  ty := fun _ _ _ ⟨_, _, I⟩ => I.type
  it := fun _ _ X _ => by
    obtain ⟨cd, hc⟩ := Option.isSome_iff_exists.mp F.cs
    obtain ⟨o, ho, z, hz⟩ := exc_cls hc
    intro A' Q' E' s' k q
    unfold isType loadHead
    refine wpAny_bind (wpAny_loadPart (k _ _ (X _ _ ho)) (wpAny_pure ?_))
    rw [hz]
    exact q
  ne := fun h tp dd its n sl X htp => by
    obtain ⟨cd, hc⟩ := Option.isSome_iff_exists.mp F.cs
    obtain ⟨o, ho, z, hz⟩ := exc_cls hc
    refine Bool.eq_false_iff.mpr fun q => ?_
    have e : C = tp := Value.ref.inj (beq_iff_eq.mp q)
    subst e
    have y := (X _ _ ho).symm.trans htp
    cases y
    cases hz
  ca := fun X ⟨_, _, I⟩ k => exc_class X F I k
end
def rIsiB (K : PySem.W.Frag) : List V → Hp → VK → Prop := fun xs H Q => ∃ x C dx c cv b, xs = [.ref x, cv] ∧ clsV c = some cv ∧ H x = some (ExO x C dx) ∧ (dx = none ∨ ∃ D fs, dx = some D ∧ H D = some (.xd fs)) ∧ XCls K C ∧ PySem.W.kitOne K (.ref C) c = some b ∧ Q (.bl b) H
theorem call_isiB {X : Cx} {K : PySem.W.Frag} (hK : X.K = K := by rfl) : CallR X (.builtin "isinstance") (rIsiB K) := by
  subst hK
  intro pins s σ H xs us Q I r h
  obtain ⟨x, C, dx, c, cv, b, rfl, hc, hx, hd, F, e, q⟩ := h
  obtain ⟨u, w', rfl, ru, rw'⟩ := vals2 r
  cases (show u = Value.ref x from ru)
  have hw : w' = c := by
    cases c <;> try cases hc
    · exact rw'
    · exact rw'
  subst hw
  obtain ⟨oe, vs, g, gc, gd, gf⟩ := exO_at I.hok hx
  have J : ∃ oe odo, InstAt s.heap x oe C odo := by
    rcases hd with rfl | ⟨D, fs, rfl, ed⟩
    · exact ⟨oe, none, ⟨g, gc, by unfold notCls; rw [gf], by rw [gd]; exact True.intro⟩⟩
    · obtain ⟨mA, n, r⟩ := (show ObjOk X.prog X.w H s.heap D (.xd fs) from I.hok D _ ed)
      obtain ⟨od, ho, hl⟩ := lookIn_ns n
      exact ⟨oe, some od, ⟨g, gc, by unfold notCls; rw [gf], by rw [gd]; exact ho⟩⟩
  exact PySem.W.kia_one (kitx_exc F) I.kIn J e (by intro z; cases z) fun tk => ⟨.bl b, H, I.tok _, rfl, q⟩
end L2
namespace L2
open PySem PySem.Spec PyProof.Rows
structure RoomN (k : Nat) (A : Around) : Prop where
  dp : A.depth + 3 * k + 5 < recursionLimit
  un : A.units + 16 * k + 200 < cLine
theorem Room.caught {k : Nat} {A : Around} (r : Room k A) (v : Option Value) : RoomN k (A.mark v) := ⟨r.dp, r.un⟩
theorem RoomN.calmed {k : Nat} {A : Around} (r : RoomN k A) : Room k { A with handled := none } := ⟨rfl, r.dp, r.un⟩
abbrev Cx.stirred (X : Cx) : Cx := { X with calm := false }
structure FnOkN (P : Program) (w : World) (K : PySem.W.Frag) (mg : Str → Option Value) (base : Heap) (k : Nat) (f : Addr) (fd : FuncData) (ps : List Str) (sp : Sp) : Prop where
  len : ∀ vs H Q E, sp vs H Q E → vs.length = ps.length
  run : ∀ (A : Around) (outer : List Env) (s : Shared) (H : Hp) (args : Args) (us : List Value) (vs : List V) (Q : VK) (E : XK), RoomN k A → Env0 P w K mg base A outer s H → BindsTo s fd args (ps.zip us) → Vals vs us → sp vs H Q E →
    codeAny (model P w) A (.call (.ref f) args) (CR CX0 outer P w H s Q E) s
section
variable {X : Cx} {k : Nat} {f : Addr} {fd : FuncData} {ps : List Str} {sp : Sp} {dvs : List V} {ds : List Value} {E : XK} {x : Str} {p pos : Pos} {e : Expr} {es : List Expr} {t : TA}
theorem pe_callN (F : FnOkN X.prog X.w X.K X.mg X.base k f fd ps sp) (hr : RoomN k X.A) (hg : Gl X x) (hm : X.mg x = some (.ref f)) (hk : PySem.W.keepIn X.K (.ref f) = true) (hb : Binds X.K fd ps ds) (hd : Vals dvs ds)
    (ha : PA X (e :: es) t) (hdb : (x == ("__debug__" : Str)) = false := by decide) (he : starEach (e :: es) X.env = (false, eval e X.env) :: starEach es X.env := by rfl) (hpl : (backTo pos (starEach es X.env)).any (·.1) = false := by rfl) :
    PE X (.Call (.Name x p) (e :: es) [] pos) (tCall sp dvs E0 t) := by
  intro pins s σ H Q I h
  refine wpAny_Call_Name_kw (ld_glob I hg hm ?_ hdb)
  refine PySem.W.callWith_K (h₀ := X.base) I.ok.mod.kin hk (thn (ha pos pins s σ H _ I h) fun us s1 ⟨vs, H1, I1, r, q⟩ => ⟨I1.kIn, ?_⟩) he hpl
  have r2 : Vals (vs ++ dvs) (us ++ ds) := r.append hd
  have hl : (us ++ ds).length = ps.length := by rw [← r2.length]; exact F.len _ _ _ _ q
  refine wpAny_call (codeAny_mono (F.run X.A X.stack s1 H1 ⟨us, []⟩ (us ++ ds) (vs ++ dvs) Q E0 hr I1.env0 (hb s1 us I1.kIn hl) r2 q) fun r s' hq => ?_)
  cases r with
  | error e => exact False.elim hq
  | ok fl =>
    cases fl with
    | ret u => exact I1.after hq
    | next => exact False.elim hq
    | brk => exact False.elim hq
    | cont => exact False.elim hq
end
section
variable {P : Program} {w : World} {K : PySem.W.Frag} {mg : Str → Option Value} {base : Heap}
theorem Fun.okN {x qual : Str} {st : Stmt} {f : Addr} {fd : FuncData} {N ps : List Str} {k : Nat} {sp : Sp} (F : Fun K x qual st f fd) (S : FnScope N ps (defScope st)) (len : ∀ vs H Q E, sp vs H Q E → vs.length = ps.length)
    (hbody : ∀ (cdv : Value) (A : Around) (outer : List Env) (s : Shared) (H : Hp) (vs : List V) (Q : VK) (E : XK), RoomN k (A.deeper (envOfC qual (defScope st) s.heap.objs.size f cdv)) → sp vs H Q E →
      ∃ t, PSs (cxOf CX0 P w K mg base N qual (defScope st) f cdv A outer s H E).stirred.nox (defBody st) t ∧ t { nx := fun _ H' => Q .non H', rt := Q } (start N vs) H) : FnOkN P w K mg base (k + 1) f fd ps sp := by
  obtain ⟨oc, od, kV, doc, pm, an, cdv, ct, osl, rfl, lk, hcd⟩ := F.ex
  refine ⟨len, fun A outer s H args us vs Q E hr e0 hb r hsp => ?_⟩
  have hl := len _ _ _ _ hsp
  have KX : K.In s.heap := e0.mod.kin.keeps fun b o e => (e0.bs b o e).1
  have lim : s.heap.NoLimit := e0.mod.nolimit.keeps fun b o e => (e0.bs b o e).1
  have hkind : ∀ y ∈ ps.zip us, (defScope st).names.lookup y.1 = some .local ∨ ((defScope st).names.lookup y.1 = some .cell ∧ ((cellsFrom (s.heap.objs.size + 1) (defScope st).names []).lookup y.1).isSome = true) := fun ⟨n, v⟩ hy => by
    rcases S.par n (List.of_mem_zip hy).1 with q | q
    · exact .inl q
    · exact .inr ⟨q, PySem.W.cellsFrom_some _ _ _ (.inl q)⟩
  refine codeAny_call_function hr.calmed.depth (KX _ _ lk) rfl S.co S.gen rfl (PySem.W.codeRec_of KX hcd) (hb _ _ _ _ ?_)
  refine wpAny_newFunctionEnv_cells S.kind hkind fun env he s1 x => ?_
  subst he
  refine ⟨lim.keeps x.toInCall.keep, codeAny_func ?_⟩
  obtain ⟨t, ht, hq⟩ := hbody cdv A outer s H vs Q E ⟨(hr.calmed.deeper (envOfC qual (defScope st) s.heap.objs.size f cdv)).dp, (hr.calmed.deeper (envOfC qual (defScope st) s.heap.objs.size f cdv)).un⟩ hsp
  have J := inv_start (CX := CX0) (E := E) (A := { A with handled := none }) S rfl ⟨e0.frames, e0.mod, e0.bs, e0.bsz, e0.funs, e0.frf, e0.hok, e0.bare⟩ hl r x
  have I : Inv (cxOf CX0 P w K mg base N qual (defScope st) f cdv A outer s H E).stirred [] (start N vs) H s1 :=
    ⟨⟨J.ok.mod, J.ok.kind, J.ok.glob, J.ok.blt, J.ok.above, J.ok.inj, J.ok.has, J.ok.cab, fun z => absurd z Bool.false_ne_true, J.ok.frames, J.ok.stk, J.ok.exf, J.ok.bs, J.ok.bsz, J.ok.noex, J.ok.exfs, J.ok.funs, J.ok.frf⟩, J.os, J.bare, J.base, J.loc, J.cell, J.free, J.freeC, J.pin, J.hok, J.len⟩
  refine wpAny_mono (ht.nox [] s1 (start N vs) H _ I hq) (fun fl s' hs => ?_) fun e s' hs => hs
  have fin : ∀ {σ' : St} {H' : Hp} {v : V} {u : Value}, Inv (cxOf CX0 P w K mg base N qual (defScope st) f cdv A outer s H E).stirred [] σ' H' s' → RelV v u → Q v H' → CE outer P w H s Q u s' :=
    fun {σ' H' v u} J rv q => ⟨v, H', J.os, J.bare, J.base, J.hok, rv, q⟩
  cases fl with
  | ret u =>
    obtain ⟨v, σ', H', J, rv, q⟩ := hs
    exact fin J rv q
  | next =>
    obtain ⟨σ', H', J, q⟩ := hs
    exact fin (v := V.non) (u := Value.none) J rfl q
  | brk =>
    obtain ⟨_, _, _, q⟩ := hs
    exact False.elim q
  | cont =>
    obtain ⟨_, _, _, q⟩ := hs
    exact False.elim q
end
section
variable {X : Cx} {k : Nat} {f C : Addr} {fd : FuncData} {ps : List Str} {sp : Sp} {dvs : List V} {ds : List Value} {m : Str} {pos apos : Pos} {e o : Expr} {es : List Expr} {ta : TE} {t : TA}
end
end L2
namespace Bk
open PySem L2 Mg Nm Rk
def tF (k : Int) (sa : Addr) : List (Str × V) := [("left", .int k), ("said", .ref sa)]
theorem tF_put (k : Int) (sa : Addr) : putF "said" (.ref sa) (putF "left" (.int k) []) = tF k sa := by
  show (if ("left" : Str) = "said" then _ else (("left" : Str), V.int k) :: [(("said" : Str), V.ref sa)]) = _
  rw [if_neg (by decide +kernel)]
  rfl
structure ClsT (K : PySem.W.Frag) (mg : Str → Option Value) (CT : Addr) : Prop where
  cl : Cls K CT
  nLeft : NoAttr K CT "left"
  nSaid : NoAttr K CT "said"
  mgT : mg "Tally" = some (.ref CT)
section
variable (CT CS : Addr)
def spInitT : Sp := fun vs H Q _ => ∃ (q dx : Addr) (k : Int), vs = [.ref q, .int k] ∧ H q = some (.ins CT dx []) ∧ ∀ (sa : Addr) (H' : Hp), H sa = none → H' q = some (.ins CT dx (tF k sa)) → H' sa = some (.lst []) → (∀ c o, H c = some o → c ≠ q → H' c = some o) → Q .non H'
end
section
variable {P : Program} {w : World} {K : PySem.W.Frag} {mg : Str → Option Value} {base : Heap} {f CT CU CS : Addr} {fd : FuncData} {bU bS : List Value}
theorem scInitT : FnScope ["self", "left"] ["self", "left"] (defScope sInitT) := ⟨rfl, rfl, rfl, by decide +kernel, rfl, by decide +kernel, by decide +kernel⟩
theorem ok_initT (F : Fun K "__init__" "Tally.__init__" sInitT f fd) (T : ClsT K mg CT) : FnOk P w K mg base CX0 1 f fd ["self", "left"] (spInitT CT) := by
  refine F.ok scInitT (fun vs H Q E h => ?_) (fun cdv A outer s H vs Q E hr h => ?_)
  · obtain ⟨q, dx, k, rfl, _⟩ := h
    rfl
  obtain ⟨q, dx, k, rfl, hq, g⟩ := h
  refine ⟨_, pss_cons (ps_fld (pv 0) (pv 1) rfl) (pss_one (ps_fld (pv 0) (pe_lst pa_nil) rfl)), ?_⟩
  refine ⟨_, rfl, _, rfl, q, CT, dx, [], rfl, hq, T.cl, T.nLeft, (by show 0 < 1000; decide), ?_⟩
  refine ⟨by show 0 ≤ sizeLine; decide, fun sa hsa => ?_⟩
  have nq : q ≠ sa := fun z => by rw [← z, upd_same] at hsa; cases hsa
  have hsa' : H sa = none := by rw [upd_ne (Ne.symm nq)] at hsa; exact hsa
  refine ⟨_, rfl, q, CT, dx, _, rfl, (by rw [upd_ne nq]; exact upd_same), T.cl, T.nSaid, Nat.lt_of_le_of_lt (length_putF _ _ _) (by show 1 < 1000; decide), ?_⟩
  refine g sa _ hsa' (by rw [upd_same, tF_put]) (by rw [upd_ne (Ne.symm nq), upd_same]) fun c o e hc => ?_
  rw [upd_ne hc, upd_ne (ne_of_none e hsa'), upd_ne hc]
  exact e
end
end Bk
namespace Bk
open PySem L2 Mg Nm
def kvT (W : List (Str × Addr)) : List (Key × V) := W.map fun p => ((Sum.inr p.1 : Key), V.ref p.2)
theorem kvT_len (W : List (Str × Addr)) : (kvT W).length = W.length := List.length_map _
theorem kvT_keys (W : List (Str × Addr)) : ((kvT W).map fun kv => kV kv.1) = sVs (W.map (·.1)) := by
  unfold kvT sVs
  rw [List.map_map, List.map_map]
  rfl
def addW (ks : List Str) (x : Str) : List Str := if x ∈ ks then ks else ks ++ [x]
def kvK (ks : List Str) : List (Key × V) := ks.map fun x => ((Sum.inr x : Key), V.bl true)
theorem kvK_val (ks : List Str) (x : Str) : valV (kvK ks) (Sum.inr x : Key) = if x ∈ ks then some (.bl true) else none := by
  unfold kvK
  induction ks with
  | nil => rfl
  | cons e L ih =>
    rw [List.map_cons]
    by_cases h : e = x
    · rw [valV_pos (show ((Sum.inr e : Key), V.bl true).1 = Sum.inr x by rw [h]), if_pos (by rw [h]; exact List.mem_cons_self)]
    · rw [valV_neg (fun z => h (Sum.inr.inj z)), ih]
      by_cases h2 : x ∈ L
      · rw [if_pos h2, if_pos (List.mem_cons_of_mem _ h2)]
      · rw [if_neg h2, if_neg (fun z => (List.mem_cons.mp z).elim (fun q => h q.symm) h2)]
theorem kvK_put (ks : List Str) (x : Str) : putK (kvK ks) (Sum.inr x : Key) (.bl true) = kvK (addW ks x) := by
  unfold addW
  by_cases h : x ∈ ks
  · rw [if_pos h]
    unfold putK
    rw [valV_any, kvK_val, if_pos h, if_pos (show (some (V.bl true)).isSome = true from rfl)]
    unfold kvK
    rw [List.map_map]
    refine List.map_congr_left fun y _ => ?_
    show (if (Sum.inr y : Key) = Sum.inr x then ((Sum.inr y : Key), V.bl true) else ((Sum.inr y : Key), V.bl true)) = _
    split <;> rfl
  · rw [if_neg h, putK_new _ (by rw [kvK_val, if_neg h])]
    unfold kvK
    rw [List.map_append]
    rfl
theorem kvK_keys (ks : List Str) : ((kvK ks).map fun kv => kV kv.1) = sVs ks := by
  unfold kvK sVs
  rw [List.map_map]
  rfl
theorem kvK_len (ks : List Str) : (kvK ks).length = ks.length := List.length_map _
theorem addW_len (ks : List Str) (x : Str) : (addW ks x).length ≤ ks.length + 1 := by
  unfold addW
  split
  · omega
  · rw [List.length_append, List.length_singleton]; exact Nat.le_refl _
theorem addAll_len (ws : List Str) : ∀ ks : List Str, (ws.foldl addW ks).length ≤ ks.length + ws.length := by
  induction ws with
  | nil => intro ks; exact Nat.le_refl _
  | cons w ws ih =>
    intro ks
    rw [List.foldl_cons, List.length_cons]
    have := ih (addW ks w)
    have := addW_len ks w
    omega
def wdOf (L : List Ent) (y : Str) : List Str := match fnd L y with
  | some e => e.bd.filterMap fun kv => match kv.1 with | .inr x => some x | .inl _ => none
  | none => []
theorem wd_kvT (W : List (Str × Addr)) : ((kvT W).filterMap fun kv => match kv.1 with | .inr x => some x | .inl _ => none) = W.map (·.1) := by
  unfold kvT
  induction W with
  | nil => rfl
  | cons p W ih =>
    rw [List.map_cons, List.map_cons]
    exact congrArg (p.1 :: ·) ih
theorem wdOf_of {L : List Ent} {y : Str} {e : Ent} {W : List (Str × Addr)} (h : fnd L y = some e) (hb : e.bd = kvT W) : wdOf L y = W.map (·.1) := by
  unfold wdOf
  rw [h]
  show (e.bd.filterMap fun kv => match kv.1 with | .inr x => some x | .inl _ => none) = _
  rw [hb, wd_kvT]
def wordsOf (L : List Ent) (od : List Str) : List Str := (od.map (wdOf L)).foldl (fun ks ws => ws.foldl addW ks) []
def TxtW (L : List Ent) : Prop := ∀ e ∈ L, ∃ W : List (Str × Addr), e.bd = kvT W ∧ W.length ≤ 100
def spOwn (CB CH : Addr) : Sp := fun vs H Q _ => ∃ (p d : Addr) (L : List Ent) (x : Str) (e : Ent) (W : List (Str × Addr)), vs = [.ref p, .str x] ∧ BookAt CB CH H p d L ∧ fnd L x = some e ∧ e.bd = kvT W ∧ ∀ l, H l = none → Q (.ref l) (upd H l (.lst (sVs (W.map (·.1)))))
def spWords (CB CH : Addr) : Sp := fun vs H Q _ => ∃ (p d : Addr) (L : List Ent) (x : Str) (e : Ent), vs = [.ref p, .str x] ∧ BookAt CB CH H p d L ∧ fnd L x = some e ∧ TxtW L ∧ (∀ y ∈ e.od, ∃ a, fnd L y = some a) ∧ e.od.length ≤ 100 ∧ ∀ (l : Addr) (H' : Hp), H l = none → Same H H' → H' l = some (.lst (sVs (wordsOf L e.od))) → Q (.ref l) H'
def spTeach (CB CH : Addr) (ks : List (Str × Addr × List Str)) : Sp := fun vs H Q _ => ∃ (p d l : Addr) (L : List Ent) (x y : Str) (e : Ent) (ts : List Addr) (ss : List (Str × List V)), vs = [.ref p, .str x, .str y, .ref l] ∧ BookAt CB CH H p d L ∧ fnd L x = some e ∧ okNm y = true ∧ y.length ≤ sizeLine ∧ H l = some (.lst (ts.map V.ref)) ∧ stepsAt H ts ss ∧ goodSteps ks ss ∧ e.bd.length ≤ 1000 ∧
  ∀ (la : Addr) (H' : Hp), H la = none → H' la = some (.lst (ts.map V.ref)) → H' e.ba = some (.dK (putK e.bd (Sum.inr y : Key) (.ref la))) → (∀ b o, H b = some o → b ≠ e.ba → H' b = some o) → Q .non H'
def spBody (CB CH : Addr) : Sp := fun vs H Q _ => ∃ (p d : Addr) (L : List Ent) (x y : Str) (e : Ent), vs = [.ref p, .str x, .str y] ∧ BookAt CB CH H p d L ∧ fnd L x = some e ∧
  ((valV e.bd (Sum.inr y : Key) = none ∧ Q .non H) ∨ ∃ (la : Addr) (xs : List V), valV e.bd (Sum.inr y : Key) = some (.ref la) ∧ H la = some (.lst xs) ∧ ∀ l, H l = none → Q (.ref l) (upd H l (.lst xs)))
section
variable {P : Program} {w : World} {K : PySem.W.Frag} {mg : Str → Option Value} {base : Heap} {f fH fN fB CB CH : Addr} {fd dH dN dB : FuncData} {ks : List (Str × Addr × List Str)}
theorem scBody : FnScope ["self", "name", "word", "bodies"] ["self", "name", "word"] (defScope sBody) := ⟨rfl, rfl, rfl, by decide +kernel, rfl, by decide +kernel, by decide +kernel⟩
theorem ok_body (F : Fun K "body" "Book.body" sBody f fd) (T : ClsB K mg CB CH) (Tx : Txt mg) (GH : FnOk P w K mg base CX0 1 fH dH ["self", "name"] (spHouse CB CH)) (bH : Binds K dH ["self", "name"] []) (mH : Meth K CB "house" fH) : FnOk P w K mg base CX0 2 f fd ["self", "name", "word"] (spBody CB CH) := by
  refine F.ok scBody (fun vs H Q E h => ?_) (fun cdv A outer s H vs Q E hr h => ?_)
  · obtain ⟨p, d, L, x, y, e, rfl, _⟩ := h
    rfl
  obtain ⟨p, d, L, x, y, e, rfl, B, he, q⟩ := h
  obtain ⟨dx, hp⟩ := B.ob
  have hu := hu_of hr
  have E := B.en e (fnd_mem he).1
  refine ⟨_, pss_cons (ps_set (i := 3) scBody.nd rfl (Or.inl rfl) (pe_fld (pe_meth (pv 0) T.clB mH GH hr bH .nil pass0 (pa_cons (pv 1) pa_nil)) rfl))
    (pss_cons (ps_if (pt_cmp (pc_dnotin hu (pv 2) (pv 3))) (pss_one (ps_ret pe_non)) pss_nil)
    (pss_one (ps_ret (pe_callTy call_list_of rfl Tx.list PyProof.Rows.boot_list (pa_cons (pe_dget hu (pv 3) (pv 2) (fun _ _ => rfl)) pa_nil))))), ?_⟩
  refine ⟨_, rfl, p, dx, _, rfl, hp, bF_no d (by decide +kernel), _, rfl, p, d, L, x, e, rfl, B, he, e.at_, CH, e.dx, _, _, rfl, E.ob, T.clH, T.nBd, hF_bd _ _ _, ?_⟩
  refine ⟨_, rfl, _, rfl, e.ba, _, rfl, DGet.k (k := Sum.inr y) E.bd, _, rfl, ?_⟩
  rcases q with ⟨hv, q⟩ | ⟨la, xs, hv, hla, q⟩
  · rw [hv]
    exact iteT q
  · rw [hv]
    refine iteF ?_
    have g := DGet.k (k := (Sum.inr y : Key)) E.bd
    rw [hv] at g
    exact ⟨_, rfl, _, rfl, e.ba, _, rfl, g, la, _, rfl, .inl (SqL.of hla), q⟩
theorem scTeach : FnScope ["self", "name", "word", "body", "house"] ["self", "name", "word", "body"] (defScope sTeach) := ⟨rfl, rfl, rfl, by decide +kernel, rfl, by decide +kernel, by decide +kernel⟩
theorem ok_teach (F : Fun K "teach" "Book.teach" sTeach f fd) (T : ClsB K mg CB CH) (Tx : Txt mg) (GH : FnOk P w K mg base CX0 1 fH dH ["self", "name"] (spHouse CB CH)) (bH : Binds K dH ["self", "name"] []) (mH : Meth K CB "house" fH)
    (GN : FnOk P w K mg base CX0 1 fN dN ["value"] spIsName) (kN : PySem.W.keepIn K (.ref fN) = true) (bN : Binds K dN ["value"] []) (mN : mg "is_name" = some (.ref fN))
    (GB : FnOk P w K mg base CX0 5 fB dB ["value"] (spIsBody ks)) (kB : PySem.W.keepIn K (.ref fB) = true) (bB : Binds K dB ["value"] []) (mB : mg "is_body" = some (.ref fB)) : FnOk P w K mg base CX0 6 f fd ["self", "name", "word", "body"] (spTeach CB CH ks) := by
  refine F.ok scTeach (fun vs H Q E h => ?_) (fun cdv A outer s H vs Q E hr h => ?_)
  · obtain ⟨p, d, l, L, x, y, e, ts, ss, rfl, _⟩ := h
    rfl
  obtain ⟨p, d, l, L, x, y, e, ts, ss, rfl, B, he, hy, hyl, el, hst, hgd, hbl, q⟩ := h
  obtain ⟨dx, hp⟩ := B.ob
  have hu := hu_of hr
  have hr1 := hr.mono (j := 1) (by decide)
  have E := B.en e (fnd_mem he).1
  refine ⟨_, pss_cons (ps_set (i := 4) scTeach.nd rfl (Or.inl rfl) (pe_meth (pv 0) T.clB mH GH hr1 bH .nil pass0 (pa_cons (pv 1) pa_nil)))
    (pss_cons (ps_if (pt_not (pt_val (pe_call GN hr1 rfl mN kN bN .nil pass0 (pa_cons (pv 2) pa_nil)))) pss_never pss_nil)
    (pss_cons (ps_if (pt_not (pt_val (pe_call GB hr rfl mB kB bB .nil pass0 (pa_cons (pv 3) pa_nil)))) pss_never pss_nil)
    (pss_one (ps_dput hu (pe_fld (pv 4) rfl) (pv 2) (pe_callTy call_list_of rfl Tx.list PyProof.Rows.boot_list (pa_cons (pv 3) pa_nil)) rfl)))), ?_⟩
  refine ⟨_, rfl, p, dx, _, rfl, hp, bF_no d (by decide +kernel), _, rfl, p, d, L, x, e, rfl, B, he, ?_⟩
  refine ⟨_, rfl, .str y, rfl, .inr ⟨y, rfl, hyl⟩, fun H1 s1 => ?_⟩
  rw [show nmV (.str y) = true from hy]
  refine ⟨_, rfl, iteF ?_⟩
  refine ⟨_, rfl, l, ts, ss, rfl, s1 _ _ el, hst.same s1, hgd, fun H2 s2 => ⟨_, rfl, iteF ?_⟩⟩
  have s3 := s1.trans s2
  refine ⟨_, rfl, l, _, rfl, .inl (SqL.of (s3 _ _ el)), fun la hla => ?_⟩
  have s4 := same_new hla (.lst (ts.map V.ref))
  have s5 := s3.trans s4
  refine ⟨_, rfl, e.at_, CH, e.dx, _, _, rfl, s5 _ _ E.ob, T.clH, T.nBd, hF_bd _ _ _, _, rfl, e.ba, _, rfl, DPut.k (k := (Sum.inr y : Key)) (s5 _ _ E.bd) (by rw [sizeLine_eq]; omega), ?_⟩
  have nlb : la ≠ e.ba := Ne.symm (ne_of_none (s3 _ _ E.bd) hla)
  exact q la _ (s3.free hla) (by rw [upd_ne nlb]; exact upd_same) upd_same fun b o hb hne => by rw [upd_ne hne]; exact s5 _ _ hb
end
end Bk
namespace Bk
open PySem L2 Mg Nm Rk
def aF (p ra tq : Addr) : List (Str × V) := [("book", .ref p), ("row", .ref ra), ("tally", .ref tq)]
theorem aF_book (p ra tq : Addr) : (aF p ra tq).lookup ("book" : Str) = some (.ref p) := by
  unfold aF
  rw [List.lookup_cons, beq_self_eq_true]
theorem aF_row (p ra tq : Addr) : (aF p ra tq).lookup ("row" : Str) = some (.ref ra) := by
  unfold aF
  rw [List.lookup_cons, show (("row" : Str) == "book") = false by decide +kernel, List.lookup_cons, beq_self_eq_true]
theorem aF_no {p ra tq : Addr} {m : Str} (h : ∀ x ∈ (["book", "row", "tally"] : List Str), m ≠ x) : (aF p ra tq).lookup m = none := by
  unfold aF
  rw [List.lookup_cons, beq_false_of_ne (h _ (by simp)), List.lookup_cons, beq_false_of_ne (h _ (by simp)), List.lookup_cons, beq_false_of_ne (h _ (by simp))]
  rfl
theorem aF_put (p ra tq : Addr) : putF "tally" (.ref tq) (putF "row" (.ref ra) (putF "book" (.ref p) [])) = aF p ra tq := by
  have e1 : putF "row" (.ref ra) (putF "book" (.ref p) []) = [(("book" : Str), V.ref p), ("row", .ref ra)] := by
    show (if ("book" : Str) = "row" then _ else (("book" : Str), V.ref p) :: [(("row" : Str), V.ref ra)]) = _
    rw [if_neg (by decide +kernel)]
  rw [e1]
  show (if ("book" : Str) = "tally" then _ else (("book" : Str), V.ref p) :: (if ("row" : Str) = "tally" then _ else (("row" : Str), V.ref ra) :: [(("tally" : Str), V.ref tq)])) = _
  rw [if_neg (by decide +kernel), if_neg (by decide +kernel)]
  rfl
structure ClsA (K : PySem.W.Frag) (mg : Str → Option Value) (CA : Addr) : Prop where
  cl : Cls K CA
  nBook : NoAttr K CA "book"
  nRow : NoAttr K CA "row"
  nTally : NoAttr K CA "tally"
  mgA : mg "Asking" = some (.ref CA)
def spInitA (CA : Addr) : Sp := fun vs H Q _ => ∃ (q p ra tq dx : Addr), vs = [.ref q, .ref p, .ref ra, .ref tq] ∧ H q = some (.ins CA dx []) ∧ ∀ H' : Hp, H' q = some (.ins CA dx (aF p ra tq)) → (∀ c o, H c = some o → c ≠ q → H' c = some o) → Q .non H'
section
variable {P : Program} {w : World} {K : PySem.W.Frag} {mg : Str → Option Value} {base : Heap} {f fW fA CA : Addr} {fd dW dA : FuncData}
theorem scCheck : FnScope ["number", "count"] ["number", "count"] (defScope sCheck) := ⟨rfl, rfl, rfl, by decide +kernel, rfl, by decide +kernel, by decide +kernel⟩
theorem scInitA : FnScope ["self", "book", "row", "tally"] ["self", "book", "row", "tally"] (defScope sInitA) := ⟨rfl, rfl, rfl, by decide +kernel, rfl, by decide +kernel, by decide +kernel⟩
theorem ok_initA (F : Fun K "__init__" "Asking.__init__" sInitA f fd) (T : ClsA K mg CA) : FnOk P w K mg base CX0 1 f fd ["self", "book", "row", "tally"] (spInitA CA) := by
  refine F.ok scInitA (fun vs H Q E h => ?_) (fun cdv A outer s H vs Q E hr h => ?_)
  · obtain ⟨q, p, ra, tq, dx, rfl, _⟩ := h
    rfl
  obtain ⟨q, p, ra, tq, dx, rfl, hq, g⟩ := h
  refine ⟨_, pss_cons (ps_fld (pv 0) (pv 1) rfl) (pss_cons (ps_fld (pv 0) (pv 2) rfl) (pss_one (ps_fld (pv 0) (pv 3) rfl))), ?_⟩
  refine ⟨_, rfl, _, rfl, q, CA, dx, [], rfl, hq, T.cl, T.nBook, (by show 0 < 1000; decide), ?_⟩
  refine ⟨_, rfl, _, rfl, q, CA, dx, _, rfl, upd_same, T.cl, T.nRow, (by show 1 < 1000; decide), ?_⟩
  refine ⟨_, rfl, _, rfl, q, CA, dx, _, rfl, upd_same, T.cl, T.nTally, Nat.lt_of_le_of_lt (length_putF _ _ _) (by show 2 < 1000; decide), ?_⟩
  refine g _ (by rw [upd_same, aF_put]) fun c o e hc => ?_
  rw [upd_ne hc, upd_ne hc, upd_ne hc]
  exact e
end
end Bk
namespace L2
open PySem PySem.Spec PyProof.Rows
section
variable {X : Cx} {elt iter tg : Expr} {ifs : List Expr} {scope sc : Scope} {pos : Pos} {own N : List Str} {fr : List (Str × Nat)} {g : TG} {tc : XS → TT} {te : XS → TE} {wi : TI} {EX : XS}
end
section
variable {X : Cx} {v e : Expr} {es : List Expr} {ta t : TE} {pos : Pos}
def tFr (ta : TE) : TE := fun σ H Q => ta σ H fun x H1 => ∃ z, x = .str z ∧ (PySem.reprText z).length ≤ sizeLine ∧ Q (.str (PySem.reprText z)) H1
theorem pe_fr (h : PE X v ta) : PE X (.FormattedValue v 114 none pos) (tFr ta) := by
  intro pins s σ H Q I q
  refine PySem.wpAny_FormattedValue_repr (thn (h pins s σ H _ I q) fun u s1 ⟨x, H1, I1, r1, z, ex, hz, q1⟩ => ?_)
  subst ex
  obtain ⟨t, rfl⟩ := r1
  refine PySem.wpAny_pyReprObj_gives (typeIs_str _ _ _) PySem.F.slot_str_repr PySem.F.entry_str_repr (PySem.F.args_str_repr_1 _) (PySem.gives_str_repr z t) ?_ rfl hz
  exact PyProof.Rows.formatField_str (fun t' tk => ⟨.str _, H1, I1.tok tk, ⟨t', rfl⟩, q1⟩) hz
abbrev TJ := Str → St → Hp → VK → Prop
def PJ (X : Cx) (es : List Expr) (T : TJ) : Prop := ∀ (pins : List (Addr × Obj)) (s : Shared) (σ : St) (H : Hp) (acc : Str) (Q : VK), Inv X pins σ H s → T acc σ H Q →
  Joins (model X.prog X.w) X.A X.xe (evalEach es X.env) acc (fun out s1 => out.length ≤ sizeLine ∧ EP X pins σ Q (.str out s1.toks) { s1 with toks := s1.toks + 1 }) s
def jNil : TJ := fun acc _ H Q => acc.length ≤ sizeLine ∧ Q (.str acc) H
def jCons (t : TE) (T : TJ) : TJ := fun acc σ H Q => t σ H fun x H1 => ∃ y, x = .str y ∧ (acc ++ y).length ≤ sizeLine ∧ T (acc ++ y) σ H1 Q
theorem pj_nil : PJ X [] jNil := fun pins s σ H acc Q I h => ⟨h.1, .str acc, H, I.tok _, ⟨_, rfl⟩, h.2⟩
theorem pj_cons {T : TJ} (h : PE X e t) (hr : PJ X es T) : PJ X (e :: es) (jCons t T) := by
  intro pins s σ H acc Q I q
  refine thn (h pins s σ H _ I q) fun u s1 ⟨x, H1, I1, r1, y, ex, hl, q1⟩ => ?_
  subst ex
  obtain ⟨t, rfl⟩ := r1
  exact ⟨y, t, rfl, hl, hr pins s1 σ H1 _ Q I1 q1⟩
theorem pe_joined {v1 v2 : Expr} {rest : List Expr} {T : TJ} (h : PJ X (v1 :: v2 :: rest) T) : PE X (.JoinedStr (v1 :: v2 :: rest) pos) (T Str.empty) := fun pins s σ H Q I q => PySem.wpAny_JoinedStr (h pins s σ H _ Q I q)
end
end L2
namespace Bk
open PySem L2 Mg Nm
structure ExK (K : PySem.W.Frag) (mg : Str → Option Value) (nm : Str) (C : Addr) (bm : List Value) : Prop where
  ex : ExcC K C bm
  ba : bm.contains (.type "BaseException") = true
  ini : PySem.W.findIn K (.ref C) "__init__" = some (some (.builtin "ValueError.__init__"))
  at_ : mg nm = some (.ref C)
def ShowT (x : Str) : Prop := x.length ≤ 1000 ∧ ∀ c ∈ x.cps.toList, c < 16 ^ 8
theorem ShowT.repr {x : Str} (h : ShowT x) : (PySem.reprText x).length ≤ 10002 := Nat.le_trans (StrLaws.reprText_len x h.2) (by have := h.1; omega)
def spHouseX (CB CH CN : Addr) : Sp := fun vs H Q E => ∃ (p d : Addr) (L : List Ent) (x : Str), vs = [.ref p, .str x] ∧ BookAt CB CH H p d L ∧ ShowT x ∧ (∀ e, fnd L x = some e → Q (.ref e.at_) H) ∧ (fnd L x = none → E (.ref CN) none H)
def spOrderX (CB CH CN : Addr) : Sp := fun vs H Q E => ∃ (p d : Addr) (L : List Ent) (x : Str), vs = [.ref p, .str x] ∧ BookAt CB CH H p d L ∧ ShowT x ∧ (∀ e, fnd L x = some e → ∀ l, H l = none → Q (.ref l) (upd H l (.lst (sVs e.od)))) ∧ (fnd L x = none → E (.ref CN) none H)
def NoS (K : PySem.W.Frag) (H : Hp) (v : V) : Prop := ∃ t, TyOf K H v t ∧ PySem.W.kitOne K t (.type "str") = some false
section
variable {P : Program} {w : World} {K : PySem.W.Frag} {mg : Str → Option Value} {base : Heap} {f fH CB CH CN : Addr} {fd dH : FuncData} {bN : List Value}
theorem ok_houseX (F : Fun K "house" "Book.house" sHouse f fd) (T : ClsB K mg CB CH) (N : ExK K mg "Unfounded" CN bN) : FnOk P w K mg base (CXE P w) 1 f fd ["self", "name"] (spHouseX CB CH CN) := by
  refine F.okX (k := 0) scHouse (fun vs H Q E h => ?_) (fun cdv A outer s H vs Q E hr h => ?_)
  · obtain ⟨p, d, L, x, rfl, _⟩ := h
    rfl
  obtain ⟨p, d, L, x, rfl, B, hx, q1, q2⟩ := h
  have hu := hu_of hr
  obtain ⟨dx, hp⟩ := B.ob
  refine ⟨_, pss_cons (ps_if (pt_cmp (pc_dnotin hu (pv 1) (pe_fld (pv 0) rfl))) (pss_one (ps_raise rfl N.ex N.ba N.ini rfl N.at_ (pa_cons (pe_joined (pj_cons (pe_fr (pv 1)) (pj_cons pe_str pj_nil))) pa_nil))) pss_nil) (pss_one (ps_ret (pe_dget hu (pe_fld (pv 0) rfl) (pv 1) (fun _ _ => rfl)))), ?_⟩
  cases hf : fnd L x with
  | some e =>
    refine ⟨_, rfl, _, rfl, p, CB, dx, _, _, rfl, hp, T.clB, T.nBy, bF_by d, d, _, rfl, B.get hf, _, rfl, iteF ?_⟩
    exact ⟨_, rfl, p, CB, dx, _, _, rfl, hp, T.clB, T.nBy, bF_by d, _, rfl, d, _, rfl, B.get hf, q1 e hf⟩
  | none =>
    refine ⟨_, rfl, _, rfl, p, CB, dx, _, _, rfl, hp, T.clB, T.nBy, bF_by d, d, _, rfl, B.no hf, _, rfl, iteT ?_⟩
    have hr' := hx.repr
    have l0 : (Str.empty ++ PySem.reprText x).length ≤ 10002 := by rw [len_app]; show 0 + _ ≤ _; omega
    have l2 : (" is no house" : Str).length = 12 := by decide +kernel
    have l1 : (Str.empty ++ PySem.reprText x ++ (" is no house" : Str)).length ≤ 10100 := by
      rw [len_app]
      omega
    exact ⟨_, rfl, x, rfl, by rw [sizeLine_eq]; omega, _, rfl, by rw [sizeLine_eq]; omega, _, rfl, by rw [sizeLine_eq]; omega, by rw [sizeLine_eq]; omega, by show 1 ≤ sizeLine; decide, q2 hf⟩
theorem ok_orderX (F : Fun K "order" "Book.order" sOrder f fd) (T : ClsB K mg CB CH) (Tx : Txt mg) (GH : FnOk P w K mg base (CXE P w) 1 fH dH ["self", "name"] (spHouseX CB CH CN)) (bH : Binds K dH ["self", "name"] []) (mH : Meth K CB "house" fH) : FnOk P w K mg base (CXE P w) 2 f fd ["self", "name"] (spOrderX CB CH CN) := by
  refine F.okX scOrder (fun vs H Q E h => ?_) (fun cdv A outer s H vs Q E hr h => ?_)
  · obtain ⟨p, d, L, x, rfl, _⟩ := h
    rfl
  obtain ⟨p, d, L, x, rfl, B, hx, q1, q2⟩ := h
  obtain ⟨dx, hp⟩ := B.ob
  refine ⟨_, pss_one (ps_ret (pe_callTy call_list_of rfl Tx.list PyProof.Rows.boot_list (pa_cons (pe_fld (pe_methE (pv 0) T.clB mH GH hr bH .nil (pa_cons (pv 1) pa_nil)) rfl) pa_nil))), ?_⟩
  refine ⟨_, rfl, p, dx, _, rfl, hp, bF_no d (by decide +kernel), _, rfl, p, d, L, x, rfl, B, hx, fun e he => ?_, q2⟩
  have E := B.en e (fnd_mem he).1
  exact ⟨e.at_, CH, e.dx, _, _, rfl, E.ob, T.clH, T.nOd, hF_od _ _ _, e.oa, _, rfl, .inl (SqL.of E.od), q1 e he⟩
end
end Bk
namespace Bk
open PySem L2 Mg Nm Rk
section
variable {P : Program} {w : World} {K : PySem.W.Frag} {mg : Str → Option Value} {base : Heap} {f : Addr} {fd : FuncData}
theorem fnok_or {CX : CXT} {k : Nat} {ps : List Str} {sp sp' : Sp} (a : FnOk P w K mg base CX k f fd ps sp) (b : FnOk P w K mg base CX k f fd ps sp') : FnOk P w K mg base CX k f fd ps (fun vs H Q E => sp vs H Q E ∨ sp' vs H Q E) :=
  ⟨fun vs H Q E h => h.elim (a.len vs H Q E) (b.len vs H Q E), fun A outer s H args us vs Q E hr he hb r h => h.elim (a.run A outer s H args us vs Q E hr he hb r) (b.run A outer s H args us vs Q E hr he hb r)⟩
end
def PG (v : V) : Prop := PV v ∨ (∃ b, v = .bl b) ∨ v = .non
def spWholeG : Sp := fun vs H Q _ => ∃ (v : V) (lo hi : Int), vs = [v, .int lo, .int hi] ∧ PG v ∧ Q (.bl (whV lo hi v)) H
def spAmountG : Sp := fun vs H Q _ => ∃ v : V, vs = [v] ∧ PG v ∧ Q (.bl (whV (-big) big v)) H
def spIsNameG (K : PySem.W.Frag) : Sp := fun vs H Q _ => ∃ v : V, vs = [v] ∧ ((PV v ∧ ∀ H', Same H H' → Q (.bl (nmV v)) H') ∨ (NoS K H v ∧ Q (.bl false) H))
def spPartG : Sp := fun vs H Q _ => ∃ (v : V) (kd : Str), vs = [v, .str kd] ∧ PG v ∧ ∀ H', Same H H' → Q (.bl (partOk kd v)) H'
section
variable {P : Program} {w : World} {K : PySem.W.Frag} {mg : Str → Option Value} {base : Heap} {f fW fA fN fP fS aP : Addr} {fd dW dA dN dP dS : FuncData}
theorem ok_wholeG (F : Fun K "is_whole" "is_whole" sWhole f fd) (T : Txt mg) : FnOk P w K mg base CX0 1 f fd ["value", "least", "most"] spWholeG := by
  have G1 : FnOk P w K mg base CX0 1 f fd ["value", "least", "most"] spWhole := ok_whole F T
  have G2 : FnOk P w K mg base CX0 1 f fd ["value", "least", "most"] (fun vs H Q _ => ∃ (v : V) (lo hi : Int), vs = [v, .int lo, .int hi] ∧ ((∃ b, v = .bl b) ∨ v = .non) ∧ Q (.bl false) H) := by
    refine F.ok scWhole (fun vs H Q E h => ?_) (fun cdv A outer s H vs Q E hr h => ?_)
    · obtain ⟨v, lo, hi, rfl, _⟩ := h
      rfl
    obtain ⟨v, lo, hi, rfl, hv, q⟩ := h
    refine ⟨_, pss_one (ps_ret (pe_and (pe_callB call_isinst rfl T.isi PyProof.Rows.boot_isinstance (pa_cons (pv 0) (pa_cons (pe_bltn (v := .ty "int") rfl T.int PyProof.Rows.boot_int rfl) pa_nil)))
      (pe_and (pe_not (pe_callB call_isinst rfl T.isi PyProof.Rows.boot_isinstance (pa_cons (pv 0) (pa_cons (pe_bltn (v := .ty "bool") rfl T.bool PyProof.Rows.boot_bool rfl) pa_nil))))
      (pe_one (pe_chain op_le op_le (pv 1) (pv 0) (pv 2)))))), ?_⟩
    rcases hv with ⟨b, rfl⟩ | rfl
    · refine ⟨_, rfl, _, _, _, _, rfl, .bl _, (show PySem.W.kitOne K (.type "bool") (.type "int") = some true from rfl), _, rfl, iteT ?_⟩
      exact ⟨_, rfl, _, _, _, _, rfl, .bl _, kit_self K "bool", _, rfl, _, rfl, iteF q⟩
    · exact ⟨_, rfl, _, _, _, _, rfl, .non, (show PySem.W.kitOne K (.type "NoneType") (.type "int") = some false from rfl), _, rfl, iteF q⟩
  refine (fnok_or G1 G2).imp fun vs H Q E ⟨v, lo, hi, e, hv, q⟩ => ?_
  rcases hv with hv | hv
  · exact .inl ⟨v, lo, hi, e, hv, q⟩
  · refine .inr ⟨v, lo, hi, e, hv, ?_⟩
    rcases hv with ⟨b, rfl⟩ | rfl <;> exact q
theorem ok_amountG (F : Fun K "is_amount" "is_amount" sAmount f fd) (GW : FnOk P w K mg base CX0 1 fW dW ["value", "least", "most"] spWholeG) (kW : PySem.W.keepIn K (.ref fW) = true) (bW : Binds K dW ["value", "least", "most"] []) (mW : mg "is_whole" = some (.ref fW)) : FnOk P w K mg base CX0 2 f fd ["value"] spAmountG := by
  refine F.ok scAmount (fun vs H Q E h => ?_) (fun cdv A outer s H vs Q E hr h => ?_)
  · obtain ⟨v, rfl, _⟩ := h
    rfl
  obtain ⟨v, rfl, hv, q⟩ := h
  refine ⟨_, pss_one (ps_ret (pe_call GW hr rfl mW kW bW .nil pass0 (pa_cons (pv 0) (pa_cons (pe_un un_neg (pe_op op_pow pe_int pe_int)) (pa_cons (pe_op op_pow pe_int pe_int) pa_nil))))), ?_⟩
  exact ⟨_, rfl, _, _, rfl, rfl, ⟨by decide, by decide, by decide⟩, _, rfl, _, _, rfl, rfl, ⟨by decide, by decide, by decide⟩, v, -big, big, rfl, hv, q⟩
theorem ok_isNameG (F : Fun K "is_name" "is_name" sIsName f fd) (T : Txt mg) : FnOk P w K mg base CX0 1 f fd ["value"] (spIsNameG K) := by
  have G1 : FnOk P w K mg base CX0 1 f fd ["value"] spIsName := ok_isName F T
  have G2 : FnOk P w K mg base CX0 1 f fd ["value"] (fun vs H Q _ => ∃ v : V, vs = [v] ∧ NoS K H v ∧ Q (.bl false) H) := by
    refine F.ok scIsName (fun vs H Q E h => ?_) (fun cdv A outer s H vs Q E hr h => ?_)
    · obtain ⟨v, rfl, _⟩ := h
      rfl
    obtain ⟨v, rfl, ⟨t, ty, kt⟩, q⟩ := h
    refine ⟨_, pss_one (ps_ret (pe_and (pe_callB call_isinst rfl T.isi PyProof.Rows.boot_isinstance (pa_cons (pv 0) (pa_cons (pe_bltn (v := .ty "str") rfl T.str PyProof.Rows.boot_str rfl) pa_nil)))
      (pe_and (pe_chain op_le op_le pe_int (pe_callB call_len_str rfl T.len PySem.boot_len (pa_cons (pv 0) pa_nil)) pe_int)
      (pe_one (pe_callB (call_all rfl) rfl T.all boot_all' (pa_cons (pe_comp (defScope sIsName) ["value"] ["sign"] [] rfl (pi_str (pv 0)) (own_name (i := 0) (by decide)) (fun _ _ _ _ _ _ => ⟨pg_name (i := 0) nds1 rfl (Or.inl rfl), pts_nil,
        pe_chain op_le_str op_le_str pe_str (pv 0) pe_str⟩)) pa_nil)))))), ?_⟩
    exact ⟨_, rfl, _, _, _, _, rfl, ty, kt, _, rfl, iteF q⟩
  refine (fnok_or G1 G2).imp fun vs H Q E ⟨v, e, h⟩ => ?_
  rcases h with ⟨hv, q⟩ | ⟨hv, q⟩
  · exact .inl ⟨v, e, hv, q⟩
  · exact .inr ⟨v, e, hv, q⟩
theorem PG.nm {H : Hp} {v : V} (h : PG v) : PV v ∨ (NoS K H v ∧ nmV v = false) := by
  rcases h with h | ⟨b, rfl⟩ | rfl
  · exact .inl h
  · exact .inr ⟨⟨_, .bl b, rfl⟩, rfl⟩
  · exact .inr ⟨⟨_, .non, rfl⟩, rfl⟩
theorem ok_partG (F : Fun K "is_part" "is_part" sIsPart f fd) (GW : FnOk P w K mg base CX0 1 fW dW ["value", "least", "most"] spWholeG) (kW : PySem.W.keepIn K (.ref fW) = true) (bW : Binds K dW ["value", "least", "most"] []) (mW : mg "is_whole" = some (.ref fW))
    (GA : FnOk P w K mg base CX0 2 fA dA ["value"] spAmountG) (kA : PySem.W.keepIn K (.ref fA) = true) (bA : Binds K dA ["value"] []) (mA : mg "is_amount" = some (.ref fA))
    (GN : FnOk P w K mg base CX0 1 fN dN ["value"] (spIsNameG K)) (kN : PySem.W.keepIn K (.ref fN) = true) (bN : Binds K dN ["value"] []) (mN : mg "is_name" = some (.ref fN)) : FnOk P w K mg base CX0 3 f fd ["part", "kind"] spPartG := by
  refine F.ok scPart (fun vs H Q E h => ?_) (fun cdv A outer s H vs Q E hr h => ?_)
  · obtain ⟨v, kd, rfl, _⟩ := h
    rfl
  obtain ⟨v, kd, rfl, hv, q⟩ := h
  have hr1 := hr.mono (j := 1) (by decide)
  refine ⟨_, pss_cons (ps_if (pt_cmpR op_eq (pv 1) pe_str (nomark _)) (pss_one (ps_ret (pe_call GN hr1 rfl mN kN bN .nil pass0 (pa_cons (pv 0) pa_nil)))) pss_nil)
    (pss_cons (ps_if (pt_cmpR op_eq (pv 1) pe_str (nomark _)) (pss_one (ps_ret (pe_call GW hr1 rfl mW kW bW .nil pass0 (pa_cons (pv 0) (pa_cons pe_int (pa_cons pe_int pa_nil)))))) pss_nil)
    (pss_cons (ps_if (pt_cmpR op_eq (pv 1) pe_str (nomark _)) (pss_one (ps_ret (pe_and (pe_call GA hr rfl mA kA bA .nil pass0 (pa_cons (pv 0) pa_nil)) (pe_one (pe_cmpR op_ne (pv 0) pe_int (nomark _)))))) pss_nil)
    (pss_one (ps_ret (pe_call GA hr rfl mA kA bA .nil pass0 (pa_cons (pv 0) pa_nil)))))), ?_⟩
  unfold partOk at q
  refine ⟨_, rfl, rfl, _, rfl, ite2 (fun c => ?_) (fun c => ?_)⟩
  · rw [if_pos (de_str c)] at q
    refine ⟨_, rfl, v, rfl, ?_⟩
    rcases hv.nm (K := K) (H := H) with h | ⟨h, e⟩
    · exact .inl ⟨h, q⟩
    · rw [e] at q
      exact .inr ⟨h, q _ (Same.refl _)⟩
  rw [if_neg (dn_str c)] at q
  refine ⟨_, rfl, rfl, _, rfl, ite2 (fun c => ?_) (fun c => ?_)⟩
  · rw [if_pos (de_str c)] at q
    exact ⟨_, rfl, v, 0, 64, rfl, hv, q _ (Same.refl _)⟩
  rw [if_neg (dn_str c)] at q
  refine ⟨_, rfl, rfl, _, rfl, ite2 (fun c => ?_) (fun c => ?_)⟩
  · rw [if_pos (de_str c)] at q
    refine ⟨_, rfl, v, rfl, hv, _, rfl, ite2 (fun c2 => ?_) (fun c2 => ?_)⟩
    · rw [c2, Bool.true_and] at q
      rcases hv with (⟨i, rfl⟩ | ⟨x, rfl, _⟩) | ⟨b, rfl⟩ | rfl
      · exact ⟨_, rfl, rfl, q _ (Same.refl _)⟩
      · cases c2
      · cases c2
      · cases c2
    · rw [Bool.eq_false_iff.mpr c2, Bool.false_and] at q
      exact q _ (Same.refl _)
  rw [if_neg (dn_str c)] at q
  exact ⟨_, rfl, v, rfl, hv, q _ (Same.refl _)⟩
end
inductive StG
  | tup (kd : Str) (ps : List V)
  | emp
  | oth
def SAt (K : PySem.W.Frag) (H : Hp) (v : V) : StG → Prop
  | .tup kd ps => ∃ t, v = .ref t ∧ H t = some (.tup (.str kd :: ps)) ∧ (∀ x ∈ ps, PG x) ∧ ps.length ≤ 100
  | .emp => ∃ t, v = .ref t ∧ H t = some (.tup [])
  | .oth => ∃ ty, TyOf K H v ty ∧ PySem.W.kitOne K ty (.type "tuple") = some false
def okG (ks : List (Str × Addr × List Str)) : StG → Bool
  | .tup kd ps => match kindsOf ks kd with
    | none => false
    | some (_, r) => decide (ps.length = r.length) && (ps.zip r).all fun p => partOk p.2 p.1
  | _ => false
theorem TyOf.sameH {K : PySem.W.Frag} {H H' : Hp} (s : Same H H') {v : V} {t : Value} (h : TyOf K H v t) : TyOf K H' v t := by
  cases h with
  | non => exact .non
  | bl x => exact .bl x
  | int i => exact .int i
  | str x => exact .str x
  | flt x => exact .flt x
  | lst e => exact .lst (s _ _ e)
  | frz e => exact .frz (s _ _ e)
  | tup e => exact .tup (s _ _ e)
  | dK e => exact .dK (s _ _ e)
  | dT e => exact .dT (s _ _ e)
  | ins e cl ha hn htk hm => exact .ins (s _ _ e) cl ha hn htk hm
theorem SAt.same {K : PySem.W.Frag} {H H' : Hp} (s : Same H H') {v : V} : ∀ {g : StG}, SAt K H v g → SAt K H' v g
  | .tup _ _, ⟨t, e, h, a, b⟩ => ⟨t, e, s _ _ h, a, b⟩
  | .emp, ⟨t, e, h⟩ => ⟨t, e, s _ _ h⟩
  | .oth, ⟨ty, h, k⟩ => ⟨ty, TyOf.sameH s h, k⟩
def spStepG (K : PySem.W.Frag) (ks : List (Str × Addr × List Str)) : Sp := fun vs H Q _ => ∃ (v : V) (g : StG), vs = [v] ∧ SAt K H v g ∧ ∀ H', Same H H' → Q (.bl (okG ks g)) H'
section
variable {P : Program} {w : World} {K : PySem.W.Frag} {mg : Str → Option Value} {base : Heap} {f fP fS aP : Addr} {fd dP dS : FuncData}
theorem ok_stepG {ks : List (Str × Addr × List Str)} (F : Fun K "is_step" "is_step" sIsStep f fd) (T : Txt mg) (Tb : Tab P w K aP ks) (mP : mg "PARTS" = some (.ref aP)) (GP : FnOk P w K mg base CX0 3 fP dP ["part", "kind"] spPartG) (kP : PySem.W.keepIn K (.ref fP) = true) (bP : Binds K dP ["part", "kind"] []) (mPt : mg "is_part" = some (.ref fP)) (hks : ∀ p ∈ ks, p.2.2.length ≤ 2) : FnOk P w K mg base CX0 4 f fd ["value"] (spStepG K ks) := by
  refine F.ok scStep (fun vs H Q E h => ?_) (fun cdv A outer s H vs Q E hr h => ?_)
  · obtain ⟨v, g, rfl, _⟩ := h
    rfl
  obtain ⟨v, g, rfl, hg, q⟩ := h
  refine ⟨_, pss_cons (ps_if (PW.pt (pw_or (pt_not (pt_val (pe_callB call_isinst rfl T.isi PyProof.Rows.boot_isinstance (pa_cons (pv 0) (pa_cons (pe_bltn (v := .ty "tuple") rfl T.tup PyProof.Rows.boot_tuple rfl) pa_nil)))))
      (pw_or (pt_cmpR op_eq (pe_callB call_len_seq rfl T.len PySem.boot_len (pa_cons (pv 0) pa_nil)) pe_int (nomark _))
      (pw_or1 (pt_not (pt_val (pe_callB call_isinst rfl T.isi PyProof.Rows.boot_isinstance (pa_cons (pe_ix ix_tup (pv 0) pe_int (fun _ _ => rfl)) (pa_cons (pe_bltn (v := .ty "str") rfl T.str PyProof.Rows.boot_str rfl) pa_nil))))))))) (pss_one (ps_ret pe_bl)) pss_nil)
    (pss_cons (ps_set (i := 1) scStep.nd rfl (Or.inl rfl) (pe_kget (pe_glob (v := .ref aP) rfl mP rfl) (pe_ix ix_tup (pv 0) pe_int (fun _ _ => rfl)) ⟨rfl, rfl, rfl, rfl⟩))
    (pss_cons (ps_if (PW.pt (pw_or (pt_cmp (pc_isN (pv 1))) (pw_or1 (pt_cmpR op_ne (pe_callB call_len_seq rfl T.len PySem.boot_len (pa_cons (pv 0) pa_nil)) (pe_op op_add pe_int (pe_callB call_len_seq rfl T.len PySem.boot_len (pa_cons (pv 1) pa_nil))) (nomark _))))) (pss_one (ps_ret pe_bl)) pss_nil)
    (pss_one (ps_ret (pe_callB (call_all rfl) rfl T.all boot_all' (pa_cons (pe_comp (defScope sIsStep) ["value", "kinds"] ["part", "kind"] [] rfl (pi_zipT rfl T.zip (pa_cons (pe_slice sl_tup (pv 0) (po_some pe_int) po_none) (pa_cons (pv 1) pa_nil))) (own_tup (K := K) (owns_cons (own_name (i := 0) (by decide)) (owns_cons (own_name (i := 1) (by decide)) owns_nil)))
      (fun _ _ _ _ _ _ => ⟨pg_tup (n := 2) rfl (pgs_cons (pg_name (i := 0) nde_pk rfl (Or.inl rfl)) (pgs_cons (pg_name (i := 1) nde_pk rfl (Or.inl rfl)) pgs_nil)), pts_nil, pe_call GP hr rfl mPt kP bP .nil pass0 (pa_cons (pv 0) (pa_cons (pv 1) pa_nil))⟩)) pa_nil)))))), ?_⟩
  cases g with
  | oth =>
    obtain ⟨ty, ht, hk⟩ := hg
    exact ⟨_, rfl, _, _, _, _, rfl, ht, hk, _, rfl, iteT (iteT (q _ (Same.refl _)))⟩
  | emp =>
    obtain ⟨t, rfl, ht⟩ := hg
    refine ⟨_, rfl, _, _, _, _, rfl, .tup ht, kit_self K "tuple", _, rfl, iteF ?_⟩
    exact ⟨_, rfl, t, _, rfl, .inr (SqT.of ht), rfl, _, rfl, iteT (iteT (q _ (Same.refl _)))⟩
  | tup kd ps =>
  obtain ⟨t, rfl, ht', hpv, hps⟩ := hg
  have ht : SqT K H t (.str kd :: ps) := SqT.of ht'
  have at0 : atI (V.str kd :: ps) 0 = some (.str kd) := atI_nat (j := 0) rfl
  refine ⟨_, rfl, _, _, _, _, rfl, .tup ht', kit_self K "tuple", _, rfl, iteF ?_⟩
  refine ⟨_, rfl, t, _, rfl, .inr ht, rfl, _, rfl, ite2 (fun c => ?_) (fun _ => ?_)⟩
  · have := V.int.inj (of_decide_eq_true c)
    rw [List.length_cons] at this
    omega
  refine ⟨_, rfl, t, _, _, _, rfl, rfl, ht, at0, _, _, _, _, rfl, .str _, kit_self K "str", _, rfl, iteF ?_⟩
  -- kinds = PARTS.get(value[0])
  refine ⟨aP, _, rfl, Tb.dic, _, rfl, t, _, _, _, rfl, rfl, ht, at0, Sum.inr kd, rfl, ?_⟩
  rw [val_tab]
  have q' : ∀ H', Same H H' → Q (.bl (match kindsOf ks kd with
    | none => false
    | some (_, r) => decide (ps.length = r.length) && (ps.zip r).all fun p => partOk p.2 p.1)) H' := q
  cases hk : kindsOf ks kd with
  | none =>
    rw [hk] at q'
    exact ⟨_, rfl, _, rfl, iteT (iteT (q' _ (Same.refl _)))⟩
  | some ar =>
  obtain ⟨a, r⟩ := ar
  rw [hk] at q'
  replace q' : ∀ H', Same H H' → Q (.bl (decide (ps.length = r.length) && (ps.zip r).all fun p => partOk p.2 p.1)) H' := q'
  obtain ⟨pr, hpr, epr⟩ := kinds_mem hk
  have hr0 : ∀ H : Hp, SqT K H a (sVs r) := fun H => by
    have := Tb.tup pr hpr H
    rw [epr] at this
    exact this
  refine ⟨_, rfl, _, rfl, iteF ?_⟩
  refine ⟨_, rfl, t, _, rfl, .inr ht, _, rfl, a, _, rfl, .inr (hr0 _), _, _, rfl, rfl, rfl, _, rfl, ?_⟩
  by_cases hl : ps.length = r.length
  rotate_left
  · rw [decide_eq_false hl, Bool.false_and] at q'
    have hlen : ¬ (V.int ((V.str kd :: ps).length : Int)) = V.int (1 + ((sVs r).length : Int)) := fun z => hl (by
      have := V.int.inj z
      rw [List.length_cons, sVs_len] at this
      omega)
    rw [decide_eq_false hlen]
    exact iteT (q' _ (Same.refl _))
  rw [decide_eq_true hl, Bool.true_and] at q'
  have hlen : (V.int ((V.str kd :: ps).length : Int)) = V.int (1 + ((sVs r).length : Int)) := by rw [List.length_cons, sVs_len, hl]; congr 1; omega
  refine iteNS hlen ?_
  -- all([is_part(part, kind) for part, kind in zip(value[1:], kinds)])
  refine ⟨_, rfl, _, rfl, t, _, rfl, ht, ?_, fun p hp => ?_⟩
  · intro z
    have z1 := z.1
    rw [show HT.sIx (V.str kd :: ps).length 0 (some 1) = min 1 (V.str kd :: ps).length from HT.sIx_nat _ _ 1, List.length_cons] at z1
    omega
  rw [cutT1]
  have s1 := same_new hp (.tup ps)
  refine ⟨_, rfl, p, a, rfl, ⟨_, SqT.of upd_same⟩, ⟨_, hr0 _⟩, turns_zipT0 (K := K) (a := p) (b := a) (xs := ps) (zs := sVs r) (by rw [sVs_len]; exact hl) (fun i ys H2 => Same (upd H p (.tup ps)) H2 ∧ ys = (((ps.zip r).take i).map fun p => partOk p.2 p.1).map V.bl) ⟨Same.refl _, rfl⟩ (fun i ys H2 _ h => ⟨SqT.of (h.1 _ _ upd_same), hr0 _⟩) ?_ ?_⟩
  · rintro i x z ys H2 Tp hx hz ⟨s2, rfl⟩ hT
    obtain ⟨k, hk', rfl⟩ := sVs_get hz
    have s3 := same_new hT (.tup [x, .str k])
    refine ⟨Tp, _, rfl, SqT.of upd_same, rfl, _, _, rfl, _, _, rfl, rfl, ?_⟩
    have hil : i < ps.length := (List.getElem?_eq_some_iff.mp hx).1
    refine ⟨_, rfl, _, rfl, x, k, rfl, hpv x (List.mem_of_getElem? hx), fun H3 s4 => ?_⟩
    have hzi : (ps.zip r)[i]? = some (x, k) := by
      rw [List.getElem?_zip_eq_some]
      exact ⟨hx, hk'⟩
    refine ⟨by rw [List.length_map, List.length_map, List.length_take, sizeLine_eq]; omega, s2.trans (s3.trans s4), ?_⟩
    rw [List.take_add_one, hzi, List.map_append, List.map_append]
    rfl
  · rintro ys H2 ⟨s2, rfl⟩ l hl'
    refine ⟨l, _, _, rfl, SqL.of upd_same, truL_bools _, ?_⟩
    have e : (((ps.zip r).take ps.length).map fun p => partOk p.2 p.1).all id = (ps.zip r).all fun p => partOk p.2 p.1 := by
      rw [List.take_of_length_le (by rw [List.length_zip]; omega), List.all_map]
      rfl
    rw [e]
    exact q' _ (s1.trans (s2.trans (same_new hl' _)))
end
def NoL (K : PySem.W.Frag) (H : Hp) (v : V) : Prop := ∃ t, TyOf K H v t ∧ PySem.W.kitOne K t (.type "list") = some false
def okB (ks : List (Str × Addr × List Str)) (gs : List StG) : Bool := decide (gs.length ≤ 30) && gs.all (okG ks)
theorem sats_same {K : PySem.W.Frag} {H H' : Hp} (s : Same H H') {us : List V} {gs : List StG} (h : Paired (SAt K H) us gs) : Paired (SAt K H') us gs := Paired.mapP h fun _ _ z => z.same s
def spIsBodyG (K : PySem.W.Frag) (ks : List (Str × Addr × List Str)) : Sp := fun vs H Q _ => ∃ v : V, vs = [v] ∧ ((NoL K H v ∧ Q (.bl false) H) ∨ ∃ (l : Addr) (us : List V) (gs : List StG), v = .ref l ∧ H l = some (.lst us) ∧ Paired (SAt K H) us gs ∧ us.length ≤ 1000 ∧ ∀ H', Same H H' → Q (.bl (okB ks gs)) H')
def spCheckX (CM CC : Addr) : Sp := fun vs H Q E => ∃ n c : V, vs = [n, c] ∧ PG n ∧ PG c ∧ (whV (-big) big n = false → E (.ref CM) none H) ∧ (whV (-big) big n = true → (whV 0 40 c = false → E (.ref CC) none H) ∧ (whV 0 40 c = true → Q .non H))
def spTeachX (K : PySem.W.Frag) (CB CH CN CT CY : Addr) (ks : List (Str × Addr × List Str)) : Sp := fun vs H Q E => ∃ (p d : Addr) (L : List Ent) (x : Str) (v vb : V), vs = [.ref p, .str x, v, vb] ∧ BookAt CB CH H p d L ∧ ShowT x ∧ (fnd L x = none → E (.ref CN) none H) ∧ ∀ e, fnd L x = some e →
  (NoS K H v ∧ E (.ref CT) none H) ∨ ∃ y, v = .str y ∧ y.length ≤ 1000 ∧ (okNm y = false → ∀ H', Same H H' → E (.ref CT) none H') ∧ (okNm y = true →
    (NoL K H vb ∧ ∀ H', Same H H' → E (.ref CY) none H') ∨ ∃ (l : Addr) (us : List V) (gs : List StG), vb = .ref l ∧ H l = some (.lst us) ∧ Paired (SAt K H) us gs ∧ us.length ≤ 1000 ∧ e.bd.length ≤ 1000 ∧ (okB ks gs = false → ∀ H', Same H H' → E (.ref CY) none H') ∧
      (okB ks gs = true → ∀ (la : Addr) (H' : Hp), H la = none → H' la = some (.lst us) → H' e.ba = some (.dK (putK e.bd (Sum.inr y : Key) (.ref la))) → (∀ b o, H b = some o → b ≠ e.ba → H' b = some o) → Q .non H'))
section
variable {P : Program} {w : World} {K : PySem.W.Frag} {mg : Str → Option Value} {base : Heap} {f fS fH fN fB fA fW CB CH CN CT CY CM CC : Addr} {fd dS dH dN dB dA dW : FuncData} {bN bT bY bM bC : List Value} {ks : List (Str × Addr × List Str)}
theorem ok_isBodyG (F : Fun K "is_body" "is_body" sIsBody f fd) (T : Txt mg) (GS : FnOk P w K mg base CX0 4 fS dS ["value"] (spStepG K ks)) (kS : PySem.W.keepIn K (.ref fS) = true) (bS : Binds K dS ["value"] []) (mS : mg "is_step" = some (.ref fS)) : FnOk P w K mg base CX0 5 f fd ["value"] (spIsBodyG K ks) := by
  refine F.ok scIsBody (fun vs H Q E h => ?_) (fun cdv A outer s H vs Q E hr h => ?_)
  · obtain ⟨v, rfl, _⟩ := h
    rfl
  obtain ⟨v, rfl, h⟩ := h
  refine ⟨_, pss_one (ps_ret (pe_and (pe_callB call_isinst rfl T.isi PyProof.Rows.boot_isinstance (pa_cons (pv 0) (pa_cons (pe_bltn (v := .ty "list") rfl T.list PyProof.Rows.boot_list rfl) pa_nil)))
    (pe_and (pe_cmpR op_le (pe_callB call_len_seq rfl T.len PySem.boot_len (pa_cons (pv 0) pa_nil)) pe_int (nomark _))
    (pe_one (pe_callB (call_all rfl) rfl T.all boot_all' (pa_cons (pe_comp (defScope sIsBody) ["value"] ["step"] [] rfl (pi_list (pv 0)) (own_name (i := 0) (by decide)) (fun _ _ _ _ _ _ => ⟨pg_name (i := 0) nde_st rfl (Or.inl rfl), pts_nil,
      pe_call GS hr rfl mS kS bS .nil pass0 (pa_cons (pv 0) pa_nil)⟩)) pa_nil)))))), ?_⟩
  rcases h with ⟨⟨t, ty, hk⟩, q⟩ | ⟨l, us, gs, rfl, el, hp, hul, q⟩
  · exact ⟨_, rfl, _, _, _, _, rfl, ty, hk, _, rfl, iteF q⟩
  have hgl := Paired.length hp
  refine ⟨_, rfl, _, _, _, _, rfl, .lst el, kit_self K "list", _, rfl, iteT ?_⟩
  unfold okB at q
  refine ⟨_, rfl, l, _, rfl, .inl (SqL.of el), _, _, rfl, rfl, _, rfl, ite2 (fun c => ?_) (fun c => ?_)⟩
  rotate_left
  · have h30 : ¬ gs.length ≤ 30 := fun z => c (decide_eq_true (by omega))
    rw [decide_eq_false h30, Bool.false_and] at q
    exact q _ (Same.refl _)
  have h30 : gs.length ≤ 30 := by have := of_decide_eq_true c; omega
  rw [decide_eq_true h30, Bool.true_and] at q
  refine ⟨_, rfl, l, rfl, ⟨_, SqL.of el⟩, turns_list0 (K := K) (a := l) (xs := us) (fun i ys H2 => Same H H2 ∧ ys = ((gs.take i).map (okG ks)).map V.bl) ⟨Same.refl _, rfl⟩ (fun i ys H2 _ h => SqL.of (h.1 _ _ el)) ?_ ?_⟩
  · rintro i y ys H2 hi ⟨s2, rfl⟩
    obtain ⟨g, hg, hs⟩ := paired_get hp hi
    have hil : i < us.length := (List.getElem?_eq_some_iff.mp hi).1
    refine ⟨_, rfl, y, g, rfl, hs.same s2, fun H3 s3 => ⟨by rw [List.length_map, List.length_map, List.length_take, sizeLine_eq]; omega, s2.trans s3, ?_⟩⟩
    rw [List.take_add_one, hg, List.map_append, List.map_append]
    rfl
  · rintro ys H2 ⟨s2, rfl⟩ p hp'
    refine ⟨p, _, _, rfl, SqL.of upd_same, truL_bools _, ?_⟩
    have e : ((gs.take us.length).map (okG ks)).all id = gs.all (okG ks) := by
      rw [List.take_of_length_le (by omega), List.all_map]
      rfl
    rw [e]
    exact q _ (s2.trans (same_new hp' _))
theorem ok_checkX (F : Fun K "check_question" "check_question" sCheck f fd) (GW : FnOk P w K mg base CX0 1 fW dW ["value", "least", "most"] spWholeG) (kW : PySem.W.keepIn K (.ref fW) = true) (bW : Binds K dW ["value", "least", "most"] []) (mW : mg "is_whole" = some (.ref fW))
    (GA : FnOk P w K mg base CX0 2 fA dA ["value"] spAmountG) (kA : PySem.W.keepIn K (.ref fA) = true) (bA : Binds K dA ["value"] []) (mA : mg "is_amount" = some (.ref fA)) (XM : ExK K mg "BadNumber" CM bM) (XC : ExK K mg "BadCount" CC bC) : FnOk P w K mg base (CXE P w) 3 f fd ["number", "count"] (spCheckX CM CC) := by
  refine F.okX scCheck (fun vs H Q E h => ?_) (fun cdv A outer s H vs Q E hr h => ?_)
  · obtain ⟨n, c, rfl, _⟩ := h
    rfl
  obtain ⟨n, c, rfl, hn, hc, q1, q2⟩ := h
  have hr1 := hr.mono (j := 1) (by decide)
  refine ⟨_, pss_cons (ps_if (pt_not (pt_val (pe_call GA hr rfl mA kA bA .nil pass0 (pa_cons (pv 0) pa_nil)))) (pss_one (ps_raise rfl XM.ex XM.ba XM.ini rfl XM.at_ (pa_cons pe_str pa_nil))) pss_nil)
    (pss_one (ps_if (pt_not (pt_val (pe_call GW hr1 rfl mW kW bW .nil pass0 (pa_cons (pv 1) (pa_cons pe_int (pa_cons pe_int pa_nil)))))) (pss_one (ps_raise rfl XC.ex XC.ba XC.ini rfl XC.at_ (pa_cons pe_str pa_nil))) pss_nil)), ?_⟩
  refine ⟨_, rfl, n, rfl, hn, ?_⟩
  cases e1 : whV (-big) big n with
  | false => exact ⟨_, rfl, iteT ⟨by show 1 ≤ sizeLine; decide, q1 e1⟩⟩
  | true =>
  obtain ⟨q3, q4⟩ := q2 e1
  refine ⟨_, rfl, iteF ?_⟩
  refine ⟨_, rfl, c, 0, 40, rfl, hc, ?_⟩
  cases e2 : whV 0 40 c with
  | false => exact ⟨_, rfl, iteT ⟨by show 1 ≤ sizeLine; decide, q3 e2⟩⟩
  | true => exact ⟨_, rfl, iteF (q4 e2)⟩
end
def spDoor (CB CH CN : Addr) (more : Nat) : Sp := fun vs H Q E => ∃ (p d : Addr) (L : List Ent) (x : Str) (us : List V), vs = .ref p :: .str x :: us ∧ us.length = more ∧ BookAt CB CH H p d L ∧ ShowT x ∧ fnd L x = none ∧ ∀ H', Same H H' → E (.ref CN) none H'
section
variable {P : Program} {w : World} {K : PySem.W.Frag} {mg : Str → Option Value} {base : Heap} {f fS fH fN fB fO CB CH CN CT CY : Addr} {fd dS dH dN dB dO : FuncData} {bN bT bY : List Value} {ks : List (Str × Addr × List Str)}
theorem ok_teachX (F : Fun K "teach" "Book.teach" sTeach f fd) (T : ClsB K mg CB CH) (Tx : Txt mg) (GH : FnOk P w K mg base (CXE P w) 1 fH dH ["self", "name"] (spHouseX CB CH CN)) (bH : Binds K dH ["self", "name"] []) (mH : Meth K CB "house" fH)
    (GN : FnOk P w K mg base CX0 1 fN dN ["value"] (spIsNameG K)) (kN : PySem.W.keepIn K (.ref fN) = true) (bN : Binds K dN ["value"] []) (mN : mg "is_name" = some (.ref fN))
    (GB : FnOk P w K mg base CX0 5 fB dB ["value"] (spIsBodyG K ks)) (kB : PySem.W.keepIn K (.ref fB) = true) (bB : Binds K dB ["value"] []) (mB : mg "is_body" = some (.ref fB)) (XT : ExK K mg "BadText" CT bT) (XY : ExK K mg "BadBody" CY bY) : FnOk P w K mg base (CXE P w) 6 f fd ["self", "name", "word", "body"] (spTeachX K CB CH CN CT CY ks) := by
  refine F.okX scTeach (fun vs H Q E h => ?_) (fun cdv A outer s H vs Q E hr h => ?_)
  · obtain ⟨p, d, L, x, v, vb, rfl, _⟩ := h
    rfl
  obtain ⟨p, d, L, x, v, vb, rfl, B, hx, q0, q1⟩ := h
  obtain ⟨dx, hp⟩ := B.ob
  have hu := hu_of hr
  have hr1 := hr.mono (j := 1) (by decide)
  refine ⟨_, pss_cons (ps_set (i := 4) scTeach.nd rfl (Or.inl rfl) (pe_methE (pv 0) T.clB mH GH hr1 bH .nil (pa_cons (pv 1) pa_nil)))
    (pss_cons (ps_if (pt_not (pt_val (pe_call GN hr1 rfl mN kN bN .nil pass0 (pa_cons (pv 2) pa_nil)))) (pss_one (ps_raise rfl XT.ex XT.ba XT.ini rfl XT.at_ (pa_cons pe_str pa_nil))) pss_nil)
    (pss_cons (ps_if (pt_not (pt_val (pe_call GB hr rfl mB kB bB .nil pass0 (pa_cons (pv 3) pa_nil)))) (pss_one (ps_raise rfl XY.ex XY.ba XY.ini rfl XY.at_ (pa_cons pe_str pa_nil))) pss_nil)
    (pss_one (ps_dput hu (pe_fld (pv 4) rfl) (pv 2) (pe_callTy call_list_of rfl Tx.list PyProof.Rows.boot_list (pa_cons (pv 3) pa_nil)) rfl)))), ?_⟩
  have z1 : 1 ≤ sizeLine := by rw [sizeLine_eq]; decide
  refine ⟨_, rfl, p, dx, _, rfl, hp, bF_no d (by decide +kernel), _, rfl, p, d, L, x, rfl, B, hx, fun e he => ?_, q0⟩
  have En := B.en e (fnd_mem he).1
  rcases q1 e he with ⟨hN, hE⟩ | ⟨y, rfl, hyl, g1, g2⟩
  · exact ⟨_, rfl, v, rfl, .inr ⟨hN, _, rfl, iteT ⟨by show 1 ≤ sizeLine; exact z1, hE⟩⟩⟩
  refine ⟨_, rfl, .str y, rfl, .inl ⟨.inr ⟨y, rfl, by rw [sizeLine_eq]; omega⟩, fun H1 s1 => ?_⟩⟩
  cases hok : okNm y with
  | false =>
    rw [show nmV (.str y) = false from hok]
    exact ⟨_, rfl, iteT ⟨by show 1 ≤ sizeLine; exact z1, g1 hok H1 s1⟩⟩
  | true =>
  rw [show nmV (.str y) = true from hok]
  refine ⟨_, rfl, iteF ?_⟩
  rcases g2 hok with ⟨⟨t, ty, hk⟩, hE⟩ | ⟨l, us, gs, rfl, el, hpr, hul, hbl, b1, b2⟩
  · exact ⟨_, rfl, vb, rfl, .inl ⟨⟨t, TyOf.sameH s1 ty, hk⟩, _, rfl, iteT ⟨by show 1 ≤ sizeLine; exact z1, hE H1 s1⟩⟩⟩
  refine ⟨_, rfl, .ref l, rfl, .inr ⟨l, us, gs, rfl, s1 _ _ el, sats_same s1 hpr, hul, fun H2 s2 => ?_⟩⟩
  have s3 := s1.trans s2
  cases hob : okB ks gs with
  | false => exact ⟨_, rfl, iteT ⟨by show 1 ≤ sizeLine; exact z1, b1 hob H2 s3⟩⟩
  | true =>
  refine ⟨_, rfl, iteF ?_⟩
  refine ⟨_, rfl, l, _, rfl, .inl (SqL.of (s3 _ _ el)), fun la hla => ?_⟩
  have s4 := same_new hla (.lst us)
  have s5 := s3.trans s4
  refine ⟨_, rfl, e.at_, CH, e.dx, _, _, rfl, s5 _ _ En.ob, T.clH, T.nBd, hF_bd _ _ _, _, rfl, e.ba, _, rfl, DPut.k (k := (Sum.inr y : Key)) (s5 _ _ En.bd) (by rw [sizeLine_eq]; omega), ?_⟩
  have nlb : la ≠ e.ba := Ne.symm (ne_of_none (s3 _ _ En.bd) hla)
  exact b2 hob la _ (s3.free hla) (by rw [upd_ne nlb]; exact upd_same) upd_same fun b o hb hne => by rw [upd_ne hne]; exact s5 _ _ hb
theorem scForgetD : FnScope ["self", "name", "word", "bodies"] ["self", "name", "word"] (defScope sForget) := ⟨rfl, rfl, rfl, by decide +kernel, rfl, by decide +kernel, by decide +kernel⟩
theorem ok_doorForget (F : Fun K "forget" "Book.forget" sForget f fd) (T : ClsB K mg CB CH) (GH : FnOk P w K mg base (CXE P w) 1 fH dH ["self", "name"] (spHouseX CB CH CN)) (bH : Binds K dH ["self", "name"] []) (mH : Meth K CB "house" fH) : FnOk P w K mg base (CXE P w) 2 f fd ["self", "name", "word"] (spDoor CB CH CN 1) := by
  refine F.okX scForgetD (fun vs H Q E h => ?_) (fun cdv A outer s H vs Q E hr h => ?_)
  · obtain ⟨p, d, L, x, us, rfl, hu, _⟩ := h
    rw [List.length_cons, List.length_cons, hu]
    rfl
  obtain ⟨p, d, L, x, us, rfl, hul, B, hx, hn, q⟩ := h
  obtain ⟨dx, hp⟩ := B.ob
  refine ⟨_, pss_cons (ps_set (i := 3) scForgetD.nd rfl (Or.inl rfl) (pe_fld (pe_methE (pv 0) T.clB mH GH hr bH .nil (pa_cons (pv 1) pa_nil)) rfl)) pss_never, ?_⟩
  exact ⟨_, rfl, p, dx, _, rfl, hp, bF_no d (by decide +kernel), _, rfl, p, d, L, x, rfl, B, hx, fun e he => absurd he (by rw [hn]; exact fun z => nomatch z), fun _ => q _ (Same.refl _)⟩
theorem ok_doorBody (F : Fun K "body" "Book.body" sBody f fd) (T : ClsB K mg CB CH) (GH : FnOk P w K mg base (CXE P w) 1 fH dH ["self", "name"] (spHouseX CB CH CN)) (bH : Binds K dH ["self", "name"] []) (mH : Meth K CB "house" fH) : FnOk P w K mg base (CXE P w) 2 f fd ["self", "name", "word"] (spDoor CB CH CN 1) := by
  refine F.okX scBody (fun vs H Q E h => ?_) (fun cdv A outer s H vs Q E hr h => ?_)
  · obtain ⟨p, d, L, x, us, rfl, hu, _⟩ := h
    rw [List.length_cons, List.length_cons, hu]
    rfl
  obtain ⟨p, d, L, x, us, rfl, hul, B, hx, hn, q⟩ := h
  obtain ⟨dx, hp⟩ := B.ob
  refine ⟨_, pss_cons (ps_set (i := 3) scBody.nd rfl (Or.inl rfl) (pe_fld (pe_methE (pv 0) T.clB mH GH hr bH .nil (pa_cons (pv 1) pa_nil)) rfl)) pss_never, ?_⟩
  exact ⟨_, rfl, p, dx, _, rfl, hp, bF_no d (by decide +kernel), _, rfl, p, d, L, x, rfl, B, hx, fun e he => absurd he (by rw [hn]; exact fun z => nomatch z), fun _ => q _ (Same.refl _)⟩
end
end Bk
namespace Bk
open PySem L2 Mg Nm
section
variable {P : Program} {w : World} {K : PySem.W.Frag} {mg : Str → Option Value} {base : Heap} {f fH fN fB CB CH : Addr} {fd dH dN dB : FuncData} {ks : List (Str × Addr × List Str)}
theorem scOwn : FnScope ["self", "name"] ["self", "name"] (defScope sOwn) := ⟨rfl, rfl, rfl, by decide +kernel, rfl, by decide +kernel, by decide +kernel⟩
theorem ok_own (F : Fun K "own_words" "Book.own_words" sOwn f fd) (T : ClsB K mg CB CH) (Tx : Txt mg) (GH : FnOk P w K mg base CX0 1 fH dH ["self", "name"] (spHouse CB CH)) (bH : Binds K dH ["self", "name"] []) (mH : Meth K CB "house" fH) : FnOk P w K mg base CX0 2 f fd ["self", "name"] (spOwn CB CH) := by
  refine F.ok scOwn (fun vs H Q E h => ?_) (fun cdv A outer s H vs Q E hr h => ?_)
  · obtain ⟨p, d, L, x, e, W, rfl, _⟩ := h
    rfl
  obtain ⟨p, d, L, x, e, W, rfl, B, he, hb, q⟩ := h
  obtain ⟨dx, hp⟩ := B.ob
  have E := B.en e (fnd_mem he).1
  refine ⟨_, pss_one (ps_ret (pe_callTy (call_list_dict rfl) rfl Tx.list PyProof.Rows.boot_list (pa_cons (pe_fld (pe_meth (pv 0) T.clB mH GH hr bH .nil pass0 (pa_cons (pv 1) pa_nil)) rfl) pa_nil))), ?_⟩
  refine ⟨_, rfl, p, dx, _, rfl, hp, bF_no d (by decide +kernel), _, rfl, p, d, L, x, e, rfl, B, he, e.at_, CH, e.dx, _, _, rfl, E.ob, T.clH, T.nBd, hF_bd _ _ _, e.ba, _, rfl, Rd.of E.bd, fun l hl => ?_⟩
  rw [hb, kvT_keys]
  exact q l hl
theorem scWords : FnScope ["self", "name", "known", "forebear", "word"] ["self", "name"] (defScope sWords) := ⟨rfl, rfl, rfl, by decide +kernel, rfl, by decide +kernel, by decide +kernel⟩
theorem ok_words (F : Fun K "words" "Book.words" sWords f fd) (T : ClsB K mg CB CH) (Tx : Txt mg) (GH : FnOk P w K mg base CX0 1 fH dH ["self", "name"] (spHouse CB CH)) (bH : Binds K dH ["self", "name"] []) (mH : Meth K CB "house" fH) : FnOk P w K mg base CX0 2 f fd ["self", "name"] (spWords CB CH) := by
  refine F.ok scWords (fun vs H Q E h => ?_) (fun cdv A outer s H vs Q E hr h => ?_)
  · obtain ⟨p, d, L, x, e, rfl, _⟩ := h
    rfl
  obtain ⟨p, d, L, x, e, rfl, B, he, hW, hod, hol, q⟩ := h
  obtain ⟨dx, hp⟩ := B.ob
  have hu := hu_of hr
  have E := B.en e (fnd_mem he).1
  refine ⟨_, pss_cons (ps_set (i := 2) scWords.nd rfl (Or.inl rfl) pe_dnewK)
    (pss_cons (ps_for PassesOwn.never rfl (pi_list (pe_fld (pe_meth (pv 0) T.clB mH GH hr bH .nil pass0 (pa_cons (pv 1) pa_nil)) rfl)) (pg_name (i := 3) scWords.nd rfl (Or.inl rfl))
      (pss_one (ps_thaw (ps_for PassesOwn.never rfl (pi_dict (pe_fld (pe_meth (pv 0) T.clB mH GH hr bH .nil pass0 (pa_cons (pv 3) pa_nil)) rfl)) (pg_name (i := 4) scWords.nd rfl (Or.inl rfl))
        (pss_one (ps_dput hu (pv 2) (pv 4) pe_bl rfl))))))
    (pss_one (ps_ret (pe_callTy (call_list_dict rfl) rfl Tx.list PyProof.Rows.boot_list (pa_cons (pv 2) pa_nil))))), ?_⟩
  intro kd hkd
  have s0 := same_new hkd (.dK [])
  refine ⟨_, rfl, p, dx, _, rfl, s0 _ _ hp, bF_no d (by decide +kernel), _, rfl, p, d, L, x, e, rfl, B.same s0, he, e.at_, CH, e.dx, _, _, rfl, s0 _ _ E.ob, T.clH, T.nOd, hF_od _ _ _, ?_⟩
  refine ⟨e.oa, rfl, ⟨_, SqL.of (s0 _ _ E.od)⟩, for_list (K := K) (a := e.oa) (xs := sVs e.od) (fun i σ H2 => ∃ (v3 v4 : Option V), σ = [some (.ref p), some (.str x), some (.ref kd), v3, v4] ∧ Same H H2 ∧ H2 kd = some (.dK (kvK (wordsOf L (e.od.take i)))) ∧ (wordsOf L (e.od.take i)).length ≤ 100 * i)
    ⟨none, none, rfl, s0, upd_same, Nat.le_refl _⟩ (fun i σ H2 _ ⟨_, _, _, s2, _⟩ => SqL.of (s2 _ _ E.od)) ?_ ?_⟩
  · rintro i y σ H2 hi ⟨v3, v4, rfl, s2, ek, hkl⟩
    obtain ⟨z, hz, rfl⟩ := sVs_get hi
    have hil : i < e.od.length := (List.getElem?_eq_some_iff.mp hz).1
    obtain ⟨a, ha⟩ := hod z (List.mem_of_getElem? hz)
    have A := B.en a (fnd_mem ha).1
    obtain ⟨W, hb, hWl⟩ := hW a (fnd_mem ha).1
    have etk : wordsOf L (e.od.take (i + 1)) = (W.map (·.1)).foldl addW (wordsOf L (e.od.take i)) := by
      unfold wordsOf
      rw [List.take_add_one, hz]
      show ((e.od.take i ++ [z]).map (wdOf L)).foldl _ _ = _
      rw [List.map_append, List.foldl_append]
      show (wdOf L z).foldl addW _ = _
      rw [wdOf_of ha hb]
    rw [etk]
    generalize wordsOf L (e.od.take i) = ks0 at *
    have nka : kd ≠ a.ba := Ne.symm (ne_of_none A.bd hkd)
    refine ⟨_, rfl, p, dx, _, rfl, s2 _ _ hp, bF_no d (by decide +kernel), _, rfl, p, d, L, z, a, rfl, B.same s2, ha, a.at_, CH, a.dx, _, _, rfl, s2 _ _ A.ob, T.clH, T.nBd, hF_bd _ _ _, a.ba, a.bd, rfl, s2 _ _ A.bd, fun ob nf => ?_⟩
    refine for_dict (d := a.ba) (o := ob) (kvs := a.bd) (fun j σ H3 => ∃ v4 : Option V, σ = [some (.ref p), some (.str x), some (.ref kd), some (.str z), v4] ∧ (∀ b o, H b = some o → b ≠ a.ba → H3 b = some o) ∧ H3 a.ba = some (.frz ob (.dK a.bd)) ∧ H3 kd = some (.dK (kvK ((W.map (·.1)).take j |>.foldl addW ks0))))
      ⟨v4, rfl, fun b o hb hne => by rw [upd_ne hne]; exact s2 _ _ hb, upd_same, by rw [upd_ne nka]; exact ek⟩ (fun j σ H3 _ ⟨_, _, _, h, _⟩ => h) ?_ ?_
    · rintro j kv σ H3 hj ⟨v4, rfl, k3, ef, ek3⟩
      rw [hb] at hj
      unfold kvT at hj
      rw [List.getElem?_map] at hj
      cases ej : W[j]? with
      | none => rw [ej] at hj; cases hj
      | some pr =>
        rw [ej] at hj
        obtain rfl : ((Sum.inr pr.1 : Key), V.ref pr.2) = kv := Option.some.inj hj
        have hjl : j < W.length := (List.getElem?_eq_some_iff.mp ej).1
        have hlen := addAll_len ((W.map (·.1)).take j) ks0
        rw [List.length_take] at hlen
        refine ⟨_, rfl, _, rfl, kd, _, rfl, DPut.k (k := (Sum.inr pr.1 : Key)) ek3 (by rw [kvK_len, sizeLine_eq]; omega), ?_⟩
        refine ⟨_, rfl, fun b o hb hne => ?_, ?_, ?_⟩
        · rw [upd_ne (ne_of_none hb hkd)]; exact k3 b o hb hne
        · rw [upd_ne (Ne.symm nka)]; exact ef
        · rw [upd_same, kvK_put]
          have : (W.map (·.1)).take (j + 1) = (W.map (·.1)).take j ++ [pr.1] := by
            rw [List.take_add_one, List.getElem?_map, ej]
            rfl
          rw [this, List.foldl_append]
          rfl
    · rintro σ H3 ⟨v4, rfl, k3, ef, ek3⟩
      refine ⟨a.ba, ob, a.bd, nf, ef, ?_⟩
      rw [hb, kvT_len, List.take_of_length_le (by rw [List.length_map]; exact Nat.le_refl _)] at ek3
      have hlen := addAll_len (W.map (·.1)) ks0
      rw [List.length_map] at hlen
      refine ⟨_, _, rfl, fun b o hb => ?_, by rw [upd_ne nka]; exact ek3, by omega⟩
      by_cases hne : b = a.ba
      · subst hne
        rw [A.bd] at hb
        cases hb
        exact upd_same
      · rw [upd_ne hne]; exact k3 b o hb hne
  · rintro σ H2 ⟨v3, v4, rfl, s2, ek, hkl⟩
    rw [sVs_len, List.take_of_length_le (Nat.le_refl _)] at ek
    refine ⟨_, rfl, kd, _, rfl, Rd.of ek, fun l hl => ?_⟩
    rw [kvK_keys]
    exact q l _ (s2.free hl) (s2.trans (same_new hl _)) upd_same
end
end Bk
namespace Bk
open PySem L2 Mg Nm Rk
def spAskN (CA CT CB CH CU : Addr) : Sp := fun vs H Q E => ∃ (q dx p d ra tq : Addr) (L : List Ent) (rs : List Str) (y : Str) (n : Int), vs = [.ref q, .str y, .int 0, .int n] ∧ H q = some (.ins CA dx (aF p ra tq)) ∧ H ra = some (.lst (sVs rs)) ∧ BookAt CB CH H p d L ∧ rs.length ≤ 1000 ∧ (∀ z ∈ rs, ∃ e, fnd L z = some e ∧ valV e.bd (Sum.inr y : Key) = none) ∧ E (.ref CU) none H
def spAnsX (CB CH CN CM CC CU : Addr) : Sp := fun vs H Q E => ∃ (p d : Addr) (L : List Ent) (x y : Str) (n c : V), vs = [.ref p, .str x, .str y, n, c] ∧ BookAt CB CH H p d L ∧ ShowT x ∧ PG n ∧ PG c ∧ (fnd L x = none → E (.ref CN) none H) ∧ ∀ e, fnd L x = some e → (whV (-big) big n = false → ∀ H', Same H H' → E (.ref CM) none H') ∧ (whV (-big) big n = true → (whV 0 40 c = false → ∀ H', Same H H' → E (.ref CC) none H') ∧ (whV 0 40 c = true → e.od.length ≤ 1000 ∧ (∀ z ∈ e.od, ∃ e', fnd L z = some e' ∧ valV e'.bd (Sum.inr y : Key) = none) ∧ ∀ H', Same H H' → E (.ref CU) none H'))
section
variable {P : Program} {w : World} {K : PySem.W.Frag} {mg : Str → Option Value} {base : Heap} {f fH fB fO fC fI fN fQ CA CT CB CH CN CM CC CU T0 : Addr} {fd dH dB dO dC dI dN dQ : FuncData} {bU : List Value}
theorem ok_doorElders (F : Fun K "elders" "Book.elders" sElders f fd) (T : ClsB K mg CB CH) (Tx : Txt mg) (GH : FnOk P w K mg base (CXE P w) 1 fH dH ["self", "name"] (spHouseX CB CH CN)) (bH : Binds K dH ["self", "name"] []) (mH : Meth K CB "house" fH) : FnOk P w K mg base (CXE P w) 2 f fd ["self", "name"] (spDoor CB CH CN 0) := by
  refine F.okX scElders (fun vs H Q E h => ?_) (fun cdv A outer s H vs Q E hr h => ?_)
  · obtain ⟨p, d, L, x, us, rfl, hu, _⟩ := h
    rw [List.length_cons, List.length_cons, hu]
    rfl
  obtain ⟨p, d, L, x, us, rfl, hul, B, hx, hn, q⟩ := h
  obtain rfl := List.eq_nil_of_length_eq_zero hul
  obtain ⟨dx, hp⟩ := B.ob
  refine ⟨_, pss_one (ps_ret (pe_callTy call_list_of rfl Tx.list PyProof.Rows.boot_list (pa_cons (pe_fld (pe_methE (pv 0) T.clB mH GH hr bH .nil (pa_cons (pv 1) pa_nil)) rfl) pa_nil))), ?_⟩
  exact ⟨_, rfl, p, dx, _, rfl, hp, bF_no d (by decide +kernel), _, rfl, p, d, L, x, rfl, B, hx, fun e he => absurd he (by rw [hn]; exact fun z => nomatch z), fun _ => q _ (Same.refl _)⟩
theorem ok_doorOwn (F : Fun K "own_words" "Book.own_words" sOwn f fd) (T : ClsB K mg CB CH) (Tx : Txt mg) (GH : FnOk P w K mg base (CXE P w) 1 fH dH ["self", "name"] (spHouseX CB CH CN)) (bH : Binds K dH ["self", "name"] []) (mH : Meth K CB "house" fH) : FnOk P w K mg base (CXE P w) 2 f fd ["self", "name"] (spDoor CB CH CN 0) := by
  refine F.okX scOwn (fun vs H Q E h => ?_) (fun cdv A outer s H vs Q E hr h => ?_)
  · obtain ⟨p, d, L, x, us, rfl, hu, _⟩ := h
    rw [List.length_cons, List.length_cons, hu]
    rfl
  obtain ⟨p, d, L, x, us, rfl, hul, B, hx, hn, q⟩ := h
  obtain rfl := List.eq_nil_of_length_eq_zero hul
  obtain ⟨dx, hp⟩ := B.ob
  refine ⟨_, pss_one (ps_ret (pe_callTy call_list_of rfl Tx.list PyProof.Rows.boot_list (pa_cons (pe_fld (pe_methE (pv 0) T.clB mH GH hr bH .nil (pa_cons (pv 1) pa_nil)) rfl) pa_nil))), ?_⟩
  exact ⟨_, rfl, p, dx, _, rfl, hp, bF_no d (by decide +kernel), _, rfl, p, d, L, x, rfl, B, hx, fun e he => absurd he (by rw [hn]; exact fun z => nomatch z), fun _ => q _ (Same.refl _)⟩
theorem ok_doorWords (F : Fun K "words" "Book.words" sWords f fd) (T : ClsB K mg CB CH) (GH : FnOk P w K mg base (CXE P w) 1 fH dH ["self", "name"] (spHouseX CB CH CN)) (bH : Binds K dH ["self", "name"] []) (mH : Meth K CB "house" fH) : FnOk P w K mg base (CXE P w) 2 f fd ["self", "name"] (spDoor CB CH CN 0) := by
  refine F.okX scWords (fun vs H Q E h => ?_) (fun cdv A outer s H vs Q E hr h => ?_)
  · obtain ⟨p, d, L, x, us, rfl, hu, _⟩ := h
    rw [List.length_cons, List.length_cons, hu]
    rfl
  obtain ⟨p, d, L, x, us, rfl, hul, B, hx, hn, q⟩ := h
  obtain rfl := List.eq_nil_of_length_eq_zero hul
  obtain ⟨dx, hp⟩ := B.ob
  refine ⟨_, pss_cons (ps_set (i := 2) scWords.nd rfl (Or.inl rfl) pe_dnewK)
    (pss_cons (ps_for (Wx.passesOwn own_cx) rfl (pi_list (pe_fld (pe_methE (pv 0) T.clB mH GH hr bH .nil (pa_cons (pv 1) pa_nil)) rfl)) (pg_name (i := 3) scWords.nd rfl (Or.inl rfl)) pss_never) pss_never), ?_⟩
  intro kd hkd
  have s1 := same_new hkd (.dK [])
  exact ⟨_, rfl, p, dx, _, rfl, s1 _ _ hp, bF_no d (by decide +kernel), _, rfl, p, d, L, x, rfl, B.same s1, hx, fun e he => absurd he (by rw [hn]; exact fun z => nomatch z), fun _ => q _ s1⟩
theorem scLeft : FnScope ["book", "name", "ladders", "entries", "house", "word", "ladder", "starts", "rows"] ["book", "name"] (defScope sLeft) := ⟨rfl, rfl, rfl, by decide +kernel, rfl, by decide +kernel, by decide +kernel⟩
theorem ok_doorLeft (F : Fun K "left_out" "left_out" sLeft f fd) (T : ClsB K mg CB CH) (GO : FnOk P w K mg base (CXE P w) 2 fO dO ["self", "name"] (spOrderX CB CH CN)) (bO : Binds K dO ["self", "name"] []) (mO : Meth K CB "order" fO) : FnOk P w K mg base (CXE P w) 3 f fd ["book", "name"] (spDoor CB CH CN 0) := by
  refine F.okX scLeft (fun vs H Q E h => ?_) (fun cdv A outer s H vs Q E hr h => ?_)
  · obtain ⟨p, d, L, x, us, rfl, hu, _⟩ := h
    rw [List.length_cons, List.length_cons, hu]
    rfl
  obtain ⟨p, d, L, x, us, rfl, hul, B, hx, hn, q⟩ := h
  obtain rfl := List.eq_nil_of_length_eq_zero hul
  obtain ⟨dx, hp⟩ := B.ob
  refine ⟨_, pss_cons (ps_set (i := 2) scLeft.nd rfl (Or.inr rfl) pe_dnewK)
    (pss_cons (ps_set (i := 3) scLeft.nd rfl (Or.inl rfl) (pe_lst pa_nil))
    (pss_cons (ps_for (Wx.passesOwn own_cx) rfl (pi_list (pe_methE (pv 0) T.clB mO GO hr bO .nil (pa_cons (pv 1) pa_nil))) (pg_name (i := 4) scLeft.nd rfl (Or.inl rfl)) pss_never) pss_never)), ?_⟩
  intro kd hkd
  have s1 := same_new hkd (.dK [])
  refine ⟨by show 0 ≤ sizeLine; exact Nat.zero_le _, fun l hl => ?_⟩
  have s2 := s1.trans (same_new hl (.lst []))
  exact ⟨_, rfl, p, dx, _, rfl, s2 _ _ hp, bF_no d (by decide +kernel), _, rfl, p, d, L, x, rfl, B.same s2, hx, fun e he => absurd he (by rw [hn]; exact fun z => nomatch z), fun _ => q _ s2⟩
theorem scAskedN : FnScope ["self", "word", "place", "number", "index", "body"] ["self", "word", "place", "number"] (defScope sAsked) := ⟨rfl, rfl, rfl, by decide +kernel, rfl, by decide +kernel, by decide +kernel⟩
theorem ok_askN (F : Fun K "asked" "Asking.asked" sAsked f fd) (T : ClsA K mg CA) (TB : ClsB K mg CB CH) (Tx : Txt mg) (XU : ExK K mg "Unanswered" CU bU)
    (GB : FnOk P w K mg base CX0 2 fB dB ["self", "name", "word"] (spBody CB CH)) (bB : Binds K dB ["self", "name", "word"] []) (mB : Meth K CB "body" fB) : FnOk P w K mg base (CXE P w) 3 f fd ["self", "word", "place", "number"] (spAskN CA CT CB CH CU) := by
  refine F.okX scAskedN (fun vs H Q E h => ?_) (fun cdv A outer s H vs Q E hr h => ?_)
  · obtain ⟨q, dx, p, d, ra, tq, L, rs, y, n, rfl, _⟩ := h
    rfl
  obtain ⟨q, dx, p, d, ra, tq, L, rs, y, n, rfl, hq, hra, B, hrl, hno, g⟩ := h
  obtain ⟨bx, hp⟩ := B.ob
  refine ⟨_, pss_cons (ps_for (Wx.passesOwn own_cx) rfl (pi_range2 rfl Tx.range (pa_cons (pv 2) (pa_cons (pe_callB call_len_seq rfl Tx.len PySem.boot_len (pa_cons (pe_fld (pv 0) rfl) pa_nil)) pa_nil))) (pg_name (i := 4) scAskedN.nd rfl (Or.inl rfl))
      (pss_cons (ps_set (i := 5) scAskedN.nd rfl (Or.inl rfl) (pe_meth (pe_fld (pv 0) rfl) TB.clB mB GB hr bB .nil pass0 (pa_cons (pe_ix ix_list (pe_fld (pv 0) rfl) (pv 4) (fun _ _ => rfl)) (pa_cons (pv 1) pa_nil))))
      (pss_one (ps_if (pt_cmp (pc_notN (pv 5))) pss_never pss_nil))))
    (pss_one (ps_raise rfl XU.ex XU.ba XU.ini rfl XU.at_ (pa_cons pe_str pa_nil))), ?_⟩
  have hlen : ((sVs rs).length : Int) = (rs.length : Int) := by rw [sVs_len]
  refine ⟨_, rfl, _, rfl, q, CA, dx, _, _, rfl, hq, T.cl, T.nRow, aF_row _ _ _, ra, _, rfl, .inl (SqL.of hra), _, _, rfl, ⟨by decide, by decide, by omega, by omega⟩, for_range (n := (((sVs rs).length : Int) - 0).toNat) (fun i σ H2 => ∃ v4 v5 : Option V, σ = [some (.ref q), some (.str y), some (.int 0), some (.int n), v4, v5] ∧ H2 = H) ⟨none, none, rfl, rfl⟩ ?_ ?_⟩
  · rintro i σ H2 hi ⟨v4, v5, rfl, rfl⟩
    have hil : i < rs.length := by omega
    have e0 : (0 : Int) + (i : Int) = (i : Int) := by omega
    rw [e0]
    have hy := List.getElem_mem hil
    have aty : atI (sVs rs) (i : Int) = some (.str rs[i]) := atI_nat (sVs_at (List.getElem?_eq_getElem hil))
    generalize rs[i] = z at *
    obtain ⟨e, he, hv⟩ := hno z hy
    refine ⟨_, rfl, q, CA, dx, _, _, rfl, hq, T.cl, T.nBook, aF_book _ _ _, p, bx, _, rfl, hp, bF_no d (by decide +kernel), ?_⟩
    refine ⟨_, rfl, q, CA, dx, _, _, rfl, hq, T.cl, T.nRow, aF_row _ _ _, _, rfl, ra, _, _, _, rfl, rfl, SqL.of hra, aty, _, rfl, ?_⟩
    refine ⟨p, d, L, z, y, e, rfl, B, he, .inl ⟨hv, ?_⟩⟩
    exact ⟨_, rfl, _, rfl, iteF ⟨_, _, rfl, rfl⟩⟩
  · rintro σ H2 ⟨v4, v5, rfl, rfl⟩
    exact ⟨by show 1 ≤ sizeLine; decide, g⟩
theorem scAnsX : FnScope ["book", "name", "word", "number", "count", "row", "asking"] ["book", "name", "word", "number", "count"] (defScope sAnswered) := ⟨rfl, rfl, rfl, by decide +kernel, rfl, by decide +kernel, by decide +kernel⟩
theorem fund_okX {x qual : Str} {st : Stmt} {f T : Addr} {fd : FuncData} {N ps : List Str} {k : Nat} {sp : Sp} (F : FunD K x qual st f fd T) (S : FnScope N ps (defScope st)) (len : ∀ vs H Q E, sp vs H Q E → vs.length = ps.length)
    (hbody : ∀ (cdv : Value) (A : Around) (outer : List Env) (s : Shared) (H : Hp) (vs : List V) (Q : VK) (E : XK), Room k (A.deeper (PyProof.Rows.envOfC qual (defScope st) s.heap.objs.size f cdv)) → sp vs H Q E →
      ∃ t, PSs ((cxOf (CXE P w) P w K mg base N qual (defScope st) f cdv A outer s H E).thrown fun _ => E) (defBody st) t ∧ t { nx := fun _ H' => Q .non H', rt := Q } (start N vs) H) :
    FnOk P w K mg base (CXE P w) (k + 1) f fd ps sp := by
  obtain ⟨oc, od, kV, doc, pm, an, cdv, ct, osl, rfl, lk, hcd⟩ := F.ex
  refine fn_of lk hcd S len fun A outer s H vs Q E hr hsp => ?_
  obtain ⟨t, h, q⟩ := hbody cdv A outer s H vs Q E hr hsp
  refine ⟨t, fun pins s' σ' H' D I hw => ?_, q⟩
  exact wpAny_mono (h pins s' σ' H' D (I.wish _) hw) (fun _ _ z => z.unwish) fun e s2 z => z.leaves
theorem ok_ansX (F : FunD K "answered" "answered" sAnswered f fd T0) (T : ClsA K mg CA) (TT : ClsT K mg CT) (TB : ClsB K mg CB CH) (GO : FnOk P w K mg base (CXE P w) 2 fO dO ["self", "name"] (spOrderX CB CH CN)) (bO : Binds K dO ["self", "name"] []) (mO : Meth K CB "order" fO)
    (GC : FnOk P w K mg base (CXE P w) 3 fC dC ["number", "count"] (spCheckX CM CC)) (kC : PySem.W.keepIn K (.ref fC) = true) (bC : Binds K dC ["number", "count"] []) (mC : mg "check_question" = some (.ref fC))
    (GI : FnOk P w K mg base CX0 1 fI dI ["self", "book", "row", "tally"] (spInitA CA)) (bI : Binds K dI ["self", "book", "row", "tally"] []) (MA : Mk K CA fI)
    (GN : FnOk P w K mg base CX0 1 fN dN ["self", "left"] (spInitT CT)) (bN : Binds K dN ["self", "left"] []) (MT : Mk K CT fN)
    (GQ : FnOk P w K mg base (CXE P w) 3 fQ dQ ["self", "word", "place", "number"] (spAskN CA CT CB CH CU)) (bQ : Binds K dQ ["self", "word", "place", "number"] []) (mQ : Meth K CA "asked" fQ) : FnOk P w K mg base (CXE P w) 4 f fd ["book", "name", "word", "number", "count"] (spAnsX CB CH CN CM CC CU) := by
  refine fund_okX F scAnsX (fun vs H Q E h => ?_) (fun cdv A outer s H vs Q E hr h => ?_)
  · obtain ⟨p, d, L, x, y, n, c, rfl, _⟩ := h
    rfl
  obtain ⟨p, d, L, x, y, n, c, rfl, B, hx, hn, hc, q0, q1⟩ := h
  have hr2 := hr.mono (j := 2) (by decide)
  obtain ⟨bx, hp⟩ := B.ob
  refine ⟨_, pss_cons (ps_set (i := 5) scAnsX.nd rfl (Or.inl rfl) (pe_methE (pv 0) TB.clB mO GO hr2 bO .nil (pa_cons (pv 1) pa_nil)))
    (pss_cons (ps_expr (pe_callE GC hr rfl mC kC bC .nil (pa_cons (pv 3) (pa_cons (pv 4) pa_nil))))
    (pss_cons (ps_set (i := 6) scAnsX.nd rfl (Or.inl rfl) (pe_make MA GI hr2 rfl T.mgA bI .nil pass0 (pa_cons (pv 0) (pa_cons (pv 5) (pa_cons (pe_make MT GN hr2 rfl TT.mgT bN .nil pass0 (pa_cons (pv 4) pa_nil)) pa_nil)))))
    (pss_cons (ps_expr (pe_methE (pv 6) T.cl mQ GQ hr bQ .nil (pa_cons (pv 2) (pa_cons pe_int (pa_cons (pv 3) pa_nil)))))
    pss_never))), ?_⟩
  refine ⟨_, rfl, p, bx, _, rfl, hp, bF_no d (by decide +kernel), _, rfl, p, d, L, x, rfl, B, hx, fun e he ra hra => ?_, q0⟩
  obtain ⟨g1, g2⟩ := q1 e he
  have s1 := same_new hra (.lst (sVs e.od))
  have era : (upd H ra (.lst (sVs e.od))) ra = some (.lst (sVs e.od)) := upd_same
  generalize upd H ra (.lst (sVs e.od)) = H1 at *
  refine ⟨_, rfl, _, rfl, n, c, rfl, hn, hc, fun z => g1 z H1 s1, fun z => ⟨fun z2 => (g2 z).1 z2 H1 s1, fun z2 => ?_⟩⟩
  obtain ⟨hol, hno, gU⟩ := (g2 z).2 z2
  obtain ⟨m, rfl⟩ : ∃ m, n = .int m := by
    cases n with
    | int m => exact ⟨m, rfl⟩
    | _ => cases z
  obtain ⟨k, rfl⟩ : ∃ k, c = .int k := by
    cases c with
    | int k => exact ⟨k, rfl⟩
    | _ => cases z2
  refine ⟨_, rfl, _, rfl, _, rfl, fun tq tx nt ntx net => ?_⟩
  have s2 : Same H1 (upd (upd H1 tx (.own tq)) tq (.ins CT tx [])) := fun b o e => by
    rw [upd_ne (ne_of_none e nt), upd_ne (ne_of_none e ntx)]
    exact e
  refine ⟨tq, tx, k, rfl, upd_same, fun sa H2 hsa e1 e2 kp => ⟨rfl, ?_⟩⟩
  have s3 : Same H1 H2 := fun b o e => kp b o (s2 b o e) (ne_of_none e nt)
  intro q qx nq nqx neq
  have s5 : Same H2 (upd (upd H2 qx (.own q)) q (.ins CA qx [])) := fun b o e => by
    rw [upd_ne (ne_of_none e nq), upd_ne (ne_of_none e nqx)]
    exact e
  refine ⟨q, p, ra, tq, qx, rfl, upd_same, fun H3 e3 kp3 => ⟨rfl, ?_⟩⟩
  have s6 : Same H2 H3 := fun b o e => kp3 b o (s5 b o e) (ne_of_none e nq)
  have s7 := s3.trans s6
  have s4 := s1.trans s7
  refine ⟨_, rfl, q, qx, _, rfl, e3, aF_no (by decide +kernel), _, rfl, _, rfl, ?_⟩
  exact ⟨q, qx, p, d, ra, tq, L, e.od, y, m, rfl, e3, s7 _ _ era, B.same s4, hol, hno, gU _ s4⟩
end
end Bk
namespace L2
open PySem PySem.Spec PyProof.Rows PySem.W
def rIsiT (K : PySem.W.Frag) : List V → Hp → VK → Prop := fun xs H Q => ∃ (x C : Addr) (dx : Option Addr) (tp : Addr) (cs : List Addr) (b : Bool), xs = [.ref x, .ref tp] ∧ H tp = some (.tup (cs.map V.ref)) ∧ H x = some (ExO x C dx) ∧ (dx = none ∨ ∃ D fs, dx = some D ∧ H D = some (.xd fs)) ∧ XCls K C ∧ PySem.W.kitAny K (.ref C) (cs.map Value.ref) = some b ∧ Q (.bl b) H
theorem vals_refs : ∀ {cs : List Addr} {us : List Value}, Vals (cs.map V.ref) us → us = cs.map Value.ref
  | [], _, .nil => rfl
  | c :: cs, _, .cons r t => by
    rw [vals_refs t]
    cases r
    rfl
theorem call_isiT {X : Cx} {K : PySem.W.Frag} (hK : X.K = K := by rfl) : CallR X (.builtin "isinstance") (rIsiT K) := by
  subst hK
  intro pins s σ H xs us Q I r h
  obtain ⟨x, C, dx, tp, cs, b, rfl, htp, hx, hd, F, e, q⟩ := h
  obtain ⟨u, w', rfl, ru, rw'⟩ := vals2 r
  cases (show u = Value.ref x from ru)
  cases (show w' = Value.ref tp from rw')
  obtain ⟨oe, vs, g, gc, gd, gf⟩ := exO_at I.hok hx
  have J : ∃ oe odo, InstAt s.heap x oe C odo := by
    rcases hd with rfl | ⟨D, fs, rfl, ed⟩
    · exact ⟨oe, none, ⟨g, gc, by unfold notCls; rw [gf], by rw [gd]; exact True.intro⟩⟩
    · obtain ⟨mA, n, r⟩ := (show ObjOk X.prog X.w H s.heap D (.xd fs) from I.hok D _ ed)
      obtain ⟨od, ho, hl⟩ := lookIn_ns n
      exact ⟨oe, some od, ⟨g, gc, by unfold notCls; rw [gf], by rw [gd]; exact ho⟩⟩
  obtain ⟨its, rv, ht, hz⟩ := I.tuple (SqT.of htp)
  have hi := vals_refs rv
  subst hi
  obtain ⟨o, ho, hc, n, hdt⟩ := ht
  have e' : s.heap.get? tp = some { cls := .type "tuple", dict := o.dict, data := .seq (cs.map Value.ref).toArray n, slots := o.slots } := by
    rw [ho]
    obtain ⟨oc, od, oda, osl⟩ := o
    simp only at hc hdt
    subst hc hdt
    rfl
  exact PySem.W.kia_tup (kitx_exc F) I.kIn J e' e (by intro z; cases z) fun tk => ⟨.bl b, H, I.tok _, rfl, q⟩
end L2
namespace Bk
open PySem L2 Mg Nm Rk
theorem boot_vErr : bootBuiltins "ValueError" = some (.type "ValueError") := by decide +kernel
def oneT (b : Bool) (x : Str) : List Str := if b = true then [x] else []
def toldQ (bT bY bN bM bC bU : Bool) : List Str := oneT bT "text" ++ (oneT bY "body" ++ (oneT bN "none" ++ (oneT bM "number" ++ (oneT bC "count" ++ (oneT bU "unanswered")))))
structure RefQ (K : PySem.W.Frag) (CT CY CN CM CC CU C : Addr) (os : List Addr) (bT bY bN bM bC bU : Bool) : Prop where
  x : XCls K C
  kT : PySem.W.kitOne K (.ref C) (.ref CT) = some bT
  kY : PySem.W.kitOne K (.ref C) (.ref CY) = some bY
  kN : PySem.W.kitOne K (.ref C) (.ref CN) = some bN
  kM : PySem.W.kitOne K (.ref C) (.ref CM) = some bM
  kC : PySem.W.kitOne K (.ref C) (.ref CC) = some bC
  kU : PySem.W.kitOne K (.ref C) (.ref CU) = some bU
  kO : PySem.W.kitAny K (.ref C) (os.map Value.ref) = some false
  kV : PySem.W.kitOne K (.ref C) (.type "ValueError") = some true
def spRefusal (K : PySem.W.Frag) (CT CY CN CM CC CU : Addr) (os : List Addr) : Sp := fun vs H Q _ => ∃ (x C : Addr) (dx : Option Addr) (bT bY bN bM bC bU : Bool), vs = [.ref x] ∧ H x = some (ExO x C dx) ∧ (dx = none ∨ ∃ D fs, dx = some D ∧ H D = some (.xd fs)) ∧ RefQ K CT CY CN CM CC CU C os bT bY bN bM bC bU ∧
  ∀ p H', H p = none → Same H H' → H' p = some (.lst (sVs (toldQ bT bY bN bM bC bU))) → Q (.ref p) H'
def ToldG (H : Hp) (x : Addr) (Q : VK) (n : Nat) (rest : List Str) (tt : TS) : Prop := ∀ (p : Addr) (H' : Hp) (l : List Str), H p = none → l.length + n ≤ 20 → Same H H' → H' p = some (.lst (sVs l)) → (∀ H'', Same H H'' → H'' p = some (.lst (sVs (l ++ rest))) → Q (.ref p) H'') →
  tt { nx := fun _ H' => Q .non H', rt := Q } [some (.ref x), some (.ref p)] H'
theorem told_same {H H' : Hp} {p : Addr} (s : Same H H') (hp : H p = none) (o : HO) : Same H (upd H' p o) := fun b u e => by rw [upd_ne (ne_of_none e hp)]; exact s _ _ e
section
variable {P : Program} {w : World} {K : PySem.W.Frag} {mg : Str → Option Value} {base : Heap} {f : Addr} {fd : FuncData} {CT CY CN CM CC CU CS CO CR CD CF : Addr}
theorem scRefusal : FnScope ["_law_error", "_law_told"] ["_law_error"] (defScope sRefusal) := ⟨rfl, rfl, rfl, by decide +kernel, rfl, by decide +kernel, by decide +kernel⟩
theorem ok_refusal (F : Fun K "_law_refusal" "_law_refusal" sRefusal f fd) (T : Txt mg) (mT : mg "BadText" = some (.ref CT)) (mY : mg "BadBody" = some (.ref CY)) (mN : mg "Unfounded" = some (.ref CN)) (mM : mg "BadNumber" = some (.ref CM)) (mC : mg "BadCount" = some (.ref CC)) (mU : mg "Unanswered" = some (.ref CU)) (mS : mg "Spent" = some (.ref CS)) (mO : mg "AtOdds" = some (.ref CO)) (mR : mg "BadSource" = some (.ref CR)) (mD : mg "Doubled" = some (.ref CD)) (mF : mg "Founded" = some (.ref CF)) :
    FnOkN P w K mg base 1 f fd ["_law_error"] (spRefusal K CT CY CN CM CC CU [CS, CO, CR, CD, CF]) := by
  refine F.okN scRefusal (fun vs H Q E h => ?_) (fun cdv A outer s H vs Q E hr h => ?_)
  · obtain ⟨x, C, dx, bT, bY, bN, bM, bC, bU, rfl, _⟩ := h
    rfl
  obtain ⟨x, C, dx, bT, bY, bN, bM, bC, bU, rfl, hx, hd, R, q⟩ := h
  have hd' : ∀ {H' : Hp}, Same H H' → (dx = none ∨ ∃ D fs, dx = some D ∧ H' D = some (.xd fs)) := fun {H'} s => by
    rcases hd with e | ⟨D, fs, e, ed⟩
    · exact .inl e
    · exact .inr ⟨D, fs, e, s _ _ ed⟩
  obtain ⟨t8, h8, g8⟩ : ∃ t, PSs (cxOf CX0 P w K mg base ["_law_error", "_law_told"] "_law_refusal" (defScope sRefusal) f cdv A outer s H E).stirred.nox ((defBody sRefusal).drop 8) t ∧ ToldG H x Q 1 [] t :=
    ⟨_, pss_one (ps_ret (pv 1)), fun p H' l hp hl s e k => ⟨_, rfl, k H' s (by rw [List.append_nil]; exact e)⟩⟩
  obtain ⟨t7, h7, g7⟩ : ∃ t, PSs (cxOf CX0 P w K mg base ["_law_error", "_law_told"] "_law_refusal" (defScope sRefusal) f cdv A outer s H E).stirred.nox ((defBody sRefusal).drop 7) t ∧ ToldG H x Q 2 [] t := by
    refine ⟨_, pss_cons (ps_if (PW.pt (pw_or (pt_val (pe_callB (call_isiT (K := K)) rfl T.isi PyProof.Rows.boot_isinstance (pa_cons (pv 0) (pa_cons (pe_tup (pa_cons (pe_glob (v := .ref CS) rfl mS rfl) (pa_cons (pe_glob (v := .ref CO) rfl mO rfl) (pa_cons (pe_glob (v := .ref CR) rfl mR rfl) (pa_cons (pe_glob (v := .ref CD) rfl mD rfl) (pa_cons (pe_glob (v := .ref CF) rfl mF rfl) pa_nil)))))) pa_nil))))
      (pw_or1 (pt_not (pt_val (pe_callB (call_isiB (K := K)) rfl T.isi PyProof.Rows.boot_isinstance (pa_cons (pv 0) (pa_cons (pe_bltn (v := .ty "ValueError") rfl T.vErr boot_vErr rfl) pa_nil)))))))) pss_never pss_nil) h8, fun p H' l hp hl s e k => ?_⟩
    refine ⟨_, rfl, by rw [sizeLine_eq]; show 5 ≤ _; decide, fun tp htp => ?_⟩
    have s2 := same_new htp (.tup [V.ref CS, .ref CO, .ref CR, .ref CD, .ref CF])
    have sA := s.trans s2
    refine ⟨x, C, dx, tp, [CS, CO, CR, CD, CF], false, rfl, upd_same, sA _ _ hx, hd' sA, R.x, R.kO, _, rfl, iteF ?_⟩
    refine ⟨_, rfl, x, C, dx, .type "ValueError", _, true, rfl, rfl, sA _ _ hx, hd' sA, R.x, R.kV, _, rfl, iteF ?_⟩
    exact g8 p _ l hp (by omega) sA (s2 _ _ e) k
  obtain ⟨t6, h6, g6⟩ : ∃ t, PSs (cxOf CX0 P w K mg base ["_law_error", "_law_told"] "_law_refusal" (defScope sRefusal) f cdv A outer s H E).stirred.nox ((defBody sRefusal).drop 6) t ∧ ToldG H x Q 3 (oneT bU "unanswered") t := by
    refine ⟨_, pss_cons (ps_if (pt_val (pe_callB (call_isiB (K := K)) rfl T.isi PyProof.Rows.boot_isinstance (pa_cons (pv 0) (pa_cons (pe_glob (v := .ref CU) rfl mU rfl) pa_nil)))) (pss_one (ps_expr (pe_bm PySem.F.plainAttrs_list PySem.F.slot_list_append PySem.F.type_list_append mt_append (pv 1) (pa_cons pe_str pa_nil)))) pss_nil) h7, fun p H' l hp hl s e k => ?_⟩
    have kk := R.kU
    refine ⟨_, rfl, x, C, dx, .ref CU, _, bU, rfl, rfl, s _ _ hx, hd' s, R.x, kk, _, rfl, ?_⟩
    cases bU with
    | true =>
      refine iteT ⟨_, rfl, .inl ⟨rfl, _, SqL.of e⟩, p, _, _, rfl, rfl, e, by rw [sVs_len, sizeLine_eq]; omega, ?_⟩
      exact g7 p _ (l ++ (["unanswered"] : List Str)) hp (by rw [List.length_append, List.length_singleton]; omega) (told_same s hp _) (by rw [upd_same]; unfold sVs; rw [List.map_append]; rfl) (fun H'' s' e' => k H'' s' (by rw [List.append_assoc] at e'; exact e'))
    | false => exact iteF (g7 p H' l hp (by omega) s e k)
  obtain ⟨t5, h5, g5⟩ : ∃ t, PSs (cxOf CX0 P w K mg base ["_law_error", "_law_told"] "_law_refusal" (defScope sRefusal) f cdv A outer s H E).stirred.nox ((defBody sRefusal).drop 5) t ∧ ToldG H x Q 4 (oneT bC "count" ++ (oneT bU "unanswered")) t := by
    refine ⟨_, pss_cons (ps_if (pt_val (pe_callB (call_isiB (K := K)) rfl T.isi PyProof.Rows.boot_isinstance (pa_cons (pv 0) (pa_cons (pe_glob (v := .ref CC) rfl mC rfl) pa_nil)))) (pss_one (ps_expr (pe_bm PySem.F.plainAttrs_list PySem.F.slot_list_append PySem.F.type_list_append mt_append (pv 1) (pa_cons pe_str pa_nil)))) pss_nil) h6, fun p H' l hp hl s e k => ?_⟩
    have kk := R.kC
    refine ⟨_, rfl, x, C, dx, .ref CC, _, bC, rfl, rfl, s _ _ hx, hd' s, R.x, kk, _, rfl, ?_⟩
    cases bC with
    | true =>
      refine iteT ⟨_, rfl, .inl ⟨rfl, _, SqL.of e⟩, p, _, _, rfl, rfl, e, by rw [sVs_len, sizeLine_eq]; omega, ?_⟩
      exact g6 p _ (l ++ (["count"] : List Str)) hp (by rw [List.length_append, List.length_singleton]; omega) (told_same s hp _) (by rw [upd_same]; unfold sVs; rw [List.map_append]; rfl) (fun H'' s' e' => k H'' s' (by rw [List.append_assoc] at e'; exact e'))
    | false => exact iteF (g6 p H' l hp (by omega) s e k)
  obtain ⟨t4, h4, g4⟩ : ∃ t, PSs (cxOf CX0 P w K mg base ["_law_error", "_law_told"] "_law_refusal" (defScope sRefusal) f cdv A outer s H E).stirred.nox ((defBody sRefusal).drop 4) t ∧ ToldG H x Q 5 (oneT bM "number" ++ (oneT bC "count" ++ (oneT bU "unanswered"))) t := by
    refine ⟨_, pss_cons (ps_if (pt_val (pe_callB (call_isiB (K := K)) rfl T.isi PyProof.Rows.boot_isinstance (pa_cons (pv 0) (pa_cons (pe_glob (v := .ref CM) rfl mM rfl) pa_nil)))) (pss_one (ps_expr (pe_bm PySem.F.plainAttrs_list PySem.F.slot_list_append PySem.F.type_list_append mt_append (pv 1) (pa_cons pe_str pa_nil)))) pss_nil) h5, fun p H' l hp hl s e k => ?_⟩
    have kk := R.kM
    refine ⟨_, rfl, x, C, dx, .ref CM, _, bM, rfl, rfl, s _ _ hx, hd' s, R.x, kk, _, rfl, ?_⟩
    cases bM with
    | true =>
      refine iteT ⟨_, rfl, .inl ⟨rfl, _, SqL.of e⟩, p, _, _, rfl, rfl, e, by rw [sVs_len, sizeLine_eq]; omega, ?_⟩
      exact g5 p _ (l ++ (["number"] : List Str)) hp (by rw [List.length_append, List.length_singleton]; omega) (told_same s hp _) (by rw [upd_same]; unfold sVs; rw [List.map_append]; rfl) (fun H'' s' e' => k H'' s' (by rw [List.append_assoc] at e'; exact e'))
    | false => exact iteF (g5 p H' l hp (by omega) s e k)
  obtain ⟨t3, h3, g3⟩ : ∃ t, PSs (cxOf CX0 P w K mg base ["_law_error", "_law_told"] "_law_refusal" (defScope sRefusal) f cdv A outer s H E).stirred.nox ((defBody sRefusal).drop 3) t ∧ ToldG H x Q 6 (oneT bN "none" ++ (oneT bM "number" ++ (oneT bC "count" ++ (oneT bU "unanswered")))) t := by
    refine ⟨_, pss_cons (ps_if (pt_val (pe_callB (call_isiB (K := K)) rfl T.isi PyProof.Rows.boot_isinstance (pa_cons (pv 0) (pa_cons (pe_glob (v := .ref CN) rfl mN rfl) pa_nil)))) (pss_one (ps_expr (pe_bm PySem.F.plainAttrs_list PySem.F.slot_list_append PySem.F.type_list_append mt_append (pv 1) (pa_cons pe_str pa_nil)))) pss_nil) h4, fun p H' l hp hl s e k => ?_⟩
    have kk := R.kN
    refine ⟨_, rfl, x, C, dx, .ref CN, _, bN, rfl, rfl, s _ _ hx, hd' s, R.x, kk, _, rfl, ?_⟩
    cases bN with
    | true =>
      refine iteT ⟨_, rfl, .inl ⟨rfl, _, SqL.of e⟩, p, _, _, rfl, rfl, e, by rw [sVs_len, sizeLine_eq]; omega, ?_⟩
      exact g4 p _ (l ++ (["none"] : List Str)) hp (by rw [List.length_append, List.length_singleton]; omega) (told_same s hp _) (by rw [upd_same]; unfold sVs; rw [List.map_append]; rfl) (fun H'' s' e' => k H'' s' (by rw [List.append_assoc] at e'; exact e'))
    | false => exact iteF (g4 p H' l hp (by omega) s e k)
  obtain ⟨t2, h2, g2⟩ : ∃ t, PSs (cxOf CX0 P w K mg base ["_law_error", "_law_told"] "_law_refusal" (defScope sRefusal) f cdv A outer s H E).stirred.nox ((defBody sRefusal).drop 2) t ∧ ToldG H x Q 7 (oneT bY "body" ++ (oneT bN "none" ++ (oneT bM "number" ++ (oneT bC "count" ++ (oneT bU "unanswered"))))) t := by
    refine ⟨_, pss_cons (ps_if (pt_val (pe_callB (call_isiB (K := K)) rfl T.isi PyProof.Rows.boot_isinstance (pa_cons (pv 0) (pa_cons (pe_glob (v := .ref CY) rfl mY rfl) pa_nil)))) (pss_one (ps_expr (pe_bm PySem.F.plainAttrs_list PySem.F.slot_list_append PySem.F.type_list_append mt_append (pv 1) (pa_cons pe_str pa_nil)))) pss_nil) h3, fun p H' l hp hl s e k => ?_⟩
    have kk := R.kY
    refine ⟨_, rfl, x, C, dx, .ref CY, _, bY, rfl, rfl, s _ _ hx, hd' s, R.x, kk, _, rfl, ?_⟩
    cases bY with
    | true =>
      refine iteT ⟨_, rfl, .inl ⟨rfl, _, SqL.of e⟩, p, _, _, rfl, rfl, e, by rw [sVs_len, sizeLine_eq]; omega, ?_⟩
      exact g3 p _ (l ++ (["body"] : List Str)) hp (by rw [List.length_append, List.length_singleton]; omega) (told_same s hp _) (by rw [upd_same]; unfold sVs; rw [List.map_append]; rfl) (fun H'' s' e' => k H'' s' (by rw [List.append_assoc] at e'; exact e'))
    | false => exact iteF (g3 p H' l hp (by omega) s e k)
  obtain ⟨t1, h1, g1⟩ : ∃ t, PSs (cxOf CX0 P w K mg base ["_law_error", "_law_told"] "_law_refusal" (defScope sRefusal) f cdv A outer s H E).stirred.nox ((defBody sRefusal).drop 1) t ∧ ToldG H x Q 8 (oneT bT "text" ++ (oneT bY "body" ++ (oneT bN "none" ++ (oneT bM "number" ++ (oneT bC "count" ++ (oneT bU "unanswered")))))) t := by
    refine ⟨_, pss_cons (ps_if (pt_val (pe_callB (call_isiB (K := K)) rfl T.isi PyProof.Rows.boot_isinstance (pa_cons (pv 0) (pa_cons (pe_glob (v := .ref CT) rfl mT rfl) pa_nil)))) (pss_one (ps_expr (pe_bm PySem.F.plainAttrs_list PySem.F.slot_list_append PySem.F.type_list_append mt_append (pv 1) (pa_cons pe_str pa_nil)))) pss_nil) h2, fun p H' l hp hl s e k => ?_⟩
    have kk := R.kT
    refine ⟨_, rfl, x, C, dx, .ref CT, _, bT, rfl, rfl, s _ _ hx, hd' s, R.x, kk, _, rfl, ?_⟩
    cases bT with
    | true =>
      refine iteT ⟨_, rfl, .inl ⟨rfl, _, SqL.of e⟩, p, _, _, rfl, rfl, e, by rw [sVs_len, sizeLine_eq]; omega, ?_⟩
      exact g2 p _ (l ++ (["text"] : List Str)) hp (by rw [List.length_append, List.length_singleton]; omega) (told_same s hp _) (by rw [upd_same]; unfold sVs; rw [List.map_append]; rfl) (fun H'' s' e' => k H'' s' (by rw [List.append_assoc] at e'; exact e'))
    | false => exact iteF (g2 p H' l hp (by omega) s e k)
  refine ⟨_, pss_cons (ps_set (i := 1) scRefusal.nd rfl (Or.inl rfl) (pe_lst pa_nil)) h1, ?_⟩
  refine ⟨by show 0 ≤ sizeLine; decide, fun p hp => ?_⟩
  exact g1 p _ [] hp (by decide) (same_new hp _) upd_same (fun H'' s' e' => q p H'' hp s' e')
end
end Bk
namespace L2
open PySem PySem.Spec PyProof.Rows PyProof.V PySem.SeqAt
section
variable {K : PySem.W.Frag} {H H' : Hp}
theorem SqL.sameH (s : ∀ b o, H b = some o → H' b = some o) {a : Addr} {xs : List V} (h : SqL K H a xs) : SqL K H' a xs := by
  rcases h with (h | ⟨o, h⟩) | h
  · exact .inl (.inl (s _ _ h))
  · exact .inl (.inr ⟨o, s _ _ h⟩)
  · exact .inr h
theorem SqT.sameH (s : ∀ b o, H b = some o → H' b = some o) {a : Addr} {xs : List V} (h : SqT K H a xs) : SqT K H' a xs := by
  rcases h with (h | ⟨o, h⟩) | h
  · exact .inl (.inl (s _ _ h))
  · exact .inl (.inr ⟨o, s _ _ h⟩)
  · exact .inr h
mutual
theorem DV.same (s : ∀ b o, H b = some o → H' b = some o) : ∀ {v : V} {d : PyData}, DV K H v d → DV K H' v d
  | _, _, .non => .non
  | _, _, .bl b => .bl b
  | _, _, .int i => .int i
  | _, _, .str x => .str x
  | _, _, .lst q ds => .lst (q.sameH s) (DVs.same s ds)
  | _, _, .tup q ds => .tup (q.sameH s) (DVs.same s ds)
theorem DVs.same (s : ∀ b o, H b = some o → H' b = some o) : ∀ {vs : List V} {ds : List PyData}, DVs K H vs ds → DVs K H' vs ds
  | _, _, .nil => .nil
  | _, _, .cons d ds => .cons (DV.same s d) (DVs.same s ds)
end
end
end L2
namespace L2
open PySem
open Sem (wp)
section
variable {prog : Program} {w : World} {A : Around} {E : Value → Shared → Prop} {s : Shared}
end
open AutoSeq1 (wpAny_loadPart')
open Sem (wp)
section
variable {prog : Program} {w : World} {A : Around} {E : Value → Shared → Prop} {s : Shared}
end
end L2
namespace Li
open PySem PySem.Builtin PySem.Builtin.Str
end Li
namespace L2
open PySem PySem.Spec PyProof.Rows PySem.Builtin PySem.Builtin.Str
section
variable {X : Cx}
theorem op_mulS : OpR X (binaryOp .Mult) (fun x y H Q => ∃ z n, x = .str z ∧ y = .int n ∧ MulOk z n ∧ Q (.str (Txt.mul z n)) H) := by
  intro pins s σ H x y v u Q I rx ry h
  obtain ⟨z, n, rfl, rfl, hm, q⟩ := h
  obtain ⟨t, rfl⟩ := rx
  obtain ⟨t', rfl⟩ := ry
  exact SB.mul hm fun t2 k => ⟨.str _, H, I.tok _, ⟨t2, rfl⟩, q⟩
end
section
variable {X : Cx} {K : PySem.W.Frag} {o e : Expr} {es : List Expr} {to : TE} {t : TA} {name : Str} {apos cpos : Pos} {T id : String} {r : V → List V → Hp → VK → Prop}
end
end L2
namespace Bk
open PySem L2 Mg Nm Rk PySem.SeqAt
inductive Fl : List V → Prop
  | nil : Fl []
  | int (i : Int) {xs : List V} : Fl xs → Fl (.int i :: xs)
  | str {x : Str} (h : PyData.strOk x = true) (hl : x.length ≤ 1000) {xs : List V} : Fl xs → Fl (.str x :: xs)
  | bl (b : Bool) {xs : List V} : Fl xs → Fl (.bl b :: xs)
  | non {xs : List V} : Fl xs → Fl (.non :: xs)
def flD : V → PyData
  | .int i => .int i
  | .str x => .str x
  | .bl b => .bool b
  | _ => .none
theorem Fl.pg : ∀ {xs : List V}, Fl xs → ∀ x ∈ xs, PG x
  | _, .int i h, x, hx => (List.mem_cons.mp hx).elim (fun e => e ▸ .inl (.inl ⟨i, rfl⟩)) (h.pg x)
  | _, .str (x := y) a b h, x, hx => (List.mem_cons.mp hx).elim (fun e => e ▸ .inl (.inr ⟨y, rfl, by rw [sizeLine_eq]; omega⟩)) (h.pg x)
  | _, .bl b h, x, hx => (List.mem_cons.mp hx).elim (fun e => e ▸ .inr (.inl ⟨b, rfl⟩)) (h.pg x)
  | _, .non h, x, hx => (List.mem_cons.mp hx).elim (fun e => e ▸ .inr (.inr rfl)) (h.pg x)
theorem Fl.dv {K : PySem.W.Frag} {H : Hp} : ∀ {xs : List V}, Fl xs → DVs K H xs (xs.map flD) ∧ plainDs (xs.map flD) = true
  | _, .nil => ⟨.nil, rfl⟩
  | _, .int i h => ⟨.cons (.int i) (Fl.dv h).1, (Fl.dv (K := K) (H := H) h).2⟩
  | _, .str (x := y) a b h => ⟨.cons (.str y) (Fl.dv h).1, by
    show (PyData.strOk y && plainDs _) = true
    rw [a, (Fl.dv (K := K) (H := H) h).2]
    rfl⟩
  | _, .bl b h => ⟨.cons (.bl b) (Fl.dv h).1, (Fl.dv (K := K) (H := H) h).2⟩
  | _, .non h => ⟨.cons .non (Fl.dv h).1, (Fl.dv (K := K) (H := H) h).2⟩
structure ItG (K : PySem.W.Frag) (H : Hp) (v : V) (g : StG) : Prop where
  st : SAt K H v g
  dt : ∃ d, DV K H v d ∧ plainD d = true ∧ d.depth ≤ 4
theorem ItG.same {K : PySem.W.Frag} {H H' : Hp} (s : Same H H') {v : V} {g : StG} (h : ItG K H v g) : ItG K H' v g := ⟨h.st.same s, let ⟨d, a, b, c⟩ := h.dt; ⟨d, a.same s, b, c⟩⟩
theorem itgs_same {K : PySem.W.Frag} {H H' : Hp} (s : Same H H') {us : List V} {gs : List StG} (h : Paired (ItG K H) us gs) : Paired (ItG K H') us gs := Paired.mapP h fun _ _ z => z.same s
theorem paired_app {α β : Type} {F : α → β → Prop} {xs : List α} {ys : List β} (h : Paired F xs ys) {zs : List α} {ws : List β} (g : Paired F zs ws) : Paired F (xs ++ zs) (ys ++ ws) := by
  induction h with
  | nil => exact g
  | cons r t ih => exact .cons r ih
def Wd (w : Str) (σ : St) : Prop := σ[1]? = some (some (.str w)) ∧ σ[2]? = some (some (.int big))
def tF1 (w : Str) (v : V) : TE := fun σ H Q => Wd w σ ∧ Q v H
def tFl (w : Str) (xs : List V) : TA := fun σ H Q => Wd w σ ∧ Q xs H
def tIt (K : PySem.W.Frag) (w : Str) (g : StG) : TE := fun σ H Q => Wd w σ ∧ ∀ v H', Same H H' → ItG K H' v g → Q v H'
def tIts (K : PySem.W.Frag) (w : Str) (gs : List StG) : TA := fun σ H Q => Wd w σ ∧ ∀ us H', Same H H' → Paired (ItG K H') us gs → Q us H'
def tLs (K : PySem.W.Frag) (w : Str) (gs : List StG) : TE := fun σ H Q => Wd w σ ∧ ∀ l us H', H l = none → Same H H' → H' l = some (.lst us) → Paired (ItG K H') us gs → Q (.ref l) H'
inductive FlV : V → Prop
  | int (i : Int) : FlV (.int i)
  | str {x : Str} (h : PyData.strOk x = true) (hl : x.length ≤ 1000) : FlV (.str x)
  | bl (b : Bool) : FlV (.bl b)
  | non : FlV .non
theorem FlV.cons {v : V} {xs : List V} (h : FlV v) (t : Fl xs) : Fl (v :: xs) := by
  cases h with
  | int i => exact .int i t
  | str h hl => exact .str h hl t
  | bl b => exact .bl b t
  | non => exact .non t
theorem pa_imp {X : Cx} {es : List Expr} {t t' : TA} (h : PA X es t) (i : ∀ σ H Q, t' σ H Q → t σ H Q) : PA X es t' := fun pos pins s σ H Q I hw => h pos pins s σ H Q I (i σ H Q hw)
structure PF (X : Cx) (w : Str) (e : Expr) (v : V) : Prop where
  pe : PE X e (tF1 w v)
  fl : FlV v
structure PFs (X : Cx) (w : Str) (es : List Expr) (xs : List V) : Prop where
  pa : PA X es (tFl w xs)
  fl : Fl xs
section
variable {X : Cx} {w : Str} {K : PySem.W.Frag} {e : Expr} {es : List Expr} {v : V} {xs : List V} {g : StG} {gs : List StG} {kd : Str} {pos : Pos}
theorem f_int {i j} : PF X w (.Constant (.int i) j pos) (.int i) := ⟨pe_int.imp fun _ _ _ h => h.2, .int i⟩
theorem f_bl {b j} : PF X w (.Constant (.bool b) j pos) (.bl b) := ⟨pe_bl.imp fun _ _ _ h => h.2, .bl b⟩
theorem f_non {j} : PF X w (.Constant .none j pos) .non := ⟨pe_non.imp fun _ _ _ h => h.2, .non⟩
theorem f_str {x j} (h : PyData.strOk x = true ∧ x.length ≤ 1000 := by decide +kernel) : PF X w (.Constant (.str x) j pos) (.str x) := ⟨pe_str.imp fun _ _ _ h => h.2, .str h.1 h.2⟩
theorem f_of {t : TE} (fv : FlV v) (h : PE X e t) (i : ∀ σ H Q, Wd w σ → Q v H → t σ H Q) : PF X w e v := ⟨h.imp fun σ H Q z => i σ H Q z.1 z.2, fv⟩
theorem pf_nil : PFs X w [] [] := ⟨pa_imp pa_nil fun _ _ _ h => h.2, .nil⟩
theorem pf_cons (ha : PF X w e v) (hr : PFs X w es xs) (hs : starEach (e :: es) X.env = (false, eval e X.env) :: starEach es X.env := by rfl) : PFs X w (e :: es) (v :: xs) := ⟨pa_imp (pa_cons ha.pe hr.pa hs) fun _ _ _ h => ⟨h.1, h.1, h.2⟩, ha.fl.cons hr.fl⟩
theorem depth_fl {xs : List V} (h : Fl xs) : PyData.depthAll (xs.map flD) = 0 := by
  induction h with
  | nil => simp [PyData.depthAll]
  | int i _ ih => simp [PyData.depthAll, PyData.depth, flD, ih]
  | str _ _ _ ih => simp [PyData.depthAll, PyData.depth, flD, ih]
  | bl b _ ih => simp [PyData.depthAll, PyData.depth, flD, ih]
  | non _ ih => simp [PyData.depthAll, PyData.depth, flD, ih]
theorem itg_tup {H : Hp} {t : Addr} (e : H t = some (.tup (.str kd :: xs))) (hf : Fl (.str kd :: xs)) (hl : xs.length ≤ 90) : ItG K H (.ref t) (.tup kd xs) := by
  refine ⟨⟨t, rfl, e, fun x hx => hf.pg x (List.mem_cons_of_mem _ hx), by omega⟩, ⟨.tuple ((V.str kd :: xs).map flD), .tup (SqT.of e) (Fl.dv hf).1, ?_, ?_⟩⟩
  · simp only [plainD]
    exact (Fl.dv (K := K) (H := H) hf).2
  · simp only [PyData.depth, depth_fl hf]
    omega
theorem it_tup {c} (h : PFs X w es (.str kd :: xs)) (hl : Nat.ble xs.length 90 = true := by rfl) : PE X (.Tuple es c pos) (tIt K w (.tup kd xs)) :=
  (pe_tup h.pa).imp fun σ H Q ⟨hw, q⟩ => ⟨hw, by have := Nat.le_of_ble_eq_true hl; rw [List.length_cons, sizeLine_eq]; omega, fun p hp => q _ _ (same_new hp _) (itg_tup upd_same h.fl (Nat.le_of_ble_eq_true hl))⟩
theorem it_emp {c} : PE X (.Tuple [] c pos) (tIt K w .emp) :=
  (pe_tup pa_nil).imp fun σ H Q ⟨hw, q⟩ => ⟨by show 0 ≤ sizeLine; decide, fun p hp => q _ _ (same_new hp _) ⟨⟨p, rfl, upd_same⟩, .tuple [], .tup (SqT.of upd_same) .nil, by simp [plainD, plainDs], by simp [PyData.depth, PyData.depthAll]⟩⟩
theorem it_lst (h : PFs X w es xs) (hl : Nat.ble xs.length 90 = true := by rfl) : PE X (.List es pos) (tIt K w .oth) :=
  (pe_lst h.pa).imp fun σ H Q ⟨hw, q⟩ => ⟨hw, by have := Nat.le_of_ble_eq_true hl; rw [sizeLine_eq]; omega, fun p hp => q _ _ (same_new hp _) ⟨⟨_, .lst upd_same, rfl⟩, .list (xs.map flD), .lst (SqL.of upd_same) (Fl.dv h.fl).1, by
    simp only [plainD]
    exact (Fl.dv (K := K) (H := H) h.fl).2, by
    simp only [PyData.depth, depth_fl h.fl]
    omega⟩⟩
theorem it_str {x} (h : PF X w e (.str x)) (hx : PyData.strOk x = true := by decide +kernel) : PE X e (tIt K w .oth) := h.pe.imp fun σ H Q ⟨hw, q⟩ => ⟨hw, q _ _ (Same.refl _) ⟨⟨_, .str _, rfl⟩, .str x, .str _, by simp only [plainD]; exact hx, by simp [PyData.depth]⟩⟩
theorem it_non (h : PF X w e .non) : PE X e (tIt K w .oth) := h.pe.imp fun σ H Q ⟨hw, q⟩ => ⟨hw, q _ _ (Same.refl _) ⟨⟨_, .non, rfl⟩, .none, .non, by simp [plainD], by simp [PyData.depth]⟩⟩
theorem its_nil : PA X [] (tIts K w []) := pa_imp pa_nil fun _ H Q h => h.2 [] H (Same.refl _) .nil
theorem its_cons (ha : PE X e (tIt K w g)) (hr : PA X es (tIts K w gs)) (hs : starEach (e :: es) X.env = (false, eval e X.env) :: starEach es X.env := by rfl) : PA X (e :: es) (tIts K w (g :: gs)) :=
  pa_imp (pa_cons ha hr hs) fun σ H Q h => ⟨h.1, fun v H1 s1 i1 => ⟨h.1, fun us H2 s2 i2 => h.2 _ _ (s1.trans s2) (.cons (i1.same s2) i2)⟩⟩
theorem paired_len {α β : Type} {F : α → β → Prop} {xs : List α} {ys : List β} (h : Paired F xs ys) : xs.length = ys.length := Paired.length h
theorem ls_its (h : PA X es (tIts K w gs)) (hl : Nat.ble gs.length 90 = true := by rfl) : PE X (.List es pos) (tLs K w gs) :=
  (pe_lst h).imp fun σ H Q ⟨hw, q⟩ => ⟨hw, fun us H1 s1 i1 => ⟨by have := Nat.le_of_ble_eq_true hl; have := paired_len i1; rw [sizeLine_eq]; omega, fun p hp => q p us _ (s1.free hp) (s1.trans (same_new hp _)) upd_same (itgs_same (same_new hp _) i1)⟩⟩
end
theorem at_cat {K : PySem.W.Frag} {H H' : Hp} {p : Addr} {us0 us : List V} {gs0 gs : List StG} (P0 : Paired (ItG K H) us0 gs0) (s : Same H H') (P1 : Paired (ItG K H') us gs) (hp : H' p = none) : Same H (upd H' p (.lst (us0 ++ us))) ∧ Paired (ItG K (upd H' p (.lst (us0 ++ us)))) (us0 ++ us) (gs0 ++ gs) :=
  ⟨s.trans (same_new hp _), paired_app (itgs_same (s.trans (same_new hp _)) P0) (itgs_same (same_new hp _) P1)⟩
theorem at_mod {K : PySem.W.Frag} {H : Hp} {us : List V} {gs : List StG} (h : Paired (ItG K H) us gs) (hn : 0 < us.length) (c : Int) : ∃ v g, atI us (c % (us.length : Int)) = some v ∧ g ∈ gs ∧ ItG K H v g := by
  have h0 : 0 ≤ c % (us.length : Int) := Int.emod_nonneg c (by omega)
  have h1 : c % (us.length : Int) < us.length := Int.emod_lt_of_pos c (by omega)
  obtain ⟨n, hn'⟩ := Int.eq_ofNat_of_zero_le h0
  have hlt : n < us.length := by omega
  have e : us[n]? = some us[n] := List.getElem?_eq_getElem hlt
  obtain ⟨g, hg, hi⟩ := paired_get h e
  exact ⟨us[n], g, by rw [hn']; exact atI_nat e, List.mem_of_getElem? hg, hi⟩
structure TabK (ks : List (Str × Addr × List Str)) : Prop where
  non : ∀ kd ∈ (["say", "onwards"] : List Str), ∃ a, kindsOf ks kd = some (a, [])
  amt : ∀ kd ∈ (["put", "plus", "times", "both", "any", "odd"] : List Str), ∃ a, kindsOf ks kd = some (a, ([("amount" : Str)] : List Str))
  dv : ∀ kd ∈ (["over", "part"] : List Str), ∃ a, kindsOf ks kd = some (a, ([("divisor" : Str)] : List Str))
  sh : ∀ kd ∈ (["up", "down"] : List Str), ∃ a, kindsOf ks kd = some (a, ([("shift" : Str)] : List Str))
  ask : ∃ a, kindsOf ks "ask" = some (a, ([("word" : Str)] : List Str))
  try_ : ∃ a, kindsOf ks "try" = some (a, ([("word" : Str), ("word" : Str)] : List Str))
  no : ∀ kd ∈ (["go", "none"] : List Str), kindsOf ks kd = none
theorem part_amtV (v : V) : partOk "amount" v = whV (-big) big v := by
  unfold partOk
  rw [if_neg (by decide +kernel), if_neg (by decide +kernel), if_neg (by decide +kernel)]
theorem part_dvV (v : V) : partOk "divisor" v = (whV (-big) big v && !decide (v = .int 0)) := by
  unfold partOk
  rw [if_neg (by decide +kernel), if_neg (by decide +kernel), if_pos rfl]
theorem part_shV (v : V) : partOk "shift" v = whV 0 64 v := by
  unfold partOk
  rw [if_neg (by decide +kernel), if_pos rfl]
theorem part_wdV (v : V) : partOk "word" v = nmV v := by
  unfold partOk
  rw [if_pos rfl]
section
variable {ks : List (Str × Addr × List Str)} {kd : Str} {ps : List V} {v v' : V}
theorem okG_none (h : kindsOf ks kd = none) : okG ks (.tup kd ps) = false := by
  show (match kindsOf ks kd with | none => false | some (_, r) => _) = false
  rw [h]
theorem okG_some {a : Addr} {r : List Str} (h : kindsOf ks kd = some (a, r)) : okG ks (.tup kd ps) = (decide (ps.length = r.length) && (ps.zip r).all fun p => partOk p.2 p.1) := by
  show (match kindsOf ks kd with | none => false | some (_, r) => _) = _
  rw [h]
theorem okG_len {a : Addr} {r : List Str} (h : kindsOf ks kd = some (a, r)) (hl : ¬ ps.length = r.length) : okG ks (.tup kd ps) = false := by
  rw [okG_some h, decide_eq_false hl, Bool.false_and]
theorem okG_zero {a : Addr} (h : kindsOf ks kd = some (a, [])) : okG ks (.tup kd []) = true := by
  rw [okG_some h]
  rfl
theorem okG_one {a : Addr} {k : Str} (h : kindsOf ks kd = some (a, [k])) : okG ks (.tup kd [v]) = partOk k v := by
  rw [okG_some h]
  show (decide (1 = 1) && (partOk k v && true)) = _
  rw [Bool.and_true]
  rfl
theorem okG_two {a : Addr} {k k' : Str} (h : kindsOf ks kd = some (a, [k, k'])) : okG ks (.tup kd [v, v']) = (partOk k v && partOk k' v') := by
  rw [okG_some h]
  show (decide (2 = 2) && (partOk k v && (partOk k' v' && true))) = _
  rw [Bool.and_true]
  rfl
end
theorem fa_cons {α : Type} {F : α → Prop} {a : α} {l : List α} (h : F a) (t : ∀ x ∈ l, F x) : ∀ x ∈ a :: l, F x := fun x hx => (List.mem_cons.mp hx).elim (fun e => e ▸ h) (t x)
theorem fa_nil {α : Type} {F : α → Prop} : ∀ x ∈ ([] : List α), F x := fun x hx => nomatch hx
def gB1 : List StG := [.tup "say" [.int 1], .tup "put" [], .tup "put" [.int (big + 1)], .tup "plus" [.int (-big - 1)], .tup "times" [.str "1"], .tup "both" [.bl true]]
def gB2 : List StG := [.tup "any" [.non], .tup "odd" [.int 1, .int 2], .tup "over" [.int 0], .tup "part" [.int 0], .tup "up" [.int 65], .tup "up" [.int (-1)], .tup "down" [.int 65]]
def gB3 (w : Str) : List StG := [.tup "down" [.int (-1)], .tup "onwards" [.str w], .tup "ask" [], .tup "ask" [.str ""], .tup "ask" [.str "A"], .tup "ask" [.str w, .str w]]
def gB4 (w : Str) : List StG := [.tup "try" [.str w], .tup "try" [.str "", .str w], .tup "try" [.str w, .str (w ++ "1")], .tup "try" [.str w, .str w, .str w]]
def gB5 : List StG := [.tup "go" [.int 0], .tup "none" [], .emp, .oth, .oth, .oth, .tup "part" [.int (big + 1)]]
def gBad (w : Str) : List StG := gB1 ++ gB2 ++ gB3 w ++ gB4 w ++ gB5
def gG1 : List StG := [.tup "say" [], .tup "put" [.int big], .tup "plus" [.int (-big)], .tup "over" [.int (-1)], .tup "part" [.int big], .tup "up" [.int 64], .tup "down" [.int 0]]
def gG2 (w : Str) : List StG := [.tup "onwards" [], .tup "ask" [.str w], .tup "try" [.str w, .str (Txt.mul "z" 20)], .tup "up" [.int 0], .tup "odd" [.int 0], .tup "ask" [.str "z"]]
def gGood (w : Str) : List StG := gG1 ++ gG2 w
theorem okNm_one (w : Str) : okNm (w ++ "1") = false := by
  unfold okNm
  have : ((w ++ "1" : Str).cps.toList.all fun c => decide (97 ≤ c) && decide (c ≤ 122)) = false := by
    have e : (w ++ "1" : Str).cps.toList = w.cps.toList ++ [49] := by
      show (w.cps ++ ("1" : Str).cps).toList = _
      rw [Array.toList_append]
      rfl
    rw [e, List.all_append]
    show (_ && false) = false
    rw [Bool.and_false]
  rw [this, Bool.and_false]
section
variable {ks : List (Str × Addr × List Str)} {w : Str}
theorem bad_all (T : TabK ks) : ∀ g ∈ gBad w, okG ks g = false := by
  obtain ⟨as, hs⟩ := T.non "say" (by decide +kernel)
  obtain ⟨ao, ho⟩ := T.non "onwards" (by decide +kernel)
  obtain ⟨ap, hp⟩ := T.amt "put" (by decide +kernel)
  obtain ⟨al, hl⟩ := T.amt "plus" (by decide +kernel)
  obtain ⟨at_, ht⟩ := T.amt "times" (by decide +kernel)
  obtain ⟨ab, hb⟩ := T.amt "both" (by decide +kernel)
  obtain ⟨ay, hy⟩ := T.amt "any" (by decide +kernel)
  obtain ⟨ad, hd⟩ := T.amt "odd" (by decide +kernel)
  obtain ⟨av, hv⟩ := T.dv "over" (by decide +kernel)
  obtain ⟨ar, hr⟩ := T.dv "part" (by decide +kernel)
  obtain ⟨au, hu⟩ := T.sh "up" (by decide +kernel)
  obtain ⟨an, hn⟩ := T.sh "down" (by decide +kernel)
  obtain ⟨ak, hk⟩ := T.ask
  obtain ⟨ax, hx⟩ := T.try_
  have hg := T.no "go" (by decide +kernel)
  have hz := T.no "none" (by decide +kernel)
  unfold gBad gB1 gB2 gB3 gB4 gB5
  simp only [List.cons_append, List.nil_append]
  refine fa_cons (okG_len hs (by decide)) (fa_cons (okG_len hp (by decide)) (fa_cons ((okG_one hp).trans ((part_amtV _).trans (by decide +kernel))) (fa_cons ((okG_one hl).trans ((part_amtV _).trans (by decide +kernel))) (fa_cons ((okG_one ht).trans ((part_amtV _).trans rfl)) (fa_cons ((okG_one hb).trans ((part_amtV _).trans rfl)) ?_)))))
  refine fa_cons ((okG_one hy).trans ((part_amtV _).trans rfl)) (fa_cons (okG_len hd (by decide)) (fa_cons ((okG_one hv).trans ((part_dvV _).trans (by decide +kernel))) (fa_cons ((okG_one hr).trans ((part_dvV _).trans (by decide +kernel))) (fa_cons ((okG_one hu).trans ((part_shV _).trans (by decide +kernel))) (fa_cons ((okG_one hu).trans ((part_shV _).trans (by decide +kernel))) (fa_cons ((okG_one hn).trans ((part_shV _).trans (by decide +kernel))) ?_))))))
  refine fa_cons ((okG_one hn).trans ((part_shV _).trans (by decide +kernel))) (fa_cons (okG_len ho (by intro z; cases z)) (fa_cons (okG_len hk (by decide)) (fa_cons ((okG_one hk).trans ((part_wdV _).trans (by decide +kernel))) (fa_cons ((okG_one hk).trans ((part_wdV _).trans (by decide +kernel))) (fa_cons (okG_len hk (by intro z; cases z)) ?_)))))
  refine fa_cons (okG_len hx (by intro z; cases z)) (fa_cons ((okG_two hx).trans (by rw [part_wdV, show nmV (.str "") = false by decide +kernel, Bool.false_and])) (fa_cons ((okG_two hx).trans (by rw [part_wdV, part_wdV, show nmV (.str (w ++ "1")) = false from okNm_one w, Bool.and_false])) (fa_cons (okG_len hx (by intro z; cases z)) ?_)))
  exact fa_cons (okG_none hg) (fa_cons (okG_none hz) (fa_cons rfl (fa_cons rfl (fa_cons rfl (fa_cons rfl (fa_cons ((okG_one hr).trans ((part_dvV _).trans (by decide +kernel))) fa_nil))))))
theorem good_all (T : TabK ks) (hw : okNm w = true) : ∀ g ∈ gGood w, okG ks g = true := by
  obtain ⟨as, hs⟩ := T.non "say" (by decide +kernel)
  obtain ⟨ao, ho⟩ := T.non "onwards" (by decide +kernel)
  obtain ⟨ap, hp⟩ := T.amt "put" (by decide +kernel)
  obtain ⟨al, hl⟩ := T.amt "plus" (by decide +kernel)
  obtain ⟨ad, hd⟩ := T.amt "odd" (by decide +kernel)
  obtain ⟨av, hv⟩ := T.dv "over" (by decide +kernel)
  obtain ⟨ar, hr⟩ := T.dv "part" (by decide +kernel)
  obtain ⟨au, hu⟩ := T.sh "up" (by decide +kernel)
  obtain ⟨an, hn⟩ := T.sh "down" (by decide +kernel)
  obtain ⟨ak, hk⟩ := T.ask
  obtain ⟨ax, hx⟩ := T.try_
  have hnw : nmV (.str w) = true := hw
  have hnz : nmV (.str (Txt.mul "z" 20)) = true := by decide +kernel
  unfold gGood gG1 gG2
  simp only [List.cons_append, List.nil_append]
  refine fa_cons (okG_zero hs) (fa_cons ((okG_one hp).trans ((part_amtV _).trans (by decide +kernel))) (fa_cons ((okG_one hl).trans ((part_amtV _).trans (by decide +kernel))) (fa_cons ((okG_one hv).trans ((part_dvV _).trans (by decide +kernel))) (fa_cons ((okG_one hr).trans ((part_dvV _).trans (by decide +kernel))) (fa_cons ((okG_one hu).trans ((part_shV _).trans (by decide +kernel))) (fa_cons ((okG_one hn).trans ((part_shV _).trans (by decide +kernel))) ?_))))))
  exact fa_cons (okG_zero ho) (fa_cons ((okG_one hk).trans ((part_wdV _).trans hnw)) (fa_cons ((okG_two hx).trans (by rw [part_wdV, part_wdV, hnw, hnz]; rfl)) (fa_cons ((okG_one hu).trans ((part_shV _).trans (by decide +kernel))) (fa_cons ((okG_one hd).trans ((part_amtV _).trans (by decide +kernel))) (fa_cons ((okG_one hk).trans ((part_wdV _).trans (by decide +kernel))) fa_nil)))))
end
theorem ok_app {a b : Str} (ha : PyData.strOk a = true) (hb : PyData.strOk b = true) : PyData.strOk (a ++ b) = true := by
  unfold PyData.strOk at *
  show (a.cps ++ b.cps).all _ = true
  rw [Array.all_append, ha, hb]
  rfl
theorem nm_ok {x : Str} (h : okNm x = true) : PyData.strOk x = true ∧ x.length ≤ 20 := by
  unfold okNm at h
  rw [Bool.and_eq_true, Bool.and_eq_true] at h
  refine ⟨?_, of_decide_eq_true h.1.2⟩
  unfold PyData.strOk
  rw [← Array.all_toList, List.all_eq_true]
  intro c hc
  have z := List.all_eq_true.mp h.2 c hc
  rw [Bool.and_eq_true] at z
  have z2 := of_decide_eq_true z.2
  exact decide_eq_true (by omega)
theorem nm_show {x : Str} (h : okNm x = true) : ShowT x := by
  refine ⟨by have := (nm_ok h).2; omega, fun c hc => ?_⟩
  unfold okNm at h
  rw [Bool.and_eq_true, Bool.and_eq_true] at h
  have z := List.all_eq_true.mp h.2 c hc
  rw [Bool.and_eq_true] at z
  have z2 := of_decide_eq_true z.2
  exact Nat.lt_of_le_of_lt z2 (by decide)
def spStepW (K : PySem.W.Frag) (ks : List (Str × Addr × List Str)) (b : Bool) : Sp := fun vs H Q _ => ∃ (c : Int) (y : Str), vs = [.int c, .str y] ∧ okNm y = true ∧ ∀ v g H', Same H H' → ItG K H' v g → okG ks g = b → Q v H'
structure Cls6 (K : PySem.W.Frag) (mg : Str → Option Value) (CT CY CN CM CC CU CE : Addr) (os : List Addr) : Prop where
  mE : mg "BookError" = some (.ref CE)
  eT : PySem.W.exmOne K (.ref CT) (.ref CE) = some true
  eY : PySem.W.exmOne K (.ref CY) (.ref CE) = some true
  eN : PySem.W.exmOne K (.ref CN) (.ref CE) = some true
  eM : PySem.W.exmOne K (.ref CM) (.ref CE) = some true
  eC : PySem.W.exmOne K (.ref CC) (.ref CE) = some true
  eU : PySem.W.exmOne K (.ref CU) (.ref CE) = some true
  rT : RefQ K CT CY CN CM CC CU CT os true false false false false false
  rY : RefQ K CT CY CN CM CC CU CY os false true false false false false
  rN : RefQ K CT CY CN CM CC CU CN os false false true false false false
  rM : RefQ K CT CY CN CM CC CU CM os false false false true false false
  rC : RefQ K CT CY CN CM CC CU CC os false false false false true false
  rU : RefQ K CT CY CN CM CC CU CU os false false false false false true
theorem dvs_its {K : PySem.W.Frag} {H : Hp} {us : List V} {gs : List StG} (h : Paired (ItG K H) us gs) : ∃ ds, DVs K H us ds ∧ plainDs ds = true ∧ PyData.depthAll ds ≤ 4 := by
  induction h with
  | nil => exact ⟨[], .nil, by simp [plainDs], by simp [PyData.depthAll]⟩
  | cons r t ih =>
    obtain ⟨ds, a, b, c⟩ := ih
    obtain ⟨d, a1, b1, c1⟩ := r.dt
    refine ⟨d :: ds, .cons a1 a, by simp [plainDs, b1, b], ?_⟩
    simp only [PyData.depthAll]
    omega
structure LD (ds : List PyData) : Prop where
  pl : plainDs ds = true
  dp : PyData.depthAll ds ≤ 4
theorem LD.sh {ds : List PyData} (h : LD ds) : shaped (.list ds) = true ∧ noMix (.list ds) (.list ds) = true ∧ Spec.same (.list ds) (.list ds) = true := by
  have p : plainD (.list ds) = true := by simp only [plainD]; exact h.pl
  refine ⟨shaped_of p ?_, (same_self _ p).2.1, (same_self _ p).1⟩
  have := h.dp
  simp only [PyData.depth]
  omega
def KeepD (H H' : Hp) (ba : Addr) : Prop := ∀ b o, H b = some o → b ≠ ba → H' b = some o
theorem SqL.keepD {K : PySem.W.Frag} {H H' : Hp} {ba : Addr} {kv : List (Key × V)} (k : KeepD H H' ba) (e : H ba = some (.dK kv)) {a : Addr} {xs : List V} (h : SqL K H a xs) : SqL K H' a xs := by
  rcases h with (h | ⟨o, h⟩) | h
  · exact .inl (.inl (k _ _ h (ne_of h e (by intro z; cases z))))
  · exact .inl (.inr ⟨o, k _ _ h (ne_of h e (by intro z; cases z))⟩)
  · exact .inr h
theorem SqT.keepD {K : PySem.W.Frag} {H H' : Hp} {ba : Addr} {kv : List (Key × V)} (k : KeepD H H' ba) (e : H ba = some (.dK kv)) {a : Addr} {xs : List V} (h : SqT K H a xs) : SqT K H' a xs := by
  rcases h with (h | ⟨o, h⟩) | h
  · exact .inl (.inl (k _ _ h (ne_of h e (by intro z; cases z))))
  · exact .inl (.inr ⟨o, k _ _ h (ne_of h e (by intro z; cases z))⟩)
  · exact .inr h
mutual
theorem DV.keepD {K : PySem.W.Frag} {H H' : Hp} {ba : Addr} {kv : List (Key × V)} (k : KeepD H H' ba) (e : H ba = some (.dK kv)) : ∀ {v : V} {d : PyData}, DV K H v d → DV K H' v d
  | _, _, .non => .non
  | _, _, .bl b => .bl b
  | _, _, .int i => .int i
  | _, _, .str x => .str x
  | _, _, .lst q ds => .lst (SqL.keepD k e q) (DVs.keepD k e ds)
  | _, _, .tup q ds => .tup (SqT.keepD k e q) (DVs.keepD k e ds)
theorem DVs.keepD {K : PySem.W.Frag} {H H' : Hp} {ba : Addr} {kv : List (Key × V)} (k : KeepD H H' ba) (e : H ba = some (.dK kv)) : ∀ {vs : List V} {ds : List PyData}, DVs K H vs ds → DVs K H' vs ds
  | _, _, .nil => .nil
  | _, _, .cons d ds => .cons (DV.keepD k e d) (DVs.keepD k e ds)
end
def refT (ks : List (Str × Addr × List Str)) (L : List Ent) (x y : Str) (gs : List StG) : Option Str :=
  match fnd L x with
  | none => some "none"
  | some _ => if okNm y = true then (if okB ks gs = true then none else some "body") else some "text"
def spTaughtL (K : PySem.W.Frag) (CB CH : Addr) (ks : List (Str × Addr × List Str)) : Sp := fun vs H Q _ => ∃ (p d l : Addr) (L : List Ent) (x y : Str) (us : List V) (gs : List StG), vs = [.ref p, .str x, .str y, .ref l] ∧ BookAt CB CH H p d L ∧ ShowT x ∧ y.length ≤ 1000 ∧ H l = some (.lst us) ∧ Paired (ItG K H) us gs ∧ us.length ≤ 1000 ∧ (∀ e ∈ L, e.bd.length ≤ 1000) ∧
  (∀ t, refT ks L x y gs = some t → ∀ r H', Same H H' → H' r = some (.lst [.str t]) → Q (.ref r) H') ∧
  (refT ks L x y gs = none → ∀ e, fnd L x = some e → ∀ la r H', H la = none → H' la = some (.lst us) → H' e.ba = some (.dK (putK e.bd (Sum.inr y : Key) (.ref la))) → KeepD H H' e.ba → H' r = some (.lst []) → Q (.ref r) H')
section
variable {P : Program} {w : World} {K : PySem.W.Frag} {mg : Str → Option Value} {base : Heap} {f fE fX CB CH CT CY CN CM CC CU CE : Addr} {fd dE dX : FuncData} {ks : List (Str × Addr × List Str)} {os : List Addr}
theorem scTaught : FnScope ["_law_book", "_law_name", "_law_word", "_law_body", "_law_handed", "_law_told", "_law_error"] ["_law_book", "_law_name", "_law_word", "_law_body"] (defScope sTaught) := ⟨rfl, rfl, rfl, by decide +kernel, rfl, by decide +kernel, by decide +kernel⟩
theorem ok_taught (F : Fun K "_law_taught" "_law_taught" sTaught f fd) (T : ClsB K mg CB CH) (Tx : Txt mg) (C6 : Cls6 K mg CT CY CN CM CC CU CE os)
    (GE : FnOk P w K mg base (CXE P w) 6 fE dE ["self", "name", "word", "body"] (spTeachX K CB CH CN CT CY ks)) (bE : Binds K dE ["self", "name", "word", "body"] []) (mE : Meth K CB "teach" fE)
    (GX : FnOkN P w K mg base 1 fX dX ["_law_error"] (spRefusal K CT CY CN CM CC CU os)) (kX : PySem.W.keepIn K (.ref fX) = true) (bX : Binds K dX ["_law_error"] []) (mX : mg "_law_refusal" = some (.ref fX)) :
    FnOk P w K mg base CX0 7 f fd ["_law_book", "_law_name", "_law_word", "_law_body"] (spTaughtL K CB CH ks) := by
  refine F.ok scTaught (fun vs H Q E h => ?_) (fun cdv A outer s H vs Q E hr h => ?_)
  · obtain ⟨p, d, l, L, x, y, us, gs, rfl, _⟩ := h
    rfl
  obtain ⟨p, d, l, L, x, y, us, gs, rfl, B, hx, hy, el, hp, hul, hbl, q1, q2⟩ := h
  have hr1 := hr.mono (j := 1) (by decide)
  have hu : (A.deeper (PyProof.Rows.envOfC "_law_taught" (defScope sTaught) s.heap.objs.size f cdv)).units + 64 < cLine := by have := hr.un; omega
  obtain ⟨ds, hd, pl, dp⟩ := dvs_its hp
  obtain ⟨sh1, sh2, sh3⟩ := LD.sh ⟨pl, dp⟩
  refine with_tail (tail := (defBody sTaught).drop 3) (fun tt => ∀ (H1 : Hp) (h r : Addr) (v6 : Option V), H1 h = some (.lst us) → H1 l = some (.lst us) → DVs K H1 us ds → Q (.ref r) H1 → tt { nx := fun _ H' => Q .non H', rt := Q } [some (.ref p), some (.str x), some (.str y), some (.ref l), some (.ref h), some (.ref r), v6] H1) ?_ ?_
  · refine ⟨_, pss_cons (ps_if (pt_cmpR (op_neD hu) (pv 4) (pv 3) (nomark _)) pss_never pss_nil) (pss_one (ps_ret (pv 5))), fun H1 h r v6 eh el' hd' q => ?_⟩
    refine ⟨_, rfl, _, rfl, .list ds, .list ds, .lst (SqL.of eh) hd', .lst (SqL.of el') hd', sh1, sh1, sh2, _, rfl, ?_⟩
    rw [if_pos rfl, sh3]
    exact iteF ⟨_, rfl, q⟩
  intro tt htt ptt
  refine ⟨_, pss_cons (ps_set (i := 4) scTaught.nd rfl (Or.inl rfl) (pe_callTy (call_listK (K := K)) rfl Tx.list PyProof.Rows.boot_list (pa_cons (pv 3) pa_nil)))
    (pss_cons (ps_set (i := 5) scTaught.nd rfl (Or.inl rfl) (pe_lst pa_nil))
    (pss_cons (ps_try (EX := noXS) own_cx (fun _ _ h => noWx h) (fun pn EX1 => pss_one (ps_if (pt_cmp (pc_notN (pe_methE (pv 0) T.clB mE GE hr bE .nil (pa_cons (pv 1) (pa_cons (pv 2) (pa_cons (pv 4) pa_nil)))))) (pss_one (ps_set (i := 5) scTaught.nd rfl (Or.inl rfl) (pe_lst (pa_cons pe_str pa_nil)))) pss_nil))
      (fun pn => ph_asK (K := K) (i := 6) ⟨rfl, rfl, rfl⟩ scTaught.nd rfl rfl rfl C6.mE (fun x => pss_one (ps_set (i := 5) scTaught.nd rfl (Or.inl rfl) (pe_callN GX (hr1.caught _) rfl mX kX bX .nil (pa_cons (pv 6) pa_nil)))) (ph_nil ⟨rfl, rfl, rfl⟩))) htt)), ?_⟩
  refine ⟨_, rfl, l, _, rfl, .inl (SqL.of el), fun h hh => ⟨by show 0 ≤ sizeLine; decide, fun r0 hr0 => ?_⟩⟩
  have s1 := same_new hh (.lst us)
  have eh := upd_same (H := H) (a := h) (o := .lst us)
  generalize upd H h (.lst us) = H1 at *
  have s2 := same_new hr0 (.lst [])
  have er := upd_same (H := H1) (a := r0) (o := .lst [])
  generalize upd H1 r0 (.lst []) = H2 at *
  have s12 := s1.trans s2
  have B2 := B.same s12
  obtain ⟨dx, hpo⟩ := B2.ob
  refine ⟨_, rfl, p, dx, _, rfl, hpo, bF_no d (by decide +kernel), _, rfl, _, rfl, _, rfl, p, d, L, x, .str y, .ref h, rfl, B2, hx, fun hn => ?_, fun e he => .inr ⟨y, rfl, hy, fun hb H3 s3 => ?_, fun hg => .inr ⟨h, us, gs, rfl, s2 _ _ eh, Paired.mapP hp fun _ _ z => (z.same s12).st, hul, hbl e (fnd_mem he).1, fun hb H3 s3 => ?_, fun hb la H3 hla ela eba k3 => ?_⟩⟩⟩
  · exact ⟨true, C6.eN, iteT ⟨CN, rfl, fun xa hxa => by
      have s4 := same_new hxa (ExO xa CN none)
      refine ⟨_, rfl, xa, CN, none, _, _, _, _, _, _, rfl, upd_same, .inl rfl, C6.rN, fun tn H5 htn s5 e5 => ?_⟩
      have s25 := ((Same.refl H2).trans s4).trans s5
      exact ptt H5 h tn _ (s25 _ _ (s2 _ _ eh)) ((s12.trans s25) _ _ el) (DVs.same (s12.trans s25) hd) (q1 _ (by unfold refT; rw [hn]) tn H5 (s12.trans s25) e5)⟩⟩
  · exact ⟨true, C6.eT, iteT ⟨CT, rfl, fun xa hxa => by
      have s4 := same_new hxa (ExO xa CT none)
      refine ⟨_, rfl, xa, CT, none, _, _, _, _, _, _, rfl, upd_same, .inl rfl, C6.rT, fun tn H5 htn s5 e5 => ?_⟩
      have s25 := (s3.trans s4).trans s5
      exact ptt H5 h tn _ (s25 _ _ (s2 _ _ eh)) ((s12.trans s25) _ _ el) (DVs.same (s12.trans s25) hd) (q1 _ (by unfold refT; rw [he]; show (if _ then _ else _) = _; rw [if_neg (by rw [hb]; exact Bool.false_ne_true)]) tn H5 (s12.trans s25) e5)⟩⟩
  · exact ⟨true, C6.eY, iteT ⟨CY, rfl, fun xa hxa => by
      have s4 := same_new hxa (ExO xa CY none)
      refine ⟨_, rfl, xa, CY, none, _, _, _, _, _, _, rfl, upd_same, .inl rfl, C6.rY, fun tn H5 htn s5 e5 => ?_⟩
      have s25 := (s3.trans s4).trans s5
      exact ptt H5 h tn _ (s25 _ _ (s2 _ _ eh)) ((s12.trans s25) _ _ el) (DVs.same (s12.trans s25) hd) (q1 _ (by unfold refT; rw [he]; show (if _ then _ else _) = _; rw [if_pos hg, if_neg (by rw [hb]; exact Bool.false_ne_true)]) tn H5 (s12.trans s25) e5)⟩⟩
  · have hno : refT ks L x y gs = none := by unfold refT; rw [he]; show (if _ then _ else _) = _; rw [if_pos hg, if_pos hb]
    have Eb := (B2.en e (fnd_mem he).1).bd
    refine ⟨_, rfl, iteF ?_⟩
    have kk : KeepD H2 H3 e.ba := k3
    exact ptt H3 h r0 _ (kk _ _ (s2 _ _ eh) (ne_of (s2 _ _ eh) Eb (by intro z; cases z))) (kk _ _ (s12 _ _ el) (ne_of (s12 _ _ el) Eb (by intro z; cases z))) (DVs.keepD kk Eb (DVs.same s12 hd))
      (q2 hno e he la r0 H3 (s12.free hla) ela eba (fun b o hb hne => kk _ _ (s12 _ _ hb) hne) (kk _ _ er (ne_of er Eb (by intro z; cases z))))
end
theorem ifNe {i j : Int} {A B : Prop} (h : i ≠ j) (hB : B) : if decide (V.int i = V.int j) = true then A else B := by
  rw [decide_eq_false (fun z => h (V.int.inj z)), if_neg Bool.false_ne_true]
  exact hB
theorem ifEq {i : Int} {A B : Prop} (hA : A) : if decide (V.int i = V.int i) = true then A else B := by
  rw [decide_eq_true rfl, if_pos rfl]
  exact hA
def refA (n c : V) : Str := if whV (-big) big n = true then (if whV 0 40 c = true then "unanswered" else "count") else "number"
def spAskedL (CB CH : Addr) : Sp := fun vs H Q _ => ∃ (k : Nat) (p d : Addr) (L : List Ent) (x y : Str) (n c : V), vs = [.int k, .ref p, .str x, .str y, n, c] ∧ k < 8 ∧ BookAt CB CH H p d L ∧ ShowT x ∧ PG n ∧ PG c ∧
  ((fnd L x = none ∧ ∀ r H', Same H H' → H' r = some (.lst [.str "none"]) → Q (.ref r) H') ∨
   (k = 0 ∧ ∃ e, fnd L x = some e ∧ e.od.length ≤ 1000 ∧ (refA n c = "unanswered" → ∀ z ∈ e.od, ∃ e', fnd L z = some e' ∧ valV e'.bd (Sum.inr y : Key) = none) ∧ ∀ r H', Same H H' → H' r = some (.lst [.str (refA n c)]) → Q (.ref r) H'))
section
variable {P : Program} {w : World} {K : PySem.W.Frag} {mg : Str → Option Value} {base : Heap} {f fX fA fF fB fW fO fE fOw fL CB CH CT CY CN CM CC CU CE : Addr} {fd dX dA dF dB dW dO dE dOw dL : FuncData} {ks : List (Str × Addr × List Str)} {os : List Addr}
theorem scLAsked : FnScope ["_law_kind", "_law_book", "_law_name", "_law_word", "_law_number", "_law_count", "_law_error"] ["_law_kind", "_law_book", "_law_name", "_law_word", "_law_number", "_law_count"] (defScope sLAsked) := ⟨rfl, rfl, rfl, by decide +kernel, rfl, by decide +kernel, by decide +kernel⟩
theorem ok_lasked (F : Fun K "_law_asked" "_law_asked" sLAsked f fd) (T : ClsB K mg CB CH) (Tx : Txt mg) (C6 : Cls6 K mg CT CY CN CM CC CU CE os)
    (GX : FnOkN P w K mg base 1 fX dX ["_law_error"] (spRefusal K CT CY CN CM CC CU os)) (kX : PySem.W.keepIn K (.ref fX) = true) (bX : Binds K dX ["_law_error"] []) (mX : mg "_law_refusal" = some (.ref fX))
    (GA : FnOk P w K mg base (CXE P w) 4 fA dA ["book", "name", "word", "number", "count"] (spAnsX CB CH CN CM CC CU)) (kA : PySem.W.keepIn K (.ref fA) = true) (bA : Binds K dA ["book", "name", "word", "number", "count"] []) (mA : mg "answered" = some (.ref fA))
    (GF : FnOk P w K mg base (CXE P w) 2 fF dF ["self", "name", "word"] (spDoor CB CH CN 1)) (bF' : Binds K dF ["self", "name", "word"] []) (mF : Meth K CB "forget" fF)
    (GB : FnOk P w K mg base (CXE P w) 2 fB dB ["self", "name", "word"] (spDoor CB CH CN 1)) (bB : Binds K dB ["self", "name", "word"] []) (mB : Meth K CB "body" fB)
    (GW : FnOk P w K mg base (CXE P w) 2 fW dW ["self", "name"] (spDoor CB CH CN 0)) (bW : Binds K dW ["self", "name"] []) (mW : Meth K CB "words" fW)
    (GO : FnOk P w K mg base (CXE P w) 2 fO dO ["self", "name"] (spOrderX CB CH CN)) (bO : Binds K dO ["self", "name"] []) (mO : Meth K CB "order" fO)
    (GE : FnOk P w K mg base (CXE P w) 2 fE dE ["self", "name"] (spDoor CB CH CN 0)) (bE : Binds K dE ["self", "name"] []) (mE : Meth K CB "elders" fE)
    (GOw : FnOk P w K mg base (CXE P w) 2 fOw dOw ["self", "name"] (spDoor CB CH CN 0)) (bOw : Binds K dOw ["self", "name"] []) (mOw : Meth K CB "own_words" fOw)
    (GL : FnOk P w K mg base (CXE P w) 3 fL dL ["book", "name"] (spDoor CB CH CN 0)) (kL : PySem.W.keepIn K (.ref fL) = true) (bL : Binds K dL ["book", "name"] []) (mL : mg "left_out" = some (.ref fL)) :
    FnOk P w K mg base CX0 5 f fd ["_law_kind", "_law_book", "_law_name", "_law_word", "_law_number", "_law_count"] (spAskedL CB CH) := by
  refine F.ok scLAsked (fun vs H Q E h => ?_) (fun cdv A outer s H vs Q E hr h => ?_)
  · obtain ⟨k, p, d, L, x, y, n, c, rfl, _⟩ := h
    rfl
  obtain ⟨k, p, d, L, x, y, n, c, rfl, hk, B, hx, pn, pc, h⟩ := h
  have hr1 := hr.mono (j := 1) (by decide)
  have hr2 := hr.mono (j := 2) (by decide)
  have hr3 := hr.mono (j := 3) (by decide)
  refine ⟨_, pss_cons (ps_try (EX := noXS) own_cx (fun _ _ h => noWx h) (fun pn EX1 => pss_one (ps_if (pt_cmpR op_eq (pv 0) pe_int (nomark _)) (pss_one (ps_expr (pe_callE GA hr rfl mA kA bA .nil (pa_cons (pv 1) (pa_cons (pv 2) (pa_cons (pv 3) (pa_cons (pv 4) (pa_cons (pv 5) pa_nil))))))))
      (pss_one (ps_if (pt_cmpR op_eq (pv 0) pe_int (nomark _)) (pss_one (ps_expr (pe_methE (pv 1) T.clB mF GF hr2 bF' .nil (pa_cons (pv 2) (pa_cons (pv 3) pa_nil)))))
      (pss_one (ps_if (pt_cmpR op_eq (pv 0) pe_int (nomark _)) (pss_one (ps_expr (pe_methE (pv 1) T.clB mB GB hr2 bB .nil (pa_cons (pv 2) (pa_cons (pv 3) pa_nil)))))
      (pss_one (ps_if (pt_cmpR op_eq (pv 0) pe_int (nomark _)) (pss_one (ps_expr (pe_methE (pv 1) T.clB mW GW hr2 bW .nil (pa_cons (pv 2) pa_nil))))
      (pss_one (ps_if (pt_cmpR op_eq (pv 0) pe_int (nomark _)) (pss_one (ps_expr (pe_methE (pv 1) T.clB mO GO hr2 bO .nil (pa_cons (pv 2) pa_nil))))
      (pss_one (ps_if (pt_cmpR op_eq (pv 0) pe_int (nomark _)) (pss_one (ps_expr (pe_methE (pv 1) T.clB mE GE hr2 bE .nil (pa_cons (pv 2) pa_nil))))
      (pss_one (ps_if (pt_cmpR op_eq (pv 0) pe_int (nomark _)) (pss_one (ps_expr (pe_methE (pv 1) T.clB mOw GOw hr2 bOw .nil (pa_cons (pv 2) pa_nil))))
      (pss_one (ps_expr (pe_callE GL hr3 rfl mL kL bL .nil (pa_cons (pv 1) (pa_cons (pv 2) pa_nil)))))))))))))))))))
      (fun pn => ph_asK (K := K) (i := 6) ⟨rfl, rfl, rfl⟩ scLAsked.nd rfl rfl rfl C6.mE (fun x => pss_one (ps_ret (pe_callN GX (hr1.caught _) rfl mX kX bX .nil (pa_cons (pv 6) pa_nil)))) (ph_nil ⟨rfl, rfl, rfl⟩)))
    (pss_one (ps_ret (pe_lst pa_nil))), ?_⟩
  obtain ⟨dx, hpo⟩ := B.ob
  rcases h with ⟨hn, q⟩ | ⟨rfl, e, he, hod, hun, q⟩
  · match k, hk with
    | 0, _ => exact ⟨_, rfl, rfl, _, rfl, ifEq ⟨_, rfl, _, rfl, _, rfl, _, rfl, _, rfl, p, d, L, x, y, n, c, rfl, B, hx, pn, pc, fun _ => ⟨true, C6.eN, iteT ⟨CN, rfl, fun xa hxa => ⟨_, rfl, xa, CN, none, _, _, _, _, _, _, rfl, upd_same, .inl rfl, C6.rN, fun tn H5 htn s5 e5 => q tn H5 (((Same.refl H).trans (same_new hxa _)).trans s5) e5⟩⟩⟩, fun e he => absurd he (by rw [hn]; exact fun z => nomatch z)⟩⟩
    | 1, _ => exact ⟨_, rfl, rfl, _, rfl, ifNe (by decide) ⟨_, rfl, rfl, _, rfl, ifEq ⟨_, rfl, p, dx, _, rfl, hpo, bF_no d (by decide +kernel), _, rfl, _, rfl, p, d, L, x, _, rfl, rfl, B, hx, hn, fun H3 s3 => ⟨true, C6.eN, iteT ⟨CN, rfl, fun xa hxa => ⟨_, rfl, xa, CN, none, _, _, _, _, _, _, rfl, upd_same, .inl rfl, C6.rN, fun tn H5 htn s5 e5 => q tn H5 ((s3.trans (same_new hxa _)).trans s5) e5⟩⟩⟩⟩⟩⟩
    | 2, _ => exact ⟨_, rfl, rfl, _, rfl, ifNe (by decide) ⟨_, rfl, rfl, _, rfl, ifNe (by decide) ⟨_, rfl, rfl, _, rfl, ifEq ⟨_, rfl, p, dx, _, rfl, hpo, bF_no d (by decide +kernel), _, rfl, _, rfl, p, d, L, x, _, rfl, rfl, B, hx, hn, fun H3 s3 => ⟨true, C6.eN, iteT ⟨CN, rfl, fun xa hxa => ⟨_, rfl, xa, CN, none, _, _, _, _, _, _, rfl, upd_same, .inl rfl, C6.rN, fun tn H5 htn s5 e5 => q tn H5 ((s3.trans (same_new hxa _)).trans s5) e5⟩⟩⟩⟩⟩⟩⟩
    | 3, _ => exact ⟨_, rfl, rfl, _, rfl, ifNe (by decide) ⟨_, rfl, rfl, _, rfl, ifNe (by decide) ⟨_, rfl, rfl, _, rfl, ifNe (by decide) ⟨_, rfl, rfl, _, rfl, ifEq ⟨_, rfl, p, dx, _, rfl, hpo, bF_no d (by decide +kernel), _, rfl, p, d, L, x, _, rfl, rfl, B, hx, hn, fun H3 s3 => ⟨true, C6.eN, iteT ⟨CN, rfl, fun xa hxa => ⟨_, rfl, xa, CN, none, _, _, _, _, _, _, rfl, upd_same, .inl rfl, C6.rN, fun tn H5 htn s5 e5 => q tn H5 ((s3.trans (same_new hxa _)).trans s5) e5⟩⟩⟩⟩⟩⟩⟩⟩
    | 4, _ => exact ⟨_, rfl, rfl, _, rfl, ifNe (by decide) ⟨_, rfl, rfl, _, rfl, ifNe (by decide) ⟨_, rfl, rfl, _, rfl, ifNe (by decide) ⟨_, rfl, rfl, _, rfl, ifNe (by decide) ⟨_, rfl, rfl, _, rfl, ifEq ⟨_, rfl, p, dx, _, rfl, hpo, bF_no d (by decide +kernel), _, rfl, p, d, L, x, rfl, B, hx, (fun e he => absurd he (by rw [hn]; exact fun z => nomatch z)), fun _ => ⟨true, C6.eN, iteT ⟨CN, rfl, fun xa hxa => ⟨_, rfl, xa, CN, none, _, _, _, _, _, _, rfl, upd_same, .inl rfl, C6.rN, fun tn H5 htn s5 e5 => q tn H5 (((Same.refl H).trans (same_new hxa _)).trans s5) e5⟩⟩⟩⟩⟩⟩⟩⟩⟩
    | 5, _ => exact ⟨_, rfl, rfl, _, rfl, ifNe (by decide) ⟨_, rfl, rfl, _, rfl, ifNe (by decide) ⟨_, rfl, rfl, _, rfl, ifNe (by decide) ⟨_, rfl, rfl, _, rfl, ifNe (by decide) ⟨_, rfl, rfl, _, rfl, ifNe (by decide) ⟨_, rfl, rfl, _, rfl, ifEq ⟨_, rfl, p, dx, _, rfl, hpo, bF_no d (by decide +kernel), _, rfl, p, d, L, x, _, rfl, rfl, B, hx, hn, fun H3 s3 => ⟨true, C6.eN, iteT ⟨CN, rfl, fun xa hxa => ⟨_, rfl, xa, CN, none, _, _, _, _, _, _, rfl, upd_same, .inl rfl, C6.rN, fun tn H5 htn s5 e5 => q tn H5 ((s3.trans (same_new hxa _)).trans s5) e5⟩⟩⟩⟩⟩⟩⟩⟩⟩⟩
    | 6, _ => exact ⟨_, rfl, rfl, _, rfl, ifNe (by decide) ⟨_, rfl, rfl, _, rfl, ifNe (by decide) ⟨_, rfl, rfl, _, rfl, ifNe (by decide) ⟨_, rfl, rfl, _, rfl, ifNe (by decide) ⟨_, rfl, rfl, _, rfl, ifNe (by decide) ⟨_, rfl, rfl, _, rfl, ifNe (by decide) ⟨_, rfl, rfl, _, rfl, ifEq ⟨_, rfl, p, dx, _, rfl, hpo, bF_no d (by decide +kernel), _, rfl, p, d, L, x, _, rfl, rfl, B, hx, hn, fun H3 s3 => ⟨true, C6.eN, iteT ⟨CN, rfl, fun xa hxa => ⟨_, rfl, xa, CN, none, _, _, _, _, _, _, rfl, upd_same, .inl rfl, C6.rN, fun tn H5 htn s5 e5 => q tn H5 ((s3.trans (same_new hxa _)).trans s5) e5⟩⟩⟩⟩⟩⟩⟩⟩⟩⟩⟩
    | 7, _ => exact ⟨_, rfl, rfl, _, rfl, ifNe (by decide) ⟨_, rfl, rfl, _, rfl, ifNe (by decide) ⟨_, rfl, rfl, _, rfl, ifNe (by decide) ⟨_, rfl, rfl, _, rfl, ifNe (by decide) ⟨_, rfl, rfl, _, rfl, ifNe (by decide) ⟨_, rfl, rfl, _, rfl, ifNe (by decide) ⟨_, rfl, rfl, _, rfl, ifNe (by decide) ⟨_, rfl, _, rfl, p, d, L, x, _, rfl, rfl, B, hx, hn, fun H3 s3 => ⟨true, C6.eN, iteT ⟨CN, rfl, fun xa hxa => ⟨_, rfl, xa, CN, none, _, _, _, _, _, _, rfl, upd_same, .inl rfl, C6.rN, fun tn H5 htn s5 e5 => q tn H5 ((s3.trans (same_new hxa _)).trans s5) e5⟩⟩⟩⟩⟩⟩⟩⟩⟩⟩⟩
  · refine ⟨_, rfl, rfl, _, rfl, ifEq ⟨_, rfl, _, rfl, _, rfl, _, rfl, _, rfl, p, d, L, x, y, n, c, rfl, B, hx, pn, pc, (fun hn => absurd he (by rw [hn]; exact fun z => nomatch z)), fun e' he' => ?_⟩⟩
    obtain rfl : e = e' := Option.some.inj (he.symm.trans he')
    refine ⟨fun h1 H3 s3 => ?_, fun h1 => ⟨fun h2 H3 s3 => ?_, fun h2 => ⟨hod, hun ?_, fun H3 s3 => ?_⟩⟩⟩
    · have ea : refA n c = "number" := by unfold refA; rw [if_neg (by rw [h1]; exact Bool.false_ne_true)]
      rw [ea] at q
      exact ⟨true, C6.eM, iteT ⟨CM, rfl, fun xa hxa => ⟨_, rfl, xa, CM, none, _, _, _, _, _, _, rfl, upd_same, .inl rfl, C6.rM, fun tn H5 htn s5 e5 => q tn H5 ((s3.trans (same_new hxa _)).trans s5) e5⟩⟩⟩
    · have ea : refA n c = "count" := by unfold refA; rw [if_pos h1, if_neg (by rw [h2]; exact Bool.false_ne_true)]
      rw [ea] at q
      exact ⟨true, C6.eC, iteT ⟨CC, rfl, fun xa hxa => ⟨_, rfl, xa, CC, none, _, _, _, _, _, _, rfl, upd_same, .inl rfl, C6.rC, fun tn H5 htn s5 e5 => q tn H5 ((s3.trans (same_new hxa _)).trans s5) e5⟩⟩⟩
    · unfold refA
      rw [if_pos h1, if_pos h2]
    · have ea : refA n c = "unanswered" := by unfold refA; rw [if_pos h1, if_pos h2]
      rw [ea] at q
      exact ⟨true, C6.eU, iteT ⟨CU, rfl, fun xa hxa => ⟨_, rfl, xa, CU, none, _, _, _, _, _, _, rfl, upd_same, .inl rfl, C6.rU, fun tn H5 htn s5 e5 => q tn H5 ((s3.trans (same_new hxa _)).trans s5) e5⟩⟩⟩
end
end Bk
namespace Bk
open PySem L2 Mg Nm
section
variable {P : Program} {w : World} {K : PySem.W.Frag} {mg : Str → Option Value} {base : Heap} {f : Addr} {fd : FuncData}
theorem scName : FnScope ["_law_k", "_law_cell", "_law_letters", "_law_fill", "_law_place"] ["_law_k", "_law_cell"] (defScope sName) := ⟨rfl, rfl, rfl, by decide +kernel, rfl, by decide +kernel, by decide +kernel⟩
theorem ok_name (F : Fun K "_law_name_by" "_law_name_by" sName f fd) (T : Txt mg) : FnOk P w K mg base CX0 1 f fd ["_law_k", "_law_cell"] spName := by
  refine F.ok scName (fun vs H Q E h => ?_) (fun cdv A outer s H vs Q E hr h => ?_)
  · obtain ⟨k, c, rfl, _⟩ := h
    rfl
  obtain ⟨k, c, rfl, q⟩ := h
  refine ⟨_, pss_cons (ps_set (i := 2) scName.nd rfl (Or.inl rfl) pe_str)
    (pss_cons (ps_set (i := 3) scName.nd rfl (Or.inl rfl) (pe_slice sl_str (pe_op op_add_str (pv 2) (pv 2)) (po_some (pe_op op_mod (pv 1) pe_int)) (po_some (pe_op op_add (pe_op op_mod (pv 1) pe_int) (pe_op op_mod (pe_op op_fdiv (pv 1) pe_int) pe_int)))))
    (pss_cons (ps_set (i := 4) scName.nd rfl (Or.inl rfl) (pe_op op_mod (pe_op op_fdiv (pv 1) pe_int) (pe_op op_add (pe_callB call_len_str rfl T.len PySem.boot_len (pa_cons (pv 3) pa_nil)) pe_int)))
    (pss_one (ps_ret (pe_op op_add_str (pe_op op_add_str (pe_op op_add_str (pe_slice sl_str (pv 3) po_none (po_some (pv 4))) (pe_ix ix_str (pv 2) (pe_op op_mod (pe_op op_fdiv (pv 0) pe_int) pe_int) (fun _ _ => rfl))) (pe_ix ix_str (pv 2) (pe_op op_mod (pv 0) pe_int) (fun _ _ => rfl))) (pe_slice sl_str (pv 3) (po_some (pv 4)) po_none)))))), ?_⟩
  have ll := letters_len
  have l52 := sl52
  have fl : (fill c).length ≤ 52 := Nat.le_trans (fill_len c) (by decide)
  have lz : letters.length ≤ sizeLine := by omega
  refine ⟨_, rfl, _, rfl, letters, letters, rfl, rfl, by omega, ?_⟩
  refine ⟨_, rfl, _, _, rfl, rfl, (by show (0 : Int) < 26; decide), _, rfl, ?_⟩
  refine ⟨_, rfl, _, _, rfl, rfl, (by show (0 : Int) < 26; decide), _, rfl, _, _, rfl, rfl, ⟨by decide, by decide⟩, _, _, rfl, rfl, (by show (0 : Int) < 19; decide), _, _, rfl, rfl, _, rfl, ?_⟩
  refine ⟨_, rfl, by rw [len_app]; omega, ?_⟩
  refine ⟨_, rfl, _, _, rfl, rfl, ⟨by decide, by decide⟩, _, rfl, fill c, rfl, by omega, _, _, rfl, rfl, _, _, rfl, rfl, (by show (0 : Int) < ((fill c).length : Int) + 1; omega), ?_⟩
  have z1 : (Txt.slice (fill c) none (some (place c))).length ≤ 52 := Nat.le_trans (Txt.slice_le _ _ _) fl
  have z2 : (Txt.slice (fill c) (some (place c)) none).length ≤ 52 := Nat.le_trans (Txt.slice_le _ _ _) fl
  have zs : ∀ i : Int, (sign i).length = 1 := fun i => rfl
  have zl : (200 : Nat) ≤ sizeLine := by rw [sizeLine_eq]; decide
  refine ⟨_, rfl, _, rfl, _, rfl, fill c, rfl, by omega, ?_⟩
  refine ⟨_, rfl, _, rfl, _, _, rfl, rfl, ⟨by decide, by decide⟩, _, _, rfl, rfl, (by show (0 : Int) < 26; decide), letters, _, _, rfl, rfl, lz, letter_at (Int.emod_nonneg _ (by decide)) (Int.emod_lt_of_pos _ (by decide)), ?_⟩
  refine ⟨_, sign (k / 26 % 26), rfl, rfl, by rw [zs]; exact Nat.le_trans (Nat.add_le_add_right z1 1) (by omega), ?_⟩
  refine ⟨_, rfl, _, rfl, _, _, rfl, rfl, (by show (0 : Int) < 26; decide), letters, _, _, rfl, rfl, lz, letter_at (Int.emod_nonneg _ (by decide)) (Int.emod_lt_of_pos _ (by decide)), ?_⟩
  have z1' : (Txt.slice (fill c) none (some (c / 494 % (((fill c).length : Int) + 1)))).length ≤ 52 := z1
  have z2' : (Txt.slice (fill c) (some (c / 494 % (((fill c).length : Int) + 1))) none).length ≤ 52 := z2
  refine ⟨_, sign (k % 26), rfl, rfl, by rw [len_app, zs, zs]; omega, ?_⟩
  refine ⟨_, rfl, _, rfl, _, rfl, fill c, rfl, by omega, ?_⟩
  refine ⟨_, _, rfl, rfl, by rw [len_app, len_app, zs, zs]; omega, ?_⟩
  exact q
end
theorem run_tail {α : Type} [DecidableEq α] : ∀ t : List α, t.Nodup → runM t.length [t, []] = (t, [[], []])
  | [], _ => run_none rfl
  | a :: t, h => by
    obtain ⟨h1, h2⟩ := List.nodup_cons.mp h
    have hp : pick (cnt [a :: t, []]) [a :: t, []] = some a := pick_first (cnt_zero.mpr fun r hr => by
      rcases List.mem_cons.mp hr with rfl | hr
      · exact h1
      · rw [List.mem_singleton] at hr
        subst hr
        exact List.not_mem_nil)
    rw [List.length_cons, run_some hp]
    have e : [a :: t, []].map (drop1 a) = [t, []] := by rw [List.map_cons, drop1_self]; rfl
    rw [e, run_tail t h2]
theorem run_one {α : Type} [DecidableEq α] {a : α} {t : List α} (h : (a :: t).Nodup) : runM (t.length + 1) [a :: t, [a]] = (a :: t, [[], []]) := by
  obtain ⟨h1, h2⟩ := List.nodup_cons.mp h
  have hp : pick (cnt [a :: t, [a]]) [a :: t, [a]] = some a := pick_first (cnt_zero.mpr fun r hr => by
    rcases List.mem_cons.mp hr with rfl | hr
    · exact h1
    · rw [List.mem_singleton] at hr
      subst hr
      exact List.not_mem_nil)
  rw [run_some hp]
  have e : [a :: t, [a]].map (drop1 a) = [t, []] := by rw [List.map_cons, drop1_self, List.map_cons, drop1_self]; rfl
  rw [e, run_tail t h2]
theorem none_of_upd {H : Hp} {a b : Addr} {o : HO} (h : upd H a o b = none) : H b = none := by
  by_cases e : b = a
  · rw [e, upd_same] at h
    cases h
  · rw [upd_ne e] at h
    exact h
theorem can_none {CB CH : Addr} {H : Hp} {p d : Addr} {L : List Ent} {x : Str} (B : BookAt CB CH H p d L) (hx : isNm x) (hn : fnd L x = none) (hl : L.length ≤ 100) : CanFound CB CH H p d L x [] 0 ∧ (runM 0 (rowsOf L [])).1 = [] := by
  have e : runM 0 (rowsOf L []) = ([], [[]]) := rfl
  refine ⟨⟨B, okNm_of hx, by rw [sizeLine_eq]; have := hx.2.1; omega, hn, (fun y hy => nomatch hy), List.nodup_nil, by decide, hl, (show 0 ≤ 900 by decide), fun r hr => ?_, (show 0 ≤ 900 by decide)⟩, rfl⟩
  rw [e] at hr
  exact List.mem_singleton.mp hr
theorem can_one {CB CH : Addr} {H : Hp} {p d : Addr} {L : List Ent} {x : Str} {e : Ent} {t : List Str} (B : BookAt CB CH H p d L) (hx : isNm x) (hn : fnd L x = none) (hl : L.length ≤ 100) (he : e ∈ L) (ho : e.od = e.nm :: t) (hd : e.od.Nodup) (hle : e.od.length ≤ 100) : CanFound CB CH H p d L x [e.nm] (t.length + 1) ∧ (runM (t.length + 1) (rowsOf L [e.nm])).1 = e.od := by
  have hf := fnd_of B.nd he
  have er : rowsOf L [e.nm] = [e.nm :: t, [e.nm]] := by
    unfold rowsOf
    rw [List.map_cons, odOf_of hf, ho]
    rfl
  have hr : runM (t.length + 1) (rowsOf L [e.nm]) = (e.nm :: t, [[], []]) := by rw [er]; exact run_one (by rw [← ho]; exact hd)
  refine ⟨⟨B, okNm_of hx, by rw [sizeLine_eq]; have := hx.2.1; omega, hn, fun y hy => ?_, by simp, by simp, hl, ?_, fun r hr' => ?_, ?_⟩, by rw [hr, ho]⟩
  · rw [List.mem_singleton] at hy
    subst hy
    exact ⟨e, hf⟩
  · rw [er]
    rw [ho] at hle
    have : tot [e.nm :: t, [e.nm]] = (e.nm :: t).length + (1 + 0) := rfl
    omega
  · rw [hr] at hr'
    simpa using hr'
  · rw [hr]
    rw [ho] at hle
    show (e.nm :: t).length ≤ 900
    omega
section
variable {P : Program} {w : World} {K : PySem.W.Frag} {mg : Str → Option Value} {base : Heap} {f fH CB CH : Addr} {fd dH : FuncData}
theorem keys_kvB (L : List Ent) : ((kvB L).map fun kv => kV kv.1) = sVs (L.map (·.nm)) := by
  unfold kvB sVs
  rw [List.map_map, List.map_map]
  rfl
theorem scHouses : FnScope ["self"] ["self"] (defScope sHouses) := ⟨rfl, rfl, rfl, by decide +kernel, rfl, by decide +kernel, by decide +kernel⟩
theorem ok_houses (F : Fun K "houses" "Book.houses" sHouses f fd) (T : ClsB K mg CB CH) (Tx : Txt mg) : FnOk P w K mg base CX0 1 f fd ["self"] (spHouses CB CH) := by
  refine F.ok scHouses (fun vs H Q E h => ?_) (fun cdv A outer s H vs Q E hr h => ?_)
  · obtain ⟨p, d, L, rfl, _⟩ := h
    rfl
  obtain ⟨p, d, L, rfl, B, q⟩ := h
  obtain ⟨dx, hp⟩ := B.ob
  refine ⟨_, pss_one (ps_ret (pe_callTy (call_list_dict rfl) rfl Tx.list PyProof.Rows.boot_list (pa_cons (pe_fld (pv 0) rfl) pa_nil))), ?_⟩
  refine ⟨_, rfl, p, CB, dx, _, _, rfl, hp, T.clB, T.nBy, bF_by d, d, _, rfl, Rd.of B.dc, fun l hl => ?_⟩
  rw [keys_kvB]
  exact q l hl
end
end Bk
namespace Bk
open PySem L2 Mg Nm Rk PySem.SeqAt
theorem ints_get {ms : List Int} {i : Nat} {v : V} (h : (ms.map V.int)[i]? = some v) : ∃ c, ms[i]? = some c ∧ v = V.int c := by
  rw [List.getElem?_map] at h
  cases e : ms[i]? with
  | none => rw [e] at h; cases h
  | some c => rw [e] at h; exact ⟨c, rfl, (Option.some.inj h).symm⟩
theorem cut_ints (ns : List Int) (lo hi : Nat) : ∃ ms : List Int, cutV (ns.map V.int) (some (lo : Int)) (some (hi : Int)) = ms.map V.int ∧ ms.length ≤ hi - lo := by
  refine ⟨(ns.drop (HT.sIx (ns.map V.int).length 0 (some (lo : Int)))).take (HT.sIx (ns.map V.int).length (ns.map V.int).length (some (hi : Int)) - HT.sIx (ns.map V.int).length 0 (some (lo : Int))), ?_, ?_⟩
  · unfold cutV
    rw [List.map_take, List.map_drop]
  · rw [List.length_take, List.length_drop, HT.sIx_nat, HT.sIx_nat, List.length_map]
    omega
theorem good_list {K : PySem.W.Frag} {ks : List (Str × Addr × List Str)} {sl : Addr} {ms : List Int} {n : Nat} {fr : List (Str × Nat)} {g : TG} {te : TE} {σ : St} {H : Hp} {F : List V → Hp → Prop} (esl : H sl = some (.lst (ms.map V.int))) (hm : ms.length ≤ 60)
    (hs : ∀ (c : Int) (H2 : Hp) (R : VK), (∀ v g' H3, Same H2 H3 → ItG K H3 v g' → okG ks g' = true → R v H3) → g (.int c) (stC n fr σ) H2 fun σ2 H2' => te σ2 H2' R)
    (hd : ∀ us gs H', Same H H' → Paired (ItG K H') us gs → (∀ g' ∈ gs, okG ks g' = true) → us.length = ms.length → F us H') : tTurns n fr g tNoIf te σ (Itl K sl) H F := by
  refine turns_list0 (K := K) (a := sl) (xs := ms.map V.int) (fun i ys H3 => Same H H3 ∧ ∃ gs, Paired (ItG K H3) ys gs ∧ (∀ g' ∈ gs, okG ks g' = true) ∧ ys.length = i) ⟨Same.refl _, [], .nil, fa_nil, rfl⟩ (fun i ys H3 _ h => SqL.of (h.1 _ _ esl)) ?_ ?_
  · rintro i v ys H3 hi ⟨s3, gs, hp, ok, hl⟩
    obtain ⟨c, hc, rfl⟩ := ints_get hi
    have hil : i < ms.length := (List.getElem?_eq_some_iff.mp hc).1
    refine hs c H3 _ fun v g' H4 s4 ig og => ⟨by rw [hl, sizeLine_eq]; omega, s3.trans s4, gs ++ [g'], paired_app (itgs_same s4 hp) (.cons ig .nil), fun z hz => ?_, by rw [List.length_append, hl]; rfl⟩
    rcases List.mem_append.mp hz with hz | hz
    · exact ok z hz
    · rw [List.mem_singleton.mp hz]
      exact og
  · rintro ys H3 ⟨s3, gs, hp, ok, hl⟩
    exact hd ys gs H3 s3 hp ok (by rw [hl, List.length_map])
theorem paired_take {α β : Type} {F : α → β → Prop} : ∀ {xs : List α} {ys : List β} (n : Nat), Paired F xs ys → Paired F (xs.take n) (ys.take n)
  | _, _, 0, _ => by rw [List.take_zero, List.take_zero]; exact .nil
  | _, _, n + 1, .nil => .nil
  | _, _, n + 1, .cons r t => .cons r (paired_take n t)
theorem paired_drop {α β : Type} {F : α → β → Prop} : ∀ {xs : List α} {ys : List β} (n : Nat), Paired F xs ys → Paired F (xs.drop n) (ys.drop n)
  | _, _, 0, h => h
  | _, _, n + 1, .nil => .nil
  | _, _, n + 1, .cons r t => paired_drop n t
theorem paired_cut {F : V → StG → Prop} {us : List V} {gs : List StG} (h : Paired F us gs) (lo hi : Option Int) : ∃ gs', Paired F (cutV us lo hi) gs' := ⟨_, paired_take _ (paired_drop _ h)⟩
theorem okB_bad {ks : List (Str × Addr × List Str)} {g1 g2 : List StG} {b : StG} (h : okG ks b = false) : okB ks (g1 ++ [b] ++ g2) = false := by
  unfold okB
  rw [List.all_append, List.all_append]
  show (_ && (_ && (okG ks b && true) && _)) = false
  rw [h, Bool.false_and, Bool.and_false, Bool.false_and, Bool.and_false]
def spBodyBy (K : PySem.W.Frag) (ks : List (Str × Addr × List Str)) : Sp := fun vs H Q _ => ∃ (a : Addr) (ns : List Int) (y : Str), vs = [.ref a, .str y] ∧ SqL K H a (ns.map V.int) ∧ okNm y = true ∧
  ∀ l us gs H', Same H H' → H' l = some (.lst us) → Paired (ItG K H') us gs → us.length ≤ 100 → okB ks gs = decide (4 ≤ ns.getD 2 0 % 6) → Q (.ref l) H'
section
variable {P : Program} {w : World} {K : PySem.W.Frag} {mg : Str → Option Value} {base : Heap} {f fC fG fB : Addr} {fd dC dG dB : FuncData} {ks : List (Str × Addr × List Str)}
abbrev nBB : List Str := ["_law_script", "_law_word", "_law_kind", "_law_body", "_law_at"]
theorem ndcw : (["_law_cell", "_law_word"] : List Str).Nodup := by decide +kernel
theorem ndk1 : (["_law_k"] : List Str).Nodup := by decide +kernel
theorem scBodyBy : FnScope ["_law_script", "_law_word", "_law_kind", "_law_body", "_law_at"] ["_law_script", "_law_word"] (defScope sBodyBy) := ⟨rfl, rfl, rfl, by decide +kernel, rfl, by decide +kernel, by decide +kernel⟩
theorem ok_bodyBy (F : Fun K "_law_body_by" "_law_body_by" sBodyBy f fd) (Tx : Txt mg) (Tb : TabK ks) (GC : FnOk P w K mg base CX0 1 fC dC ["_law_script", "_law_k"] (spCell K)) (kC : PySem.W.keepIn K (.ref fC) = true) (bC : Binds K dC ["_law_script", "_law_k"] []) (mC : mg "_law_cell_at" = some (.ref fC))
    (GG : FnOk P w K mg base CX0 1 fG dG ["_law_cell", "_law_word"] (spStepW K ks true)) (kG : PySem.W.keepIn K (.ref fG) = true) (bG : Binds K dG ["_law_cell", "_law_word"] []) (mG : mg "_law_good_step" = some (.ref fG))
    (GB : FnOk P w K mg base CX0 1 fB dB ["_law_cell", "_law_word"] (spStepW K ks false)) (kB : PySem.W.keepIn K (.ref fB) = true) (bB : Binds K dB ["_law_cell", "_law_word"] []) (mB : mg "_law_bad_step" = some (.ref fB)) :
    FnOk P w K mg base CX0 2 f fd ["_law_script", "_law_word"] (spBodyBy K ks) := by
  refine F.ok scBodyBy (fun vs H Q E h => ?_) (fun cdv A outer s H vs Q E hr h => ?_)
  · obtain ⟨a, ns, y, rfl, _⟩ := h
    rfl
  obtain ⟨a, ns, y, rfl, S, hy, q⟩ := h
  refine ⟨_, pss_cons (ps_set (i := 2) scBodyBy.nd rfl (Or.inl rfl) (pe_op op_mod (pe_call GC hr rfl mC kC bC .nil pass0 (pa_cons (pv 0) (pa_cons pe_int pa_nil))) pe_int))
    (pss_cons (ps_setcomp (i := 3) (defScope sBodyBy) nBB ["_law_cell"] [("_law_word", 1)] rfl scBodyBy.nd rfl rfl (pi_list (pe_slice sl_list (pv 0) (po_some pe_int) (po_some pe_int))) (own_name (i := 0) (by decide)) (fun _ _ _ _ _ _ => ⟨pg_name (i := 0) ndcw rfl (Or.inl rfl), pts_nil, pe_call GG hr rfl mG kG bG .nil pass0 (pa_cons (pv 0) (pa_cons (pv 1) pa_nil))⟩))
    (pss_cons (ps_if (pt_cmpR op_lt (pv 2) pe_int (nomark _))
      (pss_cons (ps_set (i := 4) scBodyBy.nd rfl (Or.inl rfl) (pe_op op_mod (pe_op op_fdiv (pe_call GC hr rfl mC kC bC .nil pass0 (pa_cons (pv 0) (pa_cons pe_int pa_nil))) pe_int) (pe_op op_add (pe_callB call_len_seq rfl Tx.len PySem.boot_len (pa_cons (pv 3) pa_nil)) pe_int)))
      (pss_one (ps_ret (pe_op op_cat (pe_op op_cat (pe_slice sl_list (pv 3) po_none (po_some (pv 4))) (pe_lst (pa_cons (pe_call GB hr rfl mB kB bB .nil pass0 (pa_cons (pe_op op_fdiv (pe_call GC hr rfl mC kC bC .nil pass0 (pa_cons (pv 0) (pa_cons pe_int pa_nil))) pe_int) (pa_cons (pv 1) pa_nil))) pa_nil))) (pe_slice sl_list (pv 3) (po_some (pv 4)) po_none))))) pss_nil)
    (pss_cons (ps_if (pt_cmpR op_eq (pv 2) pe_int (nomark _)) (pss_one (ps_ret (pe_op op_cat (pv 3) (pe_comp (defScope sBodyBy) nBB ["_law_k"] [] rfl (pi_range1 rfl Tx.range (pa_cons pe_int pa_nil)) (own_name (i := 0) (by decide)) (fun _ _ _ _ _ _ => ⟨pg_name (i := 0) ndk1 rfl (Or.inl rfl), pts_nil, pe_tup (pa_cons pe_str pa_nil)⟩))))) pss_nil)
    (pss_one (ps_ret (pv 3)))))), ?_⟩
  -- kind
  refine ⟨_, rfl, a, ns, 2, rfl, S, _, _, rfl, rfl, (by show (0 : Int) < 6; decide), ?_⟩
  dsimp only
  have b0 := Int.emod_nonneg (ns.getD 2 0) (show (6 : Int) ≠ 0 by decide)
  have b1 := Int.emod_lt_of_pos (ns.getD 2 0) (show (0 : Int) < 6 by decide)
  generalize ns.getD 2 0 % 6 = kd at *
  -- body
  refine ⟨_, rfl, _, rfl, _, rfl, a, _, rfl, S, fun sl hsl => ?_⟩
  obtain ⟨ms, ems, hms⟩ := cut_ints ns 3 33
  rw [show cutV (ns.map V.int) (some 3) (some 33) = ms.map V.int from ems]
  have s1 := same_new hsl (.lst (ms.map V.int))
  have esl : (upd H sl (.lst (ms.map V.int))) sl = some (.lst (ms.map V.int)) := upd_same
  generalize upd H sl (.lst (ms.map V.int)) = H1 at *
  refine ⟨sl, rfl, ⟨_, SqL.of esl⟩, good_list (ks := ks) esl (by omega) (fun c H2 R k => ⟨_, rfl, _, rfl, c, y, rfl, hy, fun v g H3 s3 i3 o3 => k v g H3 s3 i3 o3⟩) fun us gs H2 s2 hp ok hl => ?_⟩
  intro l hl0
  have s3 := same_new hl0 (.lst us)
  have el : (upd H2 l (.lst us)) l = some (.lst us) := upd_same
  have P3 := itgs_same s3 hp
  generalize upd H2 l (.lst us) = H3 at *
  have sA := (s1.trans s2).trans s3
  have SA := sA.seq S
  have hul : us.length ≤ 30 := by omega
  have hgl := paired_len hp
  -- kind < 3
  refine ⟨_, rfl, _, _, rfl, rfl, _, rfl, ite2 (fun c => ?_) (fun c => ?_)⟩
  · have c' := of_decide_eq_true c
    refine ⟨_, rfl, a, ns, 2, rfl, SA, _, _, rfl, rfl, ⟨by decide, by decide⟩, _, rfl, l, us, rfl, .inl (SqL.of el), _, _, rfl, rfl, _, _, rfl, rfl, (by show (0 : Int) < (us.length : Int) + 1; omega), ?_⟩
    dsimp only
    generalize ns.getD 2 0 / 6 % ((us.length : Int) + 1) = at_
    refine ⟨_, rfl, _, rfl, _, rfl, l, us, rfl, SqL.of el, fun c1 hc1 => ?_⟩
    obtain ⟨g1, p1⟩ := paired_cut P3 none (some at_)
    have l1 := cutV_length us none (some at_)
    have s4 := same_new hc1 (.lst (cutV us none (some at_)))
    have e4 : (upd H3 c1 (.lst (cutV us none (some at_)))) c1 = some (.lst (cutV us none (some at_))) := upd_same
    generalize upd H3 c1 (.lst (cutV us none (some at_))) = H4 at *
    generalize cutV us none (some at_) = u1 at *
    refine ⟨_, rfl, a, ns, 2, rfl, s4.seq SA, _, _, rfl, rfl, ⟨by decide, by decide⟩, _, rfl, _, y, rfl, hy, fun v g H5 s5 i5 o5 => ⟨by show 1 ≤ sizeLine; decide, fun c2 hc2 => ?_⟩⟩
    have s6 := same_new hc2 (.lst [v])
    have e6 : (upd H5 c2 (.lst [v])) c2 = some (.lst [v]) := upd_same
    generalize upd H5 c2 (.lst [v]) = H6 at *
    refine ⟨c1, c2, _, _, rfl, rfl, s6 _ _ (s5 _ _ e4), e6, by rw [sizeLine_eq]; show _ + 1 ≤ _; omega, fun c3 hc3 => ?_⟩
    have s7 := same_new hc3 (.lst (u1 ++ [v]))
    have e7 : (upd H6 c3 (.lst (u1 ++ [v]))) c3 = some (.lst (u1 ++ [v])) := upd_same
    generalize upd H6 c3 (.lst (u1 ++ [v])) = H7 at *
    have s37 := ((s4.trans s5).trans s6).trans s7
    refine ⟨_, rfl, _, rfl, _, rfl, l, us, rfl, SqL.of (s37 _ _ el), fun c4 hc4 => ?_⟩
    obtain ⟨g2, p2⟩ := paired_cut P3 (some at_) none
    have l2 := cutV_length us (some at_) none
    have s8 := same_new hc4 (.lst (cutV us (some at_) none))
    have e8 : (upd H7 c4 (.lst (cutV us (some at_) none))) c4 = some (.lst (cutV us (some at_) none)) := upd_same
    generalize upd H7 c4 (.lst (cutV us (some at_) none)) = H8 at *
    generalize cutV us (some at_) none = u2 at *
    refine ⟨c3, c4, _, _, rfl, rfl, s8 _ _ e7, e8, by rw [List.length_append, sizeLine_eq]; show _ + 1 + _ ≤ _; omega, fun r hr' => ?_⟩
    have s9 := same_new hr' (.lst (u1 ++ [v] ++ u2))
    have s39 := (s37.trans s8).trans s9
    have s59 := ((s6.trans s7).trans s8).trans s9
    refine q r _ (g1 ++ [g] ++ g2) _ (sA.trans s39) upd_same (paired_app (paired_app (itgs_same s39 p1) (.cons (i5.same s59) .nil)) (itgs_same s39 p2)) ?_ ?_
    · rw [List.length_append, List.length_append]
      show _ + 1 + _ ≤ 100
      omega
    · rw [okB_bad o5, decide_eq_false (by omega)]
  have c' : ¬ kd < 3 := fun z => c (decide_eq_true z)
  -- kind == 3
  refine ⟨_, rfl, rfl, _, rfl, ite2 (fun c2 => ?_) (fun c2 => ?_)⟩
  · have k3 : kd = 3 := V.int.inj (of_decide_eq_true c2)
    refine ⟨_, rfl, 31, rfl, by decide, by decide, turns_range0 (k := 31) (fun i ys H4 => Same H3 H4 ∧ ∃ gs', Paired (ItG K H4) ys gs' ∧ ys.length = i) ⟨Same.refl _, [], .nil, rfl⟩ ?_ ?_⟩
    · rintro i ys H4 hi ⟨s4, gs', p4, hl4⟩
      refine ⟨by show 1 ≤ sizeLine; decide, fun t ht => ?_⟩
      have s5 := same_new ht (.tup [V.str "say"])
      refine ⟨by rw [hl4, sizeLine_eq]; omega, s4.trans s5, gs' ++ [.tup "say" []], paired_app (itgs_same s5 p4) (.cons (itg_tup upd_same (.str (by decide +kernel) (by decide +kernel) .nil) (by decide)) .nil), by rw [List.length_append, hl4]; rfl⟩
    · rintro ys H4 ⟨s4, gs', p4, hl4⟩ c1 hc1
      have s5 := same_new hc1 (.lst ys)
      have e5 : (upd H4 c1 (.lst ys)) c1 = some (.lst ys) := upd_same
      have p5 := itgs_same s5 p4
      generalize upd H4 c1 (.lst ys) = H5 at *
      have s35 := s4.trans s5
      refine ⟨l, c1, _, _, rfl, rfl, s35 _ _ el, e5, by rw [sizeLine_eq]; omega, fun r hr' => ?_⟩
      obtain ⟨s6, p6⟩ := at_cat P3 s35 p5 hr'
      refine q r _ _ _ (sA.trans s6) upd_same p6 (by rw [List.length_append]; omega) ?_
      have h31 : ¬ (gs ++ gs').length ≤ 30 := by
        have := paired_len p4
        rw [List.length_append]
        omega
      unfold okB
      rw [decide_eq_false h31, Bool.false_and, decide_eq_false (by omega)]
  · have k3 : ¬ kd = 3 := fun z => c2 (decide_eq_true (by rw [z]))
    refine ⟨_, rfl, q l us gs H3 sA el P3 (by omega) ?_⟩
    unfold okB
    rw [decide_eq_true (show gs.length ≤ 30 by omega), Bool.true_and, decide_eq_true (show 4 ≤ kd by omega)]
    exact List.all_eq_true.mpr ok
end
end Bk
namespace L2
open PySem PySem.Spec PyProof.Rows PySem.Builtin
def rUpper : V → List V → Hp → VK → Prop := fun x vs H Q => ∃ z, x = .str z ∧ vs = [] ∧ PySem.Builtin.Str.tooLong (Txt.upper z).length = false ∧ Q (.str (Txt.upper z)) H
theorem mt_upper {X : Cx} : MtR X "str.upper" rUpper := by
  intro pins s σ H x vs v us Q I rx rv h
  obtain ⟨z, rfl, rfl, hf, q⟩ := h
  obtain ⟨t, rfl⟩ := rx
  cases rv
  exact SC.upper hf ⟨.str _, H, I.tok _, ⟨_, rfl⟩, q⟩
end L2
namespace Bk
open PySem L2 Mg Nm Rk PySem.SeqAt
theorem KeepD.x {H H' : Hp} {ba : Addr} {kv : List (Key × V)} (k : KeepD H H' ba) (e : H ba = some (.dK kv)) : ∀ b o, H b = some o → (∀ z, o ≠ .dK z) → H' b = some o := fun b o hb hn => k b o hb (ne_of hb e (hn _))
def KeepX (H H' : Hp) : Prop := ∀ b o, H b = some o → (∀ z, o ≠ .dK z) → H' b = some o
theorem KeepX.of_same {H H' : Hp} (s : Same H H') : KeepX H H' := fun b o h _ => s b o h
theorem KeepX.trans {H H' H'' : Hp} (a : KeepX H H') (b : KeepX H' H'') : KeepX H H'' := fun c o h n => b c o (a c o h n) n
theorem KeepX.sql {K : PySem.W.Frag} {H H' : Hp} (k : KeepX H H') {a : Addr} {xs : List V} (h : SqL K H a xs) : SqL K H' a xs := by
  rcases h with (h | ⟨o, h⟩) | h
  · exact .inl (.inl (k _ _ h (by intro z e; cases e)))
  · exact .inl (.inr ⟨o, k _ _ h (by intro z e; cases e)⟩)
  · exact .inr h
theorem map_set_same {α β : Type} {f : α → β} {L : List α} {a : Nat} {e e' : α} (h : L[a]? = some e) (he : f e' = f e) : (L.set a e').map f = L.map f := by
  refine List.ext_getElem? fun j => ?_
  rw [List.getElem?_map, List.getElem?_map]
  by_cases hj : a = j
  · subst hj
    rw [List.getElem?_set_self (List.getElem?_eq_some_iff.mp h).1, h]
    show some (f e') = some (f e)
    rw [he]
  · rw [List.getElem?_set_ne hj]
theorem set_get {α : Type} {L : List α} {a j : Nat} {e b : α} (ha : a < L.length) (h : (L.set a e)[j]? = some b) : (j = a ∧ b = e) ∨ (j ≠ a ∧ L[j]? = some b) := by
  by_cases hj : a = j
  · subst hj
    rw [List.getElem?_set_self ha] at h
    exact .inl ⟨rfl, (Option.some.inj h).symm⟩
  · rw [List.getElem?_set_ne hj] at h
    exact .inr ⟨Ne.symm hj, h⟩
theorem BookAt.putBd {CB CH : Addr} {H H' : Hp} {p d : Addr} {L : List Ent} {a : Nat} {e : Ent} {bd : List (Key × V)} (B : BookAt CB CH H p d L) (he : L[a]? = some e) (k : KeepD H H' e.ba) (hb : H' e.ba = some (.dK bd)) : BookAt CB CH H' p d (L.set a { e with bd := bd }) := by
  have hem := List.mem_of_getElem? he
  have hal : a < L.length := (List.getElem?_eq_some_iff.mp he).1
  have E := B.en e hem
  obtain ⟨dx, hp⟩ := B.ob
  have kd := k.x E.bd
  have ed : kvB (L.set a { e with bd := bd }) = kvB L := map_set_same he rfl
  refine ⟨⟨dx, kd _ _ hp (by intro _ z; cases z)⟩, ?_, fun x hx => ?_, fun x hx => ?_, ?_, ?_⟩
  · rw [ed]
    exact k _ _ B.dc (Ne.symm (B.nb e hem))
  · obtain ⟨j, hj⟩ := List.getElem?_of_mem hx
    rcases set_get hal hj with ⟨rfl, rfl⟩ | ⟨hne, hj'⟩
    · exact ⟨kd _ _ E.ob (by intro _ z; cases z), kd _ _ E.el (by intro _ z; cases z), kd _ _ E.od (by intro _ z; cases z), hb⟩
    · have hx' := List.mem_of_getElem? hj'
      have A := B.en x hx'
      have nb : x.ba ≠ e.ba := fun z => by
        have hx1 : (L.map (·.ba))[j]? = some x.ba := by rw [List.getElem?_map, hj']; rfl
        have hx2 : (L.map (·.ba))[a]? = some e.ba := by rw [List.getElem?_map, he]; rfl
        rw [z] at hx1
        have l1 : j < (L.map (·.ba)).length := (List.getElem?_eq_some_iff.mp hx1).1
        exact hne ((List.getElem?_inj l1 B.nn).mp (hx1.trans hx2.symm))
      exact ⟨kd _ _ A.ob (by intro _ z; cases z), kd _ _ A.el (by intro _ z; cases z), kd _ _ A.od (by intro _ z; cases z), k _ _ A.bd nb⟩
  · obtain ⟨j, hj⟩ := List.getElem?_of_mem hx
    rcases set_get hal hj with ⟨rfl, rfl⟩ | ⟨hne, hj'⟩
    · exact B.nb e hem
    · exact B.nb x (List.mem_of_getElem? hj')
  · rw [map_set_same (f := fun x : Ent => x.nm) (e' := { e with bd := bd }) he rfl]
    exact B.nd
  · rw [map_set_same (f := fun x : Ent => x.ba) (e' := { e with bd := bd }) he rfl]
    exact B.nn
structure St2 (K : PySem.W.Frag) (CB CH : Addr) (H : Hp) (p d : Addr) (x0 x1 y : Str) (e0 e1 : Ent) (la : Addr) (us : List V) (ds : List PyData) : Prop where
  bk : BookAt CB CH H p d [e0, e1]
  n0 : e0.nm = x0
  n1 : e1.nm = x1
  o1 : e1.od = [x1, x0]
  b0 : e0.bd = []
  b1 : e1.bd = kvT [(y, la)]
  lst : H la = some (.lst us)
  dv : DVs K H us ds
  ld : LD ds
section
variable {K : PySem.W.Frag} {CB CH : Addr} {H H' : Hp} {p d : Addr} {x0 x1 y : Str} {e0 e1 : Ent} {la la' : Addr} {us us' : List V} {ds ds' : List PyData}
theorem St2.same (S : St2 K CB CH H p d x0 x1 y e0 e1 la us ds) (s : Same H H') : St2 K CB CH H' p d x0 x1 y e0 e1 la us ds := ⟨S.bk.same s, S.n0, S.n1, S.o1, S.b0, S.b1, s _ _ S.lst, DVs.same s S.dv, S.ld⟩
theorem St2.f1 (S : St2 K CB CH H p d x0 x1 y e0 e1 la us ds) : fnd [e0, e1] x1 = some e1 := by rw [← S.n1]; exact fnd_of S.bk.nd (by simp)
theorem St2.f0 (S : St2 K CB CH H p d x0 x1 y e0 e1 la us ds) : fnd [e0, e1] x0 = some e0 := by rw [← S.n0]; exact fnd_of S.bk.nd (by simp)
theorem St2.bl (S : St2 K CB CH H p d x0 x1 y e0 e1 la us ds) : ∀ e ∈ [e0, e1], e.bd.length ≤ 1000 := by
  intro e he
  simp only [List.mem_cons, List.not_mem_nil, or_false] at he
  rcases he with rfl | rfl
  · rw [S.b0]; decide
  · rw [S.b1]; show 1 ≤ 1000; decide
theorem putK_one (y : Str) (v v' : V) : putK ([((Sum.inr y : Key), v)] : List (Key × V)) (Sum.inr y : Key) v' = [((Sum.inr y : Key), v')] := by
  unfold putK
  rw [if_pos (by simp)]
  simp
theorem St2.put (S : St2 K CB CH H p d x0 x1 y e0 e1 la us ds) (k : KeepD H H' e1.ba) (hb : H' e1.ba = some (.dK (putK e1.bd (Sum.inr y : Key) (.ref la')))) (hl : H' la' = some (.lst us')) (hd : DVs K H' us' ds') (ld : LD ds') : St2 K CB CH H' p d x0 x1 y e0 { e1 with bd := kvT [(y, la')] } la' us' ds' := by
  have e : putK e1.bd (Sum.inr y : Key) (.ref la') = kvT [(y, la')] := by rw [S.b1]; exact putK_one y _ _
  rw [e] at hb
  have B := S.bk.putBd (a := 1) rfl k hb
  exact ⟨B, S.n0, S.n1, S.o1, S.b0, rfl, hl, hd, ld⟩
theorem St2.words (S : St2 K CB CH H p d x0 x1 y e0 e1 la us ds) : wordsOf [e0, e1] e1.od = [y] ∧ TxtW [e0, e1] ∧ (∀ z ∈ e1.od, ∃ a, fnd [e0, e1] z = some a) ∧ e1.od.length ≤ 100 := by
  have w1 : wdOf [e0, e1] x1 = [y] := wdOf_of S.f1 S.b1
  have w0 : wdOf [e0, e1] x0 = [] := wdOf_of (W := []) S.f0 S.b0
  refine ⟨?_, fun e he => ?_, fun z hz => ?_, ?_⟩
  · rw [S.o1]
    unfold wordsOf
    rw [List.map_cons, List.map_cons, w1, w0]
    simp [addW]
  · simp only [List.mem_cons, List.not_mem_nil, or_false] at he
    rcases he with rfl | rfl
    · exact ⟨[], S.b0, by decide⟩
    · exact ⟨[(y, la)], S.b1, by show 1 ≤ 100; decide⟩
  · rw [S.o1] at hz
    simp only [List.mem_cons, List.not_mem_nil, or_false] at hz
    rcases hz with rfl | rfl
    · exact ⟨_, S.f1⟩
    · exact ⟨_, S.f0⟩
  · rw [S.o1]
    show 2 ≤ 100
    decide
end
theorem okNm_len {x : Str} (h : 20 < x.length) : okNm x = false := by
  unfold okNm
  rw [decide_eq_false (show ¬ x.length ≤ 20 by omega), Bool.and_false, Bool.false_and]
theorem okNm_cp {x : Str} {c : Nat} (h : c ∈ x.cps.toList) (hc : ¬ (97 ≤ c ∧ c ≤ 122)) : okNm x = false := by
  unfold okNm
  have : (x.cps.toList.all fun c => decide (97 ≤ c) && decide (c ≤ 122)) = false := by
    refine List.all_eq_false.mpr ⟨c, h, ?_⟩
    intro z
    rw [Bool.and_eq_true] at z
    exact hc ⟨of_decide_eq_true z.1, of_decide_eq_true z.2⟩
  rw [this, Bool.and_false]
theorem upper_cp : ∀ c ∈ List.range' 97 26, ((Txt.upper ⟨#[c]⟩).cps.toList = [c - 32]) := by decide +kernel
theorem app_cps (a b : Str) : (a ++ b).cps.toList = a.cps.toList ++ b.cps.toList := by
  show (a.cps ++ b.cps).toList = _
  rw [Array.toList_append]
theorem nm_cp {y : Str} (h : okNm y = true) : ∃ c r, y.cps.toList = c :: r ∧ 97 ≤ c ∧ c ≤ 122 := by
  have h' := h
  unfold okNm at h
  rw [Bool.and_eq_true, Bool.and_eq_true] at h
  have h1 := of_decide_eq_true h.1.1
  have h1' : 1 ≤ y.cps.toList.length := by rw [Array.length_toList]; exact h1
  cases e : y.cps.toList with
  | nil => rw [e] at h1'; exact absurd h1' (by decide)
  | cons c r =>
    have z := List.all_eq_true.mp h.2 c (by rw [e]; exact List.mem_cons_self)
    rw [Bool.and_eq_true] at z
    exact ⟨c, r, rfl, of_decide_eq_true z.1, of_decide_eq_true z.2⟩
theorem slice1 {y : Str} {c : Nat} {r : List Nat} (e : y.cps.toList = c :: r) : Txt.slice y none (some 1) = ⟨#[c]⟩ := by
  have hl : (1 : Int) ≤ y.length := by
    have : y.cps.toList.length = r.length + 1 := by rw [e]; rfl
    rw [Array.length_toList] at this
    show (1 : Int) ≤ (y.cps.size : Int)
    omega
  have z := cut_to (x := y) (j := 1) (by decide) hl
  rw [e] at z
  have z' : (Txt.slice y none (some 1)).cps.toList = [c] := z
  have : (Txt.slice y none (some 1)).cps = #[c] := Array.toList_inj.mp (by rw [z'])
  cases hh : Txt.slice y none (some 1) with
  | mk cps =>
    rw [hh] at this
    replace this : cps = #[c] := this
    rw [this]
def badT (y : Str) : List Str := ["", y ++ "1", y ++ "abcdefghijklmnopqrs", " " ++ y, Txt.upper (Txt.slice y none (some 1)) ++ Txt.slice y (some 1) none]
theorem badT_no {y : Str} (hy : okNm y = true) (h2 : 2 ≤ y.length) : ∀ z ∈ badT y, okNm z = false ∧ z.length ≤ 1000 := by
  have ly := (nm_ok hy).2
  obtain ⟨c, r, e, c0, c1⟩ := nm_cp hy
  have hs := slice1 e
  have hu := upper_cp c (by rw [List.mem_range'_1]; omega)
  unfold badT
  refine fa_cons ⟨by decide +kernel, by decide +kernel⟩ (fa_cons ⟨okNm_one y, by rw [Str.length_append]; show _ + 1 ≤ _; omega⟩ (fa_cons ⟨okNm_len (by rw [Str.length_append]; show 20 < _ + 19; omega), by rw [Str.length_append]; show _ + 19 ≤ _; omega⟩ (fa_cons ⟨okNm_cp (c := 32) (by rw [app_cps]; exact List.mem_append_left _ (by decide +kernel)) (by omega), by rw [Str.length_append]; show 1 + _ ≤ _; omega⟩ (fa_cons ⟨okNm_cp (c := c - 32) ?_ (by omega), ?_⟩ fa_nil))))
  · rw [app_cps, hs, hu]
    exact List.mem_append_left _ List.mem_cons_self
  · have l1 : (Txt.upper ⟨#[c]⟩).length = 1 := by
      show (Txt.upper ⟨#[c]⟩).cps.size = 1
      rw [← Array.length_toList, hu]
      rfl
    have l2 := Txt.slice_le y (some 1) none
    rw [Str.length_append, hs, l1]
    omega
theorem atI_mem {xs : List V} {n : Nat} (h : xs.length = n) (hn : 0 < n) (c : Int) : ∃ v, atI xs (c % (n : Int)) = some v ∧ v ∈ xs := by
  have h0 : 0 ≤ c % (n : Int) := Int.emod_nonneg c (by omega)
  have h1 : c % (n : Int) < n := Int.emod_lt_of_pos c (by omega)
  obtain ⟨k, hk⟩ := Int.eq_ofNat_of_zero_le h0
  have hlt : k < xs.length := by omega
  have e : xs[k]? = some xs[k] := List.getElem?_eq_getElem hlt
  exact ⟨xs[k], by rw [hk]; exact atI_nat e, List.getElem_mem hlt⟩
theorem ld_text {t : Str} (h : PyData.strOk t = true) : LD [.str t] := ⟨by simp [plainDs, plainD, h], by simp [PyData.depthAll, PyData.depth]⟩
theorem ld_nil : LD [] := ⟨by simp [plainDs], by simp [PyData.depthAll]⟩
def dT0 : List PyData := [.tuple [.str "put", .int 7], .tuple [.str "say"]]
theorem ld_T0 : LD dT0 := ⟨by decide +kernel, by decide +kernel⟩
def spFirst (K : PySem.W.Frag) (CB CH : Addr) : Sp := fun vs H Q _ => ∃ (a p d hl : Addr) (ns : List Int) (x0 x1 x2 y : Str) (e0 e1 : Ent) (la : Addr) (us : List V), vs = [.ref a, .ref p, .ref hl, .str y] ∧ SqL K H a (ns.map V.int) ∧ H hl = some (.lst (sVs [x0, x1, x2])) ∧ St2 K CB CH H p d x0 x1 y e0 e1 la us dT0 ∧ okNm y = true ∧ 2 ≤ y.length ∧ ShowT x1 ∧ ShowT x2 ∧ fnd [e0, e1] x2 = none ∧
  ∀ H' e1' la' us' ds', St2 K CB CH H' p d x0 x1 y e0 e1' la' us' ds' → e1'.nm = e1.nm → KeepX H H' → Q (.bl true) H'
section
variable {P : Program} {w : World} {K : PySem.W.Frag} {mg : Str → Option Value} {base : Heap} {f fC fY fT fO fB fW CB CH : Addr} {fd dC dY dT dO dB dW : FuncData} {ks : List (Str × Addr × List Str)}
theorem scFirst : FnScope ["_law_script", "_law_book", "_law_houses", "_law_word", "_law_body", "_law_due", "_law_asked_here", "_law_cell", "_law_long", "_law_name", "_law_own"] ["_law_script", "_law_book", "_law_houses", "_law_word"] (defScope sFirstT) := ⟨rfl, rfl, rfl, by decide +kernel, rfl, by decide +kernel, by decide +kernel⟩
theorem ok_first (F : Fun K "_law_first_taught" "_law_first_taught" sFirstT f fd) (T : ClsB K mg CB CH) (Tx : Txt mg) (GC : FnOk P w K mg base CX0 1 fC dC ["_law_script", "_law_k"] (spCell K)) (kC : PySem.W.keepIn K (.ref fC) = true) (bC : Binds K dC ["_law_script", "_law_k"] []) (mC : mg "_law_cell_at" = some (.ref fC))
    (GY : FnOk P w K mg base CX0 2 fY dY ["_law_script", "_law_word"] (spBodyBy K ks)) (kY : PySem.W.keepIn K (.ref fY) = true) (bY : Binds K dY ["_law_script", "_law_word"] []) (mY : mg "_law_body_by" = some (.ref fY))
    (GT : FnOk P w K mg base CX0 7 fT dT ["_law_book", "_law_name", "_law_word", "_law_body"] (spTaughtL K CB CH ks)) (kT : PySem.W.keepIn K (.ref fT) = true) (bT : Binds K dT ["_law_book", "_law_name", "_law_word", "_law_body"] []) (mT : mg "_law_taught" = some (.ref fT))
    (GO : FnOk P w K mg base CX0 2 fO dO ["self", "name"] (spOwn CB CH)) (bO : Binds K dO ["self", "name"] []) (mO : Meth K CB "own_words" fO)
    (GB : FnOk P w K mg base CX0 2 fB dB ["self", "name", "word"] (spBody CB CH)) (bB : Binds K dB ["self", "name", "word"] []) (mB : Meth K CB "body" fB)
    (GW : FnOk P w K mg base CX0 2 fW dW ["self", "name"] (spWords CB CH)) (bW : Binds K dW ["self", "name"] []) (mW : Meth K CB "words" fW) :
    FnOk P w K mg base CX0 8 f fd ["_law_script", "_law_book", "_law_houses", "_law_word"] (spFirst K CB CH) := by
  refine F.ok scFirst (fun vs H Q E h => ?_) (fun cdv A outer s H vs Q E hr h => ?_)
  · obtain ⟨a, p, d, hl, ns, x0, x1, x2, y, e0, e1, la, us, rfl, _⟩ := h
    rfl
  obtain ⟨a, p, d, hl, ns, x0, x1, x2, y, e0, e1, la, us, rfl, S, ehl, St, hy, h2, hx1, hx2, hno, q⟩ := h
  have hr1 := hr.mono (j := 1) (by decide)
  have hr2 := hr.mono (j := 2) (by decide)
  have hu : (A.deeper (PyProof.Rows.envOfC "_law_first_taught" (defScope sFirstT) s.heap.objs.size f cdv)).units + 64 < cLine := by have := hr.un; omega
  have oy := (nm_ok hy).1
  have ly := (nm_ok hy).2
  have at1 : atI (sVs [x0, x1, x2]) 1 = some (.str x1) := atI_nat (j := 1) rfl
  have at2 : atI (sVs [x0, x1, x2]) 2 = some (.str x2) := atI_nat (j := 2) rfl
  obtain ⟨sy1, sy2, sy3⟩ := (ld_text oy).sh
  -- what is found of the book
  refine with_tail (tail := (defBody sFirstT).drop 10) (fun tt => ∀ (H1 : Hp) (lb : Addr) (e1' : Ent) (la' : Addr) (ub us' : List V) (ds : List PyData) (v5 v6 v7 v8 v9 : Option V), St2 K CB CH H1 p d x0 x1 y e0 e1' la' us' ds → e1'.nm = e1.nm → KeepX H H1 → H1 lb = some (.lst ub) → DVs K H1 ub ds → tt { nx := fun _ H' => Q .non H', rt := Q } [some (.ref a), some (.ref p), some (.ref hl), some (.str y), some (.ref lb), v5, v6, v7, v8, v9, none] H1) ?_ ?_
  · refine ⟨_, pss_cons (ps_set (i := 10) scFirst.nd rfl (Or.inl rfl) (pe_meth (pv 1) T.clB mO GO hr2 bO .nil pass0 (pa_cons (pe_ix ix_list (pv 2) pe_int (fun _ _ => rfl)) pa_nil)))
      (pss_one (ps_ret (pe_and (pe_cmpR (op_eqD hu) (pe_meth (pv 1) T.clB mB GB hr2 bB .nil pass0 (pa_cons (pe_ix ix_list (pv 2) pe_int (fun _ _ => rfl)) (pa_cons (pv 3) pa_nil))) (pv 4) (nomark _)) (pe_and (pe_cmpR (op_eqD hu) (pv 10) (pe_lst (pa_cons (pv 3) pa_nil)) (nomark _)) (pe_one (pe_cmpR (op_eqD hu) (pe_meth (pv 1) T.clB mW GW hr2 bW .nil pass0 (pa_cons (pe_ix ix_list (pv 2) pe_int (fun _ _ => rfl)) pa_nil)) (pv 10) (nomark _))))))), ?_⟩
    intro H1 lb e1' la' ub us' ds v5 v6 v7 v8 v9 S1 hnm kx elb hdb
    obtain ⟨dx, hp⟩ := S1.bk.ob
    have ehl1 := kx _ _ ehl (by intro z e; cases e)
    refine ⟨_, rfl, p, dx, _, rfl, hp, bF_no d (by decide +kernel), _, rfl, hl, _, _, _, rfl, rfl, SqL.of ehl1, at1, p, d, [e0, e1'], x1, e1', [(y, la')], rfl, S1.bk, S1.f1, S1.b1, fun ow how => ?_⟩
    have s2 := same_new how (.lst (sVs ([(y, la')].map (·.1))))
    have e2 : (upd H1 ow (.lst (sVs ([(y, la')].map (·.1))))) ow = some (.lst [.str y]) := upd_same
    generalize upd H1 ow (.lst (sVs ([(y, la')].map (·.1)))) = H2 at *
    have S2 := S1.same s2
    obtain ⟨sd1, sd2, sd3⟩ := S1.ld.sh
    refine ⟨_, rfl, p, dx, _, rfl, s2 _ _ hp, bF_no d (by decide +kernel), _, rfl, hl, _, _, _, rfl, rfl, SqL.of (s2 _ _ ehl1), at1, _, rfl, p, d, [e0, e1'], x1, y, e1', rfl, S2.bk, S2.f1, .inr ⟨la', us', by rw [S2.b1]; exact valV_pos rfl, S2.lst, fun c hc => ?_⟩⟩
    have s3 := same_new hc (.lst us')
    have e3 : (upd H2 c (.lst us')) c = some (.lst us') := upd_same
    generalize upd H2 c (.lst us') = H3 at *
    have s13 := s2.trans s3
    have S3 := S2.same s3
    refine ⟨_, rfl, .list ds, .list ds, .lst (SqL.of e3) S3.dv, .lst (SqL.of (s13 _ _ elb)) (DVs.same s13 hdb), sd1, sd1, sd2, _, rfl, ?_⟩
    rw [if_neg Bool.false_ne_true, sd3]
    refine iteT ?_
    refine ⟨_, rfl, _, rfl, by show 1 ≤ sizeLine; decide, fun c4 hc4 => ?_⟩
    have s4 := same_new hc4 (.lst [V.str y])
    have e4 : (upd H3 c4 (.lst [V.str y])) c4 = some (.lst [V.str y]) := upd_same
    generalize upd H3 c4 (.lst [V.str y]) = H4 at *
    refine ⟨.list [.str y], .list [.str y], .lst (SqL.of (s4 _ _ (s3 _ _ e2))) (.cons (.str y) .nil), .lst (SqL.of e4) (.cons (.str y) .nil), sy1, sy1, sy2, _, rfl, ?_⟩
    rw [if_neg Bool.false_ne_true, sy3]
    refine iteT ?_
    have S4 := S3.same s4
    obtain ⟨w1, w2, w3, w4⟩ := S4.words
    obtain ⟨dx4, hp4⟩ := S4.bk.ob
    refine ⟨_, rfl, p, dx4, _, rfl, hp4, bF_no d (by decide +kernel), _, rfl, hl, _, _, _, rfl, rfl, SqL.of ((s13.trans s4) _ _ ehl1), at1, p, d, [e0, e1'], x1, e1', rfl, S4.bk, S4.f1, w2, w3, w4, fun wl H5 hwl s5 e5 => ?_⟩
    rw [w1] at e5
    refine ⟨_, rfl, .list [.str y], .list [.str y], .lst (SqL.of e5) (.cons (.str y) .nil), .lst (SqL.of (s5 _ _ (s4 _ _ (s3 _ _ e2)))) (.cons (.str y) .nil), sy1, sy1, sy2, ?_⟩
    rw [if_neg Bool.false_ne_true, sy3]
    exact q H5 e1' la' us' ds (S4.same s5) hnm (kx.trans (KeepX.of_same ((s13.trans s4).trans s5)))
  intro t10 h10 p10
  -- the teaching itself
  refine with_tail (tail := (defBody sFirstT).drop 8) (fun tt => ∀ (H1 : Hp) (l du : Addr) (ul : List V) (gs : List StG) (x z : Str) (dl : List Str) (v7 v8 : Option V), Same H H1 → H1 l = some (.lst ul) → Paired (ItG K H1) ul gs → ul.length ≤ 100 → z.length ≤ 1000 → ShowT x → H1 du = some (.lst (sVs dl)) → dl = (refT ks [e0, e1] x z gs).toList → (refT ks [e0, e1] x z gs = none → x = x1 ∧ z = y) → (∀ t ∈ dl, PyData.strOk t = true) → tt { nx := fun _ H' => Q .non H', rt := Q } [some (.ref a), some (.ref p), some (.ref hl), some (.str y), some (.ref l), some (.ref du), some (.str z), v7, v8, some (.str x), none] H1) ?_ ?_
  · refine ⟨_, pss_cons (ps_if (pt_cmpR (op_neD hu) (pe_call GT hr rfl mT kT bT .nil pass0 (pa_cons (pv 1) (pa_cons (pv 9) (pa_cons (pv 6) (pa_cons (pv 4) pa_nil))))) (pv 5) (nomark _)) pss_never pss_nil)
      (pss_cons (ps_if (pt_cmpR (op_neD hu) (pv 5) (pe_lst pa_nil) (nomark _)) (pss_one (ps_set (i := 4) scFirst.nd rfl (Or.inl rfl) (pe_lst (pa_cons (pe_tup (pa_cons pe_str (pa_cons pe_int pa_nil))) (pa_cons (pe_tup (pa_cons pe_str pa_nil)) pa_nil))))) pss_nil) h10), ?_⟩
    intro H1 l du ul gs x z dl v7 v8 s1 el hp hul hz hx edu hdl hok hso
    have S1 := St.same s1
    refine ⟨_, rfl, _, rfl, _, rfl, _, rfl, p, d, l, [e0, e1], x, z, ul, gs, rfl, S1.bk, hx, hz, el, hp, by omega, S1.bl, fun t ht r H2 s2 er => ?_, fun hn e he lb r H2 hlb elb eba k2 er => ?_⟩
    · rw [ht] at hdl
      replace hdl : dl = [t] := hdl
      subst hdl
      obtain ⟨st1, st2, st3⟩ := (ld_text (hso t List.mem_cons_self)).sh
      have edu2 : H2 du = some (.lst [.str t]) := s2 _ _ edu
      refine ⟨_, rfl, .list [.str t], .list [.str t], .lst (SqL.of er) (.cons (.str t) .nil), .lst (SqL.of edu2) (.cons (.str t) .nil), st1, st1, st2, _, rfl, ?_⟩
      rw [if_pos rfl, st3]
      refine iteF ?_
      refine ⟨_, rfl, by show 0 ≤ sizeLine; decide, fun c3 hc3 => ?_⟩
      have s3 := same_new hc3 (.lst [])
      have e3 : (upd H2 c3 (.lst [])) c3 = some (.lst []) := upd_same
      generalize upd H2 c3 (.lst []) = H3 at *
      refine ⟨.list [.str t], .list [], .lst (SqL.of (s3 _ _ edu2)) (.cons (.str t) .nil), .lst (SqL.of e3) .nil, st1, ld_nil.sh.1, by simp [noMix, noMixAll], _, rfl, ?_⟩
      rw [if_pos rfl, show Spec.same (.list [.str t]) (.list []) = false by simp [Spec.same, Spec.sameAll]]
      refine iteT ?_
      refine ⟨by show 2 ≤ sizeLine; decide, fun t1 ht1 => ⟨by show 1 ≤ sizeLine; decide, fun t2 ht2 => ⟨by show 2 ≤ sizeLine; decide, fun c4 hc4 => ?_⟩⟩⟩
      have s4 := same_new ht1 (.tup [V.str "put", .int 7])
      have e4 : (upd H3 t1 (.tup [V.str "put", .int 7])) t1 = some (.tup [V.str "put", .int 7]) := upd_same
      generalize upd H3 t1 (.tup [V.str "put", .int 7]) = H4 at *
      have s5 := same_new ht2 (.tup [V.str "say"])
      have e5 : (upd H4 t2 (.tup [V.str "say"])) t2 = some (.tup [V.str "say"]) := upd_same
      generalize upd H4 t2 (.tup [V.str "say"]) = H5 at *
      have s6 := same_new hc4 (.lst [V.ref t1, V.ref t2])
      have e6 : (upd H5 c4 (.lst [V.ref t1, V.ref t2])) c4 = some (.lst [V.ref t1, V.ref t2]) := upd_same
      generalize upd H5 c4 (.lst [V.ref t1, V.ref t2]) = H6 at *
      have sA := (((((s1.trans s2).trans s3).trans s4).trans s5).trans s6)
      exact p10 H6 c4 e1 la _ us dT0 _ _ _ _ _ (St.same sA) rfl (KeepX.of_same sA) e6 (.cons (.tup (SqT.of ((s5.trans s6) _ _ e4)) (.cons (.str _) (.cons (.int _) .nil))) (.cons (.tup (SqT.of (s6 _ _ e5)) (.cons (.str _) .nil)) .nil))
    · obtain ⟨rfl, rfl⟩ := hok hn
      rw [hn] at hdl
      replace hdl : dl = [] := hdl
      subst hdl
      obtain rfl : e1 = e := Option.some.inj (S1.f1.symm.trans he)
      obtain ⟨ds, hd, pl, dp⟩ := dvs_its hp
      have E1 := (S1.bk.en e1 (by simp)).bd
      have kx := k2.x E1
      have edu2 : H2 du = some (.lst []) := kx _ _ edu (by intro z e; cases e)
      obtain ⟨sn1, sn2, sn3⟩ := ld_nil.sh
      refine ⟨_, rfl, .list [], .list [], .lst (SqL.of er) .nil, .lst (SqL.of edu2) .nil, sn1, sn1, sn2, _, rfl, ?_⟩
      rw [if_pos rfl, sn3]
      refine iteF ?_
      refine ⟨_, rfl, by show 0 ≤ sizeLine; decide, fun c3 hc3 => ?_⟩
      have s3 := same_new hc3 (.lst [])
      have e3 : (upd H2 c3 (.lst [])) c3 = some (.lst []) := upd_same
      generalize upd H2 c3 (.lst []) = H3 at *
      refine ⟨.list [], .list [], .lst (SqL.of (s3 _ _ edu2)) .nil, .lst (SqL.of e3) .nil, sn1, sn1, sn2, _, rfl, ?_⟩
      rw [if_pos rfl, sn3]
      refine iteF ?_
      have dv2 : DVs K H2 ul ds := DVs.keepD k2 E1 hd
      have S2 := S1.put k2 eba elb dv2 ⟨pl, dp⟩
      exact p10 H3 l _ lb ul ul ds _ _ _ _ _ (S2.same s3) rfl (((KeepX.of_same s1).trans kx).trans (KeepX.of_same s3)) (s3 _ _ (kx _ _ el (by intro z e; cases e))) (DVs.same s3 dv2)
  intro t8 h8 p8
  -- the name
  refine with_tail (tail := (defBody sFirstT).drop 6) (fun tt => ∀ (H1 : Hp) (l du : Addr) (ul : List V) (gs : List StG) (z : Str) (dl : List Str) (v7 v8 : Option V), Same H H1 → H1 l = some (.lst ul) → Paired (ItG K H1) ul gs → ul.length ≤ 100 → z.length ≤ 1000 → H1 du = some (.lst (sVs dl)) → dl = (refT ks [e0, e1] x1 z gs).toList → (refT ks [e0, e1] x1 z gs = none → z = y) → (∀ t ∈ dl, PyData.strOk t = true) → tt { nx := fun _ H' => Q .non H', rt := Q } [some (.ref a), some (.ref p), some (.ref hl), some (.str y), some (.ref l), some (.ref du), some (.str z), v7, v8, none, none] H1) ?_ ?_
  · refine ⟨_, pss_cons (ps_set (i := 9) scFirst.nd rfl (Or.inl rfl) (pe_ix ix_list (pv 2) pe_int (fun _ _ => rfl)))
      (pss_cons (ps_if (pt_cmpR op_eq (pe_op op_mod (pe_call GC hr1 rfl mC kC bC .nil pass0 (pa_cons (pv 0) (pa_cons pe_int pa_nil))) pe_int) pe_int (nomark _)) (pss_cons (ps_set (i := 9) scFirst.nd rfl (Or.inl rfl) (pe_ix ix_list (pv 2) pe_int (fun _ _ => rfl))) (pss_one (ps_set (i := 5) scFirst.nd rfl (Or.inl rfl) (pe_lst (pa_cons pe_str pa_nil))))) pss_nil) h8), ?_⟩
    intro H1 l du ul gs z dl v7 v8 s1 el hp hul hz edu hdl hok hso
    refine ⟨_, rfl, hl, _, _, _, rfl, rfl, SqL.of (s1 _ _ ehl), at1, ?_⟩
    refine ⟨_, rfl, a, ns, 2, rfl, s1.seq S, _, _, rfl, rfl, (by show (0 : Int) < 7; decide), rfl, _, rfl, ite2 (fun c => ?_) (fun c => ?_)⟩
    · refine ⟨_, rfl, hl, _, _, _, rfl, rfl, SqL.of (s1 _ _ ehl), at2, by show 1 ≤ sizeLine; decide, fun c2 hc2 => ?_⟩
      have s2 := same_new hc2 (.lst [V.str "none"])
      have e2 : (upd H1 c2 (.lst [V.str "none"])) c2 = some (.lst (sVs ["none"])) := upd_same
      generalize upd H1 c2 (.lst [V.str "none"]) = H2 at *
      have er : refT ks [e0, e1] x2 z gs = some ("none" : Str) := by unfold refT; rw [hno]
      exact p8 H2 l c2 ul gs x2 z ["none"] _ _ (s1.trans s2) (s2 _ _ el) (itgs_same s2 hp) hul hz hx2 e2 (by rw [er]; rfl) (fun h => by rw [er] at h; cases h) (fa_cons (by decide +kernel) fa_nil)
    · exact p8 H1 l du ul gs x1 z dl _ _ s1 el hp hul hz hx1 edu hdl (fun h => ⟨rfl, hok h⟩) hso
  intro t6 h6 p6
  -- the word
  refine with_tail (tail := (defBody sFirstT).drop 3) (fun tt => ∀ (H1 : Hp) (l du : Addr) (ul : List V) (gs : List StG) (dl : List Str), Same H H1 → H1 l = some (.lst ul) → Paired (ItG K H1) ul gs → ul.length ≤ 100 → H1 du = some (.lst (sVs dl)) → dl = (refT ks [e0, e1] x1 y gs).toList → (∀ t ∈ dl, PyData.strOk t = true) → tt { nx := fun _ H' => Q .non H', rt := Q } [some (.ref a), some (.ref p), some (.ref hl), some (.str y), some (.ref l), some (.ref du), none, none, none, none, none] H1) ?_ ?_
  · refine ⟨_, pss_cons (ps_set (i := 6) scFirst.nd rfl (Or.inl rfl) (pv 3))
      (pss_cons (ps_set (i := 7) scFirst.nd rfl (Or.inl rfl) (pe_call GC hr1 rfl mC kC bC .nil pass0 (pa_cons (pv 0) (pa_cons pe_int pa_nil))))
      (pss_cons (ps_if (pt_cmpR op_eq (pe_op op_mod (pv 7) pe_int) pe_int (nomark _)) (pss_cons (ps_set (i := 8) scFirst.nd rfl (Or.inl rfl) (pe_op op_add_str (pv 3) pe_str))
        (pss_cons (ps_set (i := 6) scFirst.nd rfl (Or.inl rfl) (pe_ix ix_list (pe_lst (pa_cons pe_str (pa_cons (pe_op op_add_str (pv 3) pe_str) (pa_cons (pv 8) (pa_cons (pe_op op_add_str pe_str (pv 3)) (pa_cons (pe_op op_add_str (pe_bm0 PySem.F.plainAttrs_str PySem.F.slot_str_upper PySem.F.type_str_upper mt_upper (pe_slice sl_str (pv 3) po_none (po_some pe_int))) (pe_slice sl_str (pv 3) (po_some pe_int) po_none)) pa_nil)))))) (pe_op op_mod (pe_op op_fdiv (pv 7) pe_int) pe_int) (fun _ _ => rfl)))
        (pss_one (ps_set (i := 5) scFirst.nd rfl (Or.inl rfl) (pe_lst (pa_cons pe_str pa_nil)))))) pss_nil) h6)), ?_⟩
    intro H1 l du ul gs dl s1 el hp hul edu hdl hso
    refine ⟨_, rfl, _, rfl, a, ns, 1, rfl, s1.seq S, ?_⟩
    dsimp only
    generalize ns.getD 1 0 = c
    refine ⟨_, rfl, _, _, rfl, rfl, (by show (0 : Int) < 5; decide), rfl, _, rfl, ite2 (fun c5 => ?_) (fun c5 => ?_)⟩
    · have zl : (100 : Nat) ≤ sizeLine := by rw [sizeLine_eq]; decide
      have bad := badT_no hy h2
      obtain ⟨cc, r, ecp, _, _⟩ := nm_cp hy
      have hs := slice1 ecp
      have hup := upper_cp cc (by
        have hc := nm_cp hy
        obtain ⟨c', r', e', k0, k1⟩ := hc
        rw [ecp] at e'
        cases e'
        rw [List.mem_range'_1]
        omega)
      have lu : (Txt.upper (Txt.slice y none (some 1))).length = 1 := by
        rw [hs]
        show (Txt.upper ⟨#[cc]⟩).cps.size = 1
        rw [← Array.length_toList, hup]
        rfl
      have lr := Txt.slice_le y (some 1) none
      refine ⟨_, rfl, _, _, rfl, rfl, by show _ + 19 ≤ _; omega, ?_⟩
      refine ⟨_, rfl, _, _, rfl, rfl, by show _ + 1 ≤ _; omega, _, rfl, _, rfl, _, _, rfl, rfl, by show 1 + _ ≤ _; omega, ?_⟩
      refine ⟨_, rfl, _, rfl, y, rfl, by omega, rfl, _, rfl, rfl, by rw [lu]; decide +kernel, _, rfl, _, rfl, y, rfl, by omega, _, _, rfl, rfl, by rw [lu]; omega, by show 5 ≤ sizeLine; omega, fun c2 hc2 => ?_⟩
      have s2 := same_new hc2 (.lst [V.str "", V.str (y ++ "1"), V.str (y ++ "abcdefghijklmnopqrs"), V.str (" " ++ y), V.str (Txt.upper (Txt.slice y none (some 1)) ++ Txt.slice y (some 1) none)])
      have e2 : (upd H1 c2 (.lst [V.str "", V.str (y ++ "1"), V.str (y ++ "abcdefghijklmnopqrs"), V.str (" " ++ y), V.str (Txt.upper (Txt.slice y none (some 1)) ++ Txt.slice y (some 1) none)])) c2 = some (.lst (sVs (badT y))) := upd_same
      generalize upd H1 c2 (.lst [V.str "", V.str (y ++ "1"), V.str (y ++ "abcdefghijklmnopqrs"), V.str (" " ++ y), V.str (Txt.upper (Txt.slice y none (some 1)) ++ Txt.slice y (some 1) none)]) = H2 at *
      obtain ⟨v, hat, hv⟩ := atI_mem (xs := sVs (badT y)) (n := 5) rfl (by decide) (c / 5)
      obtain ⟨z, hz, rfl⟩ := List.mem_map.mp hv
      obtain ⟨bz, lz⟩ := bad z hz
      refine ⟨_, rfl, _, _, rfl, rfl, ⟨by decide, by decide⟩, _, _, rfl, rfl, (by show (0 : Int) < 5; decide), c2, _, _, _, rfl, rfl, SqL.of e2, hat, by show 1 ≤ sizeLine; omega, fun c3 hc3 => ?_⟩
      have s3 := same_new hc3 (.lst [V.str "text"])
      have e3 : (upd H2 c3 (.lst [V.str "text"])) c3 = some (.lst (sVs ["text"])) := upd_same
      generalize upd H2 c3 (.lst [V.str "text"]) = H3 at *
      have er : refT ks [e0, e1] x1 z gs = some ("text" : Str) := by unfold refT; rw [St.f1]; show (if _ then _ else _) = _; rw [if_neg (by rw [bz]; exact Bool.false_ne_true)]
      have s13 := s2.trans s3
      exact p6 H3 l c3 ul gs z ["text"] _ _ (s1.trans s13) (s13 _ _ el) (itgs_same s13 hp) hul lz e3 (by rw [er]; rfl) (fun h => by rw [er] at h; cases h) (fa_cons (by decide +kernel) fa_nil)
    · exact p6 H1 l du ul gs y dl _ _ s1 el hp hul (by omega) edu hdl (fun _ => rfl) hso
  intro t3 h3 p3
  refine ⟨_, pss_cons (ps_set (i := 4) scFirst.nd rfl (Or.inl rfl) (pe_call GY hr2 rfl mY kY bY .nil pass0 (pa_cons (pv 0) (pa_cons (pv 3) pa_nil))))
    (pss_cons (ps_set (i := 5) scFirst.nd rfl (Or.inl rfl) (pe_lst pa_nil))
    (pss_cons (ps_if (pt_cmpR op_lt (pe_op op_mod (pe_call GC hr1 rfl mC kC bC .nil pass0 (pa_cons (pv 0) (pa_cons pe_int pa_nil))) pe_int) pe_int (nomark _)) (pss_one (ps_set (i := 5) scFirst.nd rfl (Or.inl rfl) (pe_lst (pa_cons pe_str pa_nil)))) pss_nil) h3)), ?_⟩
  refine ⟨_, rfl, _, rfl, a, ns, y, rfl, S, hy, fun l ul gs H1 s1 el hp hul hob => ⟨by show 0 ≤ sizeLine; decide, fun c2 hc2 => ?_⟩⟩
  have s2 := same_new hc2 (.lst [])
  have e2 : (upd H1 c2 (.lst [])) c2 = some (.lst (sVs [])) := upd_same
  generalize upd H1 c2 (.lst []) = H2 at *
  have s12 := s1.trans s2
  refine ⟨_, rfl, a, ns, 2, rfl, s12.seq S, _, _, rfl, rfl, (by show (0 : Int) < 6; decide), _, _, rfl, rfl, _, rfl, ite2 (fun c => ?_) (fun c => ?_)⟩
  · have c' := of_decide_eq_true c
    refine ⟨by show 1 ≤ sizeLine; decide, fun c3 hc3 => ?_⟩
    have s3 := same_new hc3 (.lst [V.str "body"])
    have e3 : (upd H2 c3 (.lst [V.str "body"])) c3 = some (.lst (sVs ["body"])) := upd_same
    generalize upd H2 c3 (.lst [V.str "body"]) = H3 at *
    have er : refT ks [e0, e1] x1 y gs = some ("body" : Str) := by
      unfold refT
      rw [St.f1]
      show (if _ then _ else _) = _
      rw [if_pos hy, if_neg]
      rw [hob, decide_eq_false (by omega)]
      exact Bool.false_ne_true
    exact p3 H3 l c3 ul gs ["body"] (s12.trans s3) (s3 _ _ (s2 _ _ el)) (itgs_same (s2.trans s3) hp) hul e3 (by rw [er]; rfl) (fa_cons (by decide +kernel) fa_nil)
  · have c' : ¬ ns.getD 2 0 % 6 < 4 := fun z => c (decide_eq_true z)
    have er : refT ks [e0, e1] x1 y gs = none := by
      unfold refT
      rw [St.f1]
      show (if _ then _ else _) = _
      rw [if_pos hy, if_pos]
      rw [hob, decide_eq_true (by omega)]
    exact p3 H2 l c2 ul gs [] s12 (s2 _ _ el) (itgs_same s2 hp) hul e2 (by rw [er]; rfl) fa_nil
end
def spOthers (CB CH : Addr) : Sp := fun vs H Q _ => ∃ (p d : Addr) (L : List Ent) (x y : Str) (e : Ent), vs = [.ref p, .str x, .str y] ∧ BookAt CB CH H p d L ∧ ShowT x ∧ fnd L x = some e ∧ okNm y = true ∧ e.od.length ≤ 1000 ∧ (∀ e ∈ L, e.bd.length ≤ 1000) ∧ ∀ H', Same H H' → Q (.bl true) H'
section
variable {P : Program} {w : World} {K : PySem.W.Frag} {mg : Str → Option Value} {base : Heap} {f fE fX fA CB CH CT CY CN CM CC CU CE : Addr} {fd dE dX dA : FuncData} {ks : List (Str × Addr × List Str)} {os : List Addr}
theorem scOthers : FnScope ["_law_book", "_law_house", "_law_word", "_law_body", "_law_told", "_law_error", "_law_name", "_law_number"] ["_law_book", "_law_house", "_law_word"] (defScope sOthers) := ⟨rfl, rfl, rfl, by decide +kernel, rfl, by decide +kernel, by decide +kernel⟩
theorem ok_others (F : Fun K "_law_others" "_law_others" sOthers f fd) (T : ClsB K mg CB CH) (Tx : Txt mg) (C6 : Cls6 K mg CT CY CN CM CC CU CE os)
    (GE : FnOk P w K mg base (CXE P w) 6 fE dE ["self", "name", "word", "body"] (spTeachX K CB CH CN CT CY ks)) (bE : Binds K dE ["self", "name", "word", "body"] []) (mE : Meth K CB "teach" fE)
    (GX : FnOkN P w K mg base 1 fX dX ["_law_error"] (spRefusal K CT CY CN CM CC CU os)) (kX : PySem.W.keepIn K (.ref fX) = true) (bX : Binds K dX ["_law_error"] []) (mX : mg "_law_refusal" = some (.ref fX))
    (GA : FnOk P w K mg base CX0 5 fA dA ["_law_kind", "_law_book", "_law_name", "_law_word", "_law_number", "_law_count"] (spAskedL CB CH)) (kA : PySem.W.keepIn K (.ref fA) = true) (bA : Binds K dA ["_law_kind", "_law_book", "_law_name", "_law_word", "_law_number", "_law_count"] []) (mA : mg "_law_asked" = some (.ref fA)) :
    FnOk P w K mg base CX0 7 f fd ["_law_book", "_law_house", "_law_word"] (spOthers CB CH) := by
  refine F.ok scOthers (fun vs H Q E h => ?_) (fun cdv A outer s H vs Q E hr h => ?_)
  · obtain ⟨p, d, L, x, y, e, rfl, _⟩ := h
    rfl
  obtain ⟨p, d, L, x, y, e, rfl, B, hx, he, hy, hod, hbl, q⟩ := h
  have hr1 := hr.mono (j := 1) (by decide)
  have hr5 := hr.mono (j := 5) (by decide)
  have hu : (A.deeper (PyProof.Rows.envOfC "_law_others" (defScope sOthers) s.heap.objs.size f cdv)).units + 64 < cLine := by have := hr.un; omega
  have ly := (nm_ok hy).2
  obtain ⟨sb1, sb2, sb3⟩ := (ld_text (t := "body") (by decide +kernel)).sh
  obtain ⟨st1, st2, st3⟩ := (ld_text (t := "text") (by decide +kernel)).sh
  obtain ⟨sn1, sn2, sn3⟩ := (ld_text (t := "number") (by decide +kernel)).sh
  obtain ⟨sc1, sc2, sc3⟩ := (ld_text (t := "count") (by decide +kernel)).sh
  -- numbers and counts
  refine with_tail (tail := (defBody sOthers).drop 2) (fun tt => ∀ (H1 : Hp) (v3 v4 v5 v6 : Option V), Same H H1 → tt { nx := fun _ H' => Q .non H', rt := Q } [some (.ref p), some (.str x), some (.str y), v3, v4, v5, v6, none] H1) ?_ ?_
  · refine ⟨_, pss_cons (ps_for PassesOwn.never rfl (pi_list (pe_lst (pa_cons pe_bl (pa_cons pe_non (pa_cons pe_str pa_nil))))) (pg_name (i := 7) scOthers.nd rfl (Or.inl rfl))
        (pss_cons (ps_if (pt_cmpR (op_neD hu) (pe_call GA hr5 rfl mA kA bA .nil pass0 (pa_cons pe_int (pa_cons (pv 0) (pa_cons (pv 1) (pa_cons (pv 2) (pa_cons (pv 7) (pa_cons pe_int pa_nil))))))) (pe_lst (pa_cons pe_str pa_nil)) (nomark _)) pss_never pss_nil)
        (pss_one (ps_if (pt_cmpR (op_neD hu) (pe_call GA hr5 rfl mA kA bA .nil pass0 (pa_cons pe_int (pa_cons (pv 0) (pa_cons (pv 1) (pa_cons (pv 2) (pa_cons pe_int (pa_cons (pv 7) pa_nil))))))) (pe_lst (pa_cons pe_str pa_nil)) (nomark _)) pss_never pss_nil))))
      (pss_one (ps_ret pe_bl)), fun H1 v3 v4 v5 v6 s1 => ?_⟩
    refine ⟨by show 3 ≤ sizeLine; decide, fun c1 hc1 => ?_⟩
    have s2 := same_new hc1 (.lst [V.bl true, .non, .str "1"])
    have e2 : (upd H1 c1 (.lst [V.bl true, .non, .str "1"])) c1 = some (.lst [V.bl true, .non, .str "1"]) := upd_same
    generalize upd H1 c1 (.lst [V.bl true, .non, .str "1"]) = H2 at *
    refine ⟨c1, rfl, ⟨_, SqL.of e2⟩, for_list (K := K) (a := c1) (xs := [V.bl true, .non, .str "1"]) (fun i σ H3 => Same H2 H3 ∧ ∃ v7, σ = [some (.ref p), some (.str x), some (.str y), v3, v4, v5, v6, v7]) ⟨Same.refl _, _, rfl⟩ (fun i σ H3 _ h => SqL.of (h.1 _ _ e2)) ?_ ?_⟩
    · rintro i v σ H3 hi ⟨s3, v7, rfl⟩
      have hv : PG v ∧ whV (-big) big v = false ∧ whV 0 40 v = false := by
        have hm := List.mem_of_getElem? hi
        simp only [List.mem_cons, List.not_mem_nil, or_false] at hm
        rcases hm with rfl | rfl | rfl
        · exact ⟨.inr (.inl ⟨_, rfl⟩), rfl, rfl⟩
        · exact ⟨.inr (.inr rfl), rfl, rfl⟩
        · exact ⟨.inl (.inr ⟨_, rfl, by rw [sizeLine_eq]; show 1 ≤ _; decide⟩), rfl, rfl⟩
      obtain ⟨pv1, w1, w2⟩ := hv
      have sA := (s1.trans s2).trans s3
      have ra : refA v (.int 50) = "number" := by unfold refA; rw [if_neg (by rw [w1]; exact Bool.false_ne_true)]
      have rb : refA (.int 1) v = "count" := by unfold refA; rw [if_pos (by decide +kernel), if_neg (by rw [w2]; exact Bool.false_ne_true)]
      refine ⟨_, rfl, _, rfl, _, rfl, _, rfl, 0, p, d, L, x, y, v, .int 50, rfl, by decide, B.same sA, hx, pv1, .inl (.inl ⟨_, rfl⟩), .inr ⟨rfl, e, he, hod, (fun z => absurd z (by rw [ra]; decide +kernel)), fun r H4 s4 er => ⟨by show 1 ≤ sizeLine; decide, fun c2 hc2 => ?_⟩⟩⟩
      rw [ra] at er
      have s5 := same_new hc2 (.lst [V.str "number"])
      have e5 : (upd H4 c2 (.lst [V.str "number"])) c2 = some (.lst [V.str "number"]) := upd_same
      generalize upd H4 c2 (.lst [V.str "number"]) = H5 at *
      refine ⟨.list [.str "number"], .list [.str "number"], .lst (SqL.of (s5 _ _ er)) (.cons (.str _) .nil), .lst (SqL.of e5) (.cons (.str _) .nil), sn1, sn1, sn2, _, rfl, ?_⟩
      rw [if_pos rfl, sn3]
      refine iteF ?_
      have sB := sA.trans (s4.trans s5)
      refine ⟨_, rfl, _, rfl, _, rfl, _, rfl, 0, p, d, L, x, y, .int 1, v, rfl, by decide, B.same sB, hx, .inl (.inl ⟨_, rfl⟩), pv1, .inr ⟨rfl, e, he, hod, (fun z => absurd z (by rw [rb]; decide +kernel)), fun r2 H6 s6 er2 => ⟨by show 1 ≤ sizeLine; decide, fun c3 hc3 => ?_⟩⟩⟩
      rw [rb] at er2
      have s7 := same_new hc3 (.lst [V.str "count"])
      have e7 : (upd H6 c3 (.lst [V.str "count"])) c3 = some (.lst [V.str "count"]) := upd_same
      generalize upd H6 c3 (.lst [V.str "count"]) = H7 at *
      refine ⟨.list [.str "count"], .list [.str "count"], .lst (SqL.of (s7 _ _ er2)) (.cons (.str _) .nil), .lst (SqL.of e7) (.cons (.str _) .nil), sc1, sc1, sc2, _, rfl, ?_⟩
      rw [if_pos rfl, sc3]
      exact iteF ⟨((s3.trans (s4.trans s5)).trans s6).trans s7, _, rfl⟩
    · rintro σ H3 ⟨s3, v7, rfl⟩
      exact q H3 ((s1.trans s2).trans s3)
  intro t2 h2 p2
  -- names that are no texts
  refine with_tail (tail := (defBody sOthers).drop 1) (fun tt => ∀ (H1 : Hp) (v3 v4 v5 : Option V), Same H H1 → tt { nx := fun _ H' => Q .non H', rt := Q } [some (.ref p), some (.str x), some (.str y), v3, v4, v5, none, none] H1) ?_ ?_
  · refine ⟨_, pss_cons (ps_for PassesOwn.never rfl (pi_list (pe_lst (pa_cons pe_non (pa_cons pe_int (pa_cons (pe_lst (pa_cons pe_str pa_nil)) (pa_cons pe_bl pa_nil)))))) (pg_name (i := 6) scOthers.nd rfl (Or.inl rfl))
        (pss_cons (ps_set (i := 4) scOthers.nd rfl (Or.inl rfl) (pe_lst pa_nil))
        (pss_cons (ps_try (EX := noXS) own_cx (fun _ _ h => noWx h) (fun pn EX1 => pss_one (ps_expr (pe_methE (pv 0) T.clB mE GE hr bE .nil (pa_cons (pv 1) (pa_cons (pv 6) (pa_cons (pe_lst pa_nil) pa_nil))))))
          (fun pn => ph_asK (K := K) (i := 5) ⟨rfl, rfl, rfl⟩ scOthers.nd rfl rfl rfl C6.mE (fun x => pss_one (ps_set (i := 4) scOthers.nd rfl (Or.inl rfl) (pe_callN GX (hr1.caught _) rfl mX kX bX .nil (pa_cons (pv 5) pa_nil)))) (ph_nil ⟨rfl, rfl, rfl⟩)))
        (pss_one (ps_if (pt_cmpR (op_neD hu) (pv 4) (pe_lst (pa_cons pe_str pa_nil)) (nomark _)) pss_never pss_nil))))) h2, fun H1 v3 v4 v5 s1 => ?_⟩
    refine ⟨by show 1 ≤ sizeLine; decide, fun t0 ht0 => ⟨by show 4 ≤ sizeLine; decide, fun c1 hc1 => ?_⟩⟩
    have s1' := same_new ht0 (.lst [V.str "a"])
    have e1 : (upd H1 t0 (.lst [V.str "a"])) t0 = some (.lst [V.str "a"]) := upd_same
    generalize upd H1 t0 (.lst [V.str "a"]) = H1' at *
    have s2 := same_new hc1 (.lst [V.non, .int 5, .ref t0, .bl true])
    have e2 : (upd H1' c1 (.lst [V.non, .int 5, .ref t0, .bl true])) c1 = some (.lst [V.non, .int 5, .ref t0, .bl true]) := upd_same
    generalize upd H1' c1 (.lst [V.non, .int 5, .ref t0, .bl true]) = H2 at *
    refine ⟨c1, rfl, ⟨_, SqL.of e2⟩, for_list (K := K) (a := c1) (xs := [V.non, .int 5, .ref t0, .bl true]) (fun i σ H3 => Same H2 H3 ∧ ∃ v4 v5 v6, σ = [some (.ref p), some (.str x), some (.str y), v3, v4, v5, v6, none]) ⟨Same.refl _, _, _, _, rfl⟩ (fun i σ H3 _ h => SqL.of (h.1 _ _ e2)) ?_ ?_⟩
    · rintro i v σ H3 hi ⟨s3, v4', v5', v6', rfl⟩
      have hv : ∀ H', Same H2 H' → NoS K H' v := by
        have hm := List.mem_of_getElem? hi
        simp only [List.mem_cons, List.not_mem_nil, or_false] at hm
        intro H' s'
        rcases hm with rfl | rfl | rfl | rfl
        · exact ⟨_, .non, rfl⟩
        · exact ⟨_, .int _, rfl⟩
        · exact ⟨_, .lst (s' _ _ (s2 _ _ e1)), rfl⟩
        · exact ⟨_, .bl _, rfl⟩
      refine ⟨by show 0 ≤ sizeLine; decide, fun c2 hc2 => ?_⟩
      have s4 := same_new hc2 (.lst [])
      generalize upd H3 c2 (.lst []) = H4 at *
      have sA := (((s1.trans s1').trans s2).trans s3).trans s4
      obtain ⟨dx, hp⟩ := (B.same sA).ob
      refine ⟨_, rfl, p, dx, _, rfl, hp, bF_no d (by decide +kernel), _, rfl, _, rfl, by show 0 ≤ sizeLine; decide, fun c3 hc3 => ?_⟩
      have s5 := same_new hc3 (.lst [])
      generalize upd H4 c3 (.lst []) = H5 at *
      have sB := sA.trans s5
      refine ⟨p, d, L, x, v, .ref c3, rfl, B.same sB, hx, (fun hn => absurd he (by rw [hn]; exact fun z => nomatch z)), fun e' he' => .inl ⟨hv _ (s3.trans (s4.trans s5)), ?_⟩⟩
      refine ⟨true, C6.eT, iteT ⟨CT, rfl, fun xa hxa => ?_⟩⟩
      have s6 := same_new hxa (ExO xa CT none)
      refine ⟨_, rfl, xa, CT, none, _, _, _, _, _, _, rfl, upd_same, .inl rfl, C6.rT, fun tn H7 htn s7 e7 => ?_⟩
      have e7' : H7 tn = some (.lst [V.str "text"]) := e7
      refine ⟨_, rfl, by show 1 ≤ sizeLine; decide, fun c4 hc4 => ?_⟩
      have s8 := same_new hc4 (.lst [V.str "text"])
      have e8 : (upd H7 c4 (.lst [V.str "text"])) c4 = some (.lst [V.str "text"]) := upd_same
      generalize upd H7 c4 (.lst [V.str "text"]) = H8 at *
      refine ⟨.list [.str "text"], .list [.str "text"], .lst (SqL.of (s8 _ _ e7')) (.cons (.str _) .nil), .lst (SqL.of e8) (.cons (.str _) .nil), st1, st1, st2, _, rfl, ?_⟩
      rw [if_pos rfl, st3]
      exact iteF ⟨(((((s3.trans s4).trans s5).trans s6).trans s7).trans s8), _, _, _, rfl⟩
    · rintro σ H3 ⟨s3, v4', v5', v6', rfl⟩
      exact p2 H3 _ _ _ _ (((s1.trans s1').trans s2).trans s3)
  intro t1 h1 p1
  refine ⟨_, pss_cons (ps_for PassesOwn.never rfl (pi_list (pe_lst (pa_cons (pe_tup (pa_cons (pe_tup (pa_cons pe_str pa_nil)) pa_nil)) (pa_cons pe_non (pa_cons pe_str (pa_cons pe_int pa_nil)))))) (pg_name (i := 3) scOthers.nd rfl (Or.inl rfl))
      (pss_cons (ps_set (i := 4) scOthers.nd rfl (Or.inl rfl) (pe_lst pa_nil))
      (pss_cons (ps_try (EX := noXS) own_cx (fun _ _ h => noWx h) (fun pn EX1 => pss_one (ps_expr (pe_methE (pv 0) T.clB mE GE hr bE .nil (pa_cons (pv 1) (pa_cons (pv 2) (pa_cons (pv 3) pa_nil))))))
        (fun pn => ph_asK (K := K) (i := 5) ⟨rfl, rfl, rfl⟩ scOthers.nd rfl rfl rfl C6.mE (fun x => pss_one (ps_set (i := 4) scOthers.nd rfl (Or.inl rfl) (pe_callN GX (hr1.caught _) rfl mX kX bX .nil (pa_cons (pv 5) pa_nil)))) (ph_nil ⟨rfl, rfl, rfl⟩)))
      (pss_one (ps_if (pt_cmpR (op_neD hu) (pv 4) (pe_lst (pa_cons pe_str pa_nil)) (nomark _)) pss_never pss_nil))))) h1, ?_⟩
  refine ⟨by show 1 ≤ sizeLine; decide, fun t0 ht0 => ⟨by show 1 ≤ sizeLine; decide, fun t0' ht0' => ⟨by show 4 ≤ sizeLine; decide, fun c1 hc1 => ?_⟩⟩⟩
  have s0 := same_new ht0 (.tup [V.str "say"])
  generalize upd H t0 (.tup [V.str "say"]) = H0 at *
  have s1' := same_new ht0' (.tup [V.ref t0])
  have e1 : (upd H0 t0' (.tup [V.ref t0])) t0' = some (.tup [V.ref t0]) := upd_same
  generalize upd H0 t0' (.tup [V.ref t0]) = H1' at *
  have s2 := same_new hc1 (.lst [V.ref t0', .non, .str "say", .int 5])
  have e2 : (upd H1' c1 (.lst [V.ref t0', .non, .str "say", .int 5])) c1 = some (.lst [V.ref t0', .non, .str "say", .int 5]) := upd_same
  generalize upd H1' c1 (.lst [V.ref t0', .non, .str "say", .int 5]) = H2 at *
  refine ⟨c1, rfl, ⟨_, SqL.of e2⟩, for_list (K := K) (a := c1) (xs := [V.ref t0', .non, .str "say", .int 5]) (fun i σ H3 => Same H2 H3 ∧ ∃ v3 v4 v5, σ = [some (.ref p), some (.str x), some (.str y), v3, v4, v5, none, none]) ⟨Same.refl _, _, _, _, rfl⟩ (fun i σ H3 _ h => SqL.of (h.1 _ _ e2)) ?_ ?_⟩
  · rintro i v σ H3 hi ⟨s3, v3', v4', v5', rfl⟩
    have hv : ∀ H', Same H2 H' → NoL K H' v := by
      have hm := List.mem_of_getElem? hi
      simp only [List.mem_cons, List.not_mem_nil, or_false] at hm
      intro H' s'
      rcases hm with rfl | rfl | rfl | rfl
      · exact ⟨_, .tup (s' _ _ (s2 _ _ e1)), rfl⟩
      · exact ⟨_, .non, rfl⟩
      · exact ⟨_, .str _, rfl⟩
      · exact ⟨_, .int _, rfl⟩
    refine ⟨by show 0 ≤ sizeLine; decide, fun c2 hc2 => ?_⟩
    have s4 := same_new hc2 (.lst [])
    generalize upd H3 c2 (.lst []) = H4 at *
    have sA := (((s0.trans s1').trans s2).trans s3).trans s4
    obtain ⟨dx, hp⟩ := (B.same sA).ob
    refine ⟨_, rfl, p, dx, _, rfl, hp, bF_no d (by decide +kernel), _, rfl, _, rfl, _, rfl, p, d, L, x, .str y, v, rfl, B.same sA, hx, (fun hn => absurd he (by rw [hn]; exact fun z => nomatch z)), fun e' he' => .inr ⟨y, rfl, by omega, (fun hb => absurd hy (by rw [hb]; exact Bool.false_ne_true)), fun _ => .inl ⟨hv _ (s3.trans s4), fun H5 s5 => ?_⟩⟩⟩
    refine ⟨true, C6.eY, iteT ⟨CY, rfl, fun xa hxa => ?_⟩⟩
    have s6 := same_new hxa (ExO xa CY none)
    refine ⟨_, rfl, xa, CY, none, _, _, _, _, _, _, rfl, upd_same, .inl rfl, C6.rY, fun tn H7 htn s7 e7 => ?_⟩
    have e7' : H7 tn = some (.lst [V.str "body"]) := e7
    refine ⟨_, rfl, by show 1 ≤ sizeLine; decide, fun c4 hc4 => ?_⟩
    have s8 := same_new hc4 (.lst [V.str "body"])
    have e8 : (upd H7 c4 (.lst [V.str "body"])) c4 = some (.lst [V.str "body"]) := upd_same
    generalize upd H7 c4 (.lst [V.str "body"]) = H8 at *
    refine ⟨.list [.str "body"], .list [.str "body"], .lst (SqL.of (s8 _ _ e7')) (.cons (.str _) .nil), .lst (SqL.of e8) (.cons (.str _) .nil), sb1, sb1, sb2, _, rfl, ?_⟩
    rw [if_pos rfl, sb3]
    exact iteF ⟨(((((s3.trans s4).trans s5).trans s6).trans s7).trans s8), _, _, _, rfl⟩
  · rintro σ H3 ⟨s3, v3', v4', v5', rfl⟩
    exact p1 H3 _ _ _ (((s0.trans s1').trans s2).trans s3)
end
def spBadS (K : PySem.W.Frag) (CB CH : Addr) : Sp := fun vs H Q _ => ∃ (a p d : Addr) (ns : List Int) (L : List Ent) (x y : Str) (e : Ent) (la : Addr) (us : List V) (ds : List PyData), vs = [.ref a, .ref p, .str x, .str y] ∧ SqL K H a (ns.map V.int) ∧ BookAt CB CH H p d L ∧ ShowT x ∧ fnd L x = some e ∧ okNm y = true ∧ (∀ e ∈ L, e.bd.length ≤ 1000) ∧ valV e.bd (Sum.inr y : Key) = some (.ref la) ∧ H la = some (.lst us) ∧ DVs K H us ds ∧ LD ds ∧ ∀ H', Same H H' → Q (.bl true) H'
section
variable {P : Program} {w : World} {K : PySem.W.Frag} {mg : Str → Option Value} {base : Heap} {f fC fG fB fT fBo fA CB CH : Addr} {fd dC dG dB dT dBo dA : FuncData} {ks : List (Str × Addr × List Str)}
abbrev nBS : List Str := ["_law_script", "_law_book", "_law_house", "_law_word", "_law_good", "_law_before", "_law_k", "_law_at"]
theorem scBadS : FnScope ["_law_script", "_law_book", "_law_house", "_law_word", "_law_good", "_law_before", "_law_k", "_law_at"] ["_law_script", "_law_book", "_law_house", "_law_word"] (defScope sBadSteps) := ⟨rfl, rfl, rfl, by decide +kernel, rfl, by decide +kernel, by decide +kernel⟩
theorem ok_badS (F : Fun K "_law_bad_steps" "_law_bad_steps" sBadSteps f fd) (T : ClsB K mg CB CH) (Tx : Txt mg) (GC : FnOk P w K mg base CX0 1 fC dC ["_law_script", "_law_k"] (spCell K)) (kC : PySem.W.keepIn K (.ref fC) = true) (bC : Binds K dC ["_law_script", "_law_k"] []) (mC : mg "_law_cell_at" = some (.ref fC))
    (GG : FnOk P w K mg base CX0 1 fG dG ["_law_cell", "_law_word"] (spStepW K ks true)) (kG : PySem.W.keepIn K (.ref fG) = true) (bG : Binds K dG ["_law_cell", "_law_word"] []) (mG : mg "_law_good_step" = some (.ref fG))
    (GB : FnOk P w K mg base CX0 1 fB dB ["_law_cell", "_law_word"] (spStepW K ks false)) (kB : PySem.W.keepIn K (.ref fB) = true) (bB : Binds K dB ["_law_cell", "_law_word"] []) (mB : mg "_law_bad_step" = some (.ref fB))
    (GT : FnOk P w K mg base CX0 7 fT dT ["_law_book", "_law_name", "_law_word", "_law_body"] (spTaughtL K CB CH ks)) (kT : PySem.W.keepIn K (.ref fT) = true) (bT : Binds K dT ["_law_book", "_law_name", "_law_word", "_law_body"] []) (mT : mg "_law_taught" = some (.ref fT))
    (GBo : FnOk P w K mg base CX0 2 fBo dBo ["self", "name", "word"] (spBody CB CH)) (bBo : Binds K dBo ["self", "name", "word"] []) (mBo : Meth K CB "body" fBo) :
    FnOk P w K mg base CX0 8 f fd ["_law_script", "_law_book", "_law_house", "_law_word"] (spBadS K CB CH) := by
  refine F.ok scBadS (fun vs H Q E h => ?_) (fun cdv A outer s H vs Q E hr h => ?_)
  · obtain ⟨a, p, d, ns, L, x, y, e, la, us, ds, rfl, _⟩ := h
    rfl
  obtain ⟨a, p, d, ns, L, x, y, e, la, us, ds, rfl, S, B, hx, he, hy, hbl, hv, hla, hd, ld, q⟩ := h
  have hr1 := hr.mono (j := 1) (by decide)
  have hr2 := hr.mono (j := 2) (by decide)
  have hu : (A.deeper (PyProof.Rows.envOfC "_law_bad_steps" (defScope sBadSteps) s.heap.objs.size f cdv)).units + 64 < cLine := by have := hr.un; omega
  have ly := (nm_ok hy).2
  obtain ⟨sb1, sb2, sb3⟩ := (ld_text (t := "body") (by decide +kernel)).sh
  obtain ⟨sd1, sd2, sd3⟩ := ld.sh
  refine ⟨_, pss_cons (ps_setcomp (i := 4) (defScope sBadSteps) nBS ["_law_cell"] [("_law_word", 3)] rfl scBadS.nd rfl rfl (pi_list (pe_slice sl_list (pv 0) (po_some pe_int) (po_some pe_int))) (own_name (i := 0) (by decide)) (fun _ _ _ _ _ _ => ⟨pg_name (i := 0) ndcw rfl (Or.inl rfl), pts_nil, pe_call GG hr1 rfl mG kG bG .nil pass0 (pa_cons (pv 0) (pa_cons (pv 1) pa_nil))⟩))
    (pss_cons (ps_set (i := 5) scBadS.nd rfl (Or.inl rfl) (pe_meth (pv 1) T.clB mBo GBo hr2 bBo .nil pass0 (pa_cons (pv 2) (pa_cons (pv 3) pa_nil))))
    (pss_cons (ps_for PassesOwn.never rfl (pi_range1 rfl Tx.range (pa_cons pe_int pa_nil)) (pg_name (i := 6) scBadS.nd rfl (Or.inl rfl))
      (pss_cons (ps_set (i := 7) scBadS.nd rfl (Or.inl rfl) (pe_op op_mod (pe_op op_add (pv 6) (pe_call GC hr1 rfl mC kC bC .nil pass0 (pa_cons (pv 0) (pa_cons pe_int pa_nil)))) (pe_op op_add (pe_callB call_len_seq rfl Tx.len PySem.boot_len (pa_cons (pv 4) pa_nil)) pe_int)))
      (pss_one (ps_if (pt_cmpR (op_neD hu) (pe_call GT hr rfl mT kT bT .nil pass0 (pa_cons (pv 1) (pa_cons (pv 2) (pa_cons (pv 3) (pa_cons (pe_op op_cat (pe_op op_cat (pe_slice sl_list (pv 4) po_none (po_some (pv 7))) (pe_lst (pa_cons (pe_call GB hr1 rfl mB kB bB .nil pass0 (pa_cons (pv 6) (pa_cons (pv 3) pa_nil))) pa_nil))) (pe_slice sl_list (pv 4) (po_some (pv 7)) po_none)) pa_nil))))) (pe_lst (pa_cons pe_str pa_nil)) (nomark _)) pss_never pss_nil))))
    (pss_one (ps_ret (pe_cmpR (op_eqD hu) (pe_meth (pv 1) T.clB mBo GBo hr2 bBo .nil pass0 (pa_cons (pv 2) (pa_cons (pv 3) pa_nil))) (pv 5) (nomark _)))))), ?_⟩
  -- good
  refine ⟨_, rfl, _, rfl, _, rfl, a, _, rfl, S, fun sl hsl => ?_⟩
  obtain ⟨ms, ems, hms⟩ := cut_ints ns 3 23
  rw [show cutV (ns.map V.int) (some 3) (some 23) = ms.map V.int from ems]
  have s1 := same_new hsl (.lst (ms.map V.int))
  have esl : (upd H sl (.lst (ms.map V.int))) sl = some (.lst (ms.map V.int)) := upd_same
  generalize upd H sl (.lst (ms.map V.int)) = H1 at *
  refine ⟨sl, rfl, ⟨_, SqL.of esl⟩, good_list (ks := ks) esl (by omega) (fun c H2 R k => ⟨_, rfl, _, rfl, c, y, rfl, hy, fun v g H3 s3 i3 o3 => k v g H3 s3 i3 o3⟩) fun ul gs H2 s2 hp ok hl => ?_⟩
  intro l hl0
  have s3 := same_new hl0 (.lst ul)
  have el : (upd H2 l (.lst ul)) l = some (.lst ul) := upd_same
  have P3 := itgs_same s3 hp
  generalize upd H2 l (.lst ul) = H3 at *
  have sA := (s1.trans s2).trans s3
  have hul : ul.length ≤ 20 := by omega
  -- before
  have B3 := B.same sA
  obtain ⟨dx, hpo⟩ := B3.ob
  refine ⟨_, rfl, p, dx, _, rfl, hpo, bF_no d (by decide +kernel), _, rfl, _, rfl, p, d, L, x, y, e, rfl, B3, he, .inr ⟨la, us, hv, sA _ _ hla, fun bf hbf => ?_⟩⟩
  have s4 := same_new hbf (.lst us)
  have e4 : (upd H3 bf (.lst us)) bf = some (.lst us) := upd_same
  have P4 := itgs_same s4 P3
  have el4 := s4 _ _ el
  generalize upd H3 bf (.lst us) = H4 at *
  have sB := sA.trans s4
  refine ⟨30, rfl, by decide, by decide, for_range (n := 30) (fun i σ H5 => Same H4 H5 ∧ ∃ v6 v7, σ = [some (.ref a), some (.ref p), some (.str x), some (.str y), some (.ref l), some (.ref bf), v6, v7]) ⟨Same.refl _, _, _, rfl⟩ ?_ ?_⟩
  · rintro i σ H5 hi ⟨s5, v6, v7, rfl⟩
    have sC := sB.trans s5
    have P5 := itgs_same s5 P4
    have el5 := s5 _ _ el4
    refine ⟨_, rfl, _, rfl, a, ns, 2, rfl, sC.seq S, _, _, rfl, rfl, _, rfl, l, ul, rfl, .inl (SqL.of el5), _, _, rfl, rfl, _, _, rfl, rfl, (by show (0 : Int) < (ul.length : Int) + 1; omega), ?_⟩
    dsimp only
    generalize (0 + (i : Int) + ns.getD 2 0) % ((ul.length : Int) + 1) = at_
    refine ⟨_, rfl, _, rfl, _, rfl, _, rfl, _, rfl, _, rfl, l, ul, rfl, SqL.of el5, fun c1 hc1 => ?_⟩
    obtain ⟨g1, p1⟩ := paired_cut P5 none (some at_)
    have l1 := cutV_length ul none (some at_)
    have s6 := same_new hc1 (.lst (cutV ul none (some at_)))
    have e6 : (upd H5 c1 (.lst (cutV ul none (some at_)))) c1 = some (.lst (cutV ul none (some at_))) := upd_same
    generalize upd H5 c1 (.lst (cutV ul none (some at_))) = H6 at *
    generalize cutV ul none (some at_) = u1 at *
    refine ⟨_, rfl, _, rfl, _, y, rfl, hy, fun v g H7 s7 i7 o7 => ⟨by show 1 ≤ sizeLine; decide, fun c2 hc2 => ?_⟩⟩
    have s8 := same_new hc2 (.lst [v])
    have e8 : (upd H7 c2 (.lst [v])) c2 = some (.lst [v]) := upd_same
    generalize upd H7 c2 (.lst [v]) = H8 at *
    refine ⟨c1, c2, _, _, rfl, rfl, s8 _ _ (s7 _ _ e6), e8, by rw [sizeLine_eq]; show _ + 1 ≤ _; omega, fun c3 hc3 => ?_⟩
    have s9 := same_new hc3 (.lst (u1 ++ [v]))
    have e9 : (upd H8 c3 (.lst (u1 ++ [v]))) c3 = some (.lst (u1 ++ [v])) := upd_same
    generalize upd H8 c3 (.lst (u1 ++ [v])) = H9 at *
    have s59 := ((s6.trans s7).trans s8).trans s9
    refine ⟨_, rfl, _, rfl, _, rfl, l, ul, rfl, SqL.of (s59 _ _ el5), fun c4 hc4 => ?_⟩
    obtain ⟨g2, p2⟩ := paired_cut P5 (some at_) none
    have l2 := cutV_length ul (some at_) none
    have s10 := same_new hc4 (.lst (cutV ul (some at_) none))
    have e10 : (upd H9 c4 (.lst (cutV ul (some at_) none))) c4 = some (.lst (cutV ul (some at_) none)) := upd_same
    generalize upd H9 c4 (.lst (cutV ul (some at_) none)) = H10 at *
    generalize cutV ul (some at_) none = u2 at *
    refine ⟨c3, c4, _, _, rfl, rfl, s10 _ _ e9, e10, by rw [List.length_append, sizeLine_eq]; show _ + 1 + _ ≤ _; omega, fun r hr' => ?_⟩
    have s11 := same_new hr' (.lst (u1 ++ [v] ++ u2))
    have e11 : (upd H10 r (.lst (u1 ++ [v] ++ u2))) r = some (.lst (u1 ++ [v] ++ u2)) := upd_same
    generalize upd H10 r (.lst (u1 ++ [v] ++ u2)) = H11 at *
    have s5b := (s59.trans s10).trans s11
    have s7b := ((s8.trans s9).trans s10).trans s11
    have er : refT ks L x y (g1 ++ [g] ++ g2) = some ("body" : Str) := by
      unfold refT
      rw [he]
      show (if _ then _ else _) = _
      rw [if_pos hy, if_neg (by rw [okB_bad o7]; exact Bool.false_ne_true)]
    refine ⟨p, d, r, L, x, y, _, g1 ++ [g] ++ g2, rfl, B.same (sC.trans s5b), hx, by omega, e11, paired_app (paired_app (itgs_same s5b p1) (.cons (i7.same s7b) .nil)) (itgs_same s5b p2), by rw [List.length_append, List.length_append]; show _ + 1 + _ ≤ 1000; omega, hbl, fun t ht rr H12 s12 e12 => ⟨by show 1 ≤ sizeLine; decide, fun c5 hc5 => ?_⟩, fun hn => absurd hn (by rw [er]; exact fun z => nomatch z)⟩
    obtain rfl : ("body" : Str) = t := Option.some.inj (er.symm.trans ht)
    have s13 := same_new hc5 (.lst [V.str "body"])
    have e13 : (upd H12 c5 (.lst [V.str "body"])) c5 = some (.lst [V.str "body"]) := upd_same
    generalize upd H12 c5 (.lst [V.str "body"]) = H13 at *
    refine ⟨.list [.str "body"], .list [.str "body"], .lst (SqL.of (s13 _ _ e12)) (.cons (.str _) .nil), .lst (SqL.of e13) (.cons (.str _) .nil), sb1, sb1, sb2, _, rfl, ?_⟩
    rw [if_pos rfl, sb3]
    exact iteF ⟨((s5.trans s5b).trans s12).trans s13, _, _, rfl⟩
  · rintro σ H5 ⟨s5, v6, v7, rfl⟩
    have sC := sB.trans s5
    obtain ⟨dx5, hpo5⟩ := (B.same sC).ob
    refine ⟨_, rfl, p, dx5, _, rfl, hpo5, bF_no d (by decide +kernel), _, rfl, _, rfl, p, d, L, x, y, e, rfl, B.same sC, he, .inr ⟨la, us, hv, sC _ _ hla, fun c6 hc6 => ?_⟩⟩
    have s6 := same_new hc6 (.lst us)
    have e6 : (upd H5 c6 (.lst us)) c6 = some (.lst us) := upd_same
    generalize upd H5 c6 (.lst us) = H6 at *
    have sD := sC.trans s6
    refine ⟨_, rfl, .list ds, .list ds, .lst (SqL.of e6) (DVs.same sD hd), .lst (SqL.of (s6 _ _ (s5 _ _ e4))) (DVs.same sD hd), sd1, sd1, sd2, ?_⟩
    rw [if_neg Bool.false_ne_true, sd3]
    exact q H6 sD
end
theorem zz_all {l : List Nat} (h : l = [122, 122] ++ l.take 18) : ∀ (i : Nat) (c : Nat), l[i]? = some c → c = 122 := by
  intro i
  induction i using Nat.strongRecOn with
  | ind i ih =>
    intro c hc
    rw [h] at hc
    match i with
    | 0 => simpa using hc.symm
    | 1 => simpa using hc.symm
    | j + 2 =>
      have : (l.take 18)[j]? = some c := by simpa using hc
      rw [List.getElem?_take] at this
      split at this
      · exact ih j (by omega) c this
      · cases this
theorem short_ix : ∀ n ∈ List.range 18, (PySem.Builtin.Str.strSliceIndices none (some 18) 1 n).length = n := by decide +kernel
theorem zz_ne {y : Str} (h : 97 ∈ y.cps.toList) : ("zz" : Str) ++ Txt.slice y none (some 18) ≠ y := by
  intro z
  have e : (("zz" : Str) ++ Txt.slice y none (some 18)).cps.toList = y.cps.toList := by rw [z]
  rw [app_cps] at e
  have e1 : (("zz" : Str).cps.toList) = [122, 122] := by decide +kernel
  rw [e1] at e
  by_cases hl : (18 : Int) ≤ y.length
  · rw [cut_to (by decide) hl] at e
    obtain ⟨i, hi⟩ := List.getElem?_of_mem h
    have := zz_all e.symm i 97 hi
    exact absurd this (by decide)
  · have hn : y.length < 18 := by omega
    have hs : Txt.slice y none (some 18) = y := by
      unfold PySem.Txt.slice
      rw [if_pos]
      rw [short_ix _ (List.mem_range.mpr hn)]
      simp
    rw [hs] at e
    have e3 := congrArg List.length e
    rw [List.length_append] at e3
    simp at e3
def OneW (y : Str) (e : Ent) : Prop := e.bd = [] ∨ ∃ la, e.bd = kvT [(y, la)]
theorem OneW.no {y z : Str} {e : Ent} (h : OneW y e) (hz : z ≠ y) : valV e.bd (Sum.inr z : Key) = none := by
  rcases h with h | ⟨la, h⟩
  · rw [h]; rfl
  · rw [h]
    show valV [((Sum.inr y : Key), V.ref la)] (Sum.inr z : Key) = none
    rw [valV_neg (fun q => hz (Sum.inr.inj q).symm)]
    rfl
def spThen (K : PySem.W.Frag) (CB CH : Addr) : Sp := fun vs H Q _ => ∃ (a p d : Addr) (ns : List Int) (L : List Ent) (x y : Str) (i : Nat) (e : Ent), vs = [.ref a, .ref p, .str x, .str y] ∧ SqL K H a (ns.map V.int) ∧ BookAt CB CH H p d L ∧ ShowT x ∧ L[i]? = some e ∧ e.nm = x ∧ okNm y = true ∧ 97 ∈ y.cps.toList ∧ e.bd = [] ∧ (∀ e ∈ L, OneW y e) ∧ e.od.length ≤ 1000 ∧ (∀ z ∈ e.od, z ∈ L.map (·.nm)) ∧
  ∀ H' L', BookAt CB CH H' p d L' → L'.map (·.nm) = L.map (·.nm) → KeepX H H' → Q (.bl true) H'
section
variable {P : Program} {w : World} {K : PySem.W.Frag} {mg : Str → Option Value} {base : Heap} {f fC fG fT fBo fA CB CH : Addr} {fd dC dG dT dBo dA : FuncData} {ks : List (Str × Addr × List Str)}
abbrev nTh : List Str := ["_law_script", "_law_book", "_law_house", "_law_word", "_law_good", "_law_below", "_law_number"]
theorem scThen : FnScope ["_law_script", "_law_book", "_law_house", "_law_word", "_law_good", "_law_below", "_law_number"] ["_law_script", "_law_book", "_law_house", "_law_word"] (defScope sThen) := ⟨rfl, rfl, rfl, by decide +kernel, rfl, by decide +kernel, by decide +kernel⟩
theorem ok_then (F : Fun K "_law_then_taught" "_law_then_taught" sThen f fd) (T : ClsB K mg CB CH) (Tx : Txt mg) (GC : FnOk P w K mg base CX0 1 fC dC ["_law_script", "_law_k"] (spCell K)) (kC : PySem.W.keepIn K (.ref fC) = true) (bC : Binds K dC ["_law_script", "_law_k"] []) (mC : mg "_law_cell_at" = some (.ref fC))
    (GG : FnOk P w K mg base CX0 1 fG dG ["_law_cell", "_law_word"] (spStepW K ks true)) (kG : PySem.W.keepIn K (.ref fG) = true) (bG : Binds K dG ["_law_cell", "_law_word"] []) (mG : mg "_law_good_step" = some (.ref fG))
    (GT : FnOk P w K mg base CX0 7 fT dT ["_law_book", "_law_name", "_law_word", "_law_body"] (spTaughtL K CB CH ks)) (kT : PySem.W.keepIn K (.ref fT) = true) (bT : Binds K dT ["_law_book", "_law_name", "_law_word", "_law_body"] []) (mT : mg "_law_taught" = some (.ref fT))
    (GBo : FnOk P w K mg base CX0 2 fBo dBo ["self", "name", "word"] (spBody CB CH)) (bBo : Binds K dBo ["self", "name", "word"] []) (mBo : Meth K CB "body" fBo)
    (GA : FnOk P w K mg base CX0 5 fA dA ["_law_kind", "_law_book", "_law_name", "_law_word", "_law_number", "_law_count"] (spAskedL CB CH)) (kA : PySem.W.keepIn K (.ref fA) = true) (bA : Binds K dA ["_law_kind", "_law_book", "_law_name", "_law_word", "_law_number", "_law_count"] []) (mA : mg "_law_asked" = some (.ref fA)) :
    FnOk P w K mg base CX0 8 f fd ["_law_script", "_law_book", "_law_house", "_law_word"] (spThen K CB CH) := by
  refine F.ok scThen (fun vs H Q E h => ?_) (fun cdv A outer s H vs Q E hr h => ?_)
  · obtain ⟨a, p, d, ns, L, x, y, i, e, rfl, _⟩ := h
    rfl
  obtain ⟨a, p, d, ns, L, x, y, i, e, rfl, S, B, hx, hi, rfl, hy, h97, hbd, hone, hod, hall, q⟩ := h
  have hr1 := hr.mono (j := 1) (by decide)
  have hr2 := hr.mono (j := 2) (by decide)
  have hr5 := hr.mono (j := 5) (by decide)
  have hu : (A.deeper (PyProof.Rows.envOfC "_law_then_taught" (defScope sThen) s.heap.objs.size f cdv)).units + 64 < cLine := by have := hr.un; omega
  have ly := (nm_ok hy).2
  have hem := List.mem_of_getElem? hi
  have he : fnd L e.nm = some e := fnd_of B.nd hem
  have hbl : ∀ e ∈ L, e.bd.length ≤ 1000 := fun e' he' => by
    rcases hone e' he' with h | ⟨la, h⟩
    · rw [h]; decide
    · rw [h]; show 1 ≤ 1000; decide
  obtain ⟨sn1, sn2, sn3⟩ := ld_nil.sh
  obtain ⟨sm1, sm2, sm3⟩ := (ld_text (t := "number") (by decide +kernel)).sh
  obtain ⟨sc1, sc2, sc3⟩ := (ld_text (t := "count") (by decide +kernel)).sh
  obtain ⟨su1, su2, su3⟩ := (ld_text (t := "unanswered") (by decide +kernel)).sh
  refine ⟨_, pss_cons (ps_setcomp (i := 4) (defScope sThen) nTh ["_law_cell"] [("_law_word", 3)] rfl scThen.nd rfl rfl (pi_list (pe_slice sl_list (pv 0) (po_some pe_int) (po_some pe_int))) (own_name (i := 0) (by decide)) (fun _ _ _ _ _ _ => ⟨pg_name (i := 0) ndcw rfl (Or.inl rfl), pts_nil, pe_call GG hr1 rfl mG kG bG .nil pass0 (pa_cons (pv 0) (pa_cons (pv 1) pa_nil))⟩))
    (pss_cons (ps_if (PW.pt (pw_or (pt_cmpR (op_neD hu) (pe_call GT hr rfl mT kT bT .nil pass0 (pa_cons (pv 1) (pa_cons (pv 2) (pa_cons (pv 3) (pa_cons (pv 4) pa_nil))))) (pe_lst pa_nil) (nomark _)) (pw_or1 (pt_cmpR (op_neD hu) (pe_meth (pv 1) T.clB mBo GBo hr2 bBo .nil pass0 (pa_cons (pv 2) (pa_cons (pv 3) pa_nil))) (pv 4) (nomark _))))) pss_never pss_nil)
    (pss_cons (ps_set (i := 5) scThen.nd rfl (Or.inl rfl) (pe_op op_mod (pe_call GC hr1 rfl mC kC bC .nil pass0 (pa_cons (pv 0) (pa_cons pe_int pa_nil))) pe_int))
    (pss_cons (ps_set (i := 6) scThen.nd rfl (Or.inl rfl) (pe_op op_sub (pe_op op_add (pe_op op_pow pe_int pe_int) pe_int) (pe_op op_mul (pv 5) (pe_op op_add (pe_op op_mul pe_int (pe_op op_pow pe_int pe_int)) pe_int))))
    (pss_cons (ps_if (pt_cmpR (op_neD hu) (pe_call GA hr5 rfl mA kA bA .nil pass0 (pa_cons pe_int (pa_cons (pv 1) (pa_cons (pv 2) (pa_cons (pv 3) (pa_cons (pv 6) (pa_cons (pe_op op_sub (pe_op op_mul (pv 5) pe_int) pe_int) pa_nil))))))) (pe_lst (pa_cons pe_str pa_nil)) (nomark _)) pss_never pss_nil)
    (pss_cons (ps_if (pt_cmpR (op_neD hu) (pe_call GA hr5 rfl mA kA bA .nil pass0 (pa_cons pe_int (pa_cons (pv 1) (pa_cons (pv 2) (pa_cons (pv 3) (pa_cons pe_int (pa_cons (pe_op op_sub (pe_op op_mul (pv 5) pe_int) pe_int) pa_nil))))))) (pe_lst (pa_cons pe_str pa_nil)) (nomark _)) pss_never pss_nil)
    (pss_one (ps_ret (pe_cmpR (op_eqD hu) (pe_call GA hr5 rfl mA kA bA .nil pass0 (pa_cons pe_int (pa_cons (pv 1) (pa_cons (pv 2) (pa_cons (pe_op op_add_str pe_str (pe_slice sl_str (pv 3) po_none (po_some pe_int))) (pa_cons pe_int (pa_cons pe_int pa_nil))))))) (pe_lst (pa_cons pe_str pa_nil)) (nomark _))))))))), ?_⟩
  -- good
  refine ⟨_, rfl, _, rfl, _, rfl, a, _, rfl, S, fun sl hsl => ?_⟩
  obtain ⟨ms, ems, hms⟩ := cut_ints ns 3 33
  rw [show cutV (ns.map V.int) (some 3) (some 33) = ms.map V.int from ems]
  have s1 := same_new hsl (.lst (ms.map V.int))
  have esl : (upd H sl (.lst (ms.map V.int))) sl = some (.lst (ms.map V.int)) := upd_same
  generalize upd H sl (.lst (ms.map V.int)) = H1 at *
  refine ⟨sl, rfl, ⟨_, SqL.of esl⟩, good_list (ks := ks) esl (by omega) (fun c H2 R k => ⟨_, rfl, _, rfl, c, y, rfl, hy, fun v g H3 s3 i3 o3 => k v g H3 s3 i3 o3⟩) fun ul gs H2 s2 hp ok hl => ?_⟩
  intro l hl0
  have s3 := same_new hl0 (.lst ul)
  have el : (upd H2 l (.lst ul)) l = some (.lst ul) := upd_same
  have P3 := itgs_same s3 hp
  generalize upd H2 l (.lst ul) = H3 at *
  have sA := (s1.trans s2).trans s3
  have hgl := paired_len hp
  obtain ⟨ds, hd, pl, dp⟩ := dvs_its P3
  obtain ⟨sd1, sd2, sd3⟩ := LD.sh ⟨pl, dp⟩
  have er : refT ks L e.nm y gs = none := by
    unfold refT
    rw [he]
    show (if _ then _ else _) = _
    rw [if_pos hy, if_pos]
    unfold okB
    rw [decide_eq_true (show gs.length ≤ 30 by omega), Bool.true_and]
    exact List.all_eq_true.mpr ok
  have B3 := B.same sA
  -- taught
  refine ⟨_, rfl, _, rfl, _, rfl, _, rfl, p, d, l, L, e.nm, y, ul, gs, rfl, B3, hx, by omega, el, P3, by omega, hbl, (fun t ht => absurd ht (by rw [er]; exact fun z => nomatch z)), fun _ e' he' la r H4 hla ela eba k4 er4 => ?_⟩
  obtain rfl : e = e' := Option.some.inj (he.symm.trans he')
  have Eb := (B3.en e hem).bd
  have kx4 := k4.x Eb
  have ep : putK e.bd (Sum.inr y : Key) (.ref la) = kvT [(y, la)] := by rw [hbd, putK_new _ rfl]; rfl
  rw [ep] at eba
  have B4 := B3.putBd hi k4 eba
  have nm4 : (L.set i { e with bd := kvT [(y, la)] }).map (·.nm) = L.map (·.nm) := map_set_same hi rfl
  have m4 : ({ e with bd := kvT [(y, la)] } : Ent) ∈ L.set i { e with bd := kvT [(y, la)] } := List.mem_of_getElem? (List.getElem?_set_self (List.getElem?_eq_some_iff.mp hi).1)
  have he4 : fnd (L.set i { e with bd := kvT [(y, la)] }) e.nm = some { e with bd := kvT [(y, la)] } := fnd_of (e := ({ e with bd := kvT [(y, la)] } : Ent)) B4.nd m4
  have one4 : ∀ e' ∈ L.set i { e with bd := kvT [(y, la)] }, OneW y e' := fun e' h' => by
    rcases List.mem_or_eq_of_mem_set h' with h | rfl
    · exact hone e' h
    · exact .inr ⟨la, rfl⟩
  have all4 : ∀ z ∈ e.od, ∃ e', fnd (L.set i { e with bd := kvT [(y, la)] }) z = some e' ∧ OneW y e' := fun z hz => by
    have hm := hall z hz
    rw [← nm4] at hm
    obtain ⟨e', he', rfl⟩ := List.mem_map.mp hm
    exact ⟨e', fnd_of B4.nd he', one4 e' he'⟩
  have bd4 : ({ e with bd := kvT [(y, la)] } : Ent).bd = kvT [(y, la)] := rfl
  have od4 : ({ e with bd := kvT [(y, la)] } : Ent).od = e.od := rfl
  generalize ({ e with bd := kvT [(y, la)] } : Ent) = e4 at *
  generalize L.set i e4 = L4 at *
  have el4 : H4 l = some (.lst ul) := kx4 _ _ el (by intro z e; cases e)
  have hd4 : DVs K H4 ul ds := DVs.keepD k4 Eb hd
  have S4 : SqL K H4 a (ns.map V.int) := KeepX.sql kx4 (sA.seq S)
  have kk : KeepX H H4 := (KeepX.of_same sA).trans kx4
  clear k4 kx4 Eb eba ep hd P3 el sA B3 s1 s2 s3 hp esl
  refine ⟨by show 0 ≤ sizeLine; decide, fun c5 hc5 => ?_⟩
  have s5 := same_new hc5 (.lst [])
  have e5 : (upd H4 c5 (.lst [])) c5 = some (.lst []) := upd_same
  generalize upd H4 c5 (.lst []) = H5 at *
  refine ⟨.list [], .list [], .lst (SqL.of (s5 _ _ er4)) .nil, .lst (SqL.of e5) .nil, sn1, sn1, sn2, _, rfl, ?_⟩
  rw [if_pos rfl, sn3]
  refine iteF ?_
  obtain ⟨dx5, hpo5⟩ := (B4.same s5).ob
  refine ⟨_, rfl, p, dx5, _, rfl, hpo5, bF_no d (by decide +kernel), _, rfl, _, rfl, p, d, L4, e.nm, y, e4, rfl, B4.same s5, he4, .inr ⟨la, ul, by rw [bd4]; exact valV_pos rfl, s5 _ _ ela, fun c6 hc6 => ?_⟩⟩
  have s6 := same_new hc6 (.lst ul)
  have e6 : (upd H5 c6 (.lst ul)) c6 = some (.lst ul) := upd_same
  generalize upd H5 c6 (.lst ul) = H6 at *
  have s46 := s5.trans s6
  refine ⟨_, rfl, .list ds, .list ds, .lst (SqL.of e6) (DVs.same s46 hd4), .lst (SqL.of (s46 _ _ el4)) (DVs.same s46 hd4), sd1, sd1, sd2, _, rfl, ?_⟩
  rw [if_pos rfl, sd3]
  refine iteF ?_
  -- below, number
  refine ⟨_, rfl, a, ns, 1, rfl, s46.seq S4, _, _, rfl, rfl, (by show (0 : Int) < 2; decide), ?_⟩
  dsimp only
  have b0 := Int.emod_nonneg (ns.getD 1 0) (show (2 : Int) ≠ 0 by decide)
  have b1 := Int.emod_lt_of_pos (ns.getD 1 0) (show (0 : Int) < 2 by decide)
  generalize ns.getD 1 0 % 2 = bel at *
  have hbel : bel = 0 ∨ bel = 1 := by omega
  have hn : whV (-big) big (.int (10 ^ 30 + 1 - bel * (2 * 10 ^ 30 + 2))) = false := by rcases hbel with rfl | rfl <;> decide +kernel
  have hc : whV 0 40 (.int (bel * 42 - 1)) = false := by rcases hbel with rfl | rfl <;> decide +kernel
  have cm : ∀ j : Int, CMul bel j := fun j => .inl (by rcases hbel with rfl | rfl <;> decide)
  refine ⟨_, _, rfl, rfl, ⟨by decide, by decide, by decide⟩, _, _, rfl, rfl, _, rfl, _, _, rfl, rfl, ⟨by decide, by decide, by decide⟩, _, _, rfl, rfl, .inl ⟨by decide, by decide⟩, _, _, rfl, rfl, _, _, rfl, rfl, cm _, _, _, rfl, rfl, ?_⟩
  -- asked
  have ra : refA (.int (10 ^ 30 + 1 - bel * (2 * 10 ^ 30 + 2))) (.int (bel * 42 - 1)) = "number" := by unfold refA; rw [if_neg (by rw [hn]; exact Bool.false_ne_true)]
  have rb : refA (.int 0) (.int (bel * 42 - 1)) = "count" := by unfold refA; rw [if_pos (by decide +kernel), if_neg (by rw [hc]; exact Bool.false_ne_true)]
  have rc : refA (.int 0) (.int 0) = "unanswered" := by decide +kernel
  refine ⟨_, rfl, _, rfl, _, rfl, _, rfl, _, rfl, _, _, rfl, rfl, cm _, _, _, rfl, rfl, 0, p, d, L4, e.nm, y, .int (10 ^ 30 + 1 - bel * (2 * 10 ^ 30 + 2)), .int (bel * 42 - 1), rfl, by decide, B4.same s46, hx, .inl (.inl ⟨_, rfl⟩), .inl (.inl ⟨_, rfl⟩), .inr ⟨rfl, e4, he4, by rw [od4]; exact hod, (fun z => absurd z (by rw [ra]; decide +kernel)), fun r7 H7 s7 e7 => ⟨by show 1 ≤ sizeLine; decide, fun c8 hc8 => ?_⟩⟩⟩
  rw [ra] at e7
  have s8 := same_new hc8 (.lst [V.str "number"])
  have e8 : (upd H7 c8 (.lst [V.str "number"])) c8 = some (.lst [V.str "number"]) := upd_same
  generalize upd H7 c8 (.lst [V.str "number"]) = H8 at *
  refine ⟨.list [.str "number"], .list [.str "number"], .lst (SqL.of (s8 _ _ e7)) (.cons (.str _) .nil), .lst (SqL.of e8) (.cons (.str _) .nil), sm1, sm1, sm2, _, rfl, ?_⟩
  rw [if_pos rfl, sm3]
  refine iteF ?_
  have s48 := s46.trans (s7.trans s8)
  refine ⟨_, rfl, _, rfl, _, rfl, _, rfl, _, _, rfl, rfl, cm _, _, _, rfl, rfl, 0, p, d, L4, e.nm, y, .int 0, .int (bel * 42 - 1), rfl, by decide, B4.same s48, hx, .inl (.inl ⟨_, rfl⟩), .inl (.inl ⟨_, rfl⟩), .inr ⟨rfl, e4, he4, by rw [od4]; exact hod, (fun z => absurd z (by rw [rb]; decide +kernel)), fun r9 H9 s9 e9 => ⟨by show 1 ≤ sizeLine; decide, fun c10 hc10 => ?_⟩⟩⟩
  rw [rb] at e9
  have s10 := same_new hc10 (.lst [V.str "count"])
  have e10 : (upd H9 c10 (.lst [V.str "count"])) c10 = some (.lst [V.str "count"]) := upd_same
  generalize upd H9 c10 (.lst [V.str "count"]) = H10 at *
  refine ⟨.list [.str "count"], .list [.str "count"], .lst (SqL.of (s10 _ _ e9)) (.cons (.str _) .nil), .lst (SqL.of e10) (.cons (.str _) .nil), sc1, sc1, sc2, _, rfl, ?_⟩
  rw [if_pos rfl, sc3]
  refine iteF ?_
  have s4a := s48.trans (s9.trans s10)
  have hzz := zz_ne h97
  have lsl := Txt.slice_le y none (some 18)
  refine ⟨_, rfl, _, rfl, _, rfl, _, rfl, y, rfl, by rw [sizeLine_eq]; omega, _, _, rfl, rfl, by rw [sizeLine_eq]; show 2 + _ ≤ _; omega, 0, p, d, L4, e.nm, _, .int 0, .int 0, rfl, by decide, B4.same s4a, hx, .inl (.inl ⟨_, rfl⟩), .inl (.inl ⟨_, rfl⟩), .inr ⟨rfl, e4, he4, by rw [od4]; exact hod, (fun _ z hz => ?_), fun r11 H11 s11 e11 => ⟨by show 1 ≤ sizeLine; decide, fun c12 hc12 => ?_⟩⟩⟩
  · rw [od4] at hz
    obtain ⟨e', h1, h2⟩ := all4 z hz
    exact ⟨e', h1, h2.no hzz⟩
  rw [rc] at e11
  have s12 := same_new hc12 (.lst [V.str "unanswered"])
  have e12 : (upd H11 c12 (.lst [V.str "unanswered"])) c12 = some (.lst [V.str "unanswered"]) := upd_same
  generalize upd H11 c12 (.lst [V.str "unanswered"]) = H12 at *
  refine ⟨.list [.str "unanswered"], .list [.str "unanswered"], .lst (SqL.of (s12 _ _ e11)) (.cons (.str _) .nil), .lst (SqL.of e12) (.cons (.str _) .nil), su1, su1, su2, ?_⟩
  rw [if_neg Bool.false_ne_true, su3]
  have s4c := s4a.trans (s11.trans s12)
  exact q H12 L4 (B4.same s4c) nm4 (kk.trans (KeepX.of_same s4c))
end
theorem good_put {ks : List (Str × Addr × List Str)} (T : TabK ks) : goodSteps ks [("put", [.int 7]), ("say", [])] := by
  obtain ⟨ap, hp⟩ := T.amt "put" (by decide +kernel)
  obtain ⟨as, hs⟩ := T.non "say" (by decide +kernel)
  refine ⟨by show 2 ≤ 30; decide, fa_cons ⟨⟨ap, _, hp, rfl, fun i v k hv hk => ?_⟩, (fun v hv => .inl ⟨7, List.mem_singleton.mp hv⟩), by show 1 ≤ 100; decide⟩ (fa_cons ⟨⟨as, _, hs, rfl, (fun i v k hv hk => by simp at hv)⟩, (fun v hv => nomatch hv), by show 0 ≤ 100; decide⟩ fa_nil)⟩
  have hi : i < 1 := (List.getElem?_eq_some_iff.mp hv).1
  obtain rfl : i = 0 := by omega
  cases hv
  cases hk
  rw [part_amtV]
  decide +kernel
theorem name_a (k c : Int) (h : k / 26 % 26 = 0) : 97 ∈ (nameBy k c).cps.toList := by
  rw [name_cps, h]
  simp
theorem name_two (k c : Int) : 2 ≤ (nameBy k c).length := by rw [name_len]; omega
def spLaw (K : PySem.W.Frag) : Sp := fun vs H Q _ => ∃ (a : Addr) (ns : List Int), vs = [.ref a] ∧ SqL K H a (ns.map V.int) ∧ ns.length ≤ 63 ∧ ∀ H', Q (.bl true) H'
section
variable {P : Program} {w : World} {K : PySem.W.Frag} {mg : Str → Option Value} {base : Heap} {f fC fN fI fF fE fT1 fA fO fS fT2 fHs CB CH : Addr} {fd dC dN dI dF dE dT1 dA dO dS dT2 dHs : FuncData} {ks : List (Str × Addr × List Str)}
abbrev nLaw : List Str := ["_law_script", "_law_book", "_law_houses", "_law_word", "_law_kind"]
theorem ndks : (["_law_k", "_law_script"] : List Str).Nodup := by decide +kernel
theorem scLaw : FnScope ["_law_script", "_law_book", "_law_houses", "_law_word", "_law_kind"] ["_law_script"] (defScope sLaw) := ⟨rfl, rfl, rfl, by decide +kernel, rfl, by decide +kernel, by decide +kernel⟩
theorem ok_law (F : Fun K "law" "law" sLaw f fd) (T : ClsB K mg CB CH) (Tx : Txt mg) (Tb : TabK ks) (GC : FnOk P w K mg base CX0 1 fC dC ["_law_script", "_law_k"] (spCell K)) (kC : PySem.W.keepIn K (.ref fC) = true) (bC : Binds K dC ["_law_script", "_law_k"] []) (mC : mg "_law_cell_at" = some (.ref fC))
    (GN : FnOk P w K mg base CX0 1 fN dN ["_law_k", "_law_cell"] spName) (kN : PySem.W.keepIn K (.ref fN) = true) (bN : Binds K dN ["_law_k", "_law_cell"] []) (mN : mg "_law_name_by" = some (.ref fN))
    (GI : FnOk P w K mg base CX0 1 fI dI ["self"] (spInitB CB)) (bI : Binds K dI ["self"] []) (MB : Mk K CB fI)
    (GF : FnOk P w K mg base CX0 4 fF dF ["self", "name", "elders"] (spFound CB CH)) (bF2 : Binds K dF ["self", "name", "elders"] [.none]) (bF3 : Binds K dF ["self", "name", "elders"] []) (mF : Meth K CB "found" fF)
    (GE : FnOk P w K mg base CX0 6 fE dE ["self", "name", "word", "body"] (spTeach CB CH ks)) (bE : Binds K dE ["self", "name", "word", "body"] []) (mE : Meth K CB "teach" fE)
    (G1 : FnOk P w K mg base CX0 8 fT1 dT1 ["_law_script", "_law_book", "_law_houses", "_law_word"] (spFirst K CB CH)) (k1 : PySem.W.keepIn K (.ref fT1) = true) (b1 : Binds K dT1 ["_law_script", "_law_book", "_law_houses", "_law_word"] []) (m1 : mg "_law_first_taught" = some (.ref fT1))
    (GA : FnOk P w K mg base CX0 5 fA dA ["_law_kind", "_law_book", "_law_name", "_law_word", "_law_number", "_law_count"] (spAskedL CB CH)) (kA : PySem.W.keepIn K (.ref fA) = true) (bA : Binds K dA ["_law_kind", "_law_book", "_law_name", "_law_word", "_law_number", "_law_count"] []) (mA : mg "_law_asked" = some (.ref fA))
    (GO : FnOk P w K mg base CX0 7 fO dO ["_law_book", "_law_house", "_law_word"] (spOthers CB CH)) (kO : PySem.W.keepIn K (.ref fO) = true) (bO : Binds K dO ["_law_book", "_law_house", "_law_word"] []) (mO : mg "_law_others" = some (.ref fO))
    (GS : FnOk P w K mg base CX0 8 fS dS ["_law_script", "_law_book", "_law_house", "_law_word"] (spBadS K CB CH)) (kS : PySem.W.keepIn K (.ref fS) = true) (bS : Binds K dS ["_law_script", "_law_book", "_law_house", "_law_word"] []) (mS : mg "_law_bad_steps" = some (.ref fS))
    (G2 : FnOk P w K mg base CX0 8 fT2 dT2 ["_law_script", "_law_book", "_law_house", "_law_word"] (spThen K CB CH)) (k2 : PySem.W.keepIn K (.ref fT2) = true) (b2 : Binds K dT2 ["_law_script", "_law_book", "_law_house", "_law_word"] []) (m2 : mg "_law_then_taught" = some (.ref fT2))
    (GHs : FnOk P w K mg base CX0 1 fHs dHs ["self"] (spHouses CB CH)) (bHs : Binds K dHs ["self"] []) (mHs : Meth K CB "houses" fHs) : FnOk P w K mg base CX0 9 f fd ["_law_script"] (spLaw K) := by
  refine F.ok scLaw (fun vs H Q E h => ?_) (fun cdv A outer s H vs Q E hr h => ?_)
  · obtain ⟨a, ns, rfl, _⟩ := h
    rfl
  obtain ⟨a, ns, rfl, S, h63, q⟩ := h
  have hr1 : Room 1 _ := hr.mono (by decide)
  have hr2 : Room 2 _ := hr.mono (by decide)
  have hr4 : Room 4 _ := hr.mono (by decide)
  have hr5 : Room 5 _ := hr.mono (by decide)
  have hr6 : Room 6 _ := hr.mono (by decide)
  have hr7 : Room 7 _ := hr.mono (by decide)
  have hu : (A.deeper (PyProof.Rows.envOfC "law" (defScope sLaw) s.heap.objs.size f cdv)).units + 64 < cLine := by have := hr.un; omega
  refine ⟨_, pss_cons (ps_set (i := 1) scLaw.nd rfl (Or.inl rfl) (pe_make0 MB GI hr2 rfl T.mgB bI .nil pass0))
    (pss_cons (ps_setcomp (i := 2) (defScope sLaw) nLaw ["_law_k"] [("_law_script", 0)] rfl scLaw.nd rfl rfl (pi_range1 rfl Tx.range (pa_cons pe_int pa_nil)) (own_name (i := 0) (by decide)) (fun _ _ _ _ _ _ => ⟨pg_name (i := 0) ndks rfl (Or.inl rfl), pts_nil, pe_call GN hr1 rfl mN kN bN .nil pass0 (pa_cons (pv 0) (pa_cons (pe_call GC hr1 rfl mC kC bC .nil pass0 (pa_cons (pv 1) (pa_cons pe_int pa_nil))) pa_nil))⟩))
    (pss_cons (ps_set (i := 3) scLaw.nd rfl (Or.inl rfl) (pe_call GN hr1 rfl mN kN bN .nil pass0 (pa_cons pe_int (pa_cons (pe_call GC hr1 rfl mC kC bC .nil pass0 (pa_cons (pv 0) (pa_cons pe_int pa_nil))) pa_nil))))
    (pss_cons (ps_expr (pe_meth (pv 1) T.clB mF GF hr4 bF2 (dvs := [.non]) (.cons rfl .nil) pass0 (pa_cons (pe_ix ix_list (pv 2) pe_int (fun _ _ => rfl)) pa_nil)))
    (pss_cons (ps_expr (pe_meth (pv 1) T.clB mF GF hr4 bF3 .nil pass0 (pa_cons (pe_ix ix_list (pv 2) pe_int (fun _ _ => rfl)) (pa_cons (pe_slice sl_list (pv 2) po_none (po_some pe_int)) pa_nil))))
    (pss_cons (ps_expr (pe_meth (pv 1) T.clB mE GE hr6 bE .nil pass0 (pa_cons (pe_ix ix_list (pv 2) pe_int (fun _ _ => rfl)) (pa_cons (pv 3) (pa_cons (pe_lst (pa_cons (pe_tup (pa_cons pe_str (pa_cons pe_int pa_nil))) (pa_cons (pe_tup (pa_cons pe_str pa_nil)) pa_nil))) pa_nil)))))
    (pss_cons (ps_if (pt_not (pt_val (pe_call G1 hr rfl m1 k1 b1 .nil pass0 (pa_cons (pv 0) (pa_cons (pv 1) (pa_cons (pv 2) (pa_cons (pv 3) pa_nil))))))) pss_never pss_nil)
    (pss_cons (ps_for PassesOwn.never rfl (pi_range1 rfl Tx.range (pa_cons pe_int pa_nil)) (pg_name (i := 4) scLaw.nd rfl (Or.inl rfl))
      (pss_one (ps_if (pt_cmpR (op_neD hu) (pe_call GA hr5 rfl mA kA bA .nil pass0 (pa_cons (pv 4) (pa_cons (pv 1) (pa_cons (pe_ix ix_list (pv 2) pe_int (fun _ _ => rfl)) (pa_cons (pv 3) (pa_cons (pe_op op_pow pe_int pe_int) (pa_cons pe_int pa_nil))))))) (pe_lst (pa_cons pe_str pa_nil)) (nomark _)) pss_never pss_nil)))
    (pss_cons (ps_if (PW.pt (pw_or (pt_not (pt_val (pe_call GO hr7 rfl mO kO bO .nil pass0 (pa_cons (pv 1) (pa_cons (pe_ix ix_list (pv 2) pe_int (fun _ _ => rfl)) (pa_cons (pv 3) pa_nil)))))) (pw_or1 (pt_not (pt_val (pe_call GS hr rfl mS kS bS .nil pass0 (pa_cons (pv 0) (pa_cons (pv 1) (pa_cons (pe_ix ix_list (pv 2) pe_int (fun _ _ => rfl)) (pa_cons (pv 3) pa_nil)))))))))) pss_never pss_nil)
    (pss_cons (ps_expr (pe_meth (pv 1) T.clB mF GF hr4 bF3 .nil pass0 (pa_cons (pe_ix ix_list (pv 2) pe_int (fun _ _ => rfl)) (pa_cons (pe_slice sl_list (pv 2) (po_some pe_int) (po_some pe_int)) pa_nil))))
    (pss_one (ps_ret (pe_and (pe_call G2 hr rfl m2 k2 b2 .nil pass0 (pa_cons (pv 0) (pa_cons (pv 1) (pa_cons (pe_ix ix_list (pv 2) pe_int (fun _ _ => rfl)) (pa_cons (pv 3) pa_nil))))) (pe_one (pe_cmpR (op_eqD hu) (pe_meth0 (pv 1) T.clB mHs GHs hr1 bHs .nil pass0) (pv 2) (nomark _))))))))))))))), ?_⟩
  -- Book()
  intro p dx np ndx nex
  refine ⟨p, dx, rfl, upd_same, fun d hd => ⟨rfl, ?_⟩⟩
  have hd1 : d ≠ p := fun z => by rw [z, upd_same] at hd; cases hd
  have fd0 : H d = none := none_of_upd (none_of_upd hd)
  have sb : Same H (upd (upd (upd (upd H dx (.own p)) p (.ins CB dx [])) d (.dK [])) p (.ins CB dx (bF d))) := fun b o e => by
    rw [upd_ne (ne_of_none e np), upd_ne (ne_of_none e fd0), upd_ne (ne_of_none e np), upd_ne (ne_of_none e ndx)]
    exact e
  have ep : (upd (upd (upd (upd H dx (.own p)) p (.ins CB dx [])) d (.dK [])) p (.ins CB dx (bF d))) p = some (.ins CB dx (bF d)) := upd_same
  have ed : (upd (upd (upd (upd H dx (.own p)) p (.ins CB dx [])) d (.dK [])) p (.ins CB dx (bF d))) d = some (.dK []) := by rw [upd_ne hd1]; exact upd_same
  generalize upd (upd (upd (upd H dx (.own p)) p (.ins CB dx [])) d (.dK [])) p (.ins CB dx (bF d)) = H1 at *
  have B0 : BookAt CB CH H1 p d [] := ⟨⟨dx, ep⟩, ed, (fun e he => nomatch he), (fun e he => nomatch he), List.nodup_nil, List.nodup_nil⟩
  have S1 := sb.seq S
  -- houses
  have n0 := name_is 0 (ns.getD 0 0)
  have n1 := name_is 1 (ns.getD 0 0)
  have n2 := name_is 2 (ns.getD 0 0)
  have d01 : nameBy 0 (ns.getD 0 0) ≠ nameBy 1 (ns.getD 0 0) := fun z => absurd (name_inj (by decide) (by decide) (by decide) (by decide) z) (by decide)
  have d02 : nameBy 0 (ns.getD 0 0) ≠ nameBy 2 (ns.getD 0 0) := fun z => absurd (name_inj (by decide) (by decide) (by decide) (by decide) z) (by decide)
  have d12 : nameBy 1 (ns.getD 0 0) ≠ nameBy 2 (ns.getD 0 0) := fun z => absurd (name_inj (by decide) (by decide) (by decide) (by decide) z) (by decide)
  refine ⟨3, rfl, by decide, by decide, turns_range0 (k := 3) (fun i ys H2 => H2 = H1 ∧ ys = sVs (((List.range i).map fun j : Nat => nameBy (j : Int) (ns.getD 0 0)))) ⟨rfl, rfl⟩ ?_ ?_⟩
  · rintro i ys H2 hi ⟨rfl, rfl⟩
    refine ⟨_, rfl, _, rfl, a, ns, 0, rfl, S1, _, _, rfl, ?_, rfl, ?_⟩
    · rw [sVs_len, List.length_map, List.length_range, sizeLine_eq]
      omega
    · rw [List.range_succ, List.map_append]
      show _ = List.map V.str (_ ++ _)
      rw [List.map_append, Int.zero_add]
      rfl
  rintro ys H2 ⟨rfl, rfl⟩ hl hhl
  have s2 := same_new hhl (.lst (sVs (((List.range 3).map fun j : Nat => nameBy (j : Int) (ns.getD 0 0)))))
  have ehl : (upd H2 hl (.lst (sVs (((List.range 3).map fun j : Nat => nameBy (j : Int) (ns.getD 0 0)))))) hl = some (.lst (sVs [nameBy 0 (ns.getD 0 0), nameBy 1 (ns.getD 0 0), nameBy 2 (ns.getD 0 0)])) := upd_same
  generalize upd H2 hl (.lst (sVs (((List.range 3).map fun j : Nat => nameBy (j : Int) (ns.getD 0 0))))) = H3 at *
  generalize nameBy 0 (ns.getD 0 0) = x0 at *
  generalize nameBy 1 (ns.getD 0 0) = x1 at *
  generalize nameBy 2 (ns.getD 0 0) = x2 at *
  have at0 : atI (sVs [x0, x1, x2]) 0 = some (.str x0) := atI_nat (j := 0) rfl
  have at1 : atI (sVs [x0, x1, x2]) 1 = some (.str x1) := atI_nat (j := 1) rfl
  have at2 : atI (sVs [x0, x1, x2]) 2 = some (.str x2) := atI_nat (j := 2) rfl
  have B3 := B0.same s2
  have S3 := s2.seq S1
  -- word
  refine ⟨_, rfl, a, ns, 1, rfl, S3, 3, _, rfl, ?_⟩
  have ny := okNm_of (name_is 3 (ns.getD 1 0))
  have ya := name_a 3 (ns.getD 1 0) (by decide)
  have y2 := name_two 3 (ns.getD 1 0)
  generalize nameBy 3 (ns.getD 1 0) = y at *
  have ly := (nm_ok ny).2
  -- found(houses[0])
  obtain ⟨bx, hp⟩ := B3.ob
  have hno : fnd [] x0 = none := rfl
  refine ⟨_, rfl, p, bx, _, rfl, hp, bF_no d (by decide +kernel), _, rfl, hl, _, _, _, rfl, rfl, SqL.of ehl, at0, p, d, [], x0, .non, [], 0, rfl, (can_none B3 n0 hno (by decide)).1, .inl ⟨rfl, rfl⟩, fun e0 H4 hnew B4 k4 => ?_⟩
  obtain ⟨nm0, _, hod0, hbd0, fr0⟩ := hnew
  have hod0' : e0.od = [x0] := hod0
  have B4' : BookAt CB CH H4 p d [e0] := B4
  have ehl4 : H4 hl = some (.lst (sVs [x0, x1, x2])) := k4 _ _ ehl (ne_of ehl B3.dc (by intro z; cases z))
  have kx4 : KeepX H3 H4 := fun b o h hn => k4 b o h (ne_of h B3.dc (hn _))
  have S4 := KeepX.sql kx4 S3
  -- found(houses[1], houses[:1])
  obtain ⟨bx4, hp4⟩ := B4'.ob
  have f1 : fnd [e0] x1 = none := fnd_none fun e he => by rw [List.mem_singleton.mp he, nm0]; exact d01
  refine ⟨_, rfl, p, bx4, _, rfl, hp4, bF_no d (by decide +kernel), _, rfl, hl, _, _, _, rfl, rfl, SqL.of ehl4, at1, _, rfl, _, rfl, hl, _, rfl, SqL.of ehl4, fun c5 hc5 => ?_⟩
  have s5 := same_new hc5 (.lst (cutV (sVs [x0, x1, x2]) none (some 1)))
  have e5 : (upd H4 c5 (.lst (cutV (sVs [x0, x1, x2]) none (some 1)))) c5 = some (.lst (sVs [x0])) := upd_same
  generalize upd H4 c5 (.lst (cutV (sVs [x0, x1, x2]) none (some 1))) = H5 at *
  have B5 := B4'.same s5
  have od0' : e0.od = e0.nm :: [] := by rw [nm0]; exact hod0'
  have can1 := can_one B5 n1 f1 (by show 1 ≤ 100; decide) (List.mem_singleton.mpr rfl) od0' (by rw [hod0']; simp) (by rw [hod0']; show 1 ≤ 100; decide)
  rw [nm0] at can1
  refine ⟨p, d, [e0], x1, .ref c5, [x0], _, rfl, can1.1, .inr ⟨c5, rfl, e5⟩, fun e1 H6 hnew1 B6 k6 => ?_⟩
  obtain ⟨nm1, _, hod1, hbd1, fr1⟩ := hnew1
  have hod1' : e1.od = [x1, x0] := by rw [hod1, can1.2, hod0']
  have B6' : BookAt CB CH H6 p d [e0, e1] := B6
  have kx6 : KeepX H5 H6 := fun b o h hn => k6 b o h (ne_of h B5.dc (hn _))
  have ehl6 : H6 hl = some (.lst (sVs [x0, x1, x2])) := kx6 _ _ (s5 _ _ ehl4) (by intro z e; cases e)
  have S6 := KeepX.sql kx6 (s5.seq S4)
  -- teach
  obtain ⟨bx6, hp6⟩ := B6'.ob
  refine ⟨_, rfl, p, bx6, _, rfl, hp6, bF_no d (by decide +kernel), _, rfl, hl, _, _, _, rfl, rfl, SqL.of ehl6, at1, _, rfl, by show 2 ≤ sizeLine; decide, fun t1 ht1 => ⟨by show 1 ≤ sizeLine; decide, fun t2 ht2 => ⟨by show 2 ≤ sizeLine; decide, fun c7 hc7 => ?_⟩⟩⟩
  have s7a := same_new ht1 (.tup [V.str "put", .int 7])
  have e7a : (upd H6 t1 (.tup [V.str "put", .int 7])) t1 = some (.tup [V.str "put", .int 7]) := upd_same
  generalize upd H6 t1 (.tup [V.str "put", .int 7]) = H7a at *
  have s7b := same_new ht2 (.tup [V.str "say"])
  have e7b : (upd H7a t2 (.tup [V.str "say"])) t2 = some (.tup [V.str "say"]) := upd_same
  generalize upd H7a t2 (.tup [V.str "say"]) = H7b at *
  have s7c := same_new hc7 (.lst [V.ref t1, V.ref t2])
  have e7c : (upd H7b c7 (.lst [V.ref t1, V.ref t2])) c7 = some (.lst ([t1, t2].map V.ref)) := upd_same
  generalize upd H7b c7 (.lst [V.ref t1, V.ref t2]) = H7 at *
  have s7 := (s7a.trans s7b).trans s7c
  have B7 := B6'.same s7
  have g1 : H7 t1 = some (.tup [V.str "put", .int 7]) := (s7b.trans s7c) _ _ e7a
  have g2 : H7 t2 = some (.tup [V.str "say"]) := s7c _ _ e7b
  have f1e : fnd [e0, e1] x1 = some e1 := by rw [← nm1]; exact fnd_of B7.nd (by simp)
  refine ⟨p, d, c7, [e0, e1], x1, y, e1, [t1, t2], [("put", [.int 7]), ("say", [])], rfl, B7, f1e, ny, by rw [sizeLine_eq]; omega, e7c, ⟨rfl, fun j t pr h1 h2 => ?_⟩, good_put Tb, by rw [hbd1]; decide, fun la H8 hla ela eba k8 => ?_⟩
  · match j with
    | 0 => cases h1; cases h2; exact g1
    | 1 => cases h1; cases h2; exact g2
    | j + 2 => simp at h1
  have E7 := (B7.en e1 (by simp)).bd
  have kD : KeepD H7 H8 e1.ba := k8
  have kx8 : KeepX H7 H8 := kD.x E7
  have ep8 : putK e1.bd (Sum.inr y : Key) (.ref la) = kvT [(y, la)] := by rw [hbd1, putK_new _ rfl]; rfl
  rw [ep8] at eba
  have B8 : BookAt CB CH H8 p d [e0, { e1 with bd := kvT [(y, la)] }] := B7.putBd (a := 1) rfl kD eba
  have St8 : St2 K CB CH H8 p d x0 x1 y e0 { e1 with bd := kvT [(y, la)] } la ([t1, t2].map V.ref) dT0 := ⟨B8, nm0, nm1, hod1', hbd0, rfl, ela, .cons (.tup (SqT.of (kx8 _ _ g1 (by intro z e; cases e))) (.cons (.str _) (.cons (.int _) .nil))) (.cons (.tup (SqT.of (kx8 _ _ g2 (by intro z e; cases e))) (.cons (.str _) .nil)) .nil), ld_T0⟩
  have nm8 : ({ e1 with bd := kvT [(y, la)] } : Ent).nm = x1 := nm1
  generalize ({ e1 with bd := kvT [(y, la)] } : Ent) = e18 at *
  have ehl8 : H8 hl = some (.lst (sVs [x0, x1, x2])) := kx8 _ _ (s7 _ _ ehl6) (by intro z e; cases e)
  have S8 := KeepX.sql kx8 (s7.seq S6)
  have hno2 : ∀ {e : Ent}, e.nm = x1 → fnd [e0, e] x2 = none := fun {e} he => fnd_none fun e' he' => by
    simp only [List.mem_cons, List.not_mem_nil, or_false] at he'
    rcases he' with rfl | rfl
    · rw [nm0]; exact d02
    · rw [he]; exact d12
  have sh1 := nm_show (okNm_of n1)
  have sh2 := nm_show (okNm_of n2)
  -- first_taught
  refine ⟨_, rfl, _, rfl, _, rfl, _, rfl, a, p, d, hl, ns, x0, x1, x2, y, e0, e18, la, _, rfl, S8, ehl8, St8, ny, y2, sh1, sh2, hno2 nm8, fun H9 e9 la9 us9 ds9 St9 nm9 kx9 => ⟨_, rfl, iteF ?_⟩⟩
  have nm9' : e9.nm = x1 := nm9.trans nm8
  have ehl9 := kx9 _ _ ehl8 (by intro z e; cases e)
  have S9 := KeepX.sql kx9 S8
  clear kx9 St8 S8 ehl8 kx8 kD eba B8 k8 ela
  obtain ⟨so1, so2, so3⟩ := (ld_text (t := "none") (by decide +kernel)).sh
  -- kinds
  refine ⟨8, rfl, by decide, by decide, for_range (n := 8) (fun i σ H10 => Same H9 H10 ∧ ∃ v4, σ = [some (.ref a), some (.ref p), some (.ref hl), some (.str y), v4]) ⟨Same.refl _, _, rfl⟩ ?_ ?_⟩
  · rintro i σ H10 hi ⟨s10, v4, rfl⟩
    refine ⟨_, rfl, _, rfl, _, rfl, hl, _, _, _, rfl, rfl, SqL.of (s10 _ _ ehl9), at2, _, rfl, _, _, rfl, rfl, ⟨by decide, by decide, by decide⟩, i, p, d, [e0, e9], x2, y, _, _, by rw [Int.zero_add]; rfl, hi, St9.bk.same s10, sh2, .inl (.inl ⟨_, rfl⟩), .inl (.inl ⟨_, rfl⟩), .inl ⟨hno2 nm9', fun r H11 s11 e11 => ⟨by show 1 ≤ sizeLine; decide, fun c12 hc12 => ?_⟩⟩⟩
    have s12 := same_new hc12 (.lst [V.str "none"])
    have e12 : (upd H11 c12 (.lst [V.str "none"])) c12 = some (.lst [V.str "none"]) := upd_same
    generalize upd H11 c12 (.lst [V.str "none"]) = H12 at *
    refine ⟨.list [.str "none"], .list [.str "none"], .lst (SqL.of (s12 _ _ e11)) (.cons (.str _) .nil), .lst (SqL.of e12) (.cons (.str _) .nil), so1, so1, so2, _, rfl, ?_⟩
    rw [if_pos rfl, so3]
    exact iteF ⟨(s10.trans s11).trans s12, _, rfl⟩
  rintro σ H10 ⟨s10, v4, rfl⟩
  have St10 := St9.same s10
  have ehl10 := s10 _ _ ehl9
  -- others, bad_steps
  refine ⟨_, rfl, _, rfl, hl, _, _, _, rfl, rfl, SqL.of ehl10, at1, _, rfl, p, d, [e0, e9], x1, y, e9, rfl, St10.bk, sh1, St10.f1, ny, by rw [St10.o1]; show 2 ≤ 1000; decide, St10.bl, fun H11 s11 => ⟨_, rfl, iteF ?_⟩⟩
  have St11 := St10.same s11
  have ehl11 := s11 _ _ ehl10
  have S11 := (s10.trans s11).seq S9
  refine ⟨_, rfl, _, rfl, _, rfl, hl, _, _, _, rfl, rfl, SqL.of ehl11, at1, _, rfl, a, p, d, ns, [e0, e9], x1, y, e9, la9, us9, ds9, rfl, S11, St11.bk, sh1, St11.f1, ny, St11.bl, by rw [St11.b1]; exact valV_pos rfl, St11.lst, St11.dv, St11.ld, fun H12 s12 => ⟨_, rfl, iteF ?_⟩⟩
  have St12 := St11.same s12
  have ehl12 := s12 _ _ ehl11
  have S12 := s12.seq S11
  -- found(houses[2], houses[1:2])
  obtain ⟨bx12, hp12⟩ := St12.bk.ob
  refine ⟨_, rfl, p, bx12, _, rfl, hp12, bF_no d (by decide +kernel), _, rfl, hl, _, _, _, rfl, rfl, SqL.of ehl12, at2, _, rfl, _, rfl, _, rfl, hl, _, rfl, SqL.of ehl12, fun c13 hc13 => ?_⟩
  have s13 := same_new hc13 (.lst (cutV (sVs [x0, x1, x2]) (some 1) (some 2)))
  have e13 : (upd H12 c13 (.lst (cutV (sVs [x0, x1, x2]) (some 1) (some 2)))) c13 = some (.lst (sVs [x1])) := upd_same
  generalize upd H12 c13 (.lst (cutV (sVs [x0, x1, x2]) (some 1) (some 2))) = H13 at *
  have St13 := St12.same s13
  have od9 : e9.od = e9.nm :: [x0] := by rw [nm9']; exact St13.o1
  have can2 := can_one St13.bk n2 (hno2 nm9') (by show 2 ≤ 100; decide) (e := e9) (by simp) od9 (by rw [St13.o1]; simp [Ne.symm d01]) (by rw [St13.o1]; show 2 ≤ 100; decide)
  rw [nm9'] at can2
  refine ⟨p, d, [e0, e9], x2, .ref c13, [x1], _, rfl, can2.1, .inr ⟨c13, rfl, e13⟩, fun e2 H14 hnew2 B14 k14 => ?_⟩
  obtain ⟨nm2, _, hod2, hbd2, fr2⟩ := hnew2
  have hod2' : e2.od = [x2, x1, x0] := by rw [hod2, can2.2, St13.o1]
  have B14' : BookAt CB CH H14 p d [e0, e9, e2] := B14
  have kx14 : KeepX H13 H14 := fun b o h hn => k14 b o h (ne_of h St13.bk.dc (hn _))
  have ehl14 : H14 hl = some (.lst (sVs [x0, x1, x2])) := kx14 _ _ (s13 _ _ ehl12) (by intro z e; cases e)
  have S14 := KeepX.sql kx14 (s13.seq S12)
  -- then_taught
  refine ⟨_, rfl, _, rfl, _, rfl, hl, _, _, _, rfl, rfl, SqL.of ehl14, at2, _, rfl, a, p, d, ns, [e0, e9, e2], x2, y, 2, e2, rfl, S14, B14', sh2, rfl, nm2, ny, ya, hbd2, ?_, by rw [hod2']; show 3 ≤ 1000; decide, ?_, fun H15 L15 B15 nms kx15 => ⟨_, rfl, iteT ?_⟩⟩
  · exact fa_cons (.inl hbd0) (fa_cons (.inr ⟨la9, St13.b1⟩) (fa_cons (.inl hbd2) fa_nil))
  · intro z hz
    rw [hod2'] at hz
    simp only [List.map_cons, List.map_nil, nm0, nm9', nm2, List.mem_cons, List.not_mem_nil, or_false] at hz ⊢
    rcases hz with rfl | rfl | rfl <;> simp
  -- houses()
  obtain ⟨bx15, hp15⟩ := B15.ob
  refine ⟨_, rfl, p, bx15, _, rfl, hp15, bF_no d (by decide +kernel), p, d, L15, rfl, B15, fun c16 hc16 => ?_⟩
  have enm : L15.map (·.nm) = [x0, x1, x2] := by rw [nms]; simp only [List.map_cons, List.map_nil, nm0, nm9', nm2]
  rw [enm]
  have s16 := same_new hc16 (.lst (sVs [x0, x1, x2]))
  have e16 : (upd H15 c16 (.lst (sVs [x0, x1, x2]))) c16 = some (.lst (sVs [x0, x1, x2])) := upd_same
  generalize upd H15 c16 (.lst (sVs [x0, x1, x2])) = H16 at *
  have ehl16 : H16 hl = some (.lst (sVs [x0, x1, x2])) := s16 _ _ (kx15 _ _ ehl14 (by intro z e; cases e))
  have o0 := (nm_ok (okNm_of n0)).1
  have o1 := (nm_ok (okNm_of n1)).1
  have o2 := (nm_ok (okNm_of n2)).1
  have ld3 : LD [.str x0, .str x1, .str x2] := ⟨by simp [plainDs, plainD, o0, o1, o2], by simp [PyData.depthAll, PyData.depth]⟩
  obtain ⟨sh31, sh32, sh33⟩ := ld3.sh
  refine ⟨_, rfl, .list [.str x0, .str x1, .str x2], .list [.str x0, .str x1, .str x2], .lst (SqL.of e16) (.cons (.str _) (.cons (.str _) (.cons (.str _) .nil))), .lst (SqL.of ehl16) (.cons (.str _) (.cons (.str _) (.cons (.str _) .nil))), sh31, sh31, sh32, ?_⟩
  rw [if_neg Bool.false_ne_true, sh33]
  exact q H16
end
section
variable {P : Program} {w : World} {K : PySem.W.Frag} {mg : Str → Option Value} {base : Heap} {f : Addr} {fd : FuncData} {ks : List (Str × Addr × List Str)}
theorem scGood : FnScope ["_law_cell", "_law_word", "_law_most", "_law_steps"] ["_law_cell", "_law_word"] (defScope sGood) := ⟨rfl, rfl, rfl, by decide +kernel, rfl, by decide +kernel, by decide +kernel⟩
theorem ok_good (F : Fun K "_law_good_step" "_law_good_step" sGood f fd) (T : Txt mg) (Tb : TabK ks) : FnOk P w K mg base CX0 1 f fd ["_law_cell", "_law_word"] (spStepW K ks true) := by
  refine F.ok scGood (fun vs H Q E h => ?_) (fun cdv A outer s H vs Q E hr h => ?_)
  · obtain ⟨c, y, rfl, _⟩ := h
    rfl
  obtain ⟨c, y, rfl, hy, q⟩ := h
  obtain ⟨oy, ly⟩ := nm_ok hy
  have fy : FlV (.str y) := .str oy (by omega)
  refine ⟨_, pss_cons (ps_set (i := 2) scGood.nd rfl (Or.inl rfl) (pe_op op_pow pe_int pe_int))
    (pss_cons (ps_set (i := 3) scGood.nd rfl (Or.inl rfl) (ls_its (K := K) (w := y) (gs := gG1) (by
      refine its_cons (it_tup (pf_cons f_str pf_nil)) ?_
      refine its_cons (it_tup (pf_cons f_str (pf_cons (f_of (.int _) (pv 2) fun σ H Q hw q => ⟨_, hw.2, q⟩) pf_nil))) ?_
      refine its_cons (it_tup (pf_cons f_str (pf_cons (f_of (.int _) (pe_un un_neg (pv 2)) fun σ H Q hw q => ⟨_, hw.2, _, rfl, q⟩) pf_nil))) ?_
      refine its_cons (it_tup (pf_cons f_str (pf_cons (f_of (.int _) (pe_un un_neg pe_int) fun σ H Q hw q => ⟨_, rfl, q⟩) pf_nil))) ?_
      refine its_cons (it_tup (pf_cons f_str (pf_cons (f_of (.int _) (pv 2) fun σ H Q hw q => ⟨_, hw.2, q⟩) pf_nil))) ?_
      refine its_cons (it_tup (pf_cons f_str (pf_cons f_int pf_nil))) ?_
      refine its_cons (it_tup (pf_cons f_str (pf_cons f_int pf_nil))) ?_
      exact its_nil)))
    (pss_cons (ps_set (i := 3) scGood.nd rfl (Or.inl rfl) (pe_op op_cat (pv 3) (ls_its (K := K) (w := y) (gs := gG2 y) (by
      refine its_cons (it_tup (pf_cons f_str pf_nil)) ?_
      refine its_cons (it_tup (pf_cons f_str (pf_cons (f_of fy (pv 1) fun σ H Q hw q => ⟨_, hw.1, q⟩) pf_nil))) ?_
      refine its_cons (it_tup (pf_cons f_str (pf_cons (f_of fy (pv 1) fun σ H Q hw q => ⟨_, hw.1, q⟩) (pf_cons (f_of (.str (by decide +kernel) (by decide +kernel)) (pe_op op_mulS pe_str pe_int) fun σ H Q hw q => ⟨_, _, rfl, rfl, ⟨by decide, (fun _ _ => by decide), (fun _ _ => by decide +kernel)⟩, q⟩) pf_nil)))) ?_
      refine its_cons (it_tup (pf_cons f_str (pf_cons f_int pf_nil))) ?_
      refine its_cons (it_tup (pf_cons f_str (pf_cons f_int pf_nil))) ?_
      refine its_cons (it_tup (pf_cons f_str (pf_cons f_str pf_nil))) ?_
      exact its_nil))))
    (pss_one (ps_ret (pe_ix ix_list (pv 3) (pe_op op_mod (pv 0) (pe_callB call_len_seq rfl T.len PySem.boot_len (pa_cons (pv 3) pa_nil))) (fun _ _ => rfl)))))), ?_⟩
  refine ⟨_, _, rfl, rfl, ⟨by decide, by decide, by decide⟩, ⟨rfl, rfl⟩, fun l1 us1 H1 n1 s1 e1 p1 => ?_⟩
  refine ⟨_, rfl, ⟨rfl, rfl⟩, fun l2 us2 H2 n2 s2 e2 p2 => ⟨l1, l2, us1, us2, rfl, rfl, s2 _ _ e1, e2, by have := paired_len p1; have := paired_len p2; rw [sizeLine_eq]; show _ ≤ _; simp only [gG1, gG2, List.length_cons, List.length_nil] at *; omega, fun p hp => ?_⟩⟩
  obtain ⟨s3, p3⟩ := at_cat p1 s2 p2 hp
  have e3 : (upd H2 p (.lst (us1 ++ us2))) p = some (.lst (us1 ++ us2)) := upd_same
  have hn : 0 < (us1 ++ us2).length := by have := paired_len p1; rw [List.length_append, this]; show 0 < 7 + _; omega
  generalize upd H2 p (.lst (us1 ++ us2)) = H3 at *
  generalize us1 ++ us2 = us at *
  obtain ⟨v, g, hat, hg, hi⟩ := at_mod p3 hn c
  exact ⟨_, rfl, _, rfl, _, rfl, p, us, rfl, .inl (SqL.of e3), _, _, rfl, rfl, by omega, p, _, _, _, rfl, rfl, SqL.of e3, hat, q v g H3 (s1.trans s3) hi (good_all Tb hy g hg)⟩
end
abbrev nBad : List Str := ["_law_cell", "_law_word", "_law_most", "_law_steps"]
theorem psw_cat {X : Cx} {K : PySem.W.Frag} {y : Str} {i : Nat} {x : Str} {es : List Expr} {gs : List StG} {pos pos' p2 p3 p4 : Pos} (hN : X.N.Nodup) (hi : X.N[i]? = some x) (hx : Loc X.env.scope x) (hv : PE X (.Name x p4) (tVar i)) (h : PA X es (tIts K y gs)) (hl : Nat.ble gs.length 90 = true) (hf : X.fn x = true ∨ X.env.scope.names.lookup x = some .local) : PSw X (.Assign [.Name x pos'] (.BinOp (.Name x p4) .Add (.List es p2) p3) pos) (tAsg (tOp rCat (tVar i) (tLs K y gs)) (gName i)) := ⟨ps_set hN hi hx (pe_op op_cat hv (ls_its h hl)) rfl hf⟩
theorem psw_its {X : Cx} {K : PySem.W.Frag} {y : Str} {i : Nat} {x : Str} {es : List Expr} {gs : List StG} {pos pos' p2 : Pos} (hN : X.N.Nodup) (hi : X.N[i]? = some x) (hx : Loc X.env.scope x) (h : PA X es (tIts K y gs)) (hl : Nat.ble gs.length 90 = true) (hf : X.fn x = true ∨ X.env.scope.names.lookup x = some .local) : PSw X (.Assign [.Name x pos'] (.List es p2) pos) (tAsg (tLs K y gs) (gName i)) := ⟨ps_set hN hi hx (ls_its h hl) rfl hf⟩
theorem nBad_nd : nBad.Nodup := by decide +kernel
theorem st_b5 {X : Cx} {K : PySem.W.Frag} {y : Str} {tail : List Stmt} {t : TS} (fy : FlV (.str y)) (fy1 : FlV (.str (y ++ "1"))) (l1' : y.length + ("1" : Str).length ≤ sizeLine) (_ : PSs X tail t) (hN : X.N = nBad) (hs : X.env.scope = defScope sBad) : PSw X ((defBody sBad).getD 5 (.Pass ⟨0, 0, 0, 0⟩)) (tAsg (tOp rCat (tVar 3) (tLs K y (gB5))) (gName 3)) := by
  refine psw_cat (x := "_law_steps") (by rw [hN]; exact nBad_nd) (by rw [hN]; rfl) (by rw [hs]; exact Or.inl rfl) (pe_var (i := 3) (by rw [hN]; rfl) (by rw [hs]; exact Or.inl rfl)) ?_ rfl (by rw [hs]; exact Or.inr rfl)
  refine its_cons ?_ ?_
  · exact (it_tup (pf_cons f_str (pf_cons f_int pf_nil)))
  refine its_cons ?_ ?_
  · exact (it_tup (pf_cons f_str pf_nil))
  refine its_cons ?_ ?_
  · exact it_emp
  refine its_cons ?_ ?_
  · exact (it_lst (pf_cons f_str pf_nil))
  refine its_cons ?_ ?_
  · exact (it_str f_str)
  refine its_cons ?_ ?_
  · exact (it_non f_non)
  refine its_cons ?_ ?_
  · exact (it_tup (pf_cons f_str (pf_cons (f_of (.int _) (pe_op op_add (pe_var (i := 2) (by rw [hN]; rfl) (by rw [hs]; exact Or.inl rfl)) pe_int) fun σ H Q hw q => ⟨_, hw.2, _, _, rfl, rfl, q⟩) pf_nil)))
  exact its_nil
theorem st_b4 {X : Cx} {K : PySem.W.Frag} {y : Str} {tail : List Stmt} {t : TS} (fy : FlV (.str y)) (fy1 : FlV (.str (y ++ "1"))) (l1' : y.length + ("1" : Str).length ≤ sizeLine) (_ : PSs X tail t) (hN : X.N = nBad) (hs : X.env.scope = defScope sBad) : PSw X ((defBody sBad).getD 4 (.Pass ⟨0, 0, 0, 0⟩)) (tAsg (tOp rCat (tVar 3) (tLs K y (gB4 y))) (gName 3)) := by
  refine psw_cat (x := "_law_steps") (by rw [hN]; exact nBad_nd) (by rw [hN]; rfl) (by rw [hs]; exact Or.inl rfl) (pe_var (i := 3) (by rw [hN]; rfl) (by rw [hs]; exact Or.inl rfl)) ?_ rfl (by rw [hs]; exact Or.inr rfl)
  refine its_cons ?_ ?_
  · exact (it_tup (pf_cons f_str (pf_cons (f_of fy (pe_var (i := 1) (by rw [hN]; rfl) (by rw [hs]; exact Or.inl rfl)) fun σ H Q hw q => ⟨_, hw.1, q⟩) pf_nil)))
  refine its_cons ?_ ?_
  · exact (it_tup (pf_cons f_str (pf_cons f_str (pf_cons (f_of fy (pe_var (i := 1) (by rw [hN]; rfl) (by rw [hs]; exact Or.inl rfl)) fun σ H Q hw q => ⟨_, hw.1, q⟩) pf_nil))))
  refine its_cons ?_ ?_
  · exact (it_tup (pf_cons f_str (pf_cons (f_of fy (pe_var (i := 1) (by rw [hN]; rfl) (by rw [hs]; exact Or.inl rfl)) fun σ H Q hw q => ⟨_, hw.1, q⟩) (pf_cons (f_of fy1 (pe_op op_add_str (pe_var (i := 1) (by rw [hN]; rfl) (by rw [hs]; exact Or.inl rfl)) pe_str) fun σ H Q hw q => ⟨_, hw.1, _, _, rfl, rfl, l1', q⟩) pf_nil))))
  refine its_cons ?_ ?_
  · exact (it_tup (pf_cons f_str (pf_cons (f_of fy (pe_var (i := 1) (by rw [hN]; rfl) (by rw [hs]; exact Or.inl rfl)) fun σ H Q hw q => ⟨_, hw.1, q⟩) (pf_cons (f_of fy (pe_var (i := 1) (by rw [hN]; rfl) (by rw [hs]; exact Or.inl rfl)) fun σ H Q hw q => ⟨_, hw.1, q⟩) (pf_cons (f_of fy (pe_var (i := 1) (by rw [hN]; rfl) (by rw [hs]; exact Or.inl rfl)) fun σ H Q hw q => ⟨_, hw.1, q⟩) pf_nil)))))
  exact its_nil
theorem st_b3 {X : Cx} {K : PySem.W.Frag} {y : Str} {tail : List Stmt} {t : TS} (fy : FlV (.str y)) (fy1 : FlV (.str (y ++ "1"))) (l1' : y.length + ("1" : Str).length ≤ sizeLine) (_ : PSs X tail t) (hN : X.N = nBad) (hs : X.env.scope = defScope sBad) : PSw X ((defBody sBad).getD 3 (.Pass ⟨0, 0, 0, 0⟩)) (tAsg (tOp rCat (tVar 3) (tLs K y (gB3 y))) (gName 3)) := by
  refine psw_cat (x := "_law_steps") (by rw [hN]; exact nBad_nd) (by rw [hN]; rfl) (by rw [hs]; exact Or.inl rfl) (pe_var (i := 3) (by rw [hN]; rfl) (by rw [hs]; exact Or.inl rfl)) ?_ rfl (by rw [hs]; exact Or.inr rfl)
  refine its_cons ?_ ?_
  · exact (it_tup (pf_cons f_str (pf_cons (f_of (.int _) (pe_un un_neg pe_int) fun σ H Q hw q => ⟨_, rfl, q⟩) pf_nil)))
  refine its_cons ?_ ?_
  · exact (it_tup (pf_cons f_str (pf_cons (f_of fy (pe_var (i := 1) (by rw [hN]; rfl) (by rw [hs]; exact Or.inl rfl)) fun σ H Q hw q => ⟨_, hw.1, q⟩) pf_nil)))
  refine its_cons ?_ ?_
  · exact (it_tup (pf_cons f_str pf_nil))
  refine its_cons ?_ ?_
  · exact (it_tup (pf_cons f_str (pf_cons f_str pf_nil)))
  refine its_cons ?_ ?_
  · exact (it_tup (pf_cons f_str (pf_cons f_str pf_nil)))
  refine its_cons ?_ ?_
  · exact (it_tup (pf_cons f_str (pf_cons (f_of fy (pe_var (i := 1) (by rw [hN]; rfl) (by rw [hs]; exact Or.inl rfl)) fun σ H Q hw q => ⟨_, hw.1, q⟩) (pf_cons (f_of fy (pe_var (i := 1) (by rw [hN]; rfl) (by rw [hs]; exact Or.inl rfl)) fun σ H Q hw q => ⟨_, hw.1, q⟩) pf_nil))))
  exact its_nil
theorem st_b2 {X : Cx} {K : PySem.W.Frag} {y : Str} {tail : List Stmt} {t : TS} (fy : FlV (.str y)) (fy1 : FlV (.str (y ++ "1"))) (l1' : y.length + ("1" : Str).length ≤ sizeLine) (_ : PSs X tail t) (hN : X.N = nBad) (hs : X.env.scope = defScope sBad) : PSw X ((defBody sBad).getD 2 (.Pass ⟨0, 0, 0, 0⟩)) (tAsg (tOp rCat (tVar 3) (tLs K y (gB2))) (gName 3)) := by
  refine psw_cat (x := "_law_steps") (by rw [hN]; exact nBad_nd) (by rw [hN]; rfl) (by rw [hs]; exact Or.inl rfl) (pe_var (i := 3) (by rw [hN]; rfl) (by rw [hs]; exact Or.inl rfl)) ?_ rfl (by rw [hs]; exact Or.inr rfl)
  refine its_cons ?_ ?_
  · exact (it_tup (pf_cons f_str (pf_cons f_non pf_nil)))
  refine its_cons ?_ ?_
  · exact (it_tup (pf_cons f_str (pf_cons f_int (pf_cons f_int pf_nil))))
  refine its_cons ?_ ?_
  · exact (it_tup (pf_cons f_str (pf_cons f_int pf_nil)))
  refine its_cons ?_ ?_
  · exact (it_tup (pf_cons f_str (pf_cons f_int pf_nil)))
  refine its_cons ?_ ?_
  · exact (it_tup (pf_cons f_str (pf_cons f_int pf_nil)))
  refine its_cons ?_ ?_
  · exact (it_tup (pf_cons f_str (pf_cons (f_of (.int _) (pe_un un_neg pe_int) fun σ H Q hw q => ⟨_, rfl, q⟩) pf_nil)))
  refine its_cons ?_ ?_
  · exact (it_tup (pf_cons f_str (pf_cons f_int pf_nil)))
  exact its_nil
theorem st_b1 {X : Cx} {K : PySem.W.Frag} {y : Str} {tail : List Stmt} {t : TS} (fy : FlV (.str y)) (fy1 : FlV (.str (y ++ "1"))) (l1' : y.length + ("1" : Str).length ≤ sizeLine) (_ : PSs X tail t) (hN : X.N = nBad) (hs : X.env.scope = defScope sBad) : PSw X ((defBody sBad).getD 1 (.Pass ⟨0, 0, 0, 0⟩)) (tAsg (tLs K y (gB1)) (gName 3)) := by
  refine psw_its (x := "_law_steps") (by rw [hN]; exact nBad_nd) (by rw [hN]; rfl) (by rw [hs]; exact Or.inl rfl) ?_ rfl (by rw [hs]; exact Or.inr rfl)
  refine its_cons ?_ ?_
  · exact (it_tup (pf_cons f_str (pf_cons f_int pf_nil)))
  refine its_cons ?_ ?_
  · exact (it_tup (pf_cons f_str pf_nil))
  refine its_cons ?_ ?_
  · exact (it_tup (pf_cons f_str (pf_cons (f_of (.int _) (pe_op op_add (pe_var (i := 2) (by rw [hN]; rfl) (by rw [hs]; exact Or.inl rfl)) pe_int) fun σ H Q hw q => ⟨_, hw.2, _, _, rfl, rfl, q⟩) pf_nil)))
  refine its_cons ?_ ?_
  · exact (it_tup (pf_cons f_str (pf_cons (f_of (.int _) (pe_op op_sub (pe_un un_neg (pe_var (i := 2) (by rw [hN]; rfl) (by rw [hs]; exact Or.inl rfl))) pe_int) fun σ H Q hw q => ⟨_, hw.2, _, rfl, _, _, rfl, rfl, q⟩) pf_nil)))
  refine its_cons ?_ ?_
  · exact (it_tup (pf_cons f_str (pf_cons f_str pf_nil)))
  refine its_cons ?_ ?_
  · exact (it_tup (pf_cons f_str (pf_cons f_bl pf_nil)))
  exact its_nil
section
variable {P : Program} {w : World} {K : PySem.W.Frag} {mg : Str → Option Value} {base : Heap} {f : Addr} {fd : FuncData} {ks : List (Str × Addr × List Str)}
def RB (K : PySem.W.Frag) (Q : VK) (H : Hp) (c : Int) (y : Str) (gs : List StG) (tt : TS) : Prop := ∀ (H1 : Hp) (l : Addr) (us : List V), Same H H1 → H1 l = some (.lst us) → Paired (ItG K H1) us gs → tt { nx := fun _ H' => Q .non H', rt := Q } [some (.int c), some (.str y), some (.int big), some (.ref l)] H1
theorem scBad : FnScope ["_law_cell", "_law_word", "_law_most", "_law_steps"] ["_law_cell", "_law_word"] (defScope sBad) := ⟨rfl, rfl, rfl, by decide +kernel, rfl, by decide +kernel, by decide +kernel⟩
theorem ok_bad (F : Fun K "_law_bad_step" "_law_bad_step" sBad f fd) (T : Txt mg) (Tb : TabK ks) : FnOk P w K mg base CX0 1 f fd ["_law_cell", "_law_word"] (spStepW K ks false) := by
  refine F.ok scBad (fun vs H Q E h => ?_) (fun cdv A outer s H vs Q E hr h => ?_)
  · obtain ⟨c, y, rfl, _⟩ := h
    rfl
  obtain ⟨c, y, rfl, hy, q⟩ := h
  obtain ⟨oy, ly⟩ := nm_ok hy
  have fy : FlV (.str y) := .str oy (by omega)
  have fy1 : FlV (.str (y ++ "1")) := .str (ok_app oy (by decide +kernel)) (by rw [Str.length_append]; show _ + 1 ≤ _; omega)
  have l1' : y.length + ("1" : Str).length ≤ sizeLine := by rw [sizeLine_eq]; show _ + 1 ≤ _; omega
  refine with_tail (tail := (defBody sBad).drop 6) (RB K Q H c y (gBad y)) ?_ ?_
  · refine ⟨_, pss_one (ps_ret (pe_ix ix_list (pv 3) (pe_op op_mod (pv 0) (pe_callB call_len_seq rfl T.len PySem.boot_len (pa_cons (pv 3) pa_nil))) (fun _ _ => rfl))), fun H1 l us s1 e1 p1 => ?_⟩
    have hn : us.length = 30 := paired_len p1
    obtain ⟨v, g, hat, hg, hi⟩ := at_mod p1 (by omega) c
    exact ⟨_, rfl, _, rfl, _, rfl, l, us, rfl, .inl (SqL.of e1), _, _, rfl, rfl, by omega, l, _, _, _, rfl, rfl, SqL.of e1, hat, q v g H1 s1 hi (bad_all Tb g hg)⟩
  intro t6 h6 p6
  refine with_tail (tail := (defBody sBad).drop 5) (RB K Q H c y (gB1 ++ gB2 ++ gB3 y ++ gB4 y)) ?_ ?_
  · have h0 := st_b5 (K := K) fy fy1 l1' h6 rfl rfl
    refine wt_cons h0 ⟨_, h6, fun H1 l us s1 e1 p1 => ?_⟩
    have hn : us.length = 23 := paired_len p1
    refine ⟨_, rfl, ⟨rfl, rfl⟩, fun l2 us2 H2 n2 s2 e2 p2 => ?_⟩
    have hn2 : us2.length = 7 := paired_len p2
    refine ⟨l, l2, us, us2, rfl, rfl, s2 _ _ e1, e2, by rw [sizeLine_eq]; omega, fun p hp => ?_⟩
    obtain ⟨s3, r3⟩ := at_cat p1 s2 p2 hp
    exact p6 _ p _ (s1.trans s3) upd_same r3
  intro t5 h5 p5
  refine with_tail (tail := (defBody sBad).drop 4) (RB K Q H c y (gB1 ++ gB2 ++ gB3 y)) ?_ ?_
  · have h0 := st_b4 (K := K) fy fy1 l1' h5 rfl rfl
    refine wt_cons h0 ⟨_, h5, fun H1 l us s1 e1 p1 => ?_⟩
    have hn : us.length = 19 := paired_len p1
    refine ⟨_, rfl, ⟨rfl, rfl⟩, fun l2 us2 H2 n2 s2 e2 p2 => ?_⟩
    have hn2 : us2.length = 4 := paired_len p2
    refine ⟨l, l2, us, us2, rfl, rfl, s2 _ _ e1, e2, by rw [sizeLine_eq]; omega, fun p hp => ?_⟩
    obtain ⟨s3, r3⟩ := at_cat p1 s2 p2 hp
    exact p5 _ p _ (s1.trans s3) upd_same r3
  intro t4 h4 p4
  refine with_tail (tail := (defBody sBad).drop 3) (RB K Q H c y (gB1 ++ gB2)) ?_ ?_
  · have h0 := st_b3 (K := K) fy fy1 l1' h4 rfl rfl
    refine wt_cons h0 ⟨_, h4, fun H1 l us s1 e1 p1 => ?_⟩
    have hn : us.length = 13 := paired_len p1
    refine ⟨_, rfl, ⟨rfl, rfl⟩, fun l2 us2 H2 n2 s2 e2 p2 => ?_⟩
    have hn2 : us2.length = 6 := paired_len p2
    refine ⟨l, l2, us, us2, rfl, rfl, s2 _ _ e1, e2, by rw [sizeLine_eq]; omega, fun p hp => ?_⟩
    obtain ⟨s3, r3⟩ := at_cat p1 s2 p2 hp
    exact p4 _ p _ (s1.trans s3) upd_same r3
  intro t3 h3 p3
  refine with_tail (tail := (defBody sBad).drop 2) (RB K Q H c y (gB1)) ?_ ?_
  · have h0 := st_b2 (K := K) fy fy1 l1' h3 rfl rfl
    refine wt_cons h0 ⟨_, h3, fun H1 l us s1 e1 p1 => ?_⟩
    have hn : us.length = 6 := paired_len p1
    refine ⟨_, rfl, ⟨rfl, rfl⟩, fun l2 us2 H2 n2 s2 e2 p2 => ?_⟩
    have hn2 : us2.length = 7 := paired_len p2
    refine ⟨l, l2, us, us2, rfl, rfl, s2 _ _ e1, e2, by rw [sizeLine_eq]; omega, fun p hp => ?_⟩
    obtain ⟨s3, r3⟩ := at_cat p1 s2 p2 hp
    exact p3 _ p _ (s1.trans s3) upd_same r3
  intro t2 h2 p2
  refine with_tail (tail := (defBody sBad).drop 1) (fun tt => tt { nx := fun _ H' => Q .non H', rt := Q } [some (.int c), some (.str y), some (.int big), none] H) ?_ ?_
  · have h0 := st_b1 (K := K) fy fy1 l1' h2 rfl rfl
    exact wt_cons h0 ⟨_, h2, ⟨rfl, rfl⟩, fun l1 us1 H1 n1 s1 e1 p1 => p2 H1 l1 us1 s1 e1 p1⟩
  intro t1 h1 p1
  exact ⟨_, pss_cons (ps_set (i := 2) scBad.nd rfl (Or.inl rfl) (pe_op op_pow pe_int pe_int)) h1, _, _, rfl, rfl, ⟨by decide, by decide, by decide⟩, p1⟩
end
end Bk
namespace Bk
open PySem L2 Mg Nm
def entOf (w : World) (p : Str × Tok × Addr) : DictEntry := ⟨PyData.keyHash w.params p.1, .str p.1 p.2.1, .ref p.2.2⟩
theorem pairs_of {P : Program} {w : World} : ∀ ents : List (Str × Tok × Addr), Pairs (mixKind P w) (ents.map (entOf w)) (ents.map fun p => ((Sum.inr p.1 : Key), Value.ref p.2.2)) := by
  intro ents
  induction ents with
  | nil => exact .nil
  | cons p ents ih => exact .cons (keyIs_str p.1 p.2.1) rfl ih
theorem kdic_of {P : Program} {w : World} {K : PySem.W.Frag} {aP : Addr} {es : Array DictEntry} {ep : Nat} (ents : List (Str × Tok × Addr)) (l : K.lookup aP = some ⟨.type "dict", none, .dict es ep, #[]⟩) (hes : es.toList = ents.map (entOf w)) (nd : (ents.map (·.1)).Nodup) (sm : (aP == sysModules) = false) : KDic P w K aP (ents.map fun p => ((Sum.inr p.1 : Key), V.ref p.2.2)) := by
  refine ⟨_, es, ep, ents.map fun p => ((Sum.inr p.1 : Key), Value.ref p.2.2), l, ⟨rfl, rfl, rfl⟩, rfl, fun e he => ?_, by rw [hes]; exact pairs_of ents, ?_, ?_, sm⟩
  · have he' : e ∈ es.toList := by simpa using he
    rw [hes] at he'
    obtain ⟨p, hp, rfl⟩ := List.mem_map.mp he'
    exact ⟨Sum.inr p.1, keyIs_str p.1 p.2.1, rfl⟩
  · rw [List.map_map]
    have : ((fun q : Key × Value => q.1) ∘ fun p : Str × Tok × Addr => ((Sum.inr p.1 : Key), Value.ref p.2.2)) = fun p => (Sum.inr p.1 : Key) := rfl
    rw [this]
    have h2 : (ents.map fun p => (Sum.inr p.1 : Key)) = (ents.map (·.1)).map Sum.inr := by rw [List.map_map]; rfl
    rw [h2]
    exact List.pairwise_map.mpr (nd.imp fun h z => h (Sum.inr.inj z))
  · clear l hes nd
    induction ents with
    | nil => exact .nil
    | cons p ents ih => exact .cons ⟨rfl, rfl⟩ ih
theorem sqt_of {K : PySem.W.Frag} {H : Hp} {a : Addr} {od : Option Addr} {its : Array Value} {n : Nat} {sl : Array (Option Value)} {r : List Str} (l : K.lookup a = some ⟨.type "tuple", od, .seq its n, sl⟩) (v : Vals (sVs r) its.toList) (hl : its.size ≤ sizeLine) : SqT K H a (sVs r) := .inr ⟨_, its, n, l, rfl, rfl, hl, v⟩
end Bk
namespace Bk
open PySem L2 Mg PySem.W
theorem exm_of {K : Frag} {cls : Value} {C : Addr} (h1 : isClsIn K C = true) (h2 : typeIn K (.ref C) = some (.type "type")) (h3 : subIn K (.ref C) (.type "BaseException") = some true) {b : Bool} (h4 : subIn K cls (.ref C) = some b) : exmOne K cls (.ref C) = some b := by
  have e1 : (clsIn K C).isSome = true := h1
  unfold exmOne kitCls
  simp only [h2, h3, h4, e1]
  rfl
theorem kit_refB {K : Frag} {t : Value} {B : Addr} {b : Bool} (h1 : isClsIn K B = true) (h2 : typeIn K (.ref B) = some (.type "type")) (h3 : subIn K (.ref B) (.ref B) = some true) (h4 : subIn K t (.ref B) = some b) : kitOne K t (.ref B) = some b := by
  have hne : (t == Value.ref B) = true → b = true := fun z => by
    have e : t = Value.ref B := beq_iff_eq.mp z
    rw [e, h3] at h4
    exact (Option.some.inj h4).symm
  have e1 : (clsIn K B).isSome = true := h1
  unfold kitOne kitCls
  simp only [h2, h4, e1]
  by_cases z : (t == Value.ref B) = true
  · rw [if_pos z, hne z]
  · rw [if_neg z]
    rfl
theorem kit_typeB {K : Frag} {t : Value} {n : String} {b : Bool} (h1 : kitMeta n = true) (h4 : subIn K t (.type n) = some b) (hne : (t == Value.type n) = true → b = true) : kitOne K t (.type n) = some b := by
  unfold kitOne kitCls
  simp only [h1, h4]
  by_cases z : (t == Value.type n) = true
  · rw [if_pos z, hne z]
  · rw [if_neg z]
    rfl
theorem kany_nil {K : Frag} {t : Value} : kitAny K t [] = some false := rfl
theorem kany_cons {K : Frag} {t c : Value} {r : List Value} (h : kitOne K t c = some false) (hr : kitAny K t r = some false) : kitAny K t (c :: r) = some false := by
  unfold kitAny
  rw [h]
  exact hr
end Bk
namespace Bk
open PySem L2 Mg Nm Rk PySem.W
abbrev ksP (p0 p1 p2 p3 p4 p5 p6 p7 p8 p9 p10 p11 p12 p13 : Addr) : List (Str × Addr × List Str) := [(("say" : Str), p0, ([] : List Str)), (("put" : Str), p1, ([("amount" : Str)] : List Str)), (("plus" : Str), p2, ([("amount" : Str)] : List Str)), (("times" : Str), p3, ([("amount" : Str)] : List Str)), (("both" : Str), p4, ([("amount" : Str)] : List Str)), (("any" : Str), p5, ([("amount" : Str)] : List Str)), (("odd" : Str), p6, ([("amount" : Str)] : List Str)), (("over" : Str), p7, ([("divisor" : Str)] : List Str)), (("part" : Str), p8, ([("divisor" : Str)] : List Str)), (("up" : Str), p9, ([("shift" : Str)] : List Str)), (("down" : Str), p10, ([("shift" : Str)] : List Str)), (("onwards" : Str), p11, ([] : List Str)), (("ask" : Str), p12, ([("word" : Str)] : List Str)), (("try" : Str), p13, ([("word" : Str), ("word" : Str)] : List Str))]
theorem all_mk {l : PySem.W.OpenLaw} {w : World} {K : PySem.W.Frag} {h : Heap} {mg : Str → Option Value} {fa f1 f2 f3 f4 f5 f6 f7 f8 f11 f12 f13 f14 f15 f16 f17 f18 f19 f20 f21 f22 f23 f24 f25 f26 f27 f28 f40 f43 f44 f45 f48 f49 f52 f53 f54 f55 f56 f57 f58 f59 f60 f61 CB CH CA CL T14 T43 : Addr} (X : K.In h) (G : h.Ns mainGlobals mg) (hfa : mg "law" = some (.ref fa))
    {od1 an1 od2 an2 od3 an3 od4 an4 od5 an5 od6 an6 od7 an7 od8 an8 od11 an11 od12 an12 od13 an13 od14 an14 od15 an15 od16 an16 od17 an17 od18 an18 od19 an19 od20 an20 od21 an21 od22 an22 od23 an23 od24 an24 od25 an25 od26 an26 od27 an27 od28 an28 od40 an40 od43 an43 od44 an44 od45 an45 od48 an48 od49 an49 od52 an52 od53 an53 od54 an54 od55 an55 od56 an56 od57 an57 od58 an58 od59 an59 od60 an60 od61 an61 : Option Addr} {sl1 sl2 sl3 sl4 sl5 sl6 sl7 sl8 sl11 sl12 sl13 sl14 sl15 sl16 sl17 sl18 sl19 sl20 sl21 sl22 sl23 sl24 sl25 sl26 sl27 sl28 sl40 sl43 sl44 sl45 sl48 sl49 sl52 sl53 sl54 sl55 sl56 sl57 sl58 sl59 sl60 sl61 : Array (Option Value)} {oc1 kV1 dc1 pm1 cd1 ct1 oc2 kV2 dc2 pm2 cd2 ct2 oc3 kV3 dc3 pm3 cd3 ct3 oc4 kV4 dc4 pm4 cd4 ct4 oc5 kV5 dc5 pm5 cd5 ct5 oc6 kV6 dc6 pm6 cd6 ct6 oc7 kV7 dc7 pm7 cd7 ct7 oc8 kV8 dc8 pm8 cd8 ct8 oc11 kV11 dc11 pm11 cd11 ct11 oc12 kV12 dc12 pm12 cd12 ct12 oc13 kV13 dc13 pm13 cd13 ct13 oc14 kV14 dc14 pm14 cd14 ct14 oc15 kV15 dc15 pm15 cd15 ct15 oc16 kV16 dc16 pm16 cd16 ct16 oc17 kV17 dc17 pm17 cd17 ct17 oc18 kV18 dc18 pm18 cd18 ct18 oc19 kV19 dc19 pm19 cd19 ct19 oc20 kV20 dc20 pm20 cd20 ct20 oc21 kV21 dc21 pm21 cd21 ct21 oc22 kV22 dc22 pm22 cd22 ct22 oc23 kV23 dc23 pm23 cd23 ct23 oc24 kV24 dc24 pm24 cd24 ct24 oc25 kV25 dc25 pm25 cd25 ct25 oc26 kV26 dc26 pm26 cd26 ct26 oc27 kV27 dc27 pm27 cd27 ct27 oc28 kV28 dc28 pm28 cd28 ct28 oc40 kV40 dc40 pm40 cd40 ct40 oc43 kV43 dc43 pm43 cd43 ct43 oc44 kV44 dc44 pm44 cd44 ct44 oc45 kV45 dc45 pm45 cd45 ct45 oc48 kV48 dc48 pm48 cd48 ct48 oc49 kV49 dc49 pm49 cd49 ct49 oc52 kV52 dc52 pm52 cd52 ct52 oc53 kV53 dc53 pm53 cd53 ct53 oc54 kV54 dc54 pm54 cd54 ct54 oc55 kV55 dc55 pm55 cd55 ct55 oc56 kV56 dc56 pm56 cd56 ct56 oc57 kV57 dc57 pm57 cd57 ct57 oc58 kV58 dc58 pm58 cd58 ct58 oc59 kV59 dc59 pm59 cd59 ct59 oc60 kV60 dc60 pm60 cd60 ct60 oc61 kV61 dc61 pm61 cd61 ct61 : Value}
    {ocT14 : Value} {odT14 : Option Addr} {slT14 : Array (Option Value)} {nT14 : Nat}
    {ocT43 : Value} {odT43 : Option Addr} {slT43 : Array (Option Value)} {nT43 : Nat}
    {aP : Addr} {esP : Array DictEntry} {epP : Nat} {t0 t1 t2 t3 t4 t5 t6 t7 t8 t9 t10 t11 t12 t13 : Tok} {p0 p1 p2 p3 p4 p5 p6 p7 p8 p9 p10 p11 p12 p13 : Addr} {oq0 oq1 oq2 oq3 oq4 oq5 oq6 oq7 oq8 oq9 oq10 oq11 oq12 oq13 : Option Addr} {nq0 nq1 nq2 nq3 nq4 nq5 nq6 nq7 nq8 nq9 nq10 nq11 nq12 nq13 : Nat} {sq0 sq1 sq2 sq3 sq4 sq5 sq6 sq7 sq8 sq9 sq10 sq11 sq12 sq13 : Array (Option Value)} {u1_0 u2_0 u3_0 u4_0 u5_0 u6_0 u7_0 u8_0 u9_0 u10_0 u12_0 u13_0 u13_1 : Tok} {tkA tkB : Tok} {CT CY CN CM CC CU CS CO CR CD CF CE NB : Addr} {ocB ocN : Value} {odB odN : Option Addr} {cdB : ClassData} {slB slN : Array (Option Value)} {esN : Array DictEntry} {epN : Nat} {NT : Addr} {bmT bsT subT : List Value} {nmT qnT : Str} {hdctT abT : Bool} {snT : List Str} {colT : Option Bool} {ddT : Option Addr} {y0T y1T y2T y3T y5T : Option Value} {NY : Addr} {bmY bsY subY : List Value} {nmY qnY : Str} {hdctY abY : Bool} {snY : List Str} {colY : Option Bool} {ddY : Option Addr} {y0Y y1Y y2Y y3Y y5Y : Option Value} {NN : Addr} {bmN bsN subN : List Value} {nmN qnN : Str} {hdctN abN : Bool} {snN : List Str} {colN : Option Bool} {ddN : Option Addr} {y0N y1N y2N y3N y5N : Option Value} {NM : Addr} {bmM bsM subM : List Value} {nmM qnM : Str} {hdctM abM : Bool} {snM : List Str} {colM : Option Bool} {ddM : Option Addr} {y0M y1M y2M y3M y5M : Option Value} {NC : Addr} {bmC bsC subC : List Value} {nmC qnC : Str} {hdctC abC : Bool} {snC : List Str} {colC : Option Bool} {ddC : Option Addr} {y0C y1C y2C y3C y5C : Option Value} {NU : Addr} {bmU bsU subU : List Value} {nmU qnU : Str} {hdctU abU : Bool} {snU : List Str} {colU : Option Bool} {ddU : Option Addr} {y0U y1U y2U y3U y5U : Option Value}
    (aCB : nsIn K mainGlobals "Book" = some (some (.ref CB)))
    (pgB : plainGet K CB Str.empty = true)
    (hdB : hasDictIn K CB = true)
    (poB : plainOver K CB = true)
    (saB : findIn K (.ref CB) "__setattr__" = some (some (.builtin "object.__setattr__")))
    (mkB : makesIn K CB = true)
    (kcB : keepIn K (.ref CB) = true)
    (nB_by_name : findIn K (.ref CB) "by_name" = some none)
    (aCH : nsIn K mainGlobals "House" = some (some (.ref CH)))
    (pgH : plainGet K CH Str.empty = true)
    (hdH : hasDictIn K CH = true)
    (poH : plainOver K CH = true)
    (saH : findIn K (.ref CH) "__setattr__" = some (some (.builtin "object.__setattr__")))
    (mkH : makesIn K CH = true)
    (kcH : keepIn K (.ref CH) = true)
    (nH_elder_row : findIn K (.ref CH) "elder_row" = some none)
    (nH_order_row : findIn K (.ref CH) "order_row" = some none)
    (nH_bodies : findIn K (.ref CH) "bodies" = some none)
    (aCA : nsIn K mainGlobals "Asking" = some (some (.ref CA)))
    (pgA : plainGet K CA Str.empty = true)
    (hdA : hasDictIn K CA = true)
    (poA : plainOver K CA = true)
    (saA : findIn K (.ref CA) "__setattr__" = some (some (.builtin "object.__setattr__")))
    (mkA : makesIn K CA = true)
    (kcA : keepIn K (.ref CA) = true)
    (nA_book : findIn K (.ref CA) "book" = some none)
    (nA_row : findIn K (.ref CA) "row" = some none)
    (nA_tally : findIn K (.ref CA) "tally" = some none)
    (aCL : nsIn K mainGlobals "Tally" = some (some (.ref CL)))
    (pgL : plainGet K CL Str.empty = true)
    (hdL : hasDictIn K CL = true)
    (poL : plainOver K CL = true)
    (saL : findIn K (.ref CL) "__setattr__" = some (some (.builtin "object.__setattr__")))
    (mkL : makesIn K CL = true)
    (kcL : keepIn K (.ref CL) = true)
    (nL_left : findIn K (.ref CL) "left" = some none)
    (nL_said : findIn K (.ref CL) "said" = some none)
    (a1 : nsIn K mainGlobals "merged" = some (some (.ref f1)))
    (l1 : K.lookup f1 = some ⟨oc1, od1, .func (fnOf "merged" "merged" (defArgs sMerged) (defBody sMerged) (defScope sMerged) .none kV1 dc1 pm1 an1 cd1 ct1), sl1⟩)
    (c1 : codeIn K cd1 "merged" = true)
    (k1 : keepIn K (.ref f1) = true)
    (a2 : nsIn K mainGlobals "counts_behind" = some (some (.ref f2)))
    (l2 : K.lookup f2 = some ⟨oc2, od2, .func (fnOf "counts_behind" "counts_behind" (defArgs sCounts) (defBody sCounts) (defScope sCounts) .none kV2 dc2 pm2 an2 cd2 ct2), sl2⟩)
    (c2 : codeIn K cd2 "counts_behind" = true)
    (k2 : keepIn K (.ref f2) = true)
    (a3 : nsIn K mainGlobals "free_name" = some (some (.ref f3)))
    (l3 : K.lookup f3 = some ⟨oc3, od3, .func (fnOf "free_name" "free_name" (defArgs sFree) (defBody sFree) (defScope sFree) .none kV3 dc3 pm3 an3 cd3 ct3), sl3⟩)
    (c3 : codeIn K cd3 "free_name" = true)
    (k3 : keepIn K (.ref f3) = true)
    (a4 : nsIn K mainGlobals "take_out" = some (some (.ref f4)))
    (l4 : K.lookup f4 = some ⟨oc4, od4, .func (fnOf "take_out" "take_out" (defArgs sTake) (defBody sTake) (defScope sTake) .none kV4 dc4 pm4 an4 cd4 ct4), sl4⟩)
    (c4 : codeIn K cd4 "take_out" = true)
    (k4 : keepIn K (.ref f4) = true)
    (a5 : nsIn K mainGlobals "made_order" = some (some (.ref f5)))
    (l5 : K.lookup f5 = some ⟨oc5, od5, .func (fnOf "made_order" "made_order" (defArgs sMade) (defBody sMade) (defScope sMade) .none kV5 dc5 pm5 an5 cd5 ct5), sl5⟩)
    (c5 : codeIn K cd5 "made_order" = true)
    (k5 : keepIn K (.ref f5) = true)
    (a6 : nsIn K mainGlobals "is_name" = some (some (.ref f6)))
    (l6 : K.lookup f6 = some ⟨oc6, od6, .func (fnOf "is_name" "is_name" (defArgs sIsName) (defBody sIsName) (defScope sIsName) .none kV6 dc6 pm6 an6 cd6 ct6), sl6⟩)
    (c6 : codeIn K cd6 "is_name" = true)
    (k6 : keepIn K (.ref f6) = true)
    (a7 : nsIn K mainGlobals "_law_cell_at" = some (some (.ref f7)))
    (l7 : K.lookup f7 = some ⟨oc7, od7, .func (fnOf "_law_cell_at" "_law_cell_at" (defArgs sCell) (defBody sCell) (defScope sCell) .none kV7 dc7 pm7 an7 cd7 ct7), sl7⟩)
    (c7 : codeIn K cd7 "_law_cell_at" = true)
    (k7 : keepIn K (.ref f7) = true)
    (a8 : nsIn K mainGlobals "_law_name_by" = some (some (.ref f8)))
    (l8 : K.lookup f8 = some ⟨oc8, od8, .func (fnOf "_law_name_by" "_law_name_by" (defArgs sName) (defBody sName) (defScope sName) .none kV8 dc8 pm8 an8 cd8 ct8), sl8⟩)
    (c8 : codeIn K cd8 "_law_name_by" = true)
    (k8 : keepIn K (.ref f8) = true)
    (a11 : nsIn K mainGlobals "law" = some (some (.ref f11)))
    (l11 : K.lookup f11 = some ⟨oc11, od11, .func (fnOf "law" "law" (defArgs sLaw) (defBody sLaw) (defScope sLaw) .none kV11 dc11 pm11 an11 cd11 ct11), sl11⟩)
    (c11 : codeIn K cd11 "law" = true)
    (k11 : keepIn K (.ref f11) = true)
    (a12 : findIn K (.ref CH) "__init__" = some (some (.ref f12)))
    (i12 : isFn K (.ref f12) = true)
    (l12 : K.lookup f12 = some ⟨oc12, od12, .func (fnOf "__init__" "House.__init__" (defArgs sInitH) (defBody sInitH) (defScope sInitH) .none kV12 dc12 pm12 an12 cd12 ct12), sl12⟩)
    (c12 : codeIn K cd12 "House.__init__" = true)
    (k12 : keepIn K (.ref f12) = true)
    (a13 : findIn K (.ref CB) "__init__" = some (some (.ref f13)))
    (i13 : isFn K (.ref f13) = true)
    (l13 : K.lookup f13 = some ⟨oc13, od13, .func (fnOf "__init__" "Book.__init__" (defArgs sInitB) (defBody sInitB) (defScope sInitB) .none kV13 dc13 pm13 an13 cd13 ct13), sl13⟩)
    (c13 : codeIn K cd13 "Book.__init__" = true)
    (k13 : keepIn K (.ref f13) = true)
    (a14 : findIn K (.ref CB) "found" = some (some (.ref f14)))
    (i14 : isFn K (.ref f14) = true)
    (l14 : K.lookup f14 = some ⟨oc14, od14, .func (fnOf "found" "Book.found" (defArgs sFound) (defBody sFound) (defScope sFound) (.ref T14) kV14 dc14 pm14 an14 cd14 ct14), sl14⟩)
    (c14 : codeIn K cd14 "Book.found" = true)
    (k14 : keepIn K (.ref f14) = true)
    (lT14 : K.lookup T14 = some ⟨ocT14, odT14, .seq #[.none] nT14, slT14⟩)
    (a15 : findIn K (.ref CB) "houses" = some (some (.ref f15)))
    (i15 : isFn K (.ref f15) = true)
    (l15 : K.lookup f15 = some ⟨oc15, od15, .func (fnOf "houses" "Book.houses" (defArgs sHouses) (defBody sHouses) (defScope sHouses) .none kV15 dc15 pm15 an15 cd15 ct15), sl15⟩)
    (c15 : codeIn K cd15 "Book.houses" = true)
    (k15 : keepIn K (.ref f15) = true)
    (a16 : findIn K (.ref CB) "order" = some (some (.ref f16)))
    (i16 : isFn K (.ref f16) = true)
    (l16 : K.lookup f16 = some ⟨oc16, od16, .func (fnOf "order" "Book.order" (defArgs sOrder) (defBody sOrder) (defScope sOrder) .none kV16 dc16 pm16 an16 cd16 ct16), sl16⟩)
    (c16 : codeIn K cd16 "Book.order" = true)
    (k16 : keepIn K (.ref f16) = true)
    (a17 : findIn K (.ref CB) "elders" = some (some (.ref f17)))
    (i17 : isFn K (.ref f17) = true)
    (l17 : K.lookup f17 = some ⟨oc17, od17, .func (fnOf "elders" "Book.elders" (defArgs sElders) (defBody sElders) (defScope sElders) .none kV17 dc17 pm17 an17 cd17 ct17), sl17⟩)
    (c17 : codeIn K cd17 "Book.elders" = true)
    (k17 : keepIn K (.ref f17) = true)
    (a18 : findIn K (.ref CB) "house" = some (some (.ref f18)))
    (i18 : isFn K (.ref f18) = true)
    (l18 : K.lookup f18 = some ⟨oc18, od18, .func (fnOf "house" "Book.house" (defArgs sHouse) (defBody sHouse) (defScope sHouse) .none kV18 dc18 pm18 an18 cd18 ct18), sl18⟩)
    (c18 : codeIn K cd18 "Book.house" = true)
    (k18 : keepIn K (.ref f18) = true)
    (a19 : nsIn K mainGlobals "is_whole" = some (some (.ref f19)))
    (l19 : K.lookup f19 = some ⟨oc19, od19, .func (fnOf "is_whole" "is_whole" (defArgs sWhole) (defBody sWhole) (defScope sWhole) .none kV19 dc19 pm19 an19 cd19 ct19), sl19⟩)
    (c19 : codeIn K cd19 "is_whole" = true)
    (k19 : keepIn K (.ref f19) = true)
    (a20 : nsIn K mainGlobals "is_amount" = some (some (.ref f20)))
    (l20 : K.lookup f20 = some ⟨oc20, od20, .func (fnOf "is_amount" "is_amount" (defArgs sAmount) (defBody sAmount) (defScope sAmount) .none kV20 dc20 pm20 an20 cd20 ct20), sl20⟩)
    (c20 : codeIn K cd20 "is_amount" = true)
    (k20 : keepIn K (.ref f20) = true)
    (a21 : nsIn K mainGlobals "is_body" = some (some (.ref f21)))
    (l21 : K.lookup f21 = some ⟨oc21, od21, .func (fnOf "is_body" "is_body" (defArgs sIsBody) (defBody sIsBody) (defScope sIsBody) .none kV21 dc21 pm21 an21 cd21 ct21), sl21⟩)
    (c21 : codeIn K cd21 "is_body" = true)
    (k21 : keepIn K (.ref f21) = true)
    (a22 : nsIn K mainGlobals "is_step" = some (some (.ref f22)))
    (l22 : K.lookup f22 = some ⟨oc22, od22, .func (fnOf "is_step" "is_step" (defArgs sIsStep) (defBody sIsStep) (defScope sIsStep) .none kV22 dc22 pm22 an22 cd22 ct22), sl22⟩)
    (c22 : codeIn K cd22 "is_step" = true)
    (k22 : keepIn K (.ref f22) = true)
    (a23 : nsIn K mainGlobals "is_part" = some (some (.ref f23)))
    (l23 : K.lookup f23 = some ⟨oc23, od23, .func (fnOf "is_part" "is_part" (defArgs sIsPart) (defBody sIsPart) (defScope sIsPart) .none kV23 dc23 pm23 an23 cd23 ct23), sl23⟩)
    (c23 : codeIn K cd23 "is_part" = true)
    (k23 : keepIn K (.ref f23) = true)
    (a24 : findIn K (.ref CB) "words" = some (some (.ref f24)))
    (i24 : isFn K (.ref f24) = true)
    (l24 : K.lookup f24 = some ⟨oc24, od24, .func (fnOf "words" "Book.words" (defArgs sWords) (defBody sWords) (defScope sWords) .none kV24 dc24 pm24 an24 cd24 ct24), sl24⟩)
    (c24 : codeIn K cd24 "Book.words" = true)
    (k24 : keepIn K (.ref f24) = true)
    (a25 : findIn K (.ref CB) "own_words" = some (some (.ref f25)))
    (i25 : isFn K (.ref f25) = true)
    (l25 : K.lookup f25 = some ⟨oc25, od25, .func (fnOf "own_words" "Book.own_words" (defArgs sOwn) (defBody sOwn) (defScope sOwn) .none kV25 dc25 pm25 an25 cd25 ct25), sl25⟩)
    (c25 : codeIn K cd25 "Book.own_words" = true)
    (k25 : keepIn K (.ref f25) = true)
    (a26 : findIn K (.ref CB) "teach" = some (some (.ref f26)))
    (i26 : isFn K (.ref f26) = true)
    (l26 : K.lookup f26 = some ⟨oc26, od26, .func (fnOf "teach" "Book.teach" (defArgs sTeach) (defBody sTeach) (defScope sTeach) .none kV26 dc26 pm26 an26 cd26 ct26), sl26⟩)
    (c26 : codeIn K cd26 "Book.teach" = true)
    (k26 : keepIn K (.ref f26) = true)
    (a27 : findIn K (.ref CB) "forget" = some (some (.ref f27)))
    (i27 : isFn K (.ref f27) = true)
    (l27 : K.lookup f27 = some ⟨oc27, od27, .func (fnOf "forget" "Book.forget" (defArgs sForget) (defBody sForget) (defScope sForget) .none kV27 dc27 pm27 an27 cd27 ct27), sl27⟩)
    (c27 : codeIn K cd27 "Book.forget" = true)
    (k27 : keepIn K (.ref f27) = true)
    (a28 : findIn K (.ref CB) "body" = some (some (.ref f28)))
    (i28 : isFn K (.ref f28) = true)
    (l28 : K.lookup f28 = some ⟨oc28, od28, .func (fnOf "body" "Book.body" (defArgs sBody) (defBody sBody) (defScope sBody) .none kV28 dc28 pm28 an28 cd28 ct28), sl28⟩)
    (c28 : codeIn K cd28 "Book.body" = true)
    (k28 : keepIn K (.ref f28) = true)
    (a40 : nsIn K mainGlobals "check_question" = some (some (.ref f40)))
    (l40 : K.lookup f40 = some ⟨oc40, od40, .func (fnOf "check_question" "check_question" (defArgs sCheck) (defBody sCheck) (defScope sCheck) .none kV40 dc40 pm40 an40 cd40 ct40), sl40⟩)
    (c40 : codeIn K cd40 "check_question" = true)
    (k40 : keepIn K (.ref f40) = true)
    (a43 : nsIn K mainGlobals "answered" = some (some (.ref f43)))
    (l43 : K.lookup f43 = some ⟨oc43, od43, .func (fnOf "answered" "answered" (defArgs sAnswered) (defBody sAnswered) (defScope sAnswered) (.ref T43) kV43 dc43 pm43 an43 cd43 ct43), sl43⟩)
    (c43 : codeIn K cd43 "answered" = true)
    (k43 : keepIn K (.ref f43) = true)
    (lT43 : K.lookup T43 = some ⟨ocT43, odT43, .seq #[.int 0 tkA, .int 40 tkB] nT43, slT43⟩)
    (a44 : findIn K (.ref CA) "__init__" = some (some (.ref f44)))
    (i44 : isFn K (.ref f44) = true)
    (l44 : K.lookup f44 = some ⟨oc44, od44, .func (fnOf "__init__" "Asking.__init__" (defArgs sInitA) (defBody sInitA) (defScope sInitA) .none kV44 dc44 pm44 an44 cd44 ct44), sl44⟩)
    (c44 : codeIn K cd44 "Asking.__init__" = true)
    (k44 : keepIn K (.ref f44) = true)
    (a45 : findIn K (.ref CA) "asked" = some (some (.ref f45)))
    (i45 : isFn K (.ref f45) = true)
    (l45 : K.lookup f45 = some ⟨oc45, od45, .func (fnOf "asked" "Asking.asked" (defArgs sAsked) (defBody sAsked) (defScope sAsked) .none kV45 dc45 pm45 an45 cd45 ct45), sl45⟩)
    (c45 : codeIn K cd45 "Asking.asked" = true)
    (k45 : keepIn K (.ref f45) = true)
    (a48 : findIn K (.ref CL) "__init__" = some (some (.ref f48)))
    (i48 : isFn K (.ref f48) = true)
    (l48 : K.lookup f48 = some ⟨oc48, od48, .func (fnOf "__init__" "Tally.__init__" (defArgs sInitT) (defBody sInitT) (defScope sInitT) .none kV48 dc48 pm48 an48 cd48 ct48), sl48⟩)
    (c48 : codeIn K cd48 "Tally.__init__" = true)
    (k48 : keepIn K (.ref f48) = true)
    (a49 : nsIn K mainGlobals "left_out" = some (some (.ref f49)))
    (l49 : K.lookup f49 = some ⟨oc49, od49, .func (fnOf "left_out" "left_out" (defArgs sLeft) (defBody sLeft) (defScope sLeft) .none kV49 dc49 pm49 an49 cd49 ct49), sl49⟩)
    (c49 : codeIn K cd49 "left_out" = true)
    (k49 : keepIn K (.ref f49) = true)
    (a52 : nsIn K mainGlobals "_law_bad_step" = some (some (.ref f52)))
    (l52 : K.lookup f52 = some ⟨oc52, od52, .func (fnOf "_law_bad_step" "_law_bad_step" (defArgs sBad) (defBody sBad) (defScope sBad) .none kV52 dc52 pm52 an52 cd52 ct52), sl52⟩)
    (c52 : codeIn K cd52 "_law_bad_step" = true)
    (k52 : keepIn K (.ref f52) = true)
    (a53 : nsIn K mainGlobals "_law_good_step" = some (some (.ref f53)))
    (l53 : K.lookup f53 = some ⟨oc53, od53, .func (fnOf "_law_good_step" "_law_good_step" (defArgs sGood) (defBody sGood) (defScope sGood) .none kV53 dc53 pm53 an53 cd53 ct53), sl53⟩)
    (c53 : codeIn K cd53 "_law_good_step" = true)
    (k53 : keepIn K (.ref f53) = true)
    (a54 : nsIn K mainGlobals "_law_refusal" = some (some (.ref f54)))
    (l54 : K.lookup f54 = some ⟨oc54, od54, .func (fnOf "_law_refusal" "_law_refusal" (defArgs sRefusal) (defBody sRefusal) (defScope sRefusal) .none kV54 dc54 pm54 an54 cd54 ct54), sl54⟩)
    (c54 : codeIn K cd54 "_law_refusal" = true)
    (k54 : keepIn K (.ref f54) = true)
    (a55 : nsIn K mainGlobals "_law_taught" = some (some (.ref f55)))
    (l55 : K.lookup f55 = some ⟨oc55, od55, .func (fnOf "_law_taught" "_law_taught" (defArgs sTaught) (defBody sTaught) (defScope sTaught) .none kV55 dc55 pm55 an55 cd55 ct55), sl55⟩)
    (c55 : codeIn K cd55 "_law_taught" = true)
    (k55 : keepIn K (.ref f55) = true)
    (a56 : nsIn K mainGlobals "_law_asked" = some (some (.ref f56)))
    (l56 : K.lookup f56 = some ⟨oc56, od56, .func (fnOf "_law_asked" "_law_asked" (defArgs sLAsked) (defBody sLAsked) (defScope sLAsked) .none kV56 dc56 pm56 an56 cd56 ct56), sl56⟩)
    (c56 : codeIn K cd56 "_law_asked" = true)
    (k56 : keepIn K (.ref f56) = true)
    (a57 : nsIn K mainGlobals "_law_body_by" = some (some (.ref f57)))
    (l57 : K.lookup f57 = some ⟨oc57, od57, .func (fnOf "_law_body_by" "_law_body_by" (defArgs sBodyBy) (defBody sBodyBy) (defScope sBodyBy) .none kV57 dc57 pm57 an57 cd57 ct57), sl57⟩)
    (c57 : codeIn K cd57 "_law_body_by" = true)
    (k57 : keepIn K (.ref f57) = true)
    (a58 : nsIn K mainGlobals "_law_first_taught" = some (some (.ref f58)))
    (l58 : K.lookup f58 = some ⟨oc58, od58, .func (fnOf "_law_first_taught" "_law_first_taught" (defArgs sFirstT) (defBody sFirstT) (defScope sFirstT) .none kV58 dc58 pm58 an58 cd58 ct58), sl58⟩)
    (c58 : codeIn K cd58 "_law_first_taught" = true)
    (k58 : keepIn K (.ref f58) = true)
    (a59 : nsIn K mainGlobals "_law_others" = some (some (.ref f59)))
    (l59 : K.lookup f59 = some ⟨oc59, od59, .func (fnOf "_law_others" "_law_others" (defArgs sOthers) (defBody sOthers) (defScope sOthers) .none kV59 dc59 pm59 an59 cd59 ct59), sl59⟩)
    (c59 : codeIn K cd59 "_law_others" = true)
    (k59 : keepIn K (.ref f59) = true)
    (a60 : nsIn K mainGlobals "_law_bad_steps" = some (some (.ref f60)))
    (l60 : K.lookup f60 = some ⟨oc60, od60, .func (fnOf "_law_bad_steps" "_law_bad_steps" (defArgs sBadSteps) (defBody sBadSteps) (defScope sBadSteps) .none kV60 dc60 pm60 an60 cd60 ct60), sl60⟩)
    (c60 : codeIn K cd60 "_law_bad_steps" = true)
    (k60 : keepIn K (.ref f60) = true)
    (a61 : nsIn K mainGlobals "_law_then_taught" = some (some (.ref f61)))
    (l61 : K.lookup f61 = some ⟨oc61, od61, .func (fnOf "_law_then_taught" "_law_then_taught" (defArgs sThen) (defBody sThen) (defScope sThen) .none kV61 dc61 pm61 an61 cd61 ct61), sl61⟩)
    (c61 : codeIn K cd61 "_law_then_taught" = true)
    (k61 : keepIn K (.ref f61) = true)
    (z1 : nsIn K mainGlobals "len" = some none)
    (z2 : nsIn K mainGlobals "zip" = some none)
    (z3 : nsIn K mainGlobals "enumerate" = some none)
    (z4 : nsIn K mainGlobals "any" = some none)
    (z5 : nsIn K mainGlobals "range" = some none)
    (z6 : nsIn K mainGlobals "isinstance" = some none)
    (z7 : nsIn K mainGlobals "list" = some none)
    (z8 : nsIn K mainGlobals "str" = some none)
    (z9 : nsIn K mainGlobals "all" = some none)
    (z10 : nsIn K mainGlobals "reversed" = some none)
    (z11 : nsIn K mainGlobals "set" = some none)
    (z12 : nsIn K mainGlobals "tuple" = some none)
    (z13 : nsIn K mainGlobals "int" = some none)
    (z14 : nsIn K mainGlobals "bool" = some none)
    (z15 : nsIn K mainGlobals "ValueError" = some none)
    (gP : nsIn K mainGlobals "PARTS" = some (some (.ref aP)))
    (aXT : nsIn K mainGlobals "BadText" = some (some (.ref CT)))
    (aXY : nsIn K mainGlobals "BadBody" = some (some (.ref CY)))
    (aXN : nsIn K mainGlobals "Unfounded" = some (some (.ref CN)))
    (aXM : nsIn K mainGlobals "BadNumber" = some (some (.ref CM)))
    (aXC : nsIn K mainGlobals "BadCount" = some (some (.ref CC)))
    (aXU : nsIn K mainGlobals "Unanswered" = some (some (.ref CU)))
    (aXS : nsIn K mainGlobals "Spent" = some (some (.ref CS)))
    (aXO : nsIn K mainGlobals "AtOdds" = some (some (.ref CO)))
    (aXR : nsIn K mainGlobals "BadSource" = some (some (.ref CR)))
    (aXD : nsIn K mainGlobals "Doubled" = some (some (.ref CD)))
    (aXF : nsIn K mainGlobals "Founded" = some (some (.ref CF)))
    (aE : nsIn K mainGlobals "BookError" = some (some (.ref CE)))
    (lP : K.lookup aP = some ⟨.type "dict", none, .dict esP epP, #[]⟩)
    (hes : esP.toList = [⟨PyData.keyHash w.params "say", .str "say" t0, .ref p0⟩, ⟨PyData.keyHash w.params "put", .str "put" t1, .ref p1⟩, ⟨PyData.keyHash w.params "plus", .str "plus" t2, .ref p2⟩, ⟨PyData.keyHash w.params "times", .str "times" t3, .ref p3⟩, ⟨PyData.keyHash w.params "both", .str "both" t4, .ref p4⟩, ⟨PyData.keyHash w.params "any", .str "any" t5, .ref p5⟩, ⟨PyData.keyHash w.params "odd", .str "odd" t6, .ref p6⟩, ⟨PyData.keyHash w.params "over", .str "over" t7, .ref p7⟩, ⟨PyData.keyHash w.params "part", .str "part" t8, .ref p8⟩, ⟨PyData.keyHash w.params "up", .str "up" t9, .ref p9⟩, ⟨PyData.keyHash w.params "down", .str "down" t10, .ref p10⟩, ⟨PyData.keyHash w.params "onwards", .str "onwards" t11, .ref p11⟩, ⟨PyData.keyHash w.params "ask", .str "ask" t12, .ref p12⟩, ⟨PyData.keyHash w.params "try", .str "try" t13, .ref p13⟩])
    (smP : (aP == sysModules) = false)
    (q0 : K.lookup p0 = some ⟨.type "tuple", oq0, .seq #[] nq0, sq0⟩)
    (q1 : K.lookup p1 = some ⟨.type "tuple", oq1, .seq #[.str "amount" u1_0] nq1, sq1⟩)
    (q2 : K.lookup p2 = some ⟨.type "tuple", oq2, .seq #[.str "amount" u2_0] nq2, sq2⟩)
    (q3 : K.lookup p3 = some ⟨.type "tuple", oq3, .seq #[.str "amount" u3_0] nq3, sq3⟩)
    (q4 : K.lookup p4 = some ⟨.type "tuple", oq4, .seq #[.str "amount" u4_0] nq4, sq4⟩)
    (q5 : K.lookup p5 = some ⟨.type "tuple", oq5, .seq #[.str "amount" u5_0] nq5, sq5⟩)
    (q6 : K.lookup p6 = some ⟨.type "tuple", oq6, .seq #[.str "amount" u6_0] nq6, sq6⟩)
    (q7 : K.lookup p7 = some ⟨.type "tuple", oq7, .seq #[.str "divisor" u7_0] nq7, sq7⟩)
    (q8 : K.lookup p8 = some ⟨.type "tuple", oq8, .seq #[.str "divisor" u8_0] nq8, sq8⟩)
    (q9 : K.lookup p9 = some ⟨.type "tuple", oq9, .seq #[.str "shift" u9_0] nq9, sq9⟩)
    (q10 : K.lookup p10 = some ⟨.type "tuple", oq10, .seq #[.str "shift" u10_0] nq10, sq10⟩)
    (q11 : K.lookup p11 = some ⟨.type "tuple", oq11, .seq #[] nq11, sq11⟩)
    (q12 : K.lookup p12 = some ⟨.type "tuple", oq12, .seq #[.str "word" u12_0] nq12, sq12⟩)
    (q13 : K.lookup p13 = some ⟨.type "tuple", oq13, .seq #[.str "word" u13_0, .str "word" u13_1] nq13, sq13⟩)
    (lXT : K.lookup CT = some (excClassObj nmT qnT CT NT bsT bmT hdctT snT subT abT colT ddT y0T y1T y2T y3T y5T "ValueError.__new__"))
    (kXT : keepIn K (.ref CT) = true)
    (hbmT : bmT = .ref CE :: vMro)
    (csT : isClsIn K CT = true)
    (tyT : typeIn K (.ref CT) = some (.type "type"))
    (beT : subIn K (.ref CT) (.type "BaseException") = some true)
    (svT : subIn K (.ref CT) (.type "ValueError") = some true)
    (seT : subIn K (.ref CT) (.ref CE) = some true)
    (g1T : findIn K (.ref CT) "__getattribute__" = some (some (.builtin "BaseException.__getattribute__")))
    (g2T : findIn K (.ref CT) "__getattr__" = some none)
    (g3T : mroIn K CT (.type "BaseException") = some true)
    (g4T : findIn K (.ref CT) "__class__" = some (some (.builtin "object.__class__")))
    (g5T : mroIn K CT (.type "object") = some true)
    (sTT : subIn K (.ref CT) (.ref CT) = some true)
    (sTY : subIn K (.ref CT) (.ref CY) = some false)
    (sTN : subIn K (.ref CT) (.ref CN) = some false)
    (sTM : subIn K (.ref CT) (.ref CM) = some false)
    (sTC : subIn K (.ref CT) (.ref CC) = some false)
    (sTU : subIn K (.ref CT) (.ref CU) = some false)
    (sTS : subIn K (.ref CT) (.ref CS) = some false)
    (sTO : subIn K (.ref CT) (.ref CO) = some false)
    (sTR : subIn K (.ref CT) (.ref CR) = some false)
    (sTD : subIn K (.ref CT) (.ref CD) = some false)
    (sTF : subIn K (.ref CT) (.ref CF) = some false)
    (ixT : findIn K (.ref CT) "__init__" = some (some (.builtin "ValueError.__init__")))
    (lXY : K.lookup CY = some (excClassObj nmY qnY CY NY bsY bmY hdctY snY subY abY colY ddY y0Y y1Y y2Y y3Y y5Y "ValueError.__new__"))
    (kXY : keepIn K (.ref CY) = true)
    (hbmY : bmY = .ref CE :: vMro)
    (csY : isClsIn K CY = true)
    (tyY : typeIn K (.ref CY) = some (.type "type"))
    (beY : subIn K (.ref CY) (.type "BaseException") = some true)
    (svY : subIn K (.ref CY) (.type "ValueError") = some true)
    (seY : subIn K (.ref CY) (.ref CE) = some true)
    (g1Y : findIn K (.ref CY) "__getattribute__" = some (some (.builtin "BaseException.__getattribute__")))
    (g2Y : findIn K (.ref CY) "__getattr__" = some none)
    (g3Y : mroIn K CY (.type "BaseException") = some true)
    (g4Y : findIn K (.ref CY) "__class__" = some (some (.builtin "object.__class__")))
    (g5Y : mroIn K CY (.type "object") = some true)
    (sYT : subIn K (.ref CY) (.ref CT) = some false)
    (sYY : subIn K (.ref CY) (.ref CY) = some true)
    (sYN : subIn K (.ref CY) (.ref CN) = some false)
    (sYM : subIn K (.ref CY) (.ref CM) = some false)
    (sYC : subIn K (.ref CY) (.ref CC) = some false)
    (sYU : subIn K (.ref CY) (.ref CU) = some false)
    (sYS : subIn K (.ref CY) (.ref CS) = some false)
    (sYO : subIn K (.ref CY) (.ref CO) = some false)
    (sYR : subIn K (.ref CY) (.ref CR) = some false)
    (sYD : subIn K (.ref CY) (.ref CD) = some false)
    (sYF : subIn K (.ref CY) (.ref CF) = some false)
    (ixY : findIn K (.ref CY) "__init__" = some (some (.builtin "ValueError.__init__")))
    (lXN : K.lookup CN = some (excClassObj nmN qnN CN NN bsN bmN hdctN snN subN abN colN ddN y0N y1N y2N y3N y5N "ValueError.__new__"))
    (kXN : keepIn K (.ref CN) = true)
    (hbmN : bmN = .ref CE :: vMro)
    (csN : isClsIn K CN = true)
    (tyN : typeIn K (.ref CN) = some (.type "type"))
    (beN : subIn K (.ref CN) (.type "BaseException") = some true)
    (svN : subIn K (.ref CN) (.type "ValueError") = some true)
    (seN : subIn K (.ref CN) (.ref CE) = some true)
    (g1N : findIn K (.ref CN) "__getattribute__" = some (some (.builtin "BaseException.__getattribute__")))
    (g2N : findIn K (.ref CN) "__getattr__" = some none)
    (g3N : mroIn K CN (.type "BaseException") = some true)
    (g4N : findIn K (.ref CN) "__class__" = some (some (.builtin "object.__class__")))
    (g5N : mroIn K CN (.type "object") = some true)
    (sNT : subIn K (.ref CN) (.ref CT) = some false)
    (sNY : subIn K (.ref CN) (.ref CY) = some false)
    (sNN : subIn K (.ref CN) (.ref CN) = some true)
    (sNM : subIn K (.ref CN) (.ref CM) = some false)
    (sNC : subIn K (.ref CN) (.ref CC) = some false)
    (sNU : subIn K (.ref CN) (.ref CU) = some false)
    (sNS : subIn K (.ref CN) (.ref CS) = some false)
    (sNO : subIn K (.ref CN) (.ref CO) = some false)
    (sNR : subIn K (.ref CN) (.ref CR) = some false)
    (sND : subIn K (.ref CN) (.ref CD) = some false)
    (sNF : subIn K (.ref CN) (.ref CF) = some false)
    (ixN : findIn K (.ref CN) "__init__" = some (some (.builtin "ValueError.__init__")))
    (lXM : K.lookup CM = some (excClassObj nmM qnM CM NM bsM bmM hdctM snM subM abM colM ddM y0M y1M y2M y3M y5M "ValueError.__new__"))
    (kXM : keepIn K (.ref CM) = true)
    (hbmM : bmM = .ref CE :: vMro)
    (csM : isClsIn K CM = true)
    (tyM : typeIn K (.ref CM) = some (.type "type"))
    (beM : subIn K (.ref CM) (.type "BaseException") = some true)
    (svM : subIn K (.ref CM) (.type "ValueError") = some true)
    (seM : subIn K (.ref CM) (.ref CE) = some true)
    (g1M : findIn K (.ref CM) "__getattribute__" = some (some (.builtin "BaseException.__getattribute__")))
    (g2M : findIn K (.ref CM) "__getattr__" = some none)
    (g3M : mroIn K CM (.type "BaseException") = some true)
    (g4M : findIn K (.ref CM) "__class__" = some (some (.builtin "object.__class__")))
    (g5M : mroIn K CM (.type "object") = some true)
    (sMT : subIn K (.ref CM) (.ref CT) = some false)
    (sMY : subIn K (.ref CM) (.ref CY) = some false)
    (sMN : subIn K (.ref CM) (.ref CN) = some false)
    (sMM : subIn K (.ref CM) (.ref CM) = some true)
    (sMC : subIn K (.ref CM) (.ref CC) = some false)
    (sMU : subIn K (.ref CM) (.ref CU) = some false)
    (sMS : subIn K (.ref CM) (.ref CS) = some false)
    (sMO : subIn K (.ref CM) (.ref CO) = some false)
    (sMR : subIn K (.ref CM) (.ref CR) = some false)
    (sMD : subIn K (.ref CM) (.ref CD) = some false)
    (sMF : subIn K (.ref CM) (.ref CF) = some false)
    (ixM : findIn K (.ref CM) "__init__" = some (some (.builtin "ValueError.__init__")))
    (lXC : K.lookup CC = some (excClassObj nmC qnC CC NC bsC bmC hdctC snC subC abC colC ddC y0C y1C y2C y3C y5C "ValueError.__new__"))
    (kXC : keepIn K (.ref CC) = true)
    (hbmC : bmC = .ref CE :: vMro)
    (csC : isClsIn K CC = true)
    (tyC : typeIn K (.ref CC) = some (.type "type"))
    (beC : subIn K (.ref CC) (.type "BaseException") = some true)
    (svC : subIn K (.ref CC) (.type "ValueError") = some true)
    (seC : subIn K (.ref CC) (.ref CE) = some true)
    (g1C : findIn K (.ref CC) "__getattribute__" = some (some (.builtin "BaseException.__getattribute__")))
    (g2C : findIn K (.ref CC) "__getattr__" = some none)
    (g3C : mroIn K CC (.type "BaseException") = some true)
    (g4C : findIn K (.ref CC) "__class__" = some (some (.builtin "object.__class__")))
    (g5C : mroIn K CC (.type "object") = some true)
    (sCT : subIn K (.ref CC) (.ref CT) = some false)
    (sCY : subIn K (.ref CC) (.ref CY) = some false)
    (sCN : subIn K (.ref CC) (.ref CN) = some false)
    (sCM : subIn K (.ref CC) (.ref CM) = some false)
    (sCC : subIn K (.ref CC) (.ref CC) = some true)
    (sCU : subIn K (.ref CC) (.ref CU) = some false)
    (sCS : subIn K (.ref CC) (.ref CS) = some false)
    (sCO : subIn K (.ref CC) (.ref CO) = some false)
    (sCR : subIn K (.ref CC) (.ref CR) = some false)
    (sCD : subIn K (.ref CC) (.ref CD) = some false)
    (sCF : subIn K (.ref CC) (.ref CF) = some false)
    (ixC : findIn K (.ref CC) "__init__" = some (some (.builtin "ValueError.__init__")))
    (lXU : K.lookup CU = some (excClassObj nmU qnU CU NU bsU bmU hdctU snU subU abU colU ddU y0U y1U y2U y3U y5U "ValueError.__new__"))
    (kXU : keepIn K (.ref CU) = true)
    (hbmU : bmU = .ref CE :: vMro)
    (csU : isClsIn K CU = true)
    (tyU : typeIn K (.ref CU) = some (.type "type"))
    (beU : subIn K (.ref CU) (.type "BaseException") = some true)
    (svU : subIn K (.ref CU) (.type "ValueError") = some true)
    (seU : subIn K (.ref CU) (.ref CE) = some true)
    (g1U : findIn K (.ref CU) "__getattribute__" = some (some (.builtin "BaseException.__getattribute__")))
    (g2U : findIn K (.ref CU) "__getattr__" = some none)
    (g3U : mroIn K CU (.type "BaseException") = some true)
    (g4U : findIn K (.ref CU) "__class__" = some (some (.builtin "object.__class__")))
    (g5U : mroIn K CU (.type "object") = some true)
    (sUT : subIn K (.ref CU) (.ref CT) = some false)
    (sUY : subIn K (.ref CU) (.ref CY) = some false)
    (sUN : subIn K (.ref CU) (.ref CN) = some false)
    (sUM : subIn K (.ref CU) (.ref CM) = some false)
    (sUC : subIn K (.ref CU) (.ref CC) = some false)
    (sUU : subIn K (.ref CU) (.ref CU) = some true)
    (sUS : subIn K (.ref CU) (.ref CS) = some false)
    (sUO : subIn K (.ref CU) (.ref CO) = some false)
    (sUR : subIn K (.ref CU) (.ref CR) = some false)
    (sUD : subIn K (.ref CU) (.ref CD) = some false)
    (sUF : subIn K (.ref CU) (.ref CF) = some false)
    (ixU : findIn K (.ref CU) "__init__" = some (some (.builtin "ValueError.__init__")))
    (csS : isClsIn K CS = true)
    (tyS : typeIn K (.ref CS) = some (.type "type"))
    (sSS : subIn K (.ref CS) (.ref CS) = some true)
    (csO : isClsIn K CO = true)
    (tyO : typeIn K (.ref CO) = some (.type "type"))
    (sOO : subIn K (.ref CO) (.ref CO) = some true)
    (csR : isClsIn K CR = true)
    (tyR : typeIn K (.ref CR) = some (.type "type"))
    (sRR : subIn K (.ref CR) (.ref CR) = some true)
    (csD : isClsIn K CD = true)
    (tyD : typeIn K (.ref CD) = some (.type "type"))
    (sDD : subIn K (.ref CD) (.ref CD) = some true)
    (csF : isClsIn K CF = true)
    (tyF : typeIn K (.ref CF) = some (.type "type"))
    (sFF : subIn K (.ref CF) (.ref CF) = some true)
    (csE : isClsIn K CE = true)
    (tyE : typeIn K (.ref CE) = some (.type "type"))
    (beE : subIn K (.ref CE) (.type "BaseException") = some true)
    (lB : K.lookup CE = some ⟨ocB, odB, .cls cdB, slB⟩)
    (hB : cdB.ns = NB)
    (lN : K.lookup NB = some ⟨ocN, odN, .dict esN epN, slN⟩)
    (uN : keysStr esN.toList = true)
    (iN : nsIn K NB "__init__" = some none)
    (gs : specialIn K (.builtin "object.__class__") "__get__" = some (some (.builtin "getset_descriptor.__get__")))
    (gt : takesIn K (.builtin "object.__class__") = some true) :
    ∃ fd : FuncData, (∀ (s : Shared) (v : Value), BindsTo s fd ⟨[v], []⟩ [("_law_script", v)]) ∧ ∀ base : Heap, K.In base → base.Ns mainGlobals mg → FnOk l.prog w K mg base CX0 9 fa fd ["_law_script"] (spLaw K) := by
  have e := hfa.symm.trans (mg_of X G a11)
  cases e
  have Tx : Txt mg := ⟨mg_none_of X G z1, mg_none_of X G z2, mg_none_of X G z3, mg_none_of X G z4, mg_none_of X G z5, mg_none_of X G z6, mg_none_of X G z7, mg_none_of X G z8, mg_none_of X G z9, mg_none_of X G z10, mg_none_of X G z11, mg_none_of X G z12, mg_none_of X G z13, mg_none_of X G z14, mg_none_of X G z15⟩
  have F1 := fun_mk (st := sMerged) l1 c1 k1
  have b1 := F1.binds (ps := ["rows", "labels"]) fun _ _ _ _ _ _ us hl => match us, hl with | [_, _], _ => rfl
  have F2 := fun_mk (st := sCounts) l2 c2 k2
  have b2 := F2.binds (ps := ["rows"]) fun _ _ _ _ _ _ us hl => match us, hl with | [_], _ => rfl
  have F3 := fun_mk (st := sFree) l3 c3 k3
  have b3 := F3.binds (ps := ["rows", "starts", "behind"]) fun _ _ _ _ _ _ us hl => match us, hl with | [_, _, _], _ => rfl
  have F4 := fun_mk (st := sTake) l4 c4 k4
  have b4 := F4.binds (ps := ["name", "rows", "starts", "behind"]) fun _ _ _ _ _ _ us hl => match us, hl with | [_, _, _, _], _ => rfl
  have F5 := fun_mk (st := sMade) l5 c5 k5
  have b5 := F5.binds (ps := ["name", "elders", "orders"]) fun _ _ _ _ _ _ us hl => match us, hl with | [_, _, _], _ => rfl
  have F6 := fun_mk (st := sIsName) l6 c6 k6
  have b6 := F6.binds (ps := ["value"]) fun _ _ _ _ _ _ us hl => match us, hl with | [_], _ => rfl
  have F7 := fun_mk (st := sCell) l7 c7 k7
  have b7 := F7.binds (ps := ["_law_script", "_law_k"]) fun _ _ _ _ _ _ us hl => match us, hl with | [_, _], _ => rfl
  have F8 := fun_mk (st := sName) l8 c8 k8
  have b8 := F8.binds (ps := ["_law_k", "_law_cell"]) fun _ _ _ _ _ _ us hl => match us, hl with | [_, _], _ => rfl
  have F11 := fun_mk (st := sLaw) l11 c11 k11
  have F12 := fun_mk (st := sInitH) l12 c12 k12
  have b12 := F12.binds (ps := ["self", "elder_row", "order_row"]) fun _ _ _ _ _ _ us hl => match us, hl with | [_, _, _], _ => rfl
  have F13 := fun_mk (st := sInitB) l13 c13 k13
  have b13 := F13.binds (ps := ["self"]) fun _ _ _ _ _ _ us hl => match us, hl with | [_], _ => rfl
  have F14 := funD_mk (st := sFound) l14 c14 k14
  have b14_2 := F14.binds (ps := ["self", "name", "elders"]) (ds := [.none]) lT14 rfl 2 rfl fun _ _ _ _ _ _ us hl => match us, hl with | [_, _], _ => ⟨_, rfl, rfl⟩
  have b14_3 := F14.binds (ps := ["self", "name", "elders"]) (ds := []) lT14 rfl 3 rfl fun _ _ _ _ _ _ us hl => match us, hl with | [_, _, _], _ => ⟨_, rfl, rfl⟩
  have F15 := fun_mk (st := sHouses) l15 c15 k15
  have b15 := F15.binds (ps := ["self"]) fun _ _ _ _ _ _ us hl => match us, hl with | [_], _ => rfl
  have F16 := fun_mk (st := sOrder) l16 c16 k16
  have b16 := F16.binds (ps := ["self", "name"]) fun _ _ _ _ _ _ us hl => match us, hl with | [_, _], _ => rfl
  have F17 := fun_mk (st := sElders) l17 c17 k17
  have b17 := F17.binds (ps := ["self", "name"]) fun _ _ _ _ _ _ us hl => match us, hl with | [_, _], _ => rfl
  have F18 := fun_mk (st := sHouse) l18 c18 k18
  have b18 := F18.binds (ps := ["self", "name"]) fun _ _ _ _ _ _ us hl => match us, hl with | [_, _], _ => rfl
  have F19 := fun_mk (st := sWhole) l19 c19 k19
  have b19 := F19.binds (ps := ["value", "least", "most"]) fun _ _ _ _ _ _ us hl => match us, hl with | [_, _, _], _ => rfl
  have F20 := fun_mk (st := sAmount) l20 c20 k20
  have b20 := F20.binds (ps := ["value"]) fun _ _ _ _ _ _ us hl => match us, hl with | [_], _ => rfl
  have F21 := fun_mk (st := sIsBody) l21 c21 k21
  have b21 := F21.binds (ps := ["value"]) fun _ _ _ _ _ _ us hl => match us, hl with | [_], _ => rfl
  have F22 := fun_mk (st := sIsStep) l22 c22 k22
  have b22 := F22.binds (ps := ["value"]) fun _ _ _ _ _ _ us hl => match us, hl with | [_], _ => rfl
  have F23 := fun_mk (st := sIsPart) l23 c23 k23
  have b23 := F23.binds (ps := ["part", "kind"]) fun _ _ _ _ _ _ us hl => match us, hl with | [_, _], _ => rfl
  have F24 := fun_mk (st := sWords) l24 c24 k24
  have b24 := F24.binds (ps := ["self", "name"]) fun _ _ _ _ _ _ us hl => match us, hl with | [_, _], _ => rfl
  have F25 := fun_mk (st := sOwn) l25 c25 k25
  have b25 := F25.binds (ps := ["self", "name"]) fun _ _ _ _ _ _ us hl => match us, hl with | [_, _], _ => rfl
  have F26 := fun_mk (st := sTeach) l26 c26 k26
  have b26 := F26.binds (ps := ["self", "name", "word", "body"]) fun _ _ _ _ _ _ us hl => match us, hl with | [_, _, _, _], _ => rfl
  have F27 := fun_mk (st := sForget) l27 c27 k27
  have b27 := F27.binds (ps := ["self", "name", "word"]) fun _ _ _ _ _ _ us hl => match us, hl with | [_, _, _], _ => rfl
  have F28 := fun_mk (st := sBody) l28 c28 k28
  have b28 := F28.binds (ps := ["self", "name", "word"]) fun _ _ _ _ _ _ us hl => match us, hl with | [_, _, _], _ => rfl
  have F40 := fun_mk (st := sCheck) l40 c40 k40
  have b40 := F40.binds (ps := ["number", "count"]) fun _ _ _ _ _ _ us hl => match us, hl with | [_, _], _ => rfl
  have F43 := funD_mk (st := sAnswered) l43 c43 k43
  have b43_5 := F43.binds (ps := ["book", "name", "word", "number", "count"]) (ds := []) lT43 rfl 5 rfl fun _ _ _ _ _ _ us hl => match us, hl with | [_, _, _, _, _], _ => ⟨_, rfl, rfl⟩
  have F44 := fun_mk (st := sInitA) l44 c44 k44
  have b44 := F44.binds (ps := ["self", "book", "row", "tally"]) fun _ _ _ _ _ _ us hl => match us, hl with | [_, _, _, _], _ => rfl
  have F45 := fun_mk (st := sAsked) l45 c45 k45
  have b45 := F45.binds (ps := ["self", "word", "place", "number"]) fun _ _ _ _ _ _ us hl => match us, hl with | [_, _, _, _], _ => rfl
  have F48 := fun_mk (st := sInitT) l48 c48 k48
  have b48 := F48.binds (ps := ["self", "left"]) fun _ _ _ _ _ _ us hl => match us, hl with | [_, _], _ => rfl
  have F49 := fun_mk (st := sLeft) l49 c49 k49
  have b49 := F49.binds (ps := ["book", "name"]) fun _ _ _ _ _ _ us hl => match us, hl with | [_, _], _ => rfl
  have F52 := fun_mk (st := sBad) l52 c52 k52
  have b52 := F52.binds (ps := ["_law_cell", "_law_word"]) fun _ _ _ _ _ _ us hl => match us, hl with | [_, _], _ => rfl
  have F53 := fun_mk (st := sGood) l53 c53 k53
  have b53 := F53.binds (ps := ["_law_cell", "_law_word"]) fun _ _ _ _ _ _ us hl => match us, hl with | [_, _], _ => rfl
  have F54 := fun_mk (st := sRefusal) l54 c54 k54
  have b54 := F54.binds (ps := ["_law_error"]) fun _ _ _ _ _ _ us hl => match us, hl with | [_], _ => rfl
  have F55 := fun_mk (st := sTaught) l55 c55 k55
  have b55 := F55.binds (ps := ["_law_book", "_law_name", "_law_word", "_law_body"]) fun _ _ _ _ _ _ us hl => match us, hl with | [_, _, _, _], _ => rfl
  have F56 := fun_mk (st := sLAsked) l56 c56 k56
  have b56 := F56.binds (ps := ["_law_kind", "_law_book", "_law_name", "_law_word", "_law_number", "_law_count"]) fun _ _ _ _ _ _ us hl => match us, hl with | [_, _, _, _, _, _], _ => rfl
  have F57 := fun_mk (st := sBodyBy) l57 c57 k57
  have b57 := F57.binds (ps := ["_law_script", "_law_word"]) fun _ _ _ _ _ _ us hl => match us, hl with | [_, _], _ => rfl
  have F58 := fun_mk (st := sFirstT) l58 c58 k58
  have b58 := F58.binds (ps := ["_law_script", "_law_book", "_law_houses", "_law_word"]) fun _ _ _ _ _ _ us hl => match us, hl with | [_, _, _, _], _ => rfl
  have F59 := fun_mk (st := sOthers) l59 c59 k59
  have b59 := F59.binds (ps := ["_law_book", "_law_house", "_law_word"]) fun _ _ _ _ _ _ us hl => match us, hl with | [_, _, _], _ => rfl
  have F60 := fun_mk (st := sBadSteps) l60 c60 k60
  have b60 := F60.binds (ps := ["_law_script", "_law_book", "_law_house", "_law_word"]) fun _ _ _ _ _ _ us hl => match us, hl with | [_, _, _, _], _ => rfl
  have F61 := fun_mk (st := sThen) l61 c61 k61
  have b61 := F61.binds (ps := ["_law_script", "_law_book", "_law_house", "_law_word"]) fun _ _ _ _ _ _ us hl => match us, hl with | [_, _, _, _], _ => rfl
  have T : ClsB K mg CB CH := ⟨⟨pgB, hdB, poB, saB⟩, ⟨pgH, hdH, poH, saH⟩, nB_by_name, nH_elder_row, nH_order_row, nH_bodies, mg_of X G aCB, mg_of X G aCH⟩
  have TA : ClsA K mg CA := ⟨⟨pgA, hdA, poA, saA⟩, nA_book, nA_row, nA_tally, mg_of X G aCA⟩
  have TT : ClsT K mg CL := ⟨⟨pgL, hdL, poL, saL⟩, nL_left, nL_said, mg_of X G aCL⟩
  have Tb : Tab l.prog w K aP (ksP p0 p1 p2 p3 p4 p5 p6 p7 p8 p9 p10 p11 p12 p13) := by
    refine ⟨kdic_of [(("say" : Str), t0, p0), (("put" : Str), t1, p1), (("plus" : Str), t2, p2), (("times" : Str), t3, p3), (("both" : Str), t4, p4), (("any" : Str), t5, p5), (("odd" : Str), t6, p6), (("over" : Str), t7, p7), (("part" : Str), t8, p8), (("up" : Str), t9, p9), (("down" : Str), t10, p10), (("onwards" : Str), t11, p11), (("ask" : Str), t12, p12), (("try" : Str), t13, p13)] lP hes (show ([("say" : Str), ("put" : Str), ("plus" : Str), ("times" : Str), ("both" : Str), ("any" : Str), ("odd" : Str), ("over" : Str), ("part" : Str), ("up" : Str), ("down" : Str), ("onwards" : Str), ("ask" : Str), ("try" : Str)] : List Str).Nodup by decide +kernel) smP, fun p hp H => ?_⟩
    simp only [ksP, List.mem_cons, List.not_mem_nil, or_false] at hp
    rcases hp with rfl | rfl | rfl | rfl | rfl | rfl | rfl | rfl | rfl | rfl | rfl | rfl | rfl | rfl
    · exact sqt_of q0 .nil (by show 0 ≤ sizeLine; decide)
    · exact sqt_of q1 (.cons ⟨_, rfl⟩ .nil) (by show 1 ≤ sizeLine; decide)
    · exact sqt_of q2 (.cons ⟨_, rfl⟩ .nil) (by show 1 ≤ sizeLine; decide)
    · exact sqt_of q3 (.cons ⟨_, rfl⟩ .nil) (by show 1 ≤ sizeLine; decide)
    · exact sqt_of q4 (.cons ⟨_, rfl⟩ .nil) (by show 1 ≤ sizeLine; decide)
    · exact sqt_of q5 (.cons ⟨_, rfl⟩ .nil) (by show 1 ≤ sizeLine; decide)
    · exact sqt_of q6 (.cons ⟨_, rfl⟩ .nil) (by show 1 ≤ sizeLine; decide)
    · exact sqt_of q7 (.cons ⟨_, rfl⟩ .nil) (by show 1 ≤ sizeLine; decide)
    · exact sqt_of q8 (.cons ⟨_, rfl⟩ .nil) (by show 1 ≤ sizeLine; decide)
    · exact sqt_of q9 (.cons ⟨_, rfl⟩ .nil) (by show 1 ≤ sizeLine; decide)
    · exact sqt_of q10 (.cons ⟨_, rfl⟩ .nil) (by show 1 ≤ sizeLine; decide)
    · exact sqt_of q11 .nil (by show 0 ≤ sizeLine; decide)
    · exact sqt_of q12 (.cons ⟨_, rfl⟩ .nil) (by show 1 ≤ sizeLine; decide)
    · exact sqt_of q13 (.cons ⟨_, rfl⟩ (.cons ⟨_, rfl⟩ .nil)) (by show 2 ≤ sizeLine; decide)
  have Tp : TabK (ksP p0 p1 p2 p3 p4 p5 p6 p7 p8 p9 p10 p11 p12 p13) := ⟨fun kd h => by
      simp only [List.mem_cons, List.not_mem_nil, or_false] at h
      rcases h with rfl | rfl
      · exact ⟨p0, rfl⟩
      · exact ⟨p11, rfl⟩, fun kd h => by
      simp only [List.mem_cons, List.not_mem_nil, or_false] at h
      rcases h with rfl | rfl | rfl | rfl | rfl | rfl
      · exact ⟨p1, rfl⟩
      · exact ⟨p2, rfl⟩
      · exact ⟨p3, rfl⟩
      · exact ⟨p4, rfl⟩
      · exact ⟨p5, rfl⟩
      · exact ⟨p6, rfl⟩, fun kd h => by
      simp only [List.mem_cons, List.not_mem_nil, or_false] at h
      rcases h with rfl | rfl
      · exact ⟨p7, rfl⟩
      · exact ⟨p8, rfl⟩, fun kd h => by
      simp only [List.mem_cons, List.not_mem_nil, or_false] at h
      rcases h with rfl | rfl
      · exact ⟨p9, rfl⟩
      · exact ⟨p10, rfl⟩, ⟨p12, rfl⟩, ⟨p13, rfl⟩, fun kd h => by
      simp only [List.mem_cons, List.not_mem_nil, or_false] at h
      rcases h with rfl | rfl
      · rfl
      · rfl⟩
  have hks : ∀ p ∈ (ksP p0 p1 p2 p3 p4 p5 p6 p7 p8 p9 p10 p11 p12 p13), p.2.2.length ≤ 2 := fun p hp => by
    simp only [ksP, List.mem_cons, List.not_mem_nil, or_false] at hp
    rcases hp with rfl | rfl | rfl | rfl | rfl | rfl | rfl | rfl | rfl | rfl | rfl | rfl | rfl | rfl <;> exact Nat.le_of_ble_eq_true rfl
  subst hB
  have bE : (Value.ref CE :: vMro).contains (.type "BaseException") = true := by rw [List.contains_cons, show vMro.contains (.type "BaseException") = true by decide +kernel, Bool.or_true]
  subst hbmT
  have exT : ExcC K CT (.ref CE :: vMro) := by
    refine ⟨⟨nmT, qnT, NT, bsT, hdctT, snT, subT, abT, colT, ddT, y0T, y1T, y2T, y3T, y5T, lXT⟩, fun h' X' => ?_, kXT⟩
    exact .own (X' CE _ lB) (ns_of X' lN uN) (ns_none_of X' (ns_of X' lN uN) iN) .base
  have xcT : XCls K CT := ⟨csT, g1T, g2T, g3T, g4T, gs, gt, g5T⟩
  have ekT : ExK K mg "BadText" CT (.ref CE :: vMro) := ⟨exT, bE, ixT, mg_of X G aXT⟩
  subst hbmY
  have exY : ExcC K CY (.ref CE :: vMro) := by
    refine ⟨⟨nmY, qnY, NY, bsY, hdctY, snY, subY, abY, colY, ddY, y0Y, y1Y, y2Y, y3Y, y5Y, lXY⟩, fun h' X' => ?_, kXY⟩
    exact .own (X' CE _ lB) (ns_of X' lN uN) (ns_none_of X' (ns_of X' lN uN) iN) .base
  have xcY : XCls K CY := ⟨csY, g1Y, g2Y, g3Y, g4Y, gs, gt, g5Y⟩
  have ekY : ExK K mg "BadBody" CY (.ref CE :: vMro) := ⟨exY, bE, ixY, mg_of X G aXY⟩
  subst hbmN
  have exN : ExcC K CN (.ref CE :: vMro) := by
    refine ⟨⟨nmN, qnN, NN, bsN, hdctN, snN, subN, abN, colN, ddN, y0N, y1N, y2N, y3N, y5N, lXN⟩, fun h' X' => ?_, kXN⟩
    exact .own (X' CE _ lB) (ns_of X' lN uN) (ns_none_of X' (ns_of X' lN uN) iN) .base
  have xcN : XCls K CN := ⟨csN, g1N, g2N, g3N, g4N, gs, gt, g5N⟩
  have ekN : ExK K mg "Unfounded" CN (.ref CE :: vMro) := ⟨exN, bE, ixN, mg_of X G aXN⟩
  subst hbmM
  have exM : ExcC K CM (.ref CE :: vMro) := by
    refine ⟨⟨nmM, qnM, NM, bsM, hdctM, snM, subM, abM, colM, ddM, y0M, y1M, y2M, y3M, y5M, lXM⟩, fun h' X' => ?_, kXM⟩
    exact .own (X' CE _ lB) (ns_of X' lN uN) (ns_none_of X' (ns_of X' lN uN) iN) .base
  have xcM : XCls K CM := ⟨csM, g1M, g2M, g3M, g4M, gs, gt, g5M⟩
  have ekM : ExK K mg "BadNumber" CM (.ref CE :: vMro) := ⟨exM, bE, ixM, mg_of X G aXM⟩
  subst hbmC
  have exC : ExcC K CC (.ref CE :: vMro) := by
    refine ⟨⟨nmC, qnC, NC, bsC, hdctC, snC, subC, abC, colC, ddC, y0C, y1C, y2C, y3C, y5C, lXC⟩, fun h' X' => ?_, kXC⟩
    exact .own (X' CE _ lB) (ns_of X' lN uN) (ns_none_of X' (ns_of X' lN uN) iN) .base
  have xcC : XCls K CC := ⟨csC, g1C, g2C, g3C, g4C, gs, gt, g5C⟩
  have ekC : ExK K mg "BadCount" CC (.ref CE :: vMro) := ⟨exC, bE, ixC, mg_of X G aXC⟩
  subst hbmU
  have exU : ExcC K CU (.ref CE :: vMro) := by
    refine ⟨⟨nmU, qnU, NU, bsU, hdctU, snU, subU, abU, colU, ddU, y0U, y1U, y2U, y3U, y5U, lXU⟩, fun h' X' => ?_, kXU⟩
    exact .own (X' CE _ lB) (ns_of X' lN uN) (ns_none_of X' (ns_of X' lN uN) iN) .base
  have xcU : XCls K CU := ⟨csU, g1U, g2U, g3U, g4U, gs, gt, g5U⟩
  have ekU : ExK K mg "Unanswered" CU (.ref CE :: vMro) := ⟨exU, bE, ixU, mg_of X G aXU⟩
  have rT : RefQ K CT CY CN CM CC CU CT [CS, CO, CR, CD, CF] true false false false false false := ⟨xcT, kit_refB csT tyT sTT sTT, kit_refB csY tyY sYY sTY, kit_refB csN tyN sNN sTN, kit_refB csM tyM sMM sTM, kit_refB csC tyC sCC sTC, kit_refB csU tyU sUU sTU, kany_cons (kit_refB csS tyS sSS sTS) (kany_cons (kit_refB csO tyO sOO sTO) (kany_cons (kit_refB csR tyR sRR sTR) (kany_cons (kit_refB csD tyD sDD sTD) (kany_cons (kit_refB csF tyF sFF sTF) (kany_nil))))), kit_typeB (by decide +kernel) svT (fun _ => rfl)⟩
  have rY : RefQ K CT CY CN CM CC CU CY [CS, CO, CR, CD, CF] false true false false false false := ⟨xcY, kit_refB csT tyT sTT sYT, kit_refB csY tyY sYY sYY, kit_refB csN tyN sNN sYN, kit_refB csM tyM sMM sYM, kit_refB csC tyC sCC sYC, kit_refB csU tyU sUU sYU, kany_cons (kit_refB csS tyS sSS sYS) (kany_cons (kit_refB csO tyO sOO sYO) (kany_cons (kit_refB csR tyR sRR sYR) (kany_cons (kit_refB csD tyD sDD sYD) (kany_cons (kit_refB csF tyF sFF sYF) (kany_nil))))), kit_typeB (by decide +kernel) svY (fun _ => rfl)⟩
  have rN : RefQ K CT CY CN CM CC CU CN [CS, CO, CR, CD, CF] false false true false false false := ⟨xcN, kit_refB csT tyT sTT sNT, kit_refB csY tyY sYY sNY, kit_refB csN tyN sNN sNN, kit_refB csM tyM sMM sNM, kit_refB csC tyC sCC sNC, kit_refB csU tyU sUU sNU, kany_cons (kit_refB csS tyS sSS sNS) (kany_cons (kit_refB csO tyO sOO sNO) (kany_cons (kit_refB csR tyR sRR sNR) (kany_cons (kit_refB csD tyD sDD sND) (kany_cons (kit_refB csF tyF sFF sNF) (kany_nil))))), kit_typeB (by decide +kernel) svN (fun _ => rfl)⟩
  have rM : RefQ K CT CY CN CM CC CU CM [CS, CO, CR, CD, CF] false false false true false false := ⟨xcM, kit_refB csT tyT sTT sMT, kit_refB csY tyY sYY sMY, kit_refB csN tyN sNN sMN, kit_refB csM tyM sMM sMM, kit_refB csC tyC sCC sMC, kit_refB csU tyU sUU sMU, kany_cons (kit_refB csS tyS sSS sMS) (kany_cons (kit_refB csO tyO sOO sMO) (kany_cons (kit_refB csR tyR sRR sMR) (kany_cons (kit_refB csD tyD sDD sMD) (kany_cons (kit_refB csF tyF sFF sMF) (kany_nil))))), kit_typeB (by decide +kernel) svM (fun _ => rfl)⟩
  have rC : RefQ K CT CY CN CM CC CU CC [CS, CO, CR, CD, CF] false false false false true false := ⟨xcC, kit_refB csT tyT sTT sCT, kit_refB csY tyY sYY sCY, kit_refB csN tyN sNN sCN, kit_refB csM tyM sMM sCM, kit_refB csC tyC sCC sCC, kit_refB csU tyU sUU sCU, kany_cons (kit_refB csS tyS sSS sCS) (kany_cons (kit_refB csO tyO sOO sCO) (kany_cons (kit_refB csR tyR sRR sCR) (kany_cons (kit_refB csD tyD sDD sCD) (kany_cons (kit_refB csF tyF sFF sCF) (kany_nil))))), kit_typeB (by decide +kernel) svC (fun _ => rfl)⟩
  have rU : RefQ K CT CY CN CM CC CU CU [CS, CO, CR, CD, CF] false false false false false true := ⟨xcU, kit_refB csT tyT sTT sUT, kit_refB csY tyY sYY sUY, kit_refB csN tyN sNN sUN, kit_refB csM tyM sMM sUM, kit_refB csC tyC sCC sUC, kit_refB csU tyU sUU sUU, kany_cons (kit_refB csS tyS sSS sUS) (kany_cons (kit_refB csO tyO sOO sUO) (kany_cons (kit_refB csR tyR sRR sUR) (kany_cons (kit_refB csD tyD sDD sUD) (kany_cons (kit_refB csF tyF sFF sUF) (kany_nil))))), kit_typeB (by decide +kernel) svU (fun _ => rfl)⟩
  have C6 : Cls6 K mg CT CY CN CM CC CU CE [CS, CO, CR, CD, CF] := ⟨mg_of X G aE, exm_of csE tyE beE seT, exm_of csE tyE beE seY, exm_of csE tyE beE seN, exm_of csE tyE beE seM, exm_of csE tyE beE seC, exm_of csE tyE beE seU, rT, rY, rN, rM, rC, rU⟩
  refine ⟨fnOf "law" "law" (defArgs sLaw) (defBody sLaw) (defScope sLaw) .none kV11 dc11 pm11 an11 cd11 ct11, fun s v => .of_eq rfl, fun base _ _ => ?_⟩
  have GM : FnOk l.prog w K mg base CX0 2 f1 _ ["rows", "labels"] spMerged := ok_merged F1 Tx F2 b2 (mg_of X G a2) F3 b3 (mg_of X G a3) F4 b4 (mg_of X G a4)
  have G5 : FnOk l.prog w K mg base CX0 3 f5 _ ["name", "elders", "orders"] spMade := ok_made F5 Tx GM k1 b1 (mg_of X G a1)
  have G6 : FnOk l.prog w K mg base CX0 1 f6 _ ["value"] spIsName := ok_isName F6 Tx
  have G6g : FnOk l.prog w K mg base CX0 1 f6 _ ["value"] (spIsNameG K) := ok_isNameG F6 Tx
  have G12 : FnOk l.prog w K mg base CX0 1 f12 _ ["self", "elder_row", "order_row"] (spInitH CH) := ok_initH F12 T
  have G13 : FnOk l.prog w K mg base CX0 1 f13 _ ["self"] (spInitB CB) := ok_initB F13 T
  have G18 : FnOk l.prog w K mg base CX0 1 f18 _ ["self", "name"] (spHouse CB CH) := ok_house F18 T
  have G16 : FnOk l.prog w K mg base CX0 2 f16 _ ["self", "name"] (spOrder CB CH) := ok_order F16 T Tx G18 b18 ⟨a18, i18, k18⟩
  have G15 : FnOk l.prog w K mg base CX0 1 f15 _ ["self"] (spHouses CB CH) := ok_houses F15 T Tx
  have G14 : FnOk l.prog w K mg base CX0 4 f14 _ ["self", "name", "elders"] (spFound CB CH) := ok_found F14 T Tx G16 b16 ⟨a16, i16, k16⟩ G6 k6 b6 (mg_of X G a6) G5 k5 b5 (mg_of X G a5) G12 b12 ⟨mkH, a12, i12, kcH⟩
  have G7 : FnOk l.prog w K mg base CX0 1 f7 _ ["_law_script", "_law_k"] (spCell K) := ok_cell F7 Tx
  have G8 : FnOk l.prog w K mg base CX0 1 f8 _ ["_law_k", "_law_cell"] spName := ok_name F8 Tx
  have G19 : FnOk l.prog w K mg base CX0 1 f19 _ ["value", "least", "most"] spWhole := ok_whole F19 Tx
  have G20 : FnOk l.prog w K mg base CX0 2 f20 _ ["value"] spAmount := ok_amount F20 Tx G19 k19 b19 (mg_of X G a19)
  have G23 : FnOk l.prog w K mg base CX0 3 f23 _ ["part", "kind"] spPart := ok_part F23 Tx G19 k19 b19 (mg_of X G a19) G20 k20 b20 (mg_of X G a20) G6 k6 b6 (mg_of X G a6)
  have G22 : FnOk l.prog w K mg base CX0 4 f22 _ ["value"] (spStep K (ksP p0 p1 p2 p3 p4 p5 p6 p7 p8 p9 p10 p11 p12 p13)) := ok_step F22 Tx Tb (mg_of X G gP) G23 k23 b23 (mg_of X G a23)
  have G21 : FnOk l.prog w K mg base CX0 5 f21 _ ["value"] (spIsBody (ksP p0 p1 p2 p3 p4 p5 p6 p7 p8 p9 p10 p11 p12 p13)) := ok_isBody F21 Tx G22 k22 b22 (mg_of X G a22)
  have G26 : FnOk l.prog w K mg base CX0 6 f26 _ ["self", "name", "word", "body"] (spTeach CB CH (ksP p0 p1 p2 p3 p4 p5 p6 p7 p8 p9 p10 p11 p12 p13)) := ok_teach F26 T Tx G18 b18 ⟨a18, i18, k18⟩ G6 k6 b6 (mg_of X G a6) G21 k21 b21 (mg_of X G a21)
  have G28 : FnOk l.prog w K mg base CX0 2 f28 _ ["self", "name", "word"] (spBody CB CH) := ok_body F28 T Tx G18 b18 ⟨a18, i18, k18⟩
  have G24 : FnOk l.prog w K mg base CX0 2 f24 _ ["self", "name"] (spWords CB CH) := ok_words F24 T Tx G18 b18 ⟨a18, i18, k18⟩
  have G25 : FnOk l.prog w K mg base CX0 2 f25 _ ["self", "name"] (spOwn CB CH) := ok_own F25 T Tx G18 b18 ⟨a18, i18, k18⟩
  have G19g : FnOk l.prog w K mg base CX0 1 f19 _ ["value", "least", "most"] spWholeG := ok_wholeG F19 Tx
  have G20g : FnOk l.prog w K mg base CX0 2 f20 _ ["value"] spAmountG := ok_amountG F20 G19g k19 b19 (mg_of X G a19)
  have G23g : FnOk l.prog w K mg base CX0 3 f23 _ ["part", "kind"] spPartG := ok_partG F23 G19g k19 b19 (mg_of X G a19) G20g k20 b20 (mg_of X G a20) G6g k6 b6 (mg_of X G a6)
  have G22g : FnOk l.prog w K mg base CX0 4 f22 _ ["value"] (spStepG K (ksP p0 p1 p2 p3 p4 p5 p6 p7 p8 p9 p10 p11 p12 p13)) := ok_stepG F22 Tx Tb (mg_of X G gP) G23g k23 b23 (mg_of X G a23) hks
  have G21g : FnOk l.prog w K mg base CX0 5 f21 _ ["value"] (spIsBodyG K (ksP p0 p1 p2 p3 p4 p5 p6 p7 p8 p9 p10 p11 p12 p13)) := ok_isBodyG F21 Tx G22g k22 b22 (mg_of X G a22)
  have G18x : FnOk l.prog w K mg base (CXE l.prog w) 1 f18 _ ["self", "name"] (spHouseX CB CH CN) := ok_houseX F18 T ekN
  have G16x : FnOk l.prog w K mg base (CXE l.prog w) 2 f16 _ ["self", "name"] (spOrderX CB CH CN) := ok_orderX F16 T Tx G18x b18 ⟨a18, i18, k18⟩
  have G26x : FnOk l.prog w K mg base (CXE l.prog w) 6 f26 _ ["self", "name", "word", "body"] (spTeachX K CB CH CN CT CY (ksP p0 p1 p2 p3 p4 p5 p6 p7 p8 p9 p10 p11 p12 p13)) := ok_teachX F26 T Tx G18x b18 ⟨a18, i18, k18⟩ G6g k6 b6 (mg_of X G a6) G21g k21 b21 (mg_of X G a21) ekT ekY
  have G27x : FnOk l.prog w K mg base (CXE l.prog w) 2 f27 _ ["self", "name", "word"] (spDoor CB CH CN 1) := ok_doorForget F27 T G18x b18 ⟨a18, i18, k18⟩
  have G28x : FnOk l.prog w K mg base (CXE l.prog w) 2 f28 _ ["self", "name", "word"] (spDoor CB CH CN 1) := ok_doorBody F28 T G18x b18 ⟨a18, i18, k18⟩
  have G17x : FnOk l.prog w K mg base (CXE l.prog w) 2 f17 _ ["self", "name"] (spDoor CB CH CN 0) := ok_doorElders F17 T Tx G18x b18 ⟨a18, i18, k18⟩
  have G25x : FnOk l.prog w K mg base (CXE l.prog w) 2 f25 _ ["self", "name"] (spDoor CB CH CN 0) := ok_doorOwn F25 T Tx G18x b18 ⟨a18, i18, k18⟩
  have G24x : FnOk l.prog w K mg base (CXE l.prog w) 2 f24 _ ["self", "name"] (spDoor CB CH CN 0) := ok_doorWords F24 T G18x b18 ⟨a18, i18, k18⟩
  have G49x : FnOk l.prog w K mg base (CXE l.prog w) 3 f49 _ ["book", "name"] (spDoor CB CH CN 0) := ok_doorLeft F49 T G16x b16 ⟨a16, i16, k16⟩
  have G40x : FnOk l.prog w K mg base (CXE l.prog w) 3 f40 _ ["number", "count"] (spCheckX CM CC) := ok_checkX F40 G19g k19 b19 (mg_of X G a19) G20g k20 b20 (mg_of X G a20) ekM ekC
  have G44 : FnOk l.prog w K mg base CX0 1 f44 _ ["self", "book", "row", "tally"] (spInitA CA) := ok_initA F44 TA
  have G48 : FnOk l.prog w K mg base CX0 1 f48 _ ["self", "left"] (spInitT CL) := ok_initT F48 TT
  have G45x : FnOk l.prog w K mg base (CXE l.prog w) 3 f45 _ ["self", "word", "place", "number"] (spAskN CA CL CB CH CU) := ok_askN F45 TA T Tx ekU G28 b28 ⟨a28, i28, k28⟩
  have G43x : FnOk l.prog w K mg base (CXE l.prog w) 4 f43 _ ["book", "name", "word", "number", "count"] (spAnsX CB CH CN CM CC CU) := ok_ansX F43 TA TT T G16x b16 ⟨a16, i16, k16⟩ G40x k40 b40 (mg_of X G a40) G44 b44 ⟨mkA, a44, i44, kcA⟩ G48 b48 ⟨mkL, a48, i48, kcL⟩ G45x b45 ⟨a45, i45, k45⟩
  have G54 : FnOkN l.prog w K mg base 1 f54 _ ["_law_error"] (spRefusal K CT CY CN CM CC CU [CS, CO, CR, CD, CF]) := ok_refusal F54 Tx (mg_of X G aXT) (mg_of X G aXY) (mg_of X G aXN) (mg_of X G aXM) (mg_of X G aXC) (mg_of X G aXU) (mg_of X G aXS) (mg_of X G aXO) (mg_of X G aXR) (mg_of X G aXD) (mg_of X G aXF)
  have G52 : FnOk l.prog w K mg base CX0 1 f52 _ ["_law_cell", "_law_word"] (spStepW K (ksP p0 p1 p2 p3 p4 p5 p6 p7 p8 p9 p10 p11 p12 p13) false) := ok_bad F52 Tx Tp
  have G53 : FnOk l.prog w K mg base CX0 1 f53 _ ["_law_cell", "_law_word"] (spStepW K (ksP p0 p1 p2 p3 p4 p5 p6 p7 p8 p9 p10 p11 p12 p13) true) := ok_good F53 Tx Tp
  have G55 : FnOk l.prog w K mg base CX0 7 f55 _ ["_law_book", "_law_name", "_law_word", "_law_body"] (spTaughtL K CB CH (ksP p0 p1 p2 p3 p4 p5 p6 p7 p8 p9 p10 p11 p12 p13)) := ok_taught F55 T Tx C6 G26x b26 ⟨a26, i26, k26⟩ G54 k54 b54 (mg_of X G a54)
  have G56 : FnOk l.prog w K mg base CX0 5 f56 _ ["_law_kind", "_law_book", "_law_name", "_law_word", "_law_number", "_law_count"] (spAskedL CB CH) := ok_lasked F56 T Tx C6 G54 k54 b54 (mg_of X G a54) G43x k43 b43_5 (mg_of X G a43) G27x b27 ⟨a27, i27, k27⟩ G28x b28 ⟨a28, i28, k28⟩ G24x b24 ⟨a24, i24, k24⟩ G16x b16 ⟨a16, i16, k16⟩ G17x b17 ⟨a17, i17, k17⟩ G25x b25 ⟨a25, i25, k25⟩ G49x k49 b49 (mg_of X G a49)
  have G57 : FnOk l.prog w K mg base CX0 2 f57 _ ["_law_script", "_law_word"] (spBodyBy K (ksP p0 p1 p2 p3 p4 p5 p6 p7 p8 p9 p10 p11 p12 p13)) := ok_bodyBy F57 Tx Tp G7 k7 b7 (mg_of X G a7) G53 k53 b53 (mg_of X G a53) G52 k52 b52 (mg_of X G a52)
  have G58 : FnOk l.prog w K mg base CX0 8 f58 _ ["_law_script", "_law_book", "_law_houses", "_law_word"] (spFirst K CB CH) := ok_first F58 T Tx G7 k7 b7 (mg_of X G a7) G57 k57 b57 (mg_of X G a57) G55 k55 b55 (mg_of X G a55) G25 b25 ⟨a25, i25, k25⟩ G28 b28 ⟨a28, i28, k28⟩ G24 b24 ⟨a24, i24, k24⟩
  have G59 : FnOk l.prog w K mg base CX0 7 f59 _ ["_law_book", "_law_house", "_law_word"] (spOthers CB CH) := ok_others F59 T Tx C6 G26x b26 ⟨a26, i26, k26⟩ G54 k54 b54 (mg_of X G a54) G56 k56 b56 (mg_of X G a56)
  have G60 : FnOk l.prog w K mg base CX0 8 f60 _ ["_law_script", "_law_book", "_law_house", "_law_word"] (spBadS K CB CH) := ok_badS F60 T Tx G7 k7 b7 (mg_of X G a7) G53 k53 b53 (mg_of X G a53) G52 k52 b52 (mg_of X G a52) G55 k55 b55 (mg_of X G a55) G28 b28 ⟨a28, i28, k28⟩
  have G61 : FnOk l.prog w K mg base CX0 8 f61 _ ["_law_script", "_law_book", "_law_house", "_law_word"] (spThen K CB CH) := ok_then F61 T Tx G7 k7 b7 (mg_of X G a7) G53 k53 b53 (mg_of X G a53) G55 k55 b55 (mg_of X G a55) G28 b28 ⟨a28, i28, k28⟩ G56 k56 b56 (mg_of X G a56)
  exact ok_law F11 T Tx Tp G7 k7 b7 (mg_of X G a7) G8 k8 b8 (mg_of X G a8) G13 b13 ⟨mkB, a13, i13, kcB⟩ G14 b14_2 b14_3 ⟨a14, i14, k14⟩ G26 b26 ⟨a26, i26, k26⟩ G58 k58 b58 (mg_of X G a58) G56 k56 b56 (mg_of X G a56) G59 k59 b59 (mg_of X G a59) G60 k60 b60 (mg_of X G a60) G61 k61 b61 (mg_of X G a61) G15 b15 ⟨a15, i15, k15⟩
theorem walk {l : PySem.W.OpenLaw} {q : Program} {loose : List Str} {XP : (Str → Option Value) → Heap → Prop} {YP : World → Heap → Prop} {d : DefRec} {K : Params → PySem.W.Frag} (hn : l.most = some 63) (hdf : d.params.defaults = [])
    (hY : ∀ (w : World) (h : Heap), YP w h → (K w.params).In h)
    (F : ∀ (w : World) (mg : Str → Option Value) (fa : Addr) (h : Heap), (K w.params).In h → h.Ns mainGlobals mg → mg d.name = some (.ref fa) →
      ∃ fd : FuncData, (∀ (s : Shared) (u : Value), BindsTo s fd ⟨[u], []⟩ [("_law_script", u)]) ∧ ∀ base : Heap, (K w.params).In base → base.Ns mainGlobals mg → FnOk l.prog w (K w.params) mg base CX0 9 fa fd ["_law_script"] (spLaw (K w.params))) :
    PySem.W.WalkO q loose XP YP l.row.toRowW d [] (fun f vs => PySem.call f vs) :=
  L2.walk_of (n := 63) (k := 9) (x := "_law_script") (CX := fun _ => CX0) (sp := fun w => spLaw (K w.params)) hn (by decide) hdf ⟨rfl, by decide, by decide⟩ hY F (fun _ _ a ns hl _ hS => ⟨a, ns, rfl, hS, hl, fun _ => rfl⟩) fun _ _ _ _ _ z => z
end Bk
theorem PySem.W.Fast.tw10036754030210706070 : True := trivial
theorem PySem.W.Fast.tw10039213898962022774 : True := trivial
theorem PySem.W.Fast.tw10101029410826999845 : True := trivial
theorem PySem.W.Fast.tw10194322655620698442 : True := trivial
theorem PySem.W.Fast.tw10554941133794878624 : True := trivial
theorem PySem.W.Fast.tw11693689290765623423 : True := trivial
theorem PySem.W.Fast.tw1292585052449644820 : True := trivial
theorem PySem.W.Fast.tw13156926622263625346 : True := trivial
theorem PySem.W.Fast.tw14868508131608818098 : True := trivial
theorem PySem.W.Fast.tw15292680727599505113 : True := trivial
theorem PySem.W.Fast.tw16141076233197995054 : True := trivial
theorem PySem.W.Fast.tw16545321853689496890 : True := trivial
theorem PySem.W.Fast.tw16990231162564255076 : True := trivial
theorem PySem.W.Fast.tw17662746365655834110 : True := trivial
theorem PySem.W.Fast.tw17883930368322052618 : True := trivial
theorem PySem.W.Fast.tw2282299224073907855 : True := trivial
theorem PySem.W.Fast.tw2645705461745819763 : True := trivial
theorem PySem.W.Fast.tw384194520050834071 : True := trivial
theorem PySem.W.Fast.tw6436964303666382357 : True := trivial
theorem PySem.W.Fast.tw6460281944042752706 : True := trivial
theorem PySem.W.Fast.tw6705669530824640117 : True := trivial
theorem PySem.W.Fast.tw7860131375695088185 : True := trivial
theorem PySem.W.Fast.tw905498668470816320 : True := trivial
theorem PySem.W.Fast.tw9186898811609320276 : True := trivial
theorem PySem.W.Fast.tw9533666130401028539 : True := trivial
theorem PySem.W.Fast.tw9924759477077087562 : True := trivial
open PySem PySem.W PyProof.Rows
set_option maxHeartbeats 0 in
theorem PySem.Challenge.cw_elderline_k15_refused_holds : PySem.Challenge.rw_elderline_k15_refused.Holds := by
  w_on; o_law; k_head; (case hw => w_witness2)
  k_fill
  refine Bk.walk (l := PySem.Challenge.rw_elderline_k15_refused) rfl rfl (fun w h Y => PySem.W.kIn_of Y) ?F
  case F =>
    intro w mg fa h KX G hmg
    refine' Bk.all_mk KX G hmg ?aCB ?pgB ?hdB ?poB ?saB ?mkB ?kcB ?nB_by_name ?aCH ?pgH ?hdH ?poH ?saH ?mkH ?kcH ?nH_elder_row ?nH_order_row ?nH_bodies ?aCA ?pgA ?hdA ?poA ?saA ?mkA ?kcA ?nA_book ?nA_row ?nA_tally ?aCL ?pgL ?hdL ?poL ?saL ?mkL ?kcL ?nL_left ?nL_said ?a1 ?l1 ?c1 ?k1 ?a2 ?l2 ?c2 ?k2 ?a3 ?l3 ?c3 ?k3 ?a4 ?l4 ?c4 ?k4 ?a5 ?l5 ?c5 ?k5 ?a6 ?l6 ?c6 ?k6 ?a7 ?l7 ?c7 ?k7 ?a8 ?l8 ?c8 ?k8 ?a11 ?l11 ?c11 ?k11 ?a12 ?i12 ?l12 ?c12 ?k12 ?a13 ?i13 ?l13 ?c13 ?k13 ?a14 ?i14 ?l14 ?c14 ?k14 ?lT14 ?a15 ?i15 ?l15 ?c15 ?k15 ?a16 ?i16 ?l16 ?c16 ?k16 ?a17 ?i17 ?l17 ?c17 ?k17 ?a18 ?i18 ?l18 ?c18 ?k18 ?a19 ?l19 ?c19 ?k19 ?a20 ?l20 ?c20 ?k20 ?a21 ?l21 ?c21 ?k21 ?a22 ?l22 ?c22 ?k22 ?a23 ?l23 ?c23 ?k23 ?a24 ?i24 ?l24 ?c24 ?k24 ?a25 ?i25 ?l25 ?c25 ?k25 ?a26 ?i26 ?l26 ?c26 ?k26 ?a27 ?i27 ?l27 ?c27 ?k27 ?a28 ?i28 ?l28 ?c28 ?k28 ?a40 ?l40 ?c40 ?k40 ?a43 ?l43 ?c43 ?k43 ?lT43 ?a44 ?i44 ?l44 ?c44 ?k44 ?a45 ?i45 ?l45 ?c45 ?k45 ?a48 ?i48 ?l48 ?c48 ?k48 ?a49 ?l49 ?c49 ?k49 ?a52 ?l52 ?c52 ?k52 ?a53 ?l53 ?c53 ?k53 ?a54 ?l54 ?c54 ?k54 ?a55 ?l55 ?c55 ?k55 ?a56 ?l56 ?c56 ?k56 ?a57 ?l57 ?c57 ?k57 ?a58 ?l58 ?c58 ?k58 ?a59 ?l59 ?c59 ?k59 ?a60 ?l60 ?c60 ?k60 ?a61 ?l61 ?c61 ?k61 ?z1 ?z2 ?z3 ?z4 ?z5 ?z6 ?z7 ?z8 ?z9 ?z10 ?z11 ?z12 ?z13 ?z14 ?z15 ?gP ?aXT ?aXY ?aXN ?aXM ?aXC ?aXU ?aXS ?aXO ?aXR ?aXD ?aXF ?aE ?lP ?hes ?smP ?q0 ?q1 ?q2 ?q3 ?q4 ?q5 ?q6 ?q7 ?q8 ?q9 ?q10 ?q11 ?q12 ?q13 ?lXT ?kXT ?hbmT ?csT ?tyT ?beT ?svT ?seT ?g1T ?g2T ?g3T ?g4T ?g5T ?sTT ?sTY ?sTN ?sTM ?sTC ?sTU ?sTS ?sTO ?sTR ?sTD ?sTF ?ixT ?lXY ?kXY ?hbmY ?csY ?tyY ?beY ?svY ?seY ?g1Y ?g2Y ?g3Y ?g4Y ?g5Y ?sYT ?sYY ?sYN ?sYM ?sYC ?sYU ?sYS ?sYO ?sYR ?sYD ?sYF ?ixY ?lXN ?kXN ?hbmN ?csN ?tyN ?beN ?svN ?seN ?g1N ?g2N ?g3N ?g4N ?g5N ?sNT ?sNY ?sNN ?sNM ?sNC ?sNU ?sNS ?sNO ?sNR ?sND ?sNF ?ixN ?lXM ?kXM ?hbmM ?csM ?tyM ?beM ?svM ?seM ?g1M ?g2M ?g3M ?g4M ?g5M ?sMT ?sMY ?sMN ?sMM ?sMC ?sMU ?sMS ?sMO ?sMR ?sMD ?sMF ?ixM ?lXC ?kXC ?hbmC ?csC ?tyC ?beC ?svC ?seC ?g1C ?g2C ?g3C ?g4C ?g5C ?sCT ?sCY ?sCN ?sCM ?sCC ?sCU ?sCS ?sCO ?sCR ?sCD ?sCF ?ixC ?lXU ?kXU ?hbmU ?csU ?tyU ?beU ?svU ?seU ?g1U ?g2U ?g3U ?g4U ?g5U ?sUT ?sUY ?sUN ?sUM ?sUC ?sUU ?sUS ?sUO ?sUR ?sUD ?sUF ?ixU ?csS ?tyS ?sSS ?csO ?tyO ?sOO ?csR ?tyR ?sRR ?csD ?tyD ?sDD ?csF ?tyF ?sFF ?csE ?tyE ?beE ?lB ?hB ?lN ?uN ?iN ?gs ?gt
    (case aCB | pgB | hdB | poB | saB | mkB | kcB | nB_by_name | aCH | pgH | hdH | poH | saH | mkH | kcH | nH_elder_row | nH_order_row | nH_bodies | aCA | pgA | hdA | poA | saA | mkA | kcA | nA_book | nA_row | nA_tally | aCL | pgL | hdL | poL | saL | mkL | kcL | nL_left | nL_said | a1 | l1 | c1 => k_is)
    (case k1 | a2 | l2 | c2 | k2 | a3 | l3 | c3 | k3 | a4 | l4 | c4 | k4 | a5 | l5 | c5 | k5 | a6 | l6 | c6 | k6 | a7 | l7 | c7 | k7 | a8 | l8 | c8 | k8 | a11 | l11 | c11 | k11 | a12 | i12 | l12 | c12 | k12 | a13 | i13 => k_is)
    (case l13 | c13 | k13 | a14 | i14 | l14 | c14 | k14 | lT14 | a15 | i15 | l15 | c15 | k15 | a16 | i16 | l16 | c16 | k16 | a17 | i17 | l17 | c17 | k17 | a18 | i18 | l18 | c18 | k18 | a19 | l19 | c19 | k19 | a20 | l20 | c20 | k20 | a21 | l21 | c21 => k_is)
    (case k21 | a22 | l22 | c22 | k22 | a23 | l23 | c23 | k23 | a24 | i24 | l24 | c24 | k24 | a25 | i25 | l25 | c25 | k25 | a26 | i26 | l26 | c26 | k26 | a27 | i27 | l27 | c27 | k27 | a28 | i28 | l28 | c28 | k28 | a40 | l40 | c40 | k40 | a43 | l43 => k_is)
    (case c43 | k43 | lT43 | a44 | i44 | l44 | c44 | k44 | a45 | i45 | l45 | c45 | k45 | a48 | i48 | l48 | c48 | k48 | a49 | l49 | c49 | k49 | a52 | l52 | c52 | k52 | a53 | l53 | c53 | k53 | a54 | l54 | c54 | k54 | a55 | l55 | c55 | k55 | a56 | l56 => k_is)
    (case c56 | k56 | a57 | l57 | c57 | k57 | a58 | l58 | c58 | k58 | a59 | l59 | c59 | k59 | a60 | l60 | c60 | k60 | a61 | l61 | c61 | k61 | z1 | z2 | z3 | z4 | z5 | z6 | z7 | z8 | z9 | z10 | z11 | z12 | z13 | z14 | z15 | gP | aXT | aXY => k_is)
    (case aXN | aXM | aXC | aXU | aXS | aXO | aXR | aXD | aXF | aE | lP => k_is)
    (case hes => rfl)
    (case smP => rfl)
    (case q0 | q1 | q2 | q3 | q4 | q5 | q6 | q7 | q8 | q9 | q10 | q11 | q12 | q13 | lXT | kXT => k_is)
    (case hbmT => rfl)
    (case csT | tyT | beT | svT | seT | g1T | g2T | g3T | g4T | g5T | sTT | sTY | sTN | sTM | sTC | sTU | sTS | sTO | sTR | sTD | sTF | ixT | lXY | kXY => k_is)
    (case hbmY => rfl)
    (case csY | tyY | beY | svY | seY | g1Y | g2Y | g3Y | g4Y | g5Y | sYT | sYY | sYN | sYM | sYC | sYU | sYS | sYO | sYR | sYD | sYF | ixY | lXN | kXN => k_is)
    (case hbmN => rfl)
    (case csN | tyN | beN | svN | seN | g1N | g2N | g3N | g4N | g5N | sNT | sNY | sNN | sNM | sNC | sNU | sNS | sNO | sNR | sND | sNF | ixN | lXM | kXM => k_is)
    (case hbmM => rfl)
    (case csM | tyM | beM | svM | seM | g1M | g2M | g3M | g4M | g5M | sMT | sMY | sMN | sMM | sMC | sMU | sMS | sMO | sMR | sMD | sMF | ixM | lXC | kXC => k_is)
    (case hbmC => rfl)
    (case csC | tyC | beC | svC | seC | g1C | g2C | g3C | g4C | g5C | sCT | sCY | sCN | sCM | sCC | sCU | sCS | sCO | sCR | sCD | sCF | ixC | lXU | kXU => k_is)
    (case hbmU => rfl)
    (case csU | tyU | beU | svU | seU | g1U | g2U | g3U | g4U | g5U | sUT | sUY | sUN | sUM | sUC | sUU | sUS | sUO | sUR | sUD | sUF | ixU | csS | tyS | sSS | csO | tyO | sOO | csR | tyR | sRR | csD | tyD | sDD | csF | tyF | sFF | csE | tyE | beE => k_is)
    (case lB => k_is)
    (case hB => rfl)
    (case lN => k_is)
    (case uN => rfl)
    (case iN | gs | gt => k_is)
