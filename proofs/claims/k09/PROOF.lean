import PyProof.Rows.All
import Wide.All
import OpenK.AllK
import Wide.FinOn
import PyProof.EqAt
import PyProof.EqKinds
import PyProof.TupleCall
import PyProof.DictIter
import PyProof.FitsBits
import PyProof.NoPylong
import KE.KLam
import KE.KNestM
import KE.KEqDict
import Lean
import PySem.Challenge.RW_elderline_k09_rows_run
noncomputable section
set_option Elab.async false
set_option linter.all false
set_option maxRecDepth 100000
set_option maxHeartbeats 4000000
namespace L2
open PySem PySem.Spec PyProof.Rows
def HCalm (A : Around) (h : Heap) : Prop := A.handled = none ∨ ∃ (x : Addr) (o : Obj) (vs : Array Value), A.handled = some (.ref x) ∧ h.get? x = some o ∧ o.data = .fields vs ∧ vs[2]? = some .none
theorem entry_unchain : entryFor table "proto.unchain" = some Builtin.«proto.unchain» := entryFor_of_fast (by kernel_rfl)
section
variable {prog : Program} {w : World} {A : Around} {s : Shared} {E : Value → Shared → Prop}
theorem run_unchain {e : Value} {x : Addr} {o : Obj} {vs : Array Value} {Q : Value → Shared → Prop} (g : s.heap.get? x = some o) (d : o.data = .fields vs) (c : vs[2]? = some .none) (h : Q .none s) :
    wpAny (model prog w) A (runValue (.builtin "proto.unchain" ⟨[e, .ref x, .ref x, .bool false], []⟩)) Q E s := by
  refine wpAny_runValue (codeAny_builtin entry_unchain ?_)
  show wpAny _ _ (field (.ref x) 2 >>= _) _ _ s
  refine wpAny_bind (wpAny_field g d c ?_)
  dsimp only
  rw [if_pos (show (Value.none == Value.none) = true from rfl)]
  exact wpAny_pure h
theorem raise_some {α : Type} {a x : Addr} {oa o : Obj} {us vs : Array Value} {Q : α → Shared → Prop} (hh : A.handled = some (.ref x)) (ne : x ≠ a) (g : s.heap.get? x = some o) (d : o.data = .fields vs) (c : vs[2]? = some .none)
    (ga : s.heap.get? a = some oa) (da : oa.data = .fields us) (h2 : 2 < us.size) (h : E (.ref a) { s with heap := s.heap.update a (Obj.mapFields (·.setIfInBounds 2 (.ref x))) }) : wpAny (model prog w) A (raiseNew (.ref a) : Sem α) Q E s := by
  unfold raiseNew
  refine wpAny_bind (wpAny_handled ?_)
  rw [hh]
  dsimp only
  rw [if_pos (show ((Value.ref x != Value.ref a) = true) by simp [ne])]
  refine wpAny_bind ?_
  refine wpAny_holding (run_unchain g d c ?_)
  exact wpAny_bind (wpAny_setField (i := 2) ga da h2 (wpAny_throw h))
theorem stop_raise {α : Type} {Q : α → Shared → Prop} (hh : HCalm A s.heap)
    (h : ∀ (h' : Heap) (e : Addr), (∀ b o, s.heap.get? b = some o → h'.get? b = some o) → Shared.TypeIs { s with heap := h' } (.ref e) "StopIteration" → E (.ref e) { s with heap := h' }) :
    wpAny (model prog w) A (newExc (.type "StopIteration") [] >>= fun e => (raiseNew e : Sem α)) Q E s := by
  have z6 : ∀ {x : Value}, (#[x, .none, .none, .none, .bool false, .none] ++ ownMembersOf (.type "StopIteration") [] : Array Value).size = 6 := fun {x} => rfl
  refine wpAny_bind ?_
  unfold newExc newTuple
  refine wpAny_bind (wpAny_newObj_type ?_ (by size_fits))
  refine wpAny_bind (wpAny_of_eq (a := Value.none) (by first | rfl | (unfold firstArgMember; rfl)) (wpAny_newObj_type ?_ (by size_fits)))
  have kp : ∀ (T X : Obj) (b : Addr) (o : Obj), s.heap.get? b = some o → ((s.heap.push T).push X).get? b = some o := fun T X b o e => Heap.get?_push_of_some _ (Heap.get?_push_of_some _ e)
  rcases hh with hn | ⟨x, o, vs, hx, g, d, c⟩
  · unfold raiseNew
    refine wpAny_bind (wpAny_handled ?_)
    rw [hn]
    exact wpAny_throw (h _ _ (kp _ _) ⟨_, Heap.get?_push_size _ rfl, rfl⟩)
  · have lt : x ≠ (s.heap.push { cls := .type "tuple", data := .seq #[] }).objs.size := fun z => by
      have e1 := Heap.get?_push_of_some { cls := .type "tuple", data := .seq #[] } g
      rw [z] at e1
      exact absurd e1 (by simp [Heap.get?])
    have ne : ∀ (b : Addr) (o : Obj), s.heap.get? b = some o → (s.heap.push { cls := .type "tuple", data := .seq #[] }).objs.size ≠ b := fun b o e z => by
      have e1 := Heap.get?_push_of_some { cls := .type "tuple", data := .seq #[] } e
      rw [← z] at e1
      exact absurd e1 (by simp [Heap.get?])
    refine raise_some hx lt (kp _ _ _ _ g) d c (Heap.get?_push_size _ rfl) rfl (by show 2 < 6; decide) (h _ _ (fun b o e => ?_) ?_)
    · rw [Heap.get?_update_other _ _ (ne b o e)]
      exact kp _ _ b o e
    · exact ⟨_, Heap.get?_update_self _ (Heap.get?_push_size _ rfl) rfl, rfl⟩
end
section
variable {prog : Program} {w : World} {A : Around} {s : Shared} {E : Value → Shared → Prop}
theorem HCalm.upd {h : Heap} {it : Addr} {f : Obj → Obj} (hh : HCalm A h) (hn : ∀ o vs, h.get? it = some o → o.data = .fields vs → ¬ vs[2]? = some .none) : HCalm A (h.update it f) := by
  rcases hh with z | ⟨x, o, vs, a, g, d, c⟩
  · exact .inl z
  · have : it ≠ x := fun e => hn o vs (by rw [e]; exact g) d c
    exact .inr ⟨x, o, vs, a, (Heap.get?_update_other _ _ this).trans g, d, c⟩
theorem HCalm.ext {h h' : Heap} (hh : HCalm A h) (k : ∀ b o, h.get? b = some o → h'.get? b = some o) : HCalm A h' := by
  rcases hh with z | ⟨x, o, vs, a, g, d, c⟩
  · exact .inl z
  · exact .inr ⟨x, o, vs, a, k _ _ g, d, c⟩
theorem HCalm.in1 {h : Heap} (hh : HCalm A h) : HCalm A.in1 h := hh
theorem two_no {h : Heap} {it : Addr} {oi : Obj} {u v : Value} (gi : h.get? it = some oi) (di : oi.data = .fields #[u, v]) : ∀ o vs, h.get? it = some o → o.data = .fields vs → ¬ vs[2]? = some .none := fun o vs g d c => by
  obtain rfl : oi = o := Option.some.inj (gi.symm.trans g)
  rw [di] at d
  cases d
  simp at c
theorem stop_end {α : Type} {it : Addr} {f : Obj → Obj} {Q : Option α → Shared → Prop} {k : Sem (Option α)} {E' : Value → Shared → Prop} (hQ : ∀ h', Heap.ExtBut it s.heap h' → Q none { s with heap := h' }) {h' : Heap} {e : Addr} (kp : ∀ b o, (s.heap.update it f).get? b = some o → h'.get? b = some o) (ty : Shared.TypeIs { s with heap := h' } (.ref e) "StopIteration") :
    wpAny (model prog w) A (do if (← isInstance (.ref e) (.type "StopIteration")) = true then pure none else k) Q E' { s with heap := h' } := by
  refine wpAny_bind (wpAny_isInstance (T := "StopIteration") (b := true) ty isSubtype_stop ?_)
  rw [if_pos rfl]
  exact wpAny_pure (hQ _ fun b o hb g => kp _ _ ((Heap.get?_update_other _ _ (Ne.symm hb)).trans g))
theorem nx_list {it l : Addr} {i : Nat} {items : Array Value} {Q : Option Value → Shared → Prop} (hh : HCalm A s.heap) (hit : s.heap.IsListIter it l i) (hl : s.heap.IsList l items) (hnil : items[i]? = none)
    (hQ : ∀ h', Heap.ExtBut it s.heap h' → Q none { s with heap := h' }) : wpAny (model prog w) A (pyNext (.ref it)) Q E s := by
  obtain ⟨oi, gi, ci, di⟩ := id hit
  obtain ⟨oz, gz, _, nz, dz⟩ := hl
  unfold pyNext
  refine wpAny_bind (wpAny_attempt (wpAny_callSpecial?_slot (name := Str.ofString "__next__") hit.typeIs slot_listiter_next (wpAny_call_entry slot_listiter_next hit.typeIs entry_listiter_next ?_ (args_listiter_next _))))
  refine wpAny_bind (m := field (.ref it) 0) (wpAny_field gi di (x := .ref l) rfl ?_)
  show wpAny _ _ (if (Value.ref l == .none) = true then _ else _) _ _ s
  rw [if_neg (show ¬ ((Value.ref l == .none) = true) from Bool.false_ne_true)]
  refine wpAny_bind (m := field (.ref it) 1) (wpAny_field gi di (x := .int i 0) rfl ?_)
  refine wpAny_bind (m := seqItems? (.ref l)) (wpAny_seqItems gz dz ?_)
  simp only [Int.toNat_natCast, hnil]
  refine wpAny_bind (wpAny_rule (wpAny_bind (wpAny_setField gi di (by simp) ?_)))
  exact stop_raise (hh.in1.upd (two_no gi di)) fun h' e kp ty => stop_end hQ kp ty
theorem nx_tup {it t : Addr} {i : Nat} {items : Array Value} {Q : Option Value → Shared → Prop} (hh : HCalm A s.heap) (hit : IsTupIter s.heap it t i) (hl : IsTup s.heap t items) (hnil : items[i]? = none)
    (hQ : ∀ h', Heap.ExtBut it s.heap h' → Q none { s with heap := h' }) : wpAny (model prog w) A (pyNext (.ref it)) Q E s := by
  obtain ⟨oi, gi, ci, di⟩ := id hit
  obtain ⟨oz, gz, _, nz, dz⟩ := hl
  unfold pyNext
  refine wpAny_bind (wpAny_attempt (wpAny_callSpecial?_slot (name := Str.ofString "__next__") hit.typeIs slot_tupleiter_next (wpAny_call_entry slot_tupleiter_next hit.typeIs entry_tupleiter_next ?_ (args_tupleiter_next _))))
  refine wpAny_bind (m := field (.ref it) 0) (wpAny_field gi di (x := .ref t) rfl ?_)
  show wpAny _ _ (if (Value.ref t == .none) = true then _ else _) _ _ s
  rw [if_neg (show ¬ ((Value.ref t == .none) = true) from Bool.false_ne_true)]
  refine wpAny_bind (m := field (.ref it) 1) (wpAny_field gi di (x := .int i 0) rfl ?_)
  refine wpAny_bind (m := seqItems? (.ref t)) (wpAny_seqItems gz dz ?_)
  simp only [Int.toNat_natCast, hnil]
  refine wpAny_bind (wpAny_rule (wpAny_bind (wpAny_setField gi di (by simp) ?_)))
  exact stop_raise (hh.in1.upd (two_no gi di)) fun h' e kp ty => stop_end hQ kp ty
theorem nx_range {it : Addr} {x left step : Int} {Q : Option Value → Shared → Prop} (hh : HCalm A s.heap) (hit : IsRangeIter s.heap it x left step) (hl : left ≤ 0)
    (hQ : ∀ h', Heap.ExtBut it s.heap h' → Q none { s with heap := h' }) : wpAny (model prog w) A (pyNext (.ref it)) Q E s := by
  have ty0 : s.TypeIs (.ref it) "range_iterator" := ⟨_, hit, rfl⟩
  unfold pyNext
  refine wpAny_bind (wpAny_attempt (wpAny_callSpecial?_slot (name := Str.ofString "__next__") ty0 F.slot_range_iterator_next (wpAny_call_entry F.slot_range_iterator_next ty0 F.entry_range_iterator_next ?_ (F.args_range_iterator_next_1 _))))
  refine wpAny_bind (m := field (.ref it) 0) (wpAny_field hit rfl (x := rawInt x) rfl ?_)
  refine wpAny_bind (m := field (.ref it) 1) (wpAny_field hit rfl (x := rawInt left) rfl ?_)
  refine wpAny_bind (m := field (.ref it) 2) (wpAny_field hit rfl (x := rawInt step) rfl ?_)
  show wpAny _ _ (if left ≤ 0 then _ else _) _ _ s
  rw [if_pos hl]
  refine wpAny_bind (wpAny_rule (wpAny_bind ?_))
  refine stop_raise hh.in1 fun h' e kp ty => ?_
  refine wpAny_bind (wpAny_isInstance (T := "StopIteration") (b := true) ty isSubtype_stop (wpAny_pure (hQ _ fun b o hb g => kp _ _ g)))
end
section
variable {prog : Program} {w : World} {A : Around} {s : Shared} {E : Value → Shared → Prop}
theorem unp_items {t : Addr} {items : Array Value} {Q : List Value → Shared → Prop} (hh : HCalm A s.heap) (ht : IsTup s.heap t items)
    (hQ : ∀ h', Heap.ExtBut s.heap.objs.size s.heap h' → Q items.toList { s with heap := h' }) : wpAny (model prog w) A (unpackItems (.ref t) items.size none) Q E s := by
  have ne0 : t ≠ s.heap.objs.size := by
    obtain ⟨o, g, _⟩ := ht
    exact Nat.ne_of_lt (Heap.lt_size g)
  unfold unpackItems notIterableAtAll
  refine wpAny_bind (wpAny_bind (wpAny_specialOf ht.typeIs slot_tuple_iter.lookup (wpAny_pure ?_)))
  simp only [Bool.false_eq_true, if_false]
  refine wpAny_bind (wpAny_holding (iter_tuple ht (wpAny_bind (wpAny_holding (draw_tuple ne0 items.size 0 _ _ ⟨_, Heap.get?_push_size _ rfl, rfl, rfl⟩ (ht.push _) (by omega) fun h1 i1 s1 => ?_)))))
  rw [show List.take items.size (List.drop 0 items.toList) = items.toList by rw [List.drop_zero]; exact List.take_of_length_le (by simp), if_neg (by simp)]
  have ht1 : IsTup h1 t items := (ht.push _).extBut s1.extBut ne0
  have kp : Heap.ExtBut s.heap.objs.size s.heap h1 := fun b o hb g => s1.extBut b o hb (Heap.get?_push_of_some _ g)
  have hh1 : HCalm A h1 := by
    rcases hh with z | ⟨x, o, vs, a, g, d, c⟩
    · exact .inl z
    · exact .inr ⟨x, o, vs, a, kp _ _ (Nat.ne_of_lt (Heap.lt_size g)) g, d, c⟩
  refine wpAny_bind (wpAny_holding (nx_tup hh1 i1 ht1 (by simp) fun h2 e2 => ?_))
  simp only [Option.isSome_none, Bool.false_eq_true, if_false]
  exact wpAny_pure (hQ h2 (kp.trans e2))
theorem asg_tup {env : Env} {elts : List Expr} {x1} {pos : Pos} {t : Addr} {items : Array Value} {Q : Unit → Shared → Prop} (hh : HCalm A s.heap) (ht : IsTup s.heap t items) (hn : (assignEach elts env).length = items.size) (hst : (assignEach elts env).findIdx? (·.1) = none)
    (h : ∀ h', Heap.ExtBut s.heap.objs.size s.heap h' → wpAny (model prog w) A (assignInOrder ((assignEach elts env).map (·.2)) items.toList) Q E { s with heap := h' }) : wpAny (model prog w) A (assign (.Tuple elts x1 pos) env (.ref t)) Q E s := by
  rw [assign_Tuple]
  refine wpAny_bind (wpAny_standAt ?_)
  unfold unpack
  rw [hn, hst]
  exact wpAny_bind (wpAny_holding (unp_items hh ht h))
theorem rng_item {it : Addr} {lo step : Int} {n : Nat} (i : Nat) (s : Shared) (Q : Option Value → Shared → Prop) (E : Value → Shared → Prop) (hi : i < n) (st : IsRangeIter s.heap it (lo + (i : Int) * step) ((n : Int) - (i : Int)) step)
    (hQ : ∀ (v : Value) (h' : Heap) (tk : Tok), (∃ t, v = .int (lo + (i : Int) * step) t) → IsRangeIter h' it (lo + ((i + 1 : Nat) : Int) * step) ((n : Int) - ((i + 1 : Nat) : Int)) step → (∀ b o, b ∉ [it] → s.heap.get? b = some o → h'.get? b = some o) → Q (some v) { s with heap := h', toks := tk }) :
    wpAny (model prog w) A (pyNext (.ref it)) Q E s := by
  refine wpAny_pyNext_range_item st (by omega) fun h' st' sb => hQ _ h' _ ⟨_, rfl⟩ ?_ fun b o hb e => sb.extBut b o (by simpa using hb) e
  have e1 : lo + ((i + 1 : Nat) : Int) * step = lo + (i : Int) * step + step := by rw [Int.natCast_add, Int.add_mul, ← Int.add_assoc]; simp
  have e2 : (n : Int) - ((i + 1 : Nat) : Int) = (n : Int) - (i : Int) - 1 := by omega
  rw [e1, e2]
  exact st'
end
section
variable {prog : Program} {w : World} {A : Around} {s : Shared} {E : Value → Shared → Prop}
end
section
variable {prog : Program} {w : World} {A : Around} {s : Shared} {E : Value → Shared → Prop} {KK : Type} [DecidableEq KK] {knd : KeyKind prog w KK}
end
abbrev Key := Sum Int Str
def keyIs : Key → Value → Bool
  | .inl k, v => Value.isInt k v
  | .inr x, v => Value.isStrOf x v
def keyH (w : World) : Key → Int
  | .inl k => hashInt k
  | .inr x => hashStr w x
theorem keyIs_shape : ∀ {k : Key} {v : Value}, keyIs k v = true → (∃ i t, k = Sum.inl i ∧ v = Value.int i t) ∨ (∃ x t, k = Sum.inr x ∧ v = Value.str x t)
  | .inl i, v, h => by
    obtain ⟨t, e⟩ := Value.isInt_shape (k := i) (v := v) h
    exact .inl ⟨i, t, rfl, e⟩
  | .inr x, v, h => by
    obtain ⟨t, e⟩ := Value.isStrOf_shape (x := x) (v := v) h
    exact .inr ⟨x, t, rfl, e⟩
theorem keyIs_int (i : Int) (t : Tok) : keyIs (.inl i) (.int i t) = true := by simp [keyIs, Value.isInt]
theorem keyIs_str (x : Str) (t : Tok) : keyIs (.inr x) (.str x t) = true := by simp [keyIs, Value.isStrOf]
theorem key_ll (a b : Int) : decide ((Sum.inl a : Key) = Sum.inl b) = (a == b) := by
  by_cases e : a = b
  · subst e; simp
  · have h : ¬ (Sum.inl a : Key) = Sum.inl b := fun q => e (Sum.inl.inj q)
    rw [decide_eq_false h]
    exact (beq_eq_false_iff_ne.mpr e).symm
theorem key_rr (a b : Str) : decide ((Sum.inr a : Key) = Sum.inr b) = decide (a = b) := by
  by_cases e : a = b
  · subst e; simp
  · have h : ¬ (Sum.inr a : Key) = Sum.inr b := fun q => e (Sum.inr.inj q)
    rw [decide_eq_false h, decide_eq_false e]
theorem key_lr (a : Int) (b : Str) : decide ((Sum.inl a : Key) = Sum.inr b) = false := decide_eq_false (fun q => nomatch q)
theorem key_rl (a : Str) (b : Int) : decide ((Sum.inr a : Key) = Sum.inl b) = false := decide_eq_false (fun q => nomatch q)
def mixKind (prog : Program) (w : World) : PySem.KeyKind prog w Key where
  is := keyIs
  hash := keyH w
  inj := fun v a b ha hb => by
    rcases keyIs_shape ha with ⟨i, t, rfl, rfl⟩ | ⟨x, t, rfl, rfl⟩
    · rcases keyIs_shape hb with ⟨j, u, rfl, e⟩ | ⟨y, u, rfl, e⟩
      · injection e with e1 _; rw [e1]
      · exact nomatch e
    · rcases keyIs_shape hb with ⟨j, u, rfl, e⟩ | ⟨y, u, rfl, e⟩
      · exact nomatch e
      · injection e with e1 _; rw [e1]
  byValue := fun k v h => by
    rcases keyIs_shape h with ⟨i, t, rfl, rfl⟩ | ⟨x, t, rfl, rfl⟩ <;> rfl
  pyHash := fun hv h => by
    rcases keyIs_shape hv with ⟨i, t, rfl, rfl⟩ | ⟨x, t, rfl, rfl⟩
    · exact wpAny_pyHash_int h
    · exact wpAny_pyHash_str h
  eqBool := fun hu hv h => by
    rcases keyIs_shape hu with ⟨i, t, rfl, rfl⟩ | ⟨x, t, rfl, rfl⟩
    · rcases keyIs_shape hv with ⟨j, u, rfl, rfl⟩ | ⟨y, u, rfl, rfl⟩
      · rw [key_ll] at h; exact wpAny_eqBool_int h
      · rw [key_lr] at h; exact SeqAt.EqAt.int_str i t y u _ _ _ _ h
    · rcases keyIs_shape hv with ⟨j, u, rfl, rfl⟩ | ⟨y, u, rfl, rfl⟩
      · rw [key_rl] at h; exact SeqAt.EqAt.str_int x t j u _ _ _ _ h
      · rw [key_rr] at h; exact wpAny_eqBool_str h
  «strs» := fun k x t v h => by
    rcases keyIs_shape h with ⟨i, u, rfl, e⟩ | ⟨y, u, rfl, e⟩
    · exact nomatch e
    · injection e with e1 _
      subst e1
      cases v <;> rfl
theorem mixKind_int (prog : Program) (w : World) (i : Int) (t : Tok) : (mixKind prog w).is (.inl i) (.int i t) = true := keyIs_int i t
theorem mixKind_str (prog : Program) (w : World) (x : Str) (t : Tok) : (mixKind prog w).is (.inr x) (.str x t) = true := keyIs_str x t
inductive V where
  | non | bl (b : Bool) | int (i : Int) | str (x : Str) | byt (b : Array UInt8) | flt (b : UInt64) | ref (a : Addr) | ty (n : String)
  deriving DecidableEq
def RelV : V → Value → Prop
  | .non, u => u = Value.none
  | .bl b, u => u = Value.bool b
  | .int i, u => ∃ t, u = Value.int i t
  | .str x, u => ∃ t, u = Value.str x t
  | .byt b, u => ∃ t, u = Value.bytes b t
  | .flt b, u => ∃ t, u = Value.float b t
  | .ref a, u => u = Value.ref a
  | .ty n, u => u = Value.type n
abbrev Vals : List V → List Value → Prop := Paired RelV
theorem Vals.length {xs : List V} {us : List Value} (r : Vals xs us) : xs.length = us.length := Paired.length r
theorem Vals.get : ∀ {xs : List V} {us : List Value} {i : Nat} {x : V}, Vals xs us → xs[i]? = some x → ∃ u, us[i]? = some u ∧ RelV x u
  | _, _, _, _, .nil, e => by simp at e
  | _, _, 0, _, .cons r _, e => by simp at e; subst e; exact ⟨_, rfl, r⟩
  | _, _, i + 1, x, .cons _ t, e => by
    obtain ⟨u, h1, h2⟩ := Vals.get (i := i) (x := x) t (by simpa using e)
    exact ⟨u, by simpa using h1, h2⟩
theorem Vals.append : ∀ {xs ys : List V} {us ws : List Value}, Vals xs us → Vals ys ws → Vals (xs ++ ys) (us ++ ws)
  | _, _, _, _, .nil, s => s
  | _, _, _, _, .cons r t, s => .cons r (Vals.append t s)
theorem Vals.take : ∀ {xs : List V} {us : List Value} (n : Nat), Vals xs us → Vals (xs.take n) (us.take n)
  | _, _, 0, _ => .nil
  | _, _, _ + 1, .nil => .nil
  | _, _, n + 1, .cons r t => .cons r (Vals.take n t)
theorem Vals.drop : ∀ {xs : List V} {us : List Value} (n : Nat), Vals xs us → Vals (xs.drop n) (us.drop n)
  | _, _, 0, r => r
  | _, _, _ + 1, .nil => .nil
  | _, _, n + 1, .cons _ t => Vals.drop n t
def RelO : Option V → Option Value → Prop
  | some v, some u => RelV v u
  | none, none => True
  | _, _ => False
def KV {κ : Type} : List (κ × V) → List (κ × Value) → Prop := Paired fun (p : κ × V) (q : κ × Value) => p.1 = q.1 ∧ RelV p.2 q.2
def kV : Key → V
  | .inl i => .int i
  | .inr x => .str x
inductive HO where
  /-- a list -/
  | lst (xs : List V)
  /-- a tuple (never changes) -/
  | tup (xs : List V)
  /-- a dict whose keys are ints and texts; one whose keys are tuples of ints and texts (the empty one is both) -/
  | dK (kvs : List (Key × V)) | dT (kvs : List (List Key × V))
  /-- a set of ints: its members, its size -/
  | set (S : Int → Bool) (n : Nat)
  /-- an instance of the class at C, its dict at dx, its attributes -/
  | ins (C dx : Addr) (fs : List (Str × V))
  /-- the dict of the instance at x -/
  | own (x : Addr)
  /-- the dict of an exception -/
  | xd (fs : List (Str × V))
  /-- a bound method, f of x -/
  | met (f x : Addr)
  /-- a range object lo, lo + 1, .. below hi -/
  | rng (lo hi : Int)
  /-- a thing that is known to the object (the script; a dict while a loop walks it): read, never written while it is so -/
  | frz (o : Obj) (u : HO)
  /-- a code object's table -/
  | tbl (ps : Array Value)
  /-- any other thing, by what is true of its one object (a def of one's own: SetO a S n := HO.ext fun h => ..) -/
  | ext (φ : Heap → Prop)
abbrev Hp := Addr → Option HO
def upd (H : Hp) (a : Addr) (o : HO) : Hp := fun b => if b = a then some o else H b
theorem upd_same {H : Hp} {a : Addr} {o : HO} : upd H a o a = some o := by unfold upd; rw [if_pos rfl]
theorem upd_ne {H : Hp} {a b : Addr} {o : HO} (h : b ≠ a) : upd H a o b = H b := by unfold upd; rw [if_neg h]
theorem upd_upd {H : Hp} {a : Addr} {o u : HO} : upd (upd H a o) a u = upd H a u := by
  funext b; unfold upd; split <;> rfl
theorem ne_of {H : Hp} {a b : Addr} {o u : HO} (h : H a = some o) (h' : H b = some u) (d : o ≠ u) : a ≠ b := by
  intro e; subst e; rw [h] at h'; exact d (Option.some.inj h')
theorem ne_of_none {H : Hp} {a b : Addr} {o : HO} (h : H a = some o) (h' : H b = none) : a ≠ b := by
  intro e; subst e; rw [h] at h'; cases h'
section
variable (P : Program) (w : World)
def ObjOk (H : Hp) (h : Heap) (a : Addr) : HO → Prop
  | .lst xs => xs.length ≤ sizeLine ∧ ∃ (its : List Value) (n : Nat), Vals xs its ∧ h.get? a = some { cls := .type "list", data := .seq its.toArray n }
  | .tup xs => xs.length ≤ sizeLine ∧ ∃ its : List Value, Vals xs its ∧ IsTup h a its.toArray
  | .dK kvs => kvs.length ≤ sizeLine ∧ (a == sysModules) = false ∧ ∃ vs, KV kvs vs ∧ h.DictOf (mixKind P w) a vs
  | .dT kvs => kvs.length ≤ sizeLine ∧ (a == sysModules) = false ∧ ∃ xs : List (List Key × Addr × Value),
      Paired (fun (p : List Key × V) (q : List Key × Addr × Value) => p.1 = q.1 ∧ H q.2.1 = some (.tup (p.1.map kV)) ∧ RelV p.2 q.2.2) kvs xs ∧
      ∃ o es ep, h.get? a = some o ∧ o.ExactDict ∧ o.data = .dict es ep ∧ es.toList = xs.map (entryOfKey (tupleKind (mixKind P w))) ∧ (xs.map (·.1)).Nodup
  | .set S n => h.SetOf (intKind P w) a S n
  | .ins C dx fs => H dx = some (.own a) ∧ fs.length ≤ 1000 ∧ dx ≠ a ∧ h.get? a = some (PySem.W.instObj C dx) ∧
      ∃ mA, h.Ns1 dx mA ∧ (∀ f, RelO (fs.lookup f) (mA f)) ∧ PySem.Within mA (fs.map (·.1))
  | .own _ => ∃ o, h.get? a = some o
  | .xd fs => ∃ mA, h.Ns1 a mA ∧ ∀ f, RelO (fs.lookup f) (mA f)
  | .rng lo hi => ∃ t u v, h.get? a = some { cls := .type "range", data := .fields #[.int lo t, .int hi u, .int 1 v] }
  | .frz o u => h.get? a = some o ∧ ObjOk H h a u
  | .tbl ps => h.get? a = some { cls := .none, data := .fields ps }
  | .met f x => h.get? a = some (PySem.W.methodObj (.ref f) (.ref x))
  | .ext φ => φ h ∧ (∃ o, h.get? a = some o) ∧ ∀ h1 h2 : Heap, φ h1 → (∀ o, h1.get? a = some o → h2.get? a = some o) → φ h2
def HOk (H : Hp) (h : Heap) : Prop := ∀ a o, H a = some o → ObjOk P w H h a o
end
section
variable {P : Program} {w : World} {H H' : Hp} {h h' : Heap} {a : Addr} {o : HO}
theorem ObjOk.lt (x : ObjOk P w H h a o) : a < h.objs.size := by
  cases o with
  | lst xs => obtain ⟨_, _, _, _, e⟩ := x; exact Heap.lt_size e
  | tup xs => obtain ⟨_, _, _, p⟩ := x; exact p.lt
  | dK kvs => obtain ⟨_, _, _, _, o, _, _, e, _⟩ := x; exact Heap.lt_size e
  | dT kvs => obtain ⟨_, _, _, _, o, _, _, e, _⟩ := x; exact Heap.lt_size e
  | set S n => obtain ⟨o, _, _, _, e, _⟩ := x; exact Heap.lt_size e
  | ins C dx fs => obtain ⟨_, _, _, e, _⟩ := x; exact Heap.lt_size e
  | own y => obtain ⟨_, e⟩ := x; exact Heap.lt_size e
  | xd fs => obtain ⟨_, ⟨_, _, _, e, _⟩, _⟩ := x; exact Heap.lt_size e
  | rng lo hi => obtain ⟨_, _, _, e⟩ := x; exact Heap.lt_size e
  | frz ob u => obtain ⟨e, _⟩ := x; exact Heap.lt_size e
  | tbl ps => exact Heap.lt_size (show h.get? a = some _ from x)
  | met f y => exact Heap.lt_size (show h.get? a = some _ from x)
  | ext φ => obtain ⟨_, ⟨_, e⟩, _⟩ := x; exact Heap.lt_size e
theorem Paired.mapP {α β : Type} {F G : α → β → Prop} : ∀ {l₁ : List α} {l₂ : List β}, Paired F l₁ l₂ → (∀ a b, F a b → G a b) → Paired G l₁ l₂
  | _, _, .nil, _ => .nil
  | _, _, .cons r t, f => .cons (f _ _ r) (Paired.mapP t f)
theorem ObjOk.stay (x : ObjOk P w H h a o) (k : ∀ b u, (b = a ∨ H b = some (.own a)) → h.get? b = some u → h'.get? b = some u)
    (ho : ∀ b, H b = some (.own a) → H' b = some (.own a)) (ht : ∀ b xs, H b = some (.tup xs) → H' b = some (.tup xs)) : ObjOk P w H' h' a o := by
  induction o with
  | lst xs => obtain ⟨z, its, n, r, e⟩ := x; exact ⟨z, its, n, r, k _ _ (.inl rfl) e⟩
  | tup xs => obtain ⟨z, its, r, ob, e, c⟩ := x; exact ⟨z, its, r, ob, k _ _ (.inl rfl) e, c⟩
  | dK kvs => obtain ⟨z, y, vs, r, ob, es, ep, e, c⟩ := x; exact ⟨z, y, vs, r, ob, es, ep, k _ _ (.inl rfl) e, c⟩
  | dT kvs =>
    obtain ⟨z, y, xs, r, ob, es, ep, e, c⟩ := x
    exact ⟨z, y, xs, Paired.mapP r fun p q z => ⟨z.1, ht _ _ z.2.1, z.2.2⟩, ob, es, ep, k _ _ (.inl rfl) e, c⟩
  | set S n => obtain ⟨ob, es, ep, t, e, c⟩ := x; exact ⟨ob, es, ep, t, k _ _ (.inl rfl) e, c⟩
  | ins C dx fs =>
    obtain ⟨d, z, ne, e, mA, ⟨od, es, ep, e2, c⟩, r⟩ := x
    exact ⟨ho _ d, z, ne, k _ _ (.inl rfl) e, mA, ⟨od, es, ep, k _ _ (.inr d) e2, c⟩, r⟩
  | own y => obtain ⟨ob, e⟩ := x; exact ⟨ob, k _ _ (.inl rfl) e⟩
  | xd fs => obtain ⟨mA, ⟨od, es, ep, e, c⟩, r⟩ := x; exact ⟨mA, ⟨od, es, ep, k _ _ (.inl rfl) e, c⟩, r⟩
  | rng lo hi => obtain ⟨t, u, v, e⟩ := x; exact ⟨t, u, v, k _ _ (.inl rfl) e⟩
  | frz ob u ih => obtain ⟨e, q⟩ := x; exact ⟨k _ _ (.inl rfl) e, ih q⟩
  | tbl ps =>
    have e : h.get? a = some { cls := .none, data := .fields ps } := x
    show h'.get? a = some { cls := .none, data := .fields ps }
    exact k a _ (.inl rfl) e
  | met f y =>
    have e : h.get? a = some (PySem.W.methodObj (.ref f) (.ref y)) := x
    show h'.get? a = some (PySem.W.methodObj (.ref f) (.ref y))
    exact k a _ (.inl rfl) e
  | ext φ => obtain ⟨p, ⟨o, e⟩, st⟩ := x; exact ⟨st _ _ p fun o q => k _ _ (.inl rfl) q, ⟨o, k _ _ (.inl rfl) e⟩, st⟩
theorem HOk.lt (x : HOk P w H h) (e : H a = some o) : a < h.objs.size := (x a o e).lt
theorem HOk.fresh (x : HOk P w H h) (e : h.objs.size ≤ a) : H a = none := by
  cases q : H a with
  | none => rfl
  | some u => exact absurd (Nat.lt_of_lt_of_le (x.lt q) e) (Nat.lt_irrefl _)
theorem HOk.kept (x : HOk P w H h) (k : ∀ b u, h.get? b = some u → h'.get? b = some u) : HOk P w H h' := fun a o e =>
  (x a o e).stay (fun b u _ q => k b u q) (fun _ q => q) fun _ _ q => q
theorem HOk.laid (x : HOk P w H h) (k : ∀ b u, h.get? b = some u → h'.get? b = some u) (hp : h.objs.size ≤ a) (new : ObjOk P w (upd H a o) h' a o) : HOk P w (upd H a o) h' := fun b u e => by
  have hn := x.fresh hp
  by_cases hb : b = a
  · subst hb; rw [upd_same] at e; cases e; exact new
  · rw [upd_ne hb] at e
    exact (x b u e).stay (fun c v _ q => k c v q) (fun c q => by rw [upd_ne (ne_of_none q hn)]; exact q) fun c xs q => by rw [upd_ne (ne_of_none q hn)]; exact q
end
def Rd (H : Hp) (a : Addr) (u : HO) : Prop := H a = some u ∨ ∃ o, H a = some (.frz o u)
theorem Rd.of {H : Hp} {a : Addr} {u : HO} (h : H a = some u) : Rd H a u := .inl h
theorem Rd.ok {P : Program} {w : World} {H : Hp} {h : Heap} {a : Addr} {u : HO} (r : Rd H a u) (x : HOk P w H h) : ObjOk P w H h a u := by
  rcases r with r | ⟨o, r⟩
  · exact x a u r
  · obtain ⟨_, q⟩ := x a _ r
    exact q
def Mut : Option HO → Prop
  | some (.lst _) => True
  | some (.dK _) => True
  | some (.dT _) => True
  | some (.set _ _) => True
  | some (.ins _ _ _) => True
  | some (.ext _) => True
  | _ => False
section
variable {P : Program} {w : World} {H : Hp} {h h' : Heap} {x e : Addr} {o' : HO}
theorem HOk.write (ok : HOk P w H h) (mu : Mut (H x)) (he : e = x ∨ H e = some (.own x)) (k : ∀ b u, b ≠ e → h.get? b = some u → h'.get? b = some u) (heo : ∃ u, h'.get? e = some u)
    (new : ObjOk P w (upd H x o') h' x o') : HOk P w (upd H x o') h' := fun b u q => by
  have nown : ∀ c y, H c = some (.own y) → c ≠ x := fun c y r z => by subst z; rw [r] at mu; exact mu
  have ntup : ∀ c xs, H c = some (.tup xs) → c ≠ x := fun c xs r z => by subst z; rw [r] at mu; exact mu
  by_cases hb : b = x
  · subst hb; rw [upd_same] at q; cases q; exact new
  · rw [upd_ne hb] at q
    by_cases hbe : b = e
    · have q' : H b = some (.own x) := by
        rcases he with z | z
        · exact absurd (hbe.trans z) hb
        · rw [hbe]; exact z
      rw [q] at q'; cases q'
      obtain ⟨v, hv⟩ := heo
      exact ⟨v, by rw [hbe]; exact hv⟩
    · refine (ok b u q).stay (fun c v hc r => k c v ?_ r) (fun c r => by rw [upd_ne (nown c b r)]; exact r) fun c xs r => by rw [upd_ne (ntup c xs r)]; exact r
      rcases hc with rfl | hc
      · exact hbe
      · rintro rfl
        rcases he with z | z
        · exact nown c b hc z
        · rw [hc] at z; cases z; exact hb rfl
end
structure Un (fs ex : List Addr) (H H' : Hp) (h h' : Heap) : Prop where
  keep : ∀ b o, h.get? b = some o → H b = none → b ∉ fs → b ∉ ex → h'.get? b = some o
  slot : ∀ b o, h.get? b = some o → H b = none → b ∈ fs → b ∉ ex → ∃ sl, h'.get? b = some { o with slots := sl }
  free : ∀ b o, h.get? b = some o → H b = none → b ∉ ex → H' b = none
  there : ∀ b o, h.get? b = some o → b ∉ ex → ∃ o', h'.get? b = some o'
  tups : ∀ b xs, H b = some (.tup xs) → H' b = some (.tup xs)
  frzs : ∀ b o u, H b = some (.frz o u) → H' b = some (.frz o u)
  tbls : ∀ b ps, H b = some (.tbl ps) → ∃ more, H' b = some (.tbl (ps ++ more))
section
variable {fs fs' ex ex' : List Addr} {H H1 H2 : Hp} {h h1 h2 h' : Heap} {a x e : Addr} {o : HO}
theorem Un.any (u : Un fs ex H H1 h h1) {b : Addr} {ob : Obj} (q : h.get? b = some ob) (n : H b = none) (hx : b ∉ ex) : ∃ sl, h1.get? b = some { ob with slots := sl } := by
  by_cases hb : b ∈ fs
  · exact u.slot b ob q n hb hx
  · exact ⟨ob.slots, u.keep b ob q n hb hx⟩
theorem Un.kept (k : ∀ b u, h.get? b = some u → h'.get? b = some u) : Un fs ex H H h h' :=
  ⟨fun b ob q _ _ _ => k b ob q, fun b ob q _ _ _ => ⟨ob.slots, k b ob q⟩, fun _ _ _ n _ => n, fun b ob q _ => ⟨ob, k b ob q⟩, fun _ _ q => q, fun _ _ _ q => q, fun _ ps q => ⟨#[], by rw [q]; simp⟩⟩
theorem Un.refl : Un fs ex H H h h := Un.kept fun _ _ q => q
theorem Un.laid (k : ∀ b u, h.get? b = some u → h'.get? b = some u) (hp : h.objs.size ≤ a) (hn : H a = none) : Un fs ex H (upd H a o) h h' where
  keep := fun b u q _ _ _ => k b u q
  slot := fun b u q _ _ _ => ⟨u.slots, k b u q⟩
  free := fun b u q n _ => by rw [upd_ne (Nat.ne_of_lt (Nat.lt_of_lt_of_le (Heap.lt_size q) hp))]; exact n
  there := fun b u q _ => ⟨u, k b u q⟩
  tups := fun b xs q => by rw [upd_ne (ne_of_none q hn)]; exact q
  frzs := fun b u xs q => by rw [upd_ne (ne_of_none q hn)]; exact q
  tbls := fun b ps q => ⟨#[], by rw [upd_ne (ne_of_none q hn), q]; simp⟩
theorem Un.write (mu : Mut (H x)) (he : e = x ∨ H e = some (.own x)) (k : ∀ b u, b ≠ e → h.get? b = some u → h'.get? b = some u) (heo : ∃ u, h'.get? e = some u) : Un fs ex H (upd H x o) h h' := by
  have hx : ∀ b, H b = none → b ≠ x := fun b n z => by subst z; rw [n] at mu; exact mu
  have hb : ∀ b, H b = none → b ≠ e := fun b n z => by
    subst z
    rcases he with r | r
    · exact hx b n r
    · rw [n] at r; cases r
  have hm : ∀ b u, H b = some u → ¬ Mut (some u) → b ≠ x := fun b u q nm z => by subst z; rw [q] at mu; exact nm mu
  refine ⟨fun b u q n _ _ => k b u (hb b n) q, fun b u q n _ _ => ⟨u.slots, k b u (hb b n) q⟩, fun b u q n _ => by rw [upd_ne (hx b n)]; exact n, fun b u q _ => ?_,
    fun b xs q => by rw [upd_ne (hm b _ q fun z => z)]; exact q, fun b u xs q => by rw [upd_ne (hm b _ q fun z => z)]; exact q, fun b ps q => ⟨#[], by rw [upd_ne (hm b _ q fun z => z), q]; simp⟩⟩
  by_cases hbe : b = e
  · subst hbe; exact heo
  · exact ⟨u, k b u hbe q⟩
end
def trk (h : Heap) (H : Hp) : List Addr := (List.range h.objs.size).filter fun a => (H a).isSome
def hidT (h : Heap) (H : Hp) : Heap := PySem.W.hideAll h (trk h H)
theorem hidT_size (h : Heap) (H : Hp) : (hidT h H).objs.size = h.objs.size := PySem.W.hideAll_size _ _
theorem hidT_get {h : Heap} {H : Hp} {b : Addr} {o : Obj} (e : h.get? b = some o) (n : H b = none) : (hidT h H).get? b = some o :=
  PySem.W.hideAll_get _ e fun hm => by
    have q : (H b).isSome = true := (List.mem_filter.mp hm).2
    rw [n] at q; simp at q
theorem of_hidT {h : Heap} {H : Hp} {b : Addr} {o : Obj} (e : (hidT h H).get? b = some o) : h.get? b = some o ∧ H b = none := by
  have e' : h.get? b = some o := PySem.W.of_hideAll (trk h H) e
  refine ⟨e', ?_⟩
  cases q : H b with
  | none => rfl
  | some x =>
    have hm : b ∈ trk h H := List.mem_filter.mpr ⟨List.mem_range.mpr (Heap.lt_size e'), by simp [q]⟩
    have z : (hidT h H).get? b = none := PySem.W.hideAll_none (trk h H) hm
    rw [z] at e; cases e
structure Mod (K : PySem.W.Frag) (mg : Str → Option Value) (base : Heap) : Prop where
  kin : K.In base
  glob : base.Ns mainGlobals mg
  blt : ∃ mb, base.Ns builtinsNs mb ∧ ∀ x : Str, x ≠ "__name__" → mb x = bootBuiltins x
  nolimit : base.NoLimit
structure Cx where
  prog : Program
  w : World
  K : PySem.W.Frag
  mg : Str → Option Value
  base : Heap
  A : Around
  N : List Str
  s₀ : Shared
  H₀ : Hp
  env : Env
  outer : List Env
  stack : List Env
  ex : List Addr
  fn : Str → Bool
  calm : Bool
  sx : Bool
  pn : List (Addr × Obj)
  xe : Value → Shared → Prop
def frs (l : List Env) : List Addr := l.filterMap (·.frame)
abbrev Cx.fs (X : Cx) : List Addr := frs X.outer
def Vis (sc : Scope) (x : Str) : Prop := sc.names.lookup x = some .local ∨ sc.names.lookup x = some .cell ∨ sc.names.lookup x = some .free
def Loc (sc : Scope) (x : Str) : Prop := sc.names.lookup x = some .local ∨ sc.names.lookup x = some .cell
def Look (env : Env) (h : Heap) (m : Str → Option Value) (x : Str) (u : Value) : Prop :=
  (env.kindOf x = some .local ∧ m x = some u) ∨ ((env.kindOf x = some .cell ∨ env.kindOf x = some .free) ∧ ∃ c, env.cells.lookup x = some c ∧ h.IsCell c (some u))
structure Cx.Ok (X : Cx) : Prop where
  mod : Mod X.K X.mg X.base
  kind : X.env.scope.kind = .function
  glob : X.env.globals = mainGlobals
  blt : X.env.builtins = builtinsNs
  above : X.s₀.heap.objs.size ≤ X.env.locals
  inj : ∀ x y c, X.env.cells.lookup x = some c → X.env.cells.lookup y = some c → x = y
  has : ∀ x, (X.env.kindOf x = some .cell ∨ X.env.kindOf x = some .free) → ∃ c, X.env.cells.lookup x = some c
  cab : ∀ x c, X.fn x = true → X.env.cells.lookup x = some c → X.s₀.heap.objs.size ≤ c
  hd : X.calm = true → HCalm X.A X.base
  st : X.sx = true → X.A.handled = none
  frames : X.A.frames = some X.stack
  stk : X.stack = X.outer ∨ (X.stack = X.env :: X.outer ∧ X.env.frame = some X.env.locals)
  exf : ∀ b ∈ X.ex, b ≠ X.env.locals ∧ ∀ x c, X.env.cells.lookup x = some c → c ≠ b
  bs : ∀ b o, X.base.get? b = some o → X.s₀.heap.get? b = some o ∧ X.H₀ b = none
  bsz : X.base.objs.size ≤ X.s₀.heap.objs.size
  noex : ∀ b o, X.base.get? b = some o → b ∉ X.ex
  exfs : ∀ b ∈ X.ex, b ∉ X.fs
  funs : X.s₀.heap.FunFrames X.base X.outer
  frf : ∀ b ∈ X.fs, X.H₀ b = none
structure Inv (X : Cx) (pins : List (Addr × Obj)) (σ : List (Option V)) (H : Hp) (s : Shared) : Prop where
  ok : X.Ok
  os : s.os = X.s₀.os
  bare : AllBare s.gens
  base : Un X.fs X.ex X.H₀ H X.s₀.heap s.heap
  loc : ∃ m, s.heap.Ns X.env.locals m ∧ ∀ (i : Nat) (x : Str) (v : V), X.N[i]? = some x → σ[i]? = some (some v) → Vis X.env.scope x → ∃ u, RelV v u ∧ Look X.env s.heap m x u
  cell : ∀ x c, X.env.cells.lookup x = some c → ∃ v, s.heap.IsCell c v
  free : H X.env.locals = none
  freeC : ∀ x c, X.env.cells.lookup x = some c → H c = none
  pin : ∀ p ∈ X.pn ++ pins, s.heap.get? p.1 = some p.2 ∧ H p.1 = none ∧ p.1 ≠ X.env.locals ∧ p.1 ∉ X.fs ∧ ∀ v, p.2.data ≠ .cell v
  hok : HOk X.prog X.w H s.heap
  len : σ.length = X.N.length
section
variable {X : Cx} {pins : List (Addr × Obj)} {σ : List (Option V)} {H H' : Hp} {s : Shared} {h' : Heap}
theorem Cx.Ok.nofr (ok : X.Ok) {b : Addr} {o : Obj} (e : X.base.get? b = some o) : b ∉ X.fs := fun hb => by
  have := (ok.funs.mem hb).1
  rw [e] at this; cases this
theorem Inv.bs (I : Inv X pins σ H s) : ∀ b o, X.base.get? b = some o → s.heap.get? b = some o ∧ H b = none := fun b o e =>
  ⟨I.base.keep b o (I.ok.bs b o e).1 (I.ok.bs b o e).2 (I.ok.nofr e) (I.ok.noex b o e), I.base.free b o (I.ok.bs b o e).1 (I.ok.bs b o e).2 (I.ok.noex b o e)⟩
theorem Inv.bk (I : Inv X pins σ H s) : ∀ b o, X.base.get? b = some o → s.heap.get? b = some o := fun b o e => (I.bs b o e).1
theorem Inv.calmS (I : Inv X pins σ H s) (hc : X.calm = true) : HCalm X.A s.heap := (I.ok.hd hc).ext I.bk
theorem Inv.mod (I : Inv X pins σ H s) : Mod X.K X.mg X.base := I.ok.mod
theorem Inv.kIn (I : Inv X pins σ H s) : X.K.In s.heap := I.ok.mod.kin.keeps I.bk
theorem Inv.fr (I : Inv X pins σ H s) : ∃ m, Fr X.base X.env.locals s.heap m :=
  let ⟨m, hn, _⟩ := I.loc
  ⟨m, hn, I.bk, Nat.le_trans I.ok.bsz I.ok.above⟩
theorem Inv.lt (I : Inv X pins σ H s) : X.env.locals < s.heap.objs.size := let ⟨_, hn, _⟩ := I.loc; hn.lt
theorem Inv.sz (I : Inv X pins σ H s) : X.s₀.heap.objs.size ≤ s.heap.objs.size := Nat.le_trans I.ok.above (Nat.le_of_lt I.lt)
theorem Inv.nofs (I : Inv X pins σ H s) {a : Addr} (h : s.heap.objs.size ≤ a) : a ∉ X.fs := fun hb => by
  obtain ⟨_, o, ho, _⟩ := I.ok.funs.mem hb
  exact absurd (Nat.lt_of_lt_of_le (Heap.lt_size ho) (Nat.le_trans I.sz h)) (Nat.lt_irrefl _)
theorem Inv.cne (I : Inv X pins σ H s) : ∀ x c, X.env.cells.lookup x = some c → c ≠ X.env.locals := fun x c e z => by
  obtain ⟨v, o, ho, hd⟩ := I.cell x c e
  obtain ⟨m, ⟨o', es, ep, ho', hd', _⟩, _⟩ := I.loc
  rw [z, ho'] at ho; cases ho; rw [hd'] at hd; cases hd
theorem Inv.funs (I : Inv X pins σ H s) : s.heap.FunFrames X.base X.outer := by
  have all : ∀ (l : List Env), (∀ b ∈ frs l, b ∈ X.fs) → X.s₀.heap.FunFrames X.base l → s.heap.FunFrames X.base l := by
    intro l
    induction l with
    | nil => intro _ _; trivial
    | cons env r ih =>
      intro hs hl
      obtain ⟨hk, ⟨L, o, hf, hn, ho, hd⟩, hr⟩ := hl
      have hL : L ∈ X.fs := hs L (by unfold frs; rw [List.filterMap_cons, hf]; exact List.mem_cons_self)
      obtain ⟨sl, e⟩ := I.base.slot L o ho (I.ok.frf L hL) hL fun z => I.ok.exfs L z hL
      exact ⟨hk, ⟨L, _, hf, hn, e, hd⟩, ih (fun b hb => hs b (by unfold frs; rw [List.filterMap_cons, hf]; exact List.mem_cons_of_mem _ hb)) hr⟩
  exact all X.outer (fun _ hb => hb) I.ok.funs
theorem Inv.stack (I : Inv X pins σ H s) : s.heap.FunFrames X.base X.stack := by
  rcases I.ok.stk with e | ⟨e, hf⟩
  · rw [e]; exact I.funs
  · rw [e]
    obtain ⟨m, hn, _⟩ := I.loc
    refine .cons (by rw [I.ok.kind]; decide) hf hn ?_ I.funs
    exact Heap.get?_none_of_le (Nat.le_trans I.ok.bsz I.ok.above)
theorem Inv.stkSub (I : Inv X pins σ H s) : ∀ b ∈ frs X.stack, b ∈ X.env.locals :: X.fs := fun b hb => by
  rcases I.ok.stk with e | ⟨e, hf⟩
  · rw [e] at hb; exact List.mem_cons_of_mem _ hb
  · rw [e] at hb
    unfold frs at hb
    rw [List.filterMap_cons, hf] at hb
    exact hb
theorem Inv.stkFree (I : Inv X pins σ H s) : ∀ b ∈ frs X.stack, H b = none := fun b hb => by
  rcases List.mem_cons.mp (I.stkSub b hb) with e | hb
  · rw [e]; exact I.free
  · obtain ⟨_, o, ho, _⟩ := I.ok.funs.mem hb
    exact I.base.free b o ho (I.ok.frf b hb) fun z => I.ok.exfs b z hb
theorem Inv.step {g' : Array GenState} {t' : Nat} {d' : Drawn} {ch : List Addr} (I : Inv X pins σ H s)
    (hch : ∀ b ∈ ch, (b ∈ X.ex ∨ X.s₀.heap.objs.size ≤ b) ∧ b ≠ X.env.locals ∧ (∀ x c, X.env.cells.lookup x = some c → c ≠ b) ∧ ∀ p ∈ X.pn ++ pins, p.1 ≠ b)
    (keep : ∀ b o, b ≠ X.env.locals → b ∉ X.fs → b ∉ ch → s.heap.get? b = some o → H b = none → h'.get? b = some o)
    (slot : ∀ b o, b ≠ X.env.locals → b ∈ X.fs → b ∉ ch → s.heap.get? b = some o → H b = none → ∃ sl, h'.get? b = some { o with slots := sl }) (free : ∀ b o, b ∉ ch → s.heap.get? b = some o → H b = none → H' b = none)
    (there : ∀ b o, b ∉ ch → s.heap.get? b = some o → ∃ o', h'.get? b = some o')
    (tups : ∀ b xs, H b = some (.tup xs) → H' b = some (.tup xs)) (frzs : ∀ b o u, H b = some (.frz o u) → H' b = some (.frz o u)) (tbls : ∀ b ps, H b = some (.tbl ps) → ∃ more, H' b = some (.tbl (ps ++ more)))
    (ns : ∀ m, s.heap.Ns X.env.locals m → h'.Ns X.env.locals m) (hok : HOk X.prog X.w H' h') (hg : AllBare g') :
    Inv X pins σ H' { s with heap := h', gens := g', drawn := d', toks := t' } := by
  have neL : ∀ b o, X.s₀.heap.get? b = some o → b ≠ X.env.locals := fun b o e => Nat.ne_of_lt (Nat.lt_of_lt_of_le (Heap.lt_size e) I.ok.above)
  have neC : ∀ b o, X.s₀.heap.get? b = some o → b ∉ X.ex → b ∉ ch := fun b o e hx hb => by
    rcases (hch b hb).1 with z | z
    · exact hx z
    · exact absurd (Nat.lt_of_lt_of_le (Heap.lt_size e) z) (Nat.lt_irrefl _)
  have cellK : ∀ x c, X.env.cells.lookup x = some c → ∀ v, s.heap.IsCell c v → h'.IsCell c v := fun x c e v ⟨o, ho, hd⟩ => by
    have nch : c ∉ ch := fun z => (hch c z).2.2.1 x c e rfl
    by_cases hc : c ∈ X.fs
    · obtain ⟨sl, q⟩ := slot c o (I.cne x c e) hc nch ho (I.freeC x c e)
      exact ⟨_, q, hd⟩
    · exact ⟨o, keep c o (I.cne x c e) hc nch ho (I.freeC x c e), hd⟩
  refine ⟨I.ok, I.os, hg, ⟨fun b o e n hb hx => ?_, fun b o e n hb hx => ?_, fun b o e n hx => ?_, fun b o e hx => ?_, fun b xs e => tups b xs (I.base.tups b xs e), fun b o xs e => frzs b o xs (I.base.frzs b o xs e), fun b ps e => ?_⟩, ?_, fun x c e => ?_, ?_, fun x c e => ?_, fun p hp => ?_, hok, I.len⟩
  · exact keep b o (neL b o e) hb (neC b o e hx) (I.base.keep b o e n hb hx) (I.base.free b o e n hx)
  · obtain ⟨sl, e1⟩ := I.base.slot b o e n hb hx
    obtain ⟨sl', e2⟩ := slot b _ (neL b o e) hb (neC b o e hx) e1 (I.base.free b o e n hx)
    exact ⟨sl', e2⟩
  · obtain ⟨o', e1⟩ := I.base.there b o e hx
    exact free b o' (neC b o e hx) e1 (I.base.free b o e n hx)
  · obtain ⟨o', e1⟩ := I.base.there b o e hx
    exact there b o' (neC b o e hx) e1
  · obtain ⟨m1, e1⟩ := I.base.tbls b ps e
    obtain ⟨m2, e2⟩ := tbls b _ e1
    exact ⟨m1 ++ m2, by rw [e2, Array.append_assoc]⟩
  · obtain ⟨m, hn, hl⟩ := I.loc
    refine ⟨m, ns m hn, fun i x v e1 e2 e3 => ?_⟩
    obtain ⟨u, r, l⟩ := hl i x v e1 e2 e3
    refine ⟨u, r, ?_⟩
    rcases l with l | ⟨k, c, e, z⟩
    · exact .inl l
    · exact .inr ⟨k, c, e, cellK x c e _ z⟩
  · obtain ⟨v, z⟩ := I.cell x c e
    exact ⟨v, cellK x c e v z⟩
  · obtain ⟨m, ⟨o, _, _, ho, _⟩, _⟩ := I.loc
    exact free _ o (fun z => (hch _ z).2.1 rfl) ho I.free
  · obtain ⟨v, o, ho, hd⟩ := I.cell x c e
    exact free c o (fun z => (hch c z).2.2.1 x c e rfl) ho (I.freeC x c e)
  · obtain ⟨e, n, ne, nf, d⟩ := I.pin p hp
    have nch : p.1 ∉ ch := fun z => (hch p.1 z).2.2.2 p hp rfl
    exact ⟨keep p.1 p.2 ne nf nch e n, free p.1 p.2 nch e n, ne, nf, d⟩
theorem Inv.un {t' : Nat} (I : Inv X pins σ H s) (u : Un X.fs [] H H' s.heap h') (hok : HOk X.prog X.w H' h') : Inv X pins σ H' { s with heap := h', toks := t' } := by
  obtain ⟨m, ⟨o, es, ep, ho, r⟩, _⟩ := id I.loc
  obtain ⟨sl, hL⟩ := u.any ho I.free (by simp)
  exact I.step (g' := s.gens) (d' := s.drawn) (ch := []) (fun _ z => nomatch z) (fun b o _ hb _ e n => u.keep b o e n hb (by simp)) (fun b o _ hb _ e n => u.slot b o e n hb (by simp)) (fun b o _ e n => u.free b o e n (by simp)) (fun b o _ e => u.there b o e (by simp)) u.tups u.frzs u.tbls (fun m' hm => by
    obtain ⟨o', es', ep', ho', r'⟩ := hm
    rw [ho] at ho'; cases ho'
    exact ⟨_, es', ep', hL, r'⟩) hok I.bare
theorem Inv.call {g' : Array GenState} {t' : Nat} {d' : Drawn} {ch : List Addr} (I : Inv X pins σ H s) (u : Un (frs X.stack) ch H H' s.heap h') (hok : HOk X.prog X.w H' h') (hg : AllBare g')
    (hch : ∀ b ∈ ch, (b ∈ X.ex ∨ X.s₀.heap.objs.size ≤ b) ∧ b ≠ X.env.locals ∧ (∀ x c, X.env.cells.lookup x = some c → c ≠ b) ∧ ∀ p ∈ X.pn ++ pins, p.1 ≠ b) :
    Inv X pins σ H' { s with heap := h', gens := g', drawn := d', toks := t' } := by
  obtain ⟨m, ⟨o, es, ep, ho, r⟩, _⟩ := id I.loc
  obtain ⟨sl, hL⟩ := u.any ho I.free fun z => (hch _ z).2.1 rfl
  exact I.step (ch := ch) hch (fun b o hL hb hc e n => u.keep b o e n (fun z => (List.mem_cons.mp (I.stkSub b z)).elim hL hb) hc) (fun b o _ _ hc e n => u.any e n hc) (fun b o hc e n => u.free b o e n hc) (fun b o hc e => u.there b o e hc) u.tups u.frzs u.tbls (fun m' hm => by
    obtain ⟨o', es', ep', ho', r'⟩ := hm
    rw [ho] at ho'; cases ho'
    exact ⟨_, es', ep', hL, r'⟩) hok hg
theorem Inv.turned {t' : Nat} {it : Addr} (I : Inv X pins σ H s) (k : ∀ b o, b ≠ it → s.heap.get? b = some o → h'.get? b = some o) (hn : H it = none) (hL : it ≠ X.env.locals)
    (h1 : it ∈ X.ex ∨ X.s₀.heap.objs.size ≤ it) (h2 : ∀ x c, X.env.cells.lookup x = some c → c ≠ it) (h3 : ∀ p ∈ X.pn ++ pins, p.1 ≠ it) : Inv X pins σ H { s with heap := h', toks := t' } := by
  have nit : ∀ b u, H b = some u → b ≠ it := fun b u e z => by rw [z, hn] at e; cases e
  refine I.step (g' := s.gens) (d' := s.drawn) (ch := [it]) (fun b hb => ?_) (fun b o _ _ hc e _ => k b o (fun z => hc (by simp [z])) e) (fun b o _ _ hc e _ => ⟨o.slots, k b o (fun z => hc (by simp [z])) e⟩) (fun _ _ _ _ n => n)
    (fun b o hc e => ⟨o, k b o (fun z => hc (by simp [z])) e⟩) (fun _ _ e => e) (fun _ _ _ e => e) (fun b ps e => ⟨#[], by rw [e]; simp⟩) (fun m hm => ?_) (fun b u e => ?_) I.bare
  · have e : b = it := by simpa using hb
    subst e
    exact ⟨h1, hL, h2, h3⟩
  · obtain ⟨o, es, ep, ho, r⟩ := hm
    exact ⟨o, es, ep, k _ o (Ne.symm hL) ho, r⟩
  · refine (I.hok b u e).stay (fun c v hc q => k c v ?_ q) (fun _ q => q) fun _ _ q => q
    rcases hc with z | z
    · rw [z]; exact nit b u e
    · exact nit c _ z
theorem Inv.tok (I : Inv X pins σ H s) (t : Nat) : Inv X pins σ H { s with toks := t } := I.un (h' := s.heap) (t' := t) Un.refl I.hok
theorem Inv.kept {t' : Nat} (I : Inv X pins σ H s) (k : ∀ b u, s.heap.get? b = some u → h'.get? b = some u) : Inv X pins σ H { s with heap := h', toks := t' } := I.un (Un.kept k) (I.hok.kept k)
theorem Inv.laid {a : Addr} {o : HO} {t' : Nat} (I : Inv X pins σ H s) (k : ∀ b u, s.heap.get? b = some u → h'.get? b = some u) (hp : s.heap.objs.size ≤ a) (new : ObjOk X.prog X.w (upd H a o) h' a o) :
    Inv X pins σ (upd H a o) { s with heap := h', toks := t' } := I.un (Un.laid k hp (I.hok.fresh hp)) (I.hok.laid k hp new)
theorem Inv.write {x e : Addr} {o : HO} {t' : Nat} (I : Inv X pins σ H s) (mu : Mut (H x)) (he : e = x ∨ H e = some (.own x)) (k : ∀ b u, b ≠ e → s.heap.get? b = some u → h'.get? b = some u) (heo : ∃ u, h'.get? e = some u)
    (new : ObjOk X.prog X.w (upd H x o) h' x o) : Inv X pins σ (upd H x o) { s with heap := h', toks := t' } := I.un (Un.write mu he k heo) (I.hok.write mu he k heo new)
theorem Inv.weak {σ' : List (Option V)} (I : Inv X pins σ H s) (hl : σ'.length = σ.length) (w : ∀ (i : Nat) v, σ'[i]? = some (some v) → σ[i]? = some (some v)) : Inv X pins σ' H s :=
  ⟨I.ok, I.os, I.bare, I.base, let ⟨m, hn, hl'⟩ := I.loc; ⟨m, hn, fun i x v e1 e2 e3 => hl' i x v e1 (w i v e2) e3⟩, I.cell, I.free, I.freeC, I.pin, I.hok, hl.trans I.len⟩
theorem Inv.pins_of {pins' : List (Addr × Obj)} (I : Inv X pins σ H s) (h : ∀ p ∈ pins', s.heap.get? p.1 = some p.2 ∧ H p.1 = none ∧ p.1 ≠ X.env.locals ∧ p.1 ∉ X.fs ∧ ∀ v, p.2.data ≠ .cell v) : Inv X pins' σ H s :=
  ⟨I.ok, I.os, I.bare, I.base, I.loc, I.cell, I.free, I.freeC, fun p hp => (List.mem_append.mp hp).elim (fun z => I.pin p (List.mem_append_left _ z)) (h p), I.hok, I.len⟩
theorem nodup_ix {N : List Str} (hN : N.Nodup) {i j : Nat} {x : Str} (a : N[i]? = some x) (b : N[j]? = some x) : i = j := by
  obtain ⟨h1, e1⟩ := List.getElem?_eq_some_iff.mp a
  obtain ⟨h2, e2⟩ := List.getElem?_eq_some_iff.mp b
  exact (List.getElem_inj hN).mp (e1.trans e2.symm)
theorem store_ok2 {M : Model} {A : Around} {E : Value → Shared → Prop} {i : Nat} {x : Str} {v : V} {u : Value} {Q : Unit → Shared → Prop} (I : Inv X pins σ H s) (hN : X.N.Nodup) (hi : X.N[i]? = some x) (hx : Loc X.env.scope x) (r : RelV v u)
    (h : ∀ s', Inv X pins (σ.set i (some v)) H s' → (∃ a, Heap.SameBut a s.heap s'.heap ∧ (a = X.env.locals ∨ X.env.cells.lookup x = some a)) → Q () s') (hf : X.fn x = true ∨ X.env.scope.names.lookup x = some .local := by first | exact .inl rfl | exact .inr rfl | assumption) : wpAny M A (storeName X.env x u) Q E s := by
  obtain ⟨m, hn, hl⟩ := id I.loc
  have hcls : (X.env.scope.kind == .class || (X.env.scope.kind == .module && X.env.locals != X.env.globals)) = false := by rw [I.ok.kind]; rfl
  have hiσ : i < σ.length := by rw [I.len]; exact (List.getElem?_eq_some_iff.mp hi).1
  have cne := I.cne
  have tracked : ∀ {a : Addr} {h' : Heap}, (∃ o, s.heap.get? a = some o ∧ H a = none) → Heap.SameBut a s.heap h' → HOk X.prog X.w H h' := fun {a h'} ha hs b ob e => by
    obtain ⟨_, _, hfree⟩ := ha
    refine (I.hok b ob e).stay (fun c w' hc q => (hs.2 c ?_).trans q) (fun _ q => q) fun _ _ q => q
    rintro rfl
    rcases hc with rfl | hc
    · rw [hfree] at e; cases e
    · rw [hfree] at hc; cases hc
  rcases hx with hk | hk
  · refine wpAny_storeName_local hk hn (fun h' hn' hs => ?_) hcls
    obtain ⟨oL, _, _, hoL, _⟩ := id hn
    refine h _ ⟨I.ok, I.os, I.bare, ⟨fun b o e n hb hx => ?_, fun b o e n hb hx => ?_, I.base.free, fun b o e hx => ?_, I.base.tups, I.base.frzs, I.base.tbls⟩, ⟨_, hn', fun j y v' e1 e2 e3 => ?_⟩, fun y c e => ?_, I.free, I.freeC, fun p hp => ?_, tracked ⟨oL, hoL, I.free⟩ hs, by simpa using I.len⟩ ⟨_, hs, .inl rfl⟩
    · exact (hs.2 b (Nat.ne_of_lt (Nat.lt_of_lt_of_le (Heap.lt_size e) I.ok.above))).trans (I.base.keep b o e n hb hx)
    · obtain ⟨sl, e1⟩ := I.base.slot b o e n hb hx
      exact ⟨sl, (hs.2 b (Nat.ne_of_lt (Nat.lt_of_lt_of_le (Heap.lt_size e) I.ok.above))).trans e1⟩
    · obtain ⟨o', e1⟩ := I.base.there b o e hx
      exact ⟨o', (hs.2 b (Nat.ne_of_lt (Nat.lt_of_lt_of_le (Heap.lt_size e) I.ok.above))).trans e1⟩
    · by_cases hj : j = i
      · subst hj
        rw [hi] at e1; cases e1
        rw [List.getElem?_set_self hiσ] at e2
        cases e2
        exact ⟨u, r, .inl ⟨hk, by simp⟩⟩
      · rw [List.getElem?_set_ne (Ne.symm hj)] at e2
        obtain ⟨u', r', q⟩ := hl j y v' e1 e2 e3
        refine ⟨u', r', ?_⟩
        rcases q with ⟨k, e⟩ | ⟨k, c, e, z⟩
        · refine .inl ⟨k, ?_⟩
          have : y ≠ x := fun e => hj (nodup_ix hN e1 (e ▸ hi))
          simp [this, e]
        · exact .inr ⟨k, c, e, z.sameBut hs (cne y c e)⟩
    · obtain ⟨w', z⟩ := I.cell y c e
      exact ⟨w', z.sameBut hs (cne y c e)⟩
    · obtain ⟨e, n, ne, nf, d⟩ := I.pin p hp
      exact ⟨(hs.2 p.1 ne).trans e, n, ne, nf, d⟩
  · have hfn : X.fn x = true := by
      rcases hf with z | z
      · exact z
      · rw [z] at hk; cases hk
    obtain ⟨c, hc⟩ := I.ok.has x (.inl hk)
    obtain ⟨w', z⟩ := I.cell x c hc
    refine wpAny_storeName_cell I.ok.kind hk hc z (fun h' hc' hs => ?_)
    obtain ⟨oc, hoc, hocd⟩ := id z
    refine h { s with heap := h' } ⟨I.ok, I.os, I.bare, ⟨fun b o e n hb hx => ?_, fun b o e n hb hx => ?_, I.base.free, fun b o e hx => ?_, I.base.tups, I.base.frzs, I.base.tbls⟩, ⟨m, hn.sameBut hs (Ne.symm (cne x c hc)), fun j y v' e1 e2 e3 => ?_⟩, fun y c' e => ?_, I.free, I.freeC, fun p hp => ?_, tracked ⟨oc, hoc, I.freeC x c hc⟩ hs, by simpa using I.len⟩ ⟨c, hs, .inr hc⟩
    · exact (hs.2 b (Nat.ne_of_lt (Nat.lt_of_lt_of_le (Heap.lt_size e) (I.ok.cab x c hfn hc)))).trans (I.base.keep b o e n hb hx)
    · obtain ⟨sl, e1⟩ := I.base.slot b o e n hb hx
      exact ⟨sl, (hs.2 b (Nat.ne_of_lt (Nat.lt_of_lt_of_le (Heap.lt_size e) (I.ok.cab x c hfn hc)))).trans e1⟩
    · obtain ⟨o', e1⟩ := I.base.there b o e hx
      exact ⟨o', (hs.2 b (Nat.ne_of_lt (Nat.lt_of_lt_of_le (Heap.lt_size e) (I.ok.cab x c hfn hc)))).trans e1⟩
    · by_cases hj : j = i
      · subst hj
        rw [hi] at e1; cases e1
        rw [List.getElem?_set_self hiσ] at e2
        cases e2
        exact ⟨u, r, .inr ⟨.inl hk, c, hc, hc'⟩⟩
      · rw [List.getElem?_set_ne (Ne.symm hj)] at e2
        obtain ⟨u', r', q⟩ := hl j y v' e1 e2 e3
        refine ⟨u', r', ?_⟩
        rcases q with q | ⟨k, c', e, z'⟩
        · exact .inl q
        · refine .inr ⟨k, c', e, z'.sameBut hs ?_⟩
          rintro rfl
          exact hj (nodup_ix hN e1 (I.ok.inj _ _ _ e hc ▸ hi))
    · by_cases hcc : c' = c
      · subst hcc; exact ⟨_, hc'⟩
      · obtain ⟨w2, z2⟩ := I.cell y c' e
        exact ⟨w2, z2.sameBut hs hcc⟩
    · obtain ⟨e, n, ne, nf, d⟩ := I.pin p hp
      refine ⟨(hs.2 p.1 ?_).trans e, n, ne, nf, d⟩
      intro q
      rw [q, hoc] at e
      have q' : oc = p.2 := Option.some.inj e
      exact d w' (by rw [← q']; exact hocd)
theorem store_ok {M : Model} {A : Around} {E : Value → Shared → Prop} {i : Nat} {x : Str} {v : V} {u : Value} {Q : Unit → Shared → Prop} (I : Inv X pins σ H s) (hN : X.N.Nodup) (hi : X.N[i]? = some x) (hx : Loc X.env.scope x) (r : RelV v u)
    (h : ∀ s', Inv X pins (σ.set i (some v)) H s' → Q () s') (hf : X.fn x = true ∨ X.env.scope.names.lookup x = some .local := by first | exact .inl rfl | exact .inr rfl | assumption) : wpAny M A (storeName X.env x u) Q E s :=
  store_ok2 I hN hi hx r (fun s' I' _ => h s' I') hf
theorem Inv.call' {s' : Shared} {ch : List Addr} (I : Inv X pins σ H s) (ho : s'.os = s.os) (u : Un (frs X.stack) ch H H' s.heap s'.heap) (hok : HOk X.prog X.w H' s'.heap) (hg : AllBare s'.gens)
    (hch : ∀ b ∈ ch, (b ∈ X.ex ∨ X.s₀.heap.objs.size ≤ b) ∧ b ≠ X.env.locals ∧ (∀ x c, X.env.cells.lookup x = some c → c ≠ b) ∧ ∀ p ∈ X.pn ++ pins, p.1 ≠ b) : Inv X pins σ H' s' := by
  obtain ⟨h', g', d', t', o'⟩ := s'
  have e : o' = s.os := ho
  subst e
  exact I.call (g' := g') (t' := t') (d' := d') u hok hg hch
end
abbrev XK := Value → Option Addr → Hp → Prop
abbrev St := List (Option V)
abbrev VK := V → Hp → Prop
abbrev TE := St → Hp → VK → Prop
abbrev TT := St → Hp → (Bool → Hp → Prop) → Prop
abbrev TA := St → Hp → (List V → Hp → Prop) → Prop
structure Ends where
  nx : St → Hp → Prop
  rt : VK
  bk : St → Hp → Prop := fun _ _ => False
  ct : St → Hp → Prop := fun _ _ => False
abbrev TS := Ends → St → Hp → Prop
def EP (X : Cx) (pins : List (Addr × Obj)) (σ : St) (Q : VK) (u : Value) (s' : Shared) : Prop := ∃ v H', Inv X pins σ H' s' ∧ RelV v u ∧ Q v H'
def TP (X : Cx) (pins : List (Addr × Obj)) (σ : St) (Q : Bool → Hp → Prop) (b : Bool) (s' : Shared) : Prop := ∃ H', Inv X pins σ H' s' ∧ Q b H'
def AP (X : Cx) (pins : List (Addr × Obj)) (σ : St) (Q : List V → Hp → Prop) (us : List Value) (s' : Shared) : Prop := ∃ vs H', Inv X pins σ H' s' ∧ Vals vs us ∧ Q vs H'
def SP (X : Cx) (pins : List (Addr × Obj)) (D : Ends) (f : Flow) (s' : Shared) : Prop :=
  match f with
  | .next => ∃ σ' H', Inv X pins σ' H' s' ∧ D.nx σ' H'
  | .brk => ∃ σ' H', Inv X pins σ' H' s' ∧ D.bk σ' H'
  | .cont => ∃ σ' H', Inv X pins σ' H' s' ∧ D.ct σ' H'
  | .ret u => ∃ v σ' H', Inv X pins σ' H' s' ∧ RelV v u ∧ D.rt v H'
def PE (X : Cx) (e : Expr) (t : TE) : Prop :=
  ∀ (pins : List (Addr × Obj)) (s : Shared) (σ : St) (H : Hp) (Q : VK), Inv X pins σ H s → t σ H Q → wpAny (model X.prog X.w) X.A (eval e X.env) (EP X pins σ Q) X.xe s
def PT (X : Cx) (e : Expr) (t : TT) : Prop :=
  ∀ (pins : List (Addr × Obj)) (s : Shared) (σ : St) (H : Hp) (Q : Bool → Hp → Prop), Inv X pins σ H s → t σ H Q → wpAny (model X.prog X.w) X.A (isTrue e X.env (eval e X.env)) (TP X pins σ Q) X.xe s
def PW (X : Cx) (e : Expr) (t : TT) : Prop :=
  ∀ (whole : Sem Value) (pins : List (Addr × Obj)) (s : Shared) (σ : St) (H : Hp) (Q : Bool → Hp → Prop), Inv X pins σ H s → t σ H Q → wpAny (model X.prog X.w) X.A (isTrue e X.env whole) (TP X pins σ Q) X.xe s
theorem PW.pt {X : Cx} {e : Expr} {t : TT} (h : PW X e t) : PT X e t := h _
def PA (X : Cx) (es : List Expr) (t : TA) : Prop :=
  ∀ (pos : Pos) (pins : List (Addr × Obj)) (s : Shared) (σ : St) (H : Hp) (Q : List V → Hp → Prop), Inv X pins σ H s → t σ H Q → wpAny (model X.prog X.w) X.A (spliced (backTo pos (starEach es X.env))) (AP X pins σ Q) X.xe s
def PS (X : Cx) (st : Stmt) (t : TS) : Prop :=
  ∀ (pins : List (Addr × Obj)) (s : Shared) (σ : St) (H : Hp) (D : Ends), Inv X pins σ H s → t D σ H → wpAny (model X.prog X.w) X.A (exec st X.env) (SP X pins D) X.xe s
def PSs (X : Cx) (st : List Stmt) (t : TS) : Prop :=
  ∀ (pins : List (Addr × Obj)) (s : Shared) (σ : St) (H : Hp) (D : Ends), Inv X pins σ H s → t D σ H → wpAny (model X.prog X.w) X.A (execs st X.env) (SP X pins D) X.xe s
theorem thn {α : Type} {t : Sem α} {Q Q' : α → Shared → Prop} {M : Model} {A : Around} {E : Value → Shared → Prop} {s : Shared} (h : wpAny M A t Q E s) (hQ : ∀ a s, Q a s → Q' a s) : wpAny M A t Q' E s := wpAny_mono h hQ fun _ _ x => x
section
variable {X : Cx}
theorem bin {a b : Expr} {ta tb : TE} (ha : PE X a ta) (hb : PE X b tb) {pins : List (Addr × Obj)} {s : Shared} {σ : St} {H : Hp} {R : V → V → Hp → Prop} (I : Inv X pins σ H s) (h : ta σ H fun x H1 => tb σ H1 fun y H2 => R x y H2)
    {α : Type} {Q : α → Shared → Prop} {f : Value → Value → Sem α}
    (hf : ∀ v u s2 x y H2, Inv X pins σ H2 s2 → RelV x v → RelV y u → R x y H2 → wpAny (model X.prog X.w) X.A (f v u) Q X.xe s2) :
    wpAny (model X.prog X.w) X.A (eval a X.env) (fun v s₁ => wpAny (model X.prog X.w) X.A (eval b X.env) (fun u s₂ => wpAny (model X.prog X.w) X.A (f v u) Q X.xe s₂) X.xe s₁) X.xe s := by
  refine thn (ha pins s σ H _ I h) fun v s1 ⟨x, H1, I1, r1, q1⟩ => ?_
  refine thn (hb pins s1 σ H1 _ I1 q1) fun u s2 ⟨y, H2, I2, r2, q2⟩ => ?_
  exact hf v u s2 x y H2 I2 r1 r2 q2
def tVar (i : Nat) : TE := fun σ H Q => ∃ v, σ[i]? = some (some v) ∧ Q v H
def tC (v : V) : TE := fun _ H Q => Q v H
theorem pe_var {i : Nat} {x : Str} {pos : Pos} (hN : X.N[i]? = some x) (hv : Vis X.env.scope x) (hd : (x == ("__debug__" : Str)) = false := by decide) (hcd : (x == ("__classdict__" : Str)) = false := by decide) : PE X (.Name x pos) (tVar i) := by
  intro pins s σ H Q I h
  obtain ⟨v, e, h⟩ := h
  obtain ⟨m, hn, hl⟩ := I.loc
  obtain ⟨u, r, l⟩ := hl i x v hN e hv
  have fin : EP X pins σ Q u s := ⟨v, H, I, r, h⟩
  rcases l with ⟨hk, hm⟩ | ⟨hk, c, hc, hcell⟩
  · exact wpAny_Name (wpAny_loadName_local I.ok.kind hk hn hm fin) hd
  · rcases hk with hk | hk
    · exact wpAny_Name (wpAny_loadName_cell I.ok.kind hk hc hcell fin) hd
    · exact wpAny_Name (wpAny_loadName_free I.ok.kind hk hc hcell fin hcd) hd
theorem pe_int {i j pos} : PE X (.Constant (.int i) j pos) (tC (.int i)) := fun _ _ _ H _ I h => wpAny_Constant_int ⟨.int i, H, I.tok _, ⟨_, rfl⟩, h⟩
theorem pe_bl {b j pos} : PE X (.Constant (.bool b) j pos) (tC (.bl b)) := fun _ _ _ H _ I h => Constant_bool ⟨.bl b, H, I, rfl, h⟩
theorem pe_non {j pos} : PE X (.Constant .none j pos) (tC .non) := fun _ _ _ H _ I h => Constant_none ⟨.non, H, I, rfl, h⟩
theorem pe_str {x j pos} : PE X (.Constant (.str x) j pos) (tC (.str x)) := fun _ _ _ H _ I h => Calls.Constant_str ⟨.str x, H, I.tok _, ⟨_, rfl⟩, h⟩
def Gl (X : Cx) (x : Str) : Prop := X.env.kindOf x = some .globalImplicit
theorem ld_glob {E : Value → Shared → Prop} {pins : List (Addr × Obj)} {s : Shared} {σ : St} {H : Hp} {x : Str} {u : Value} {pos : Pos} {Q : Value → Shared → Prop} (I : Inv X pins σ H s) (hg : Gl X x) (hm : X.mg x = some u) (h : Q u s)
    (hd : (x == ("__debug__" : Str)) = false := by decide) : wpAny (model X.prog X.w) X.A (eval (.Name x pos) X.env) Q E s :=
  Calls.Name_function_global I.ok.kind hg (Calls.loadGlobal_global (by rw [I.ok.glob]; exact I.mod.glob.keeps I.bk) hm h) hd
theorem ld_blt {E : Value → Shared → Prop} {pins : List (Addr × Obj)} {s : Shared} {σ : St} {H : Hp} {x : Str} {u : Value} {pos : Pos} {Q : Value → Shared → Prop} (I : Inv X pins σ H s) (hg : Gl X x) (hm : X.mg x = none) (hv : bootBuiltins x = some u) (h : Q u s)
    (hn : x ≠ "__name__" := by decide) (hd : (x == ("__debug__" : Str)) = false := by decide) : wpAny (model X.prog X.w) X.A (eval (.Name x pos) X.env) Q E s := by
  obtain ⟨mb, h1, h2⟩ := I.mod.blt
  exact Calls.Name_function_global I.ok.kind hg (Calls.loadGlobal_builtin (by rw [I.ok.glob]; exact I.mod.glob.keeps I.bk) hm (by rw [I.ok.blt]; exact h1.keeps I.bk) ((h2 x hn).trans hv) h) hd
theorem pe_glob {x : Str} {v : V} {u : Value} {pos : Pos} (hg : Gl X x) (hm : X.mg x = some u) (r : RelV v u) (hd : (x == ("__debug__" : Str)) = false := by decide) : PE X (.Name x pos) (tC v) :=
  fun _ _ _ H _ I h => ld_glob I hg hm ⟨v, H, I, r, h⟩ hd
theorem pe_bltn {x : Str} {v : V} {u : Value} {pos : Pos} (hg : Gl X x) (hm : X.mg x = none) (hv : bootBuiltins x = some u) (r : RelV v u) (hn : x ≠ "__name__" := by decide) (hd : (x == ("__debug__" : Str)) = false := by decide) : PE X (.Name x pos) (tC v) :=
  fun _ _ _ H _ I h => ld_blt I hg hm hv ⟨v, H, I, r, h⟩ hn hd
variable {a b : Expr} {ta tb : TE} {pos : Pos}
def PC (X : Cx) (op : CmpOp) (a b : Expr) (t : TE) : Prop :=
  ∀ (pins : List (Addr × Obj)) (s : Shared) (σ : St) (H : Hp) (Q : VK), Inv X pins σ H s → t σ H Q →
    wpAny (model X.prog X.w) X.A (eval a X.env) (fun v s₁ => wpAny (model X.prog X.w) X.A (eval b X.env) (fun u s₂ => wpAny (model X.prog X.w) X.A (compareOp op v u) (EP X pins σ Q) X.xe s₂) X.xe s₁) X.xe s
def tB (t : TE) : TT := fun σ H Q => t σ H fun x H1 => ∃ c, x = .bl c ∧ Q c H1
theorem pt_cmp {op : CmpOp} {t : TE} (h : PC X op a b t) (h1 : behindInMarks op b = false := by first | exact nobehind _ (by decide) (by decide) | rfl) : PT X (.Compare a [op] [b] pos) (tB t) := by
  intro pins s σ H Q I hw
  refine wpAny_isTrue_Compare1 (thn (h pins s σ H _ I hw) fun v s1 h1 => thn h1 fun u s2 h2 => thn h2 fun c s3 ⟨x, H1, I1, r1, q1⟩ => ?_) h1
  obtain ⟨d, rfl, q⟩ := q1
  cases r1
  exact wpAny_truthy_bool ⟨H1, I1, q⟩
theorem pt_val {e : Expr} {t : TE} (h : PE X e t) (he : ∀ whole, isTrue e X.env whole = (do let v ← whole; standAt e.pos; holding [v] (truthy v)) := by intro _; rfl) : PT X e (tB t) := by
  intro pins s σ H Q I hw
  refine isTrue_plain (thn (h pins s σ H _ I hw) fun v s1 ⟨x, H1, I1, r1, q1⟩ => ?_) (he _)
  obtain ⟨d, rfl, q⟩ := q1
  cases r1
  exact wpAny_truthy_bool ⟨H1, I1, q⟩
variable {tA tB' : TT} {rest : List Expr}
def tAnd (t u : TT) : TT := fun σ H Q => t σ H fun c H1 => if c = true then u σ H1 Q else Q false H1
def tOr (t u : TT) : TT := fun σ H Q => t σ H fun c H1 => if c = true then Q true H1 else u σ H1 Q
def tNot (t : TT) : TT := fun σ H Q => t σ H fun c H1 => Q (!c) H1
theorem pw_and1 (ha : PT X a tA) : PW X (.BoolOp .And [a] pos) tA := by
  intro wh pins s σ H Q I h
  refine isTrue_and (thn (ha pins s σ H Q I h) fun c s1 e => ?_)
  cases c with
  | true => exact isTrue_and_nil e
  | false => exact e
theorem pw_or1 (ha : PT X a tA) : PW X (.BoolOp .Or [a] pos) tA := by
  intro wh pins s σ H Q I h
  refine isTrue_or (thn (ha pins s σ H Q I h) fun c s1 e => ?_)
  cases c with
  | false => exact isTrue_or_nil e
  | true => exact e
theorem pw_and (ha : PT X a tA) (hb : PW X (.BoolOp .And (b :: rest) pos) tB') : PW X (.BoolOp .And (a :: b :: rest) pos) (tAnd tA tB') := by
  intro wh pins s σ H Q I h
  refine isTrue_and (thn (ha pins s σ H _ I h) fun c s1 ⟨H1, I1, q1⟩ => ?_)
  cases c with
  | true => exact hb wh pins s1 σ H1 Q I1 q1
  | false => exact ⟨H1, I1, q1⟩
theorem pw_or (ha : PT X a tA) (hb : PW X (.BoolOp .Or (b :: rest) pos) tB') : PW X (.BoolOp .Or (a :: b :: rest) pos) (tOr tA tB') := by
  intro wh pins s σ H Q I h
  refine isTrue_or (thn (ha pins s σ H _ I h) fun c s1 ⟨H1, I1, q1⟩ => ?_)
  cases c with
  | true => exact ⟨H1, I1, q1⟩
  | false => exact hb wh pins s1 σ H1 Q I1 q1
theorem pt_not (ha : PT X a tA) : PT X (.UnaryOp .Not a pos) (tNot tA) := by
  intro pins s σ H Q I h
  exact isTrue_not (ha pins s σ H (fun c H1 => Q (!c) H1) I h)
def tAndV (ta tb : TE) : TE := fun σ H Q => ta σ H fun x H1 => ∃ c, x = .bl c ∧ if c = true then tb σ H1 Q else Q (.bl false) H1
def tOrV (ta tb : TE) : TE := fun σ H Q => ta σ H fun x H1 => ∃ c, x = .bl c ∧ if c = true then Q (.bl true) H1 else tb σ H1 Q
def tNotV (ta : TE) : TE := fun σ H Q => ta σ H fun x H1 => ∃ c, x = .bl c ∧ Q (.bl (!c)) H1
theorem pe_one {op} {t : TE} (h : PE X a t) : PE X (.BoolOp op [a] pos) t := fun pins s σ H Q I hw => BoolOp_one (h pins s σ H Q I hw)
theorem pe_and (ha : PE X a ta) (hb : PE X (.BoolOp .And (b :: rest) pos) tb) : PE X (.BoolOp .And (a :: b :: rest) pos) (tAndV ta tb) := by
  intro pins s σ H Q I h
  refine BoolOp_and (thn (ha pins s σ H _ I h) fun v s1 ⟨x, H1, I1, r1, q1⟩ => ?_)
  obtain ⟨c, rfl, q1⟩ := q1
  cases r1
  refine wpAny_truthy_bool ?_
  cases c with
  | true => exact hb pins s1 σ H1 Q I1 q1
  | false => exact ⟨.bl false, H1, I1, rfl, q1⟩
theorem pe_or (ha : PE X a ta) (hb : PE X (.BoolOp .Or (b :: rest) pos) tb) : PE X (.BoolOp .Or (a :: b :: rest) pos) (tOrV ta tb) := by
  intro pins s σ H Q I h
  refine BoolOp_or (thn (ha pins s σ H _ I h) fun v s1 ⟨x, H1, I1, r1, q1⟩ => ?_)
  obtain ⟨c, rfl, q1⟩ := q1
  cases r1
  refine wpAny_truthy_bool ?_
  cases c with
  | false => exact hb pins s1 σ H1 Q I1 q1
  | true => exact ⟨.bl true, H1, I1, rfl, q1⟩
theorem pe_not (ha : PE X a ta) : PE X (.UnaryOp .Not a pos) (tNotV ta) := by
  intro pins s σ H Q I h
  refine UnaryOp_ (thn (ha pins s σ H _ I h) fun v s1 ⟨x, H1, I1, r1, q1⟩ => ?_)
  obtain ⟨c, rfl, q1⟩ := q1
  cases r1
  exact not_of (wpAny_truthy_bool ⟨.bl (!c), H1, I1, rfl, q1⟩)
end
def SqL (K : PySem.W.Frag) (H : Hp) (a : Addr) (xs : List V) : Prop :=
  Rd H a (.lst xs) ∨
    ∃ (o : Obj) (its : Array Value) (n : Nat), K.lookup a = some o ∧ o.cls = .type "list" ∧ o.dict = none ∧ o.data = .seq its n ∧ its.size ≤ sizeLine ∧ Vals xs its.toList
def SqT (K : PySem.W.Frag) (H : Hp) (a : Addr) (xs : List V) : Prop :=
  Rd H a (.tup xs) ∨
    ∃ (o : Obj) (its : Array Value) (n : Nat), K.lookup a = some o ∧ o.cls = .type "tuple" ∧ o.data = .seq its n ∧ its.size ≤ sizeLine ∧ Vals xs its.toList
def absV : Value → Option V
  | .none => some .non
  | .bool b => some (.bl b)
  | .int i _ => some (.int i)
  | .str x _ => some (.str x)
  | .bytes b _ => some (.byt b)
  | .float b _ => some (.flt b)
  | .ref a => some (.ref a)
  | .type n => some (.ty n)
  | _ => none
theorem RelV.abs {x : V} {u : Value} (r : RelV x u) : absV u = some x := by
  cases x with
  | non => cases r; rfl
  | bl _ => cases r; rfl
  | int _ => obtain ⟨t, rfl⟩ := r; rfl
  | str _ => obtain ⟨t, rfl⟩ := r; rfl
  | byt _ => obtain ⟨t, rfl⟩ := r; rfl
  | flt _ => obtain ⟨t, rfl⟩ := r; rfl
  | ref _ => cases r; rfl
  | ty _ => cases r; rfl
theorem RelV.inj {x y : V} {u : Value} (r : RelV x u) (q : RelV y u) : x = y := Option.some.inj (r.abs.symm.trans q.abs)
theorem Vals.inj : ∀ {xs ys : List V} {us : List Value}, Vals xs us → Vals ys us → xs = ys
  | _, _, _, .nil, .nil => rfl
  | _, _, _, .cons r t, .cons r' t' => by rw [r.inj r', Vals.inj t t']
section
variable {X : Cx} {pins : List (Addr × Obj)} {σ : St} {H : Hp} {s : Shared} {a : Addr} {xs ys : List V}
theorem SqL.of {K : PySem.W.Frag} (h : H a = some (.lst xs)) : SqL K H a xs := .inl (.inl h)
theorem SqT.of {K : PySem.W.Frag} (h : H a = some (.tup xs)) : SqT K H a xs := .inl (.inl h)
theorem Inv.list (I : Inv X pins σ H s) (h : SqL X.K H a xs) : ∃ its : List Value, Vals xs its ∧ PlainL s.heap a its.toArray ∧ xs.length ≤ sizeLine := by
  rcases h with h | ⟨o, its, n, hk, hc, hd, hs, hz, r⟩
  · obtain ⟨z, its, n, r, e⟩ := h.ok I.hok
    exact ⟨its, r, ⟨_, n, e, rfl, rfl, rfl⟩, z⟩
  · refine ⟨its.toList, r, ⟨o, n, I.kIn a o hk, hc, hd, by simpa using hs⟩, ?_⟩
    have e := r.length
    simp only [Array.length_toList] at e
    omega
theorem Inv.tuple (I : Inv X pins σ H s) (h : SqT X.K H a xs) : ∃ its : List Value, Vals xs its ∧ IsTup s.heap a its.toArray ∧ xs.length ≤ sizeLine := by
  rcases h with h | ⟨o, its, n, hk, hc, hs, hz, r⟩
  · obtain ⟨z, its, r, p⟩ := h.ok I.hok
    exact ⟨its, r, p, z⟩
  · refine ⟨its.toList, r, ⟨o, I.kIn a o hk, hc, n, by simpa using hs⟩, ?_⟩
    have e := r.length
    simp only [Array.length_toList] at e
    omega
theorem Inv.list_inj (I : Inv X pins σ H s) (h : SqL X.K H a xs) (h' : SqL X.K H a ys) : xs = ys := by
  obtain ⟨its, r, ⟨o, n, e, _, _, d⟩, _⟩ := I.list h
  obtain ⟨its', r', ⟨o', n', e', _, _, d'⟩, _⟩ := I.list h'
  rw [e] at e'; cases e'
  rw [d] at d'
  injection d' with d1 _
  have : its = its' := by simpa using congrArg Array.toList d1
  subst this
  exact r.inj r'
end
abbrev Cx.wish (X : Cx) (E : Value → Shared → Prop) : Cx := { X with xe := E }
abbrev Cx.nox (X : Cx) : Cx := X.wish fun _ _ => False
theorem Cx.Ok.wish {X : Cx} (ok : X.Ok) (E : Value → Shared → Prop) : (X.wish E).Ok :=
  ⟨ok.mod, ok.kind, ok.glob, ok.blt, ok.above, ok.inj, ok.has, ok.cab, ok.hd, ok.st, ok.frames, ok.stk, ok.exf, ok.bs, ok.bsz, ok.noex, ok.exfs, ok.funs, ok.frf⟩
theorem Cx.Ok.unwish {X : Cx} {E : Value → Shared → Prop} (ok : (X.wish E).Ok) : X.Ok :=
  ⟨ok.mod, ok.kind, ok.glob, ok.blt, ok.above, ok.inj, ok.has, ok.cab, ok.hd, ok.st, ok.frames, ok.stk, ok.exf, ok.bs, ok.bsz, ok.noex, ok.exfs, ok.funs, ok.frf⟩
section
variable {X : Cx} {pins : List (Addr × Obj)} {σ : St} {H : Hp} {s : Shared} {E : Value → Shared → Prop}
theorem Inv.wish (I : Inv X pins σ H s) (E : Value → Shared → Prop) : Inv (X.wish E) pins σ H s := ⟨I.ok.wish E, I.os, I.bare, I.base, I.loc, I.cell, I.free, I.freeC, I.pin, I.hok, I.len⟩
theorem Inv.unwish (I : Inv (X.wish E) pins σ H s) : Inv X pins σ H s := ⟨I.ok.unwish, I.os, I.bare, I.base, I.loc, I.cell, I.free, I.freeC, I.pin, I.hok, I.len⟩
theorem SP.unwish {D : Ends} {f : Flow} {s' : Shared} (h : SP (X.wish E) pins D f s') : SP X pins D f s' := by
  cases f with
  | next => obtain ⟨σ', H', I, q⟩ := h; exact ⟨σ', H', I.unwish, q⟩
  | brk => obtain ⟨σ', H', I, q⟩ := h; exact ⟨σ', H', I.unwish, q⟩
  | cont => obtain ⟨σ', H', I, q⟩ := h; exact ⟨σ', H', I.unwish, q⟩
  | ret u => obtain ⟨v, σ', H', I, r, q⟩ := h; exact ⟨v, σ', H', I.unwish, r, q⟩
theorem PSs.nox {st : List Stmt} {t : TS} (h : PSs X.nox st t) : PSs X st t := fun pins s σ H D I hw =>
  wpAny_mono (h pins s σ H D (I.wish _) hw) (fun _ _ q => q.unwish) fun _ _ z => False.elim z
end
section
variable {X : Cx} {st : Stmt} {rest : List Stmt} {t u : TS} {e : Expr} {te : TE} {pos : Pos}
def tNext : TS := fun D σ H => D.nx σ H
def tSeq (t u : TS) : TS := fun D σ H => t { D with nx := u D } σ H
theorem pss_nil : PSs X [] tNext := fun _ _ σ H _ I h => wpAny_execs_nil ⟨σ, H, I, h⟩
theorem pss_cons (h1 : PS X st t) (h2 : PSs X rest u) : PSs X (st :: rest) (tSeq t u) := by
  intro pins s σ H D I h
  refine wpAny_execs_cons (thn (h1 pins s σ H { D with nx := u D } I h) fun f s1 q => ?_)
  cases f with
  | next =>
    obtain ⟨σ', H', I', q⟩ := q
    exact h2 pins s1 σ' H' D I' q
  | ret v => exact q
  | brk => exact q
  | cont => exact q
theorem pss_one (h1 : PS X st t) : PSs X [st] t := by
  intro pins s σ H D I h
  refine wpAny_execs_cons (thn (h1 pins s σ H D I h) fun f s1 q => ?_)
  cases f with
  | next => exact wpAny_execs_nil q
  | ret v => exact q
  | brk => exact q
  | cont => exact q
theorem Inv.quiet {pins : List (Addr × Obj)} {σ : St} {H : Hp} {s : Shared} (I : Inv X pins σ H s) : interactive X.env = false := by simp [interactive, I.ok.kind]
def tDrop (te : TE) : TS := fun D σ H => te σ H fun _ H1 => D.nx σ H1
theorem ps_expr (he : PE X e te) (hs : swapsWith e none pos.line X.env = pure false := by rfl) : PS X (.Expr e pos) (tDrop te) := by
  intro pins s σ H D I h
  exact wpAny_Expr_any (thn (he pins s σ H _ I h) fun v s1 ⟨x, H1, I1, r1, q1⟩ => ⟨σ, H1, I1, q1⟩) I.quiet hs
def tRet (te : TE) : TS := fun D σ H => te σ H D.rt
theorem ps_ret (he : PE X e te) : PS X (.Return (some e) pos) (tRet te) := by
  intro pins s σ H D I h
  exact wpAny_Return_some (thn (he pins s σ H _ I h) fun v s1 ⟨x, H1, I1, r1, q1⟩ => ⟨x, σ, H1, I1, r1, q1⟩)
def tIfS (c : TT) (t u : TS) : TS := fun D σ H => c σ H fun b H1 => if b = true then t D σ H1 else u D σ H1
theorem ps_if {c : Expr} {a b : List Stmt} {tc : TT} (hc : PT X c tc) (ha : PSs X a t) (hb : PSs X b u) : PS X (.If c a b pos) (tIfS tc t u) := by
  intro pins s σ H D I h
  refine wpAny_If (thn (hc pins s σ H _ I h) fun d s1 ⟨H1, I1, q1⟩ => ?_)
  cases d with
  | true => exact ha pins s1 σ H1 D I1 q1
  | false => exact hb pins s1 σ H1 D I1 q1
def tNever : TS := fun _ _ _ => False
theorem pss_never {sts : List Stmt} : PSs X sts tNever := fun _ _ _ _ _ _ h => h.elim
end
abbrev TG := V → St → Hp → (St → Hp → Prop) → Prop
abbrev TGs := List V → St → Hp → (St → Hp → Prop) → Prop
def PG (X : Cx) (target : Expr) (t : TG) : Prop :=
  ∀ (pins : List (Addr × Obj)) (s : Shared) (σ : St) (H : Hp) (v : V) (u : Value) (Q : St → Hp → Prop), Inv X pins σ H s → RelV v u → t v σ H Q →
    wpAny (model X.prog X.w) X.A (assign target X.env u) (fun _ s' => ∃ σ' H', Inv X pins σ' H' s' ∧ Q σ' H') X.xe s
def PGs (X : Cx) (ts : List Expr) (t : TGs) : Prop :=
  ∀ (pins : List (Addr × Obj)) (s : Shared) (σ : St) (H : Hp) (vs : List V) (us : List Value) (Q : St → Hp → Prop), Inv X pins σ H s → Vals vs us → t vs σ H Q →
    wpAny (model X.prog X.w) X.A (assignInOrder ((assignEach ts X.env).map (·.2)) us) (fun _ s' => ∃ σ' H', Inv X pins σ' H' s' ∧ Q σ' H') X.xe s
section
variable {X : Cx} {pos : Pos}
def gName (i : Nat) : TG := fun v σ H Q => Q (σ.set i (some v)) H
theorem pg_name {i : Nat} {x : Str} (hN : X.N.Nodup) (hi : X.N[i]? = some x) (hx : Loc X.env.scope x) (hf : X.fn x = true ∨ X.env.scope.names.lookup x = some .local := by first | exact .inl rfl | exact .inr rfl | assumption) : PG X (.Name x pos) (gName i) := by
  intro pins s σ H v u Q I r h
  exact wpAny_assign_Name (store_ok I hN hi hx r (fun s' I' => ⟨_, H, I', h⟩) hf)
def gNil : TGs := fun vs σ H Q => vs = [] ∧ Q σ H
def gCons (t : TG) (u : TGs) : TGs := fun vs σ H Q => ∃ v r, vs = v :: r ∧ t v σ H fun σ' H' => u r σ' H' Q
theorem pgs_nil : PGs X [] gNil := by
  intro pins s σ H vs us Q I r h
  obtain ⟨e, h⟩ := h
  subst e
  cases r
  exact assignInOrder_nil ⟨σ, H, I, h⟩
theorem pgs_cons {e : Expr} {es : List Expr} {t : TG} {u : TGs} (h1 : PG X e t) (h2 : PGs X es u)
    (hs : (assignEach (e :: es) X.env).map (·.2) = assign e X.env :: (assignEach es X.env).map (·.2) := by rfl) : PGs X (e :: es) (gCons t u) := by
  intro pins s σ H vs us Q I r h
  obtain ⟨v, vr, e1, h⟩ := h
  subst e1
  cases r with
  | cons r rr =>
    rw [hs]
    refine assignInOrder_cons (thn (h1 pins s σ H _ _ _ I r h) fun _ s1 ⟨σ1, H1, I1, q1⟩ => ?_)
    exact h2 pins s1 σ1 H1 _ _ Q I1 rr q1
def gTup (K : PySem.W.Frag) (n : Nat) (t : TGs) : TG := fun v σ H Q => ∃ a xs, v = .ref a ∧ SqT K H a xs ∧ xs.length = n ∧ t xs σ H Q
theorem pg_tup {es : List Expr} {k : Nat} {t : TGs} {n : Nat} (hc : X.calm = true) (h : PGs X es t)
    (hn : (assignEach es X.env).length = n := by rfl) (hst : (assignEach es X.env).findIdx? (·.1) = none := by rfl) : PG X (.Tuple es k pos) (gTup X.K n t) := by
  intro pins s σ H v u Q I r hw
  obtain ⟨a, xs, e1, hq, hl, hw⟩ := hw
  subst e1
  cases r
  obtain ⟨its, rv, ht, hz⟩ := I.tuple hq
  refine asg_tup (I.calmS hc) ht (by simp [hn, ← hl, rv.length]) hst fun h' hx => ?_
  have I1 : Inv X pins σ H { s with heap := h' } := I.kept (t' := s.toks) fun b o e => hx b o (Nat.ne_of_lt (Heap.lt_size e)) e
  exact h pins _ σ H xs _ Q I1 (by simpa using rv) hw
def tAsg (te : TE) (g : TG) : TS := fun D σ H => te σ H fun x H1 => g x σ H1 D.nx
theorem ps_asg {tg e : Expr} {te : TE} {g : TG} (he : PE X e te) (hg : PG X tg g) (hs : swapsWithSole [tg] e pos.line X.env = pure false := by rfl) (hw : swappedStores [tg] e X.env = pure none := by rfl)
    (h1 : (assignEach [tg] X.env).map (·.2) = [assign tg X.env] := by rfl) : PS X (.Assign [tg] e pos) (tAsg te g) := by
  intro pins s σ H D I h
  refine wpAny_Assign_stores (thn (he pins s σ H _ I h) fun v s1 ⟨x, H1, I1, r1, q1⟩ => ?_) hs hw
  rw [h1]
  exact thn (hg pins s1 σ H1 x v _ I1 r1 q1) fun _ s2 q => q
theorem ps_set {i : Nat} {x : Str} {e : Expr} {te : TE} {pos' : Pos} (hN : X.N.Nodup) (hi : X.N[i]? = some x) (hx : Loc X.env.scope x) (he : PE X e te) (hs : swapsWith e (some (.Name x pos')) pos.line X.env = pure false := by rfl) (hf : X.fn x = true ∨ X.env.scope.names.lookup x = some .local := by first | exact .inl rfl | exact .inr rfl | assumption) :
    PS X (.Assign [.Name x pos'] e pos) (tAsg te (gName i)) := by
  intro pins s σ H D I h
  refine wpAny_Assign_Name (thn (he pins s σ H _ I h) fun v s1 ⟨y, H1, I1, r1, q1⟩ => ?_) hs
  exact store_ok I1 hN hi hx r1 (fun s2 I2 => ⟨_, H1, I2, q1⟩) hf
end
section
variable {X : Cx} {pos : Pos}
def tWhile (c : TT) (tb : TS) : TS := fun D σ H => ∃ W : Nat → St → Hp → Prop, (∃ m, W m σ H) ∧ ∀ m σ H, W m σ H →
  c σ H fun b H1 => if b = true then ∃ N : St → Hp → Prop, (∀ σ' H', N σ' H' → ∃ m', m' < m ∧ W m' σ' H') ∧ tb { D with nx := N, ct := N, bk := D.nx } σ H1 else D.nx σ H1
theorem ps_while {c : Expr} {body : List Stmt} {tc : TT} {tb : TS} (hp : PassesOwn (model X.prog X.w) X.A X.env X.xe) (hc : PT X c tc) (hb : PSs X body tb) : PS X (.While c body [] pos) (tWhile tc tb) := by
  intro pins s σ H D I h
  obtain ⟨W, ⟨m0, w0⟩, turn⟩ := h
  refine wpAny_While (codeAny_whileLoop (fun n s' => ∃ σ' H', Inv X pins σ' H' s' ∧ W n σ' H') ?_ m0 ⟨σ, H, I, w0⟩)
  rintro n s1 ⟨σ1, H1, I1, w1⟩
  refine wpAny_passesOwn hp (thn (hc pins s1 σ1 H1 _ I1 (turn n σ1 H1 w1)) fun b s2 ⟨H2, I2, q2⟩ => ?_)
  cases b with
  | true =>
    obtain ⟨N, hN, q2⟩ := q2
    rw [if_pos rfl]
    refine wpAny_passesOwn hp (thn (hb pins s2 σ1 H2 _ I2 q2) fun f s3 q3 => ?_)
    cases f with
    | next =>
      obtain ⟨σ3, H3, I3, n3⟩ := q3
      obtain ⟨m', hm, w3⟩ := hN σ3 H3 n3
      exact ⟨m', hm, σ3, H3, I3, w3⟩
    | cont =>
      obtain ⟨σ3, H3, I3, n3⟩ := q3
      obtain ⟨m', hm, w3⟩ := hN σ3 H3 n3
      exact ⟨m', hm, σ3, H3, I3, w3⟩
    | brk => exact q3
    | ret v => exact q3
  | false =>
    rw [if_neg Bool.false_ne_true]
    exact wpAny_execs_nil ⟨σ1, H2, I2, q2⟩
end
structure It where
  go : Nat → Hp → Prop
  yld : Nat → Hp → V → Hp → Prop
  stop : Nat → Hp → Prop
def FpOk (X : Cx) (pins : List (Addr × Obj)) (H : Hp) (b : Addr) : Prop :=
  H b = none ∧ b ≠ X.env.locals ∧ b ∉ X.fs ∧ (b ∈ X.ex ∨ X.s₀.heap.objs.size ≤ b) ∧ (∀ x c, X.env.cells.lookup x = some c → c ≠ b) ∧ ∀ p ∈ X.pn ++ pins, p.1 ≠ b
theorem Inv.fpOk {X : Cx} {pins : List (Addr × Obj)} {σ : St} {H H' : Hp} {s : Shared} {b : Addr} (I : Inv X pins σ H s) (hb : s.heap.objs.size ≤ b) (hn : H' b = none) : FpOk X pins H' b := by
  refine ⟨hn, Nat.ne_of_gt (Nat.lt_of_lt_of_le I.lt hb), I.nofs hb, .inr (Nat.le_trans I.sz hb), fun x c e z => ?_, fun p hp z => ?_⟩
  · obtain ⟨v, q⟩ := I.cell x c e
    exact absurd (Nat.lt_of_lt_of_le q.lt (by rw [z]; exact hb)) (Nat.lt_irrefl _)
  · exact absurd (Nat.lt_of_lt_of_le (Heap.lt_size (I.pin p hp).1) (by rw [z]; exact hb)) (Nat.lt_irrefl _)
structure Turn (P : Program) (w : World) (K : PySem.W.Frag) (tg : Expr) (J : It) (fp : List Addr) (it : Addr) (tn : Nat → Heap → Prop) : Prop where
  mem : it ∈ fp
  obj : ∀ i h, tn i h → ∀ b ∈ fp, ∃ o, h.get? b = some o ∧ ∀ v, o.data ≠ .cell v
  keep : ∀ i h h', tn i h → (∀ b ∈ fp, ∀ o, h.get? b = some o → h'.get? b = some o) → tn i h'
  item : ∀ (X : Cx), X.prog = P → X.w = w → X.K = K → X.calm = true → ∀ (i : Nat) (pins : List (Addr × Obj)) (s : Shared) (σ : St) (H : Hp) (E : Value → Shared → Prop), Inv X pins σ H s → (∀ b ∈ fp, FpOk X pins H b) → tn i s.heap → J.go i H →
    wpAny (model P w) X.A (pyNext (.ref it)) (fun r s1 => ∃ u, r = some u ∧
      wpAny (model P w) X.A (letOwnedTupleGo tg (.ref it) u) (fun _ s2 => ∃ x H', Inv X pins σ H' s2 ∧ RelV x u ∧ J.yld i H x H' ∧ tn (i + 1) s2.heap ∧ ∀ b ∈ fp, H' b = none) E s1) E s
  done : ∀ (X : Cx), X.prog = P → X.w = w → X.K = K → X.calm = true → ∀ (i : Nat) (pins : List (Addr × Obj)) (s : Shared) (σ : St) (H : Hp) (E : Value → Shared → Prop), Inv X pins σ H s → (∀ b ∈ fp, FpOk X pins H b) → tn i s.heap → J.stop i H →
    wpAny (model P w) X.A (pyNext (.ref it)) (fun r s1 => r = none ∧ Inv X pins σ H s1) E s
  self : ∀ (A : Around) (i : Nat) (s : Shared) (Q : Value → Shared → Prop) (E : Value → Shared → Prop), tn i s.heap → Q (.ref it) s → wpAny (model P w) A (pyIter (.ref it)) Q E s
abbrev TI := St → Hp → (It → Hp → Prop) → Prop
def PIE (X : Cx) (pins : List (Addr × Obj)) (σ : St) (tg : Expr) (R : It → Hp → Prop) (itv : Value) (s2 : Shared) : Prop :=
  ∃ (it : Addr) (fp : List Addr) (tn : Nat → Heap → Prop) (J : It) (H' : Hp), itv = .ref it ∧ Inv X pins σ H' s2 ∧ Turn X.prog X.w X.K tg J fp it tn ∧ tn 0 s2.heap ∧ (∀ b ∈ fp, FpOk X pins H' b) ∧ R J H'
def PI (X : Cx) (tg iter : Expr) (wi : TI) : Prop :=
  ∀ (pins : List (Addr × Obj)) (s : Shared) (σ : St) (H : Hp) (R : It → Hp → Prop), Inv X pins σ H s → wi σ H R →
    wpAny (model X.prog X.w) X.A (eval iter X.env) (fun v s1 => wpAny (model X.prog X.w) X.A (pyIter v) (PIE X pins σ tg R) X.xe s1) X.xe s
theorem go_of {M : Model} {A : Around} {E : Value → Shared → Prop} {s : Shared} {tg : Expr} {it : Addr} {u : Value} {o : Obj} {n : String} {vs : Array Value} {Q : Unit → Shared → Prop} (ho : s.heap.get? it = some o) (hc : o.cls = .type n) (hd : o.data = .fields vs)
    (hn : ["enumerate", "zip", "dict_itemiterator", "dict_reverseitemiterator", "odict_iterator", "itertools.zip_longest", "itertools.pairwise"].contains n = false) (hQ : Q () s) : wpAny M A (letOwnedTupleGo tg (.ref it) u) Q E s := by
  unfold letOwnedTupleGo
  cases tg <;> first
    | exact wpAny_pure hQ
    | (cases u <;> first
        | exact wpAny_pure hQ
        | (refine wpAny_bind (wpAny_load ho ?_)
           rw [hc, hd]
           show wpAny M A (if (["enumerate", "zip", "dict_itemiterator", "dict_reverseitemiterator", "odict_iterator", "itertools.zip_longest", "itertools.pairwise"].contains n && vs[0]? == some (rawInt _)) = true then _ else _) Q E s
           rw [if_neg (by intro h; rw [hn, Bool.false_and] at h; cases h)]
           exact wpAny_pure hQ))
def Itl (K : PySem.W.Frag) (a : Addr) : It :=
  ⟨fun i H => ∃ xs x, SqL K H a xs ∧ xs[i]? = some x, fun i H x H' => H' = H ∧ ∀ xs, SqL K H a xs → xs[i]? = some x, fun i H => ∃ xs, SqL K H a xs ∧ xs.length ≤ i⟩
def Itr (lo : Int) (n : Nat) : It := ⟨fun i _ => i < n, fun i H x H' => H' = H ∧ x = .int (lo + i), fun i _ => n ≤ i⟩
theorem turn_list {P : Program} {w : World} {K : PySem.W.Frag} {tg : Expr} (a it : Addr) : Turn P w K tg (Itl K a) [it] it (fun i h => h.IsListIter it a i) where
  mem := by simp
  obj := fun i h st b hb => by
    have e : b = it := by simpa using hb
    subst e
    obtain ⟨o, e, c, d⟩ := st
    exact ⟨o, e, fun v z => by rw [d] at z; cases z⟩
  keep := fun i h h' st k => st.at fun o e => k it (by simp) o e
  item := by
    intro X hP hw hK hc i pins s σ H E I hf st hg
    subst hP hw hK
    obtain ⟨xs, x, hq, hx⟩ := hg
    obtain ⟨its, rv, p, hz⟩ := I.list hq
    obtain ⟨u, hu, ru⟩ := rv.get hx
    obtain ⟨f0, f1, f2, f3, f4, f5⟩ := hf it (by simp)
    refine wpAny_pyNext_list_item st p.isList (x := u) (by simpa using hu) fun h' st' sb => ?_
    have I1 : Inv X pins σ H { s with heap := h' } := I.turned (t' := s.toks) (fun b o hb e => (sb.2 b hb).trans e) f0 f1 f3 f4 f5
    obtain ⟨o, e, c, d⟩ := id st'
    exact ⟨u, rfl, go_of (s := { s with heap := h' }) e c d (by decide) ⟨x, H, I1, ru, ⟨rfl, fun ys hy => by rw [I.list_inj hy hq]; exact hx⟩, st', fun b hb => (hf b hb).1⟩⟩
  done := by
    intro X hP hw hK hc i pins s σ H E I hf st hg
    subst hP hw hK
    obtain ⟨xs, hq, hx⟩ := hg
    obtain ⟨its, rv, p, hz⟩ := I.list hq
    obtain ⟨f0, f1, f2, f3, f4, f5⟩ := hf it (by simp)
    have hl := rv.length
    exact nx_list (I.calmS hc) st p.isList (by simp; omega) fun h' eb => ⟨rfl, I.turned (t' := s.toks) (fun b o hb e => eb b o hb e) f0 f1 f3 f4 f5⟩
  self := fun _ _ _ _ _ st h => wpAny_pyIter_listiter st h
theorem turn_range {P : Program} {w : World} {K : PySem.W.Frag} {tg : Expr} (it : Addr) (lo : Int) (n : Nat) : Turn P w K tg (Itr lo n) [it] it (fun i h => IsRangeIter h it (lo + (i : Nat) * 1) ((n : Int) - (i : Nat)) 1) where
  mem := by simp
  obj := fun i h st b hb => by
    have e : b = it := by simpa using hb
    subst e
    exact ⟨_, st, fun v z => by
      have z' : Data.fields _ = Data.cell v := z
      cases z'⟩
  keep := fun i h h' st k => k it (by simp) _ st
  item := by
    intro X hP hw hK hc i pins s σ H E I hf st hg
    subst hP hw hK
    obtain ⟨f0, f1, f2, f3, f4, f5⟩ := hf it (by simp)
    have W0 : True := trivial
    refine rng_item i s _ _ hg st fun v h' tk hv st' kk => ?_
    obtain ⟨t, rfl⟩ := hv
    have I1 : Inv X pins σ H { s with heap := h', toks := tk } := I.turned (fun b o hb e => kk b o (by simpa using hb) e) f0 f1 f3 f4 f5
    refine ⟨_, rfl, go_of (s := { s with heap := h', toks := tk }) (n := "range_iterator") st' rfl rfl (by decide) ⟨.int (lo + i), H, I1, ⟨t, ?_⟩, ⟨rfl, rfl⟩, st', fun b hb => (hf b hb).1⟩⟩
    rw [Int.mul_one]
  done := by
    intro X hP hw hK hc i pins s σ H E I hf st hg
    subst hP hw hK
    obtain ⟨f0, f1, f2, f3, f4, f5⟩ := hf it (by simp)
    exact nx_range (I.calmS hc) st (by have : n ≤ i := hg; omega) fun h' eb => ⟨rfl, I.turned (t' := s.toks) (fun b o hb e => eb b o hb e) f0 f1 f3 f4 f5⟩
  self := fun _ _ _ _ _ st h => wpAny_pyIter_rangeiter st h
section
variable {X : Cx} {tg : Expr}
def iList (K : PySem.W.Frag) (tl : TE) : TI := fun σ H R => tl σ H fun x H1 => ∃ a, x = .ref a ∧ (∃ xs, SqL K H1 a xs) ∧ R (Itl K a) H1
theorem pi_list {l : Expr} {tl : TE} (hl : PE X l tl) : PI X tg l (iList X.K tl) := by
  intro pins s σ H R I h
  refine thn (hl pins s σ H _ I h) fun v s1 ⟨x, H1, I1, r1, q1⟩ => ?_
  obtain ⟨a, e, ⟨xs, hq⟩, q⟩ := q1
  subst e
  cases r1
  obtain ⟨its, rv, p, hz⟩ := I1.list hq
  refine wpAny_pyIter_list p.isList ?_
  refine ⟨s1.heap.objs.size, [s1.heap.objs.size], _, _, H1, rfl, I1.kept (t' := s1.toks) fun b o e => Heap.get?_push_of_some _ e, turn_list a _, ⟨_, Heap.get?_push_size _ rfl, rfl, rfl⟩, fun b hb => ?_, q⟩
  have e : b = s1.heap.objs.size := by simpa using hb
  subst e
  exact I1.fpOk (Nat.le_refl _) (I1.hok.fresh (Nat.le_refl _))
theorem range_it {pins : List (Addr × Obj)} {σ : St} {H : Hp} {s : Shared} {R : It → Hp → Prop} {E : Value → Shared → Prop} {lo hi : Int} {t u v : Tok} {tk : Nat} (I : Inv X pins σ H s) (h1 : -(2 ^ 62) ≤ lo) (h2 : lo < 2 ^ 62) (h3 : -(2 ^ 62) ≤ hi) (h4 : hi < 2 ^ 62)
    (q : R (Itr lo (hi - lo).toNat) H) : wpAny (model X.prog X.w) X.A (pyIter (.ref s.heap.objs.size)) (PIE X pins σ tg R) E { s with heap := s.heap.push { cls := .type "range", data := .fields #[.int lo t, .int hi u, .int 1 v] }, toks := tk } := by
  refine wpAny_pyIter_range (IsRange.new ..) (small_one h1 h2 h3 h4) ?_
  have I1 : Inv X pins σ H { s with heap := s.heap.push { cls := .type "range", data := .fields #[.int lo t, .int hi u, .int 1 v] }, toks := tk } := I.kept fun b o e => Heap.get?_push_of_some _ e
  refine ⟨(s.heap.push { cls := .type "range", data := .fields #[.int lo t, .int hi u, .int 1 v] }).objs.size, [(s.heap.push { cls := .type "range", data := .fields #[.int lo t, .int hi u, .int 1 v] }).objs.size], _, _, H, rfl,
    I1.kept (t' := tk) fun b o e => Heap.get?_push_of_some _ e, turn_range _ lo (hi - lo).toNat, ?_, fun b hb => ?_, q⟩
  · have e1 : lo + ((0 : Nat) : Int) * 1 = lo := by simp
    have e2 : (((hi - lo).toNat : Nat) : Int) - ((0 : Nat) : Int) = Builtin.Range.rangeSize lo hi 1 := by rw [rangeSize_one]; split <;> omega
    show IsRangeIter _ _ (lo + ((0 : Nat) : Int) * 1) ((((hi - lo).toNat : Nat) : Int) - ((0 : Nat) : Int)) 1
    rw [e1, e2]
    exact Heap.get?_push_size _ rfl
  · have e : b = (s.heap.push { cls := .type "range", data := .fields #[.int lo t, .int hi u, .int 1 v] }).objs.size := by simpa using hb
    subst e
    exact I1.fpOk (Nat.le_refl _) (I1.hok.fresh (Nat.le_refl _))
def iRng1 (ta : TA) : TI := fun σ H R => ta σ H fun vs H1 => ∃ j : Int, vs = [.int j] ∧ -(2 ^ 62) ≤ j ∧ j < 2 ^ 62 ∧ R (Itr 0 j.toNat) H1
theorem pi_range1 {a : Expr} {ta : TA} {p pos : Pos} (hg : Gl X "range") (hm : X.mg "range" = none) (ha : PA X [a] ta) (hs : starEach [a] X.env = [(false, eval a X.env)] := by rfl) : PI X tg (.Call (.Name "range" p) [a] [] pos) (iRng1 ta) := by
  intro pins s σ H R I h
  refine Call_ (ld_blt I hg hm boot_range (PyProof.Rows.callWith_type1 (thn (ha pos pins s σ H _ I h) fun us s1 ⟨vs, H1, I1, r1, q1⟩ => ?_) hs rfl))
  obtain ⟨j, e, q1, q2, q⟩ := q1
  subst e
  cases r1 with
  | cons r rr =>
    cases rr
    obtain ⟨t, rfl⟩ := r
    exact call_range_1 (range_it I1 (by omega) (by omega) q1 q2 (by simpa using q))
def tFor (wi : TI) (g : TG) (tb : TS) : TS := fun D σ H => wi σ H fun J H1 => ∃ W : Nat → Nat → St → Hp → Prop, (∃ m, W 0 m σ H1) ∧ ∀ i m σ H, W i m σ H →
  (J.stop i H ∧ D.nx σ H) ∨ (J.go i H ∧ ∃ N : St → Hp → Prop, (∀ σ' H', N σ' H' → ∃ m', m' < m ∧ W (i + 1) m' σ' H') ∧ ∀ x H', J.yld i H x H' → g x σ H' fun σ2 H2 => tb { D with nx := N, ct := N, bk := D.nx } σ2 H2)
def pinsAt (fp : List Addr) (h : Heap) : List (Addr × Obj) := fp.filterMap fun b => (h.get? b).map fun o => (b, o)
theorem mem_pinsAt {fp : List Addr} {h : Heap} {b : Addr} {o : Obj} (hb : b ∈ fp) (e : h.get? b = some o) : (b, o) ∈ pinsAt fp h := List.mem_filterMap.mpr ⟨b, hb, by rw [e]; rfl⟩
theorem of_pinsAt {fp : List Addr} {h : Heap} {p : Addr × Obj} (hp : p ∈ pinsAt fp h) : p.1 ∈ fp ∧ h.get? p.1 = some p.2 := by
  obtain ⟨b, hb, e⟩ := List.mem_filterMap.mp hp
  cases q : h.get? b with
  | none => rw [q] at e; cases e
  | some o =>
    rw [q] at e
    have e' : (b, o) = p := Option.some.inj e
    subst e'
    exact ⟨hb, q⟩
theorem Inv.pinned {pins : List (Addr × Obj)} {σ : St} {H : Hp} {s : Shared} {fp : List Addr} (I : Inv X pins σ H s) (hf : ∀ b ∈ fp, FpOk X pins H b) (ho : ∀ b ∈ fp, ∃ o, s.heap.get? b = some o ∧ ∀ v, o.data ≠ .cell v) : Inv X (pins ++ pinsAt fp s.heap) σ H s :=
  I.pins_of fun p hp => (List.mem_append.mp hp).elim (fun z => I.pin p (List.mem_append_right _ z)) fun z => by
    obtain ⟨hb, e⟩ := of_pinsAt z
    obtain ⟨f0, f1, f2, _⟩ := hf p.1 hb
    obtain ⟨o, e', d⟩ := ho p.1 hb
    rw [e] at e'; cases e'
    exact ⟨e, f0, f1, f2, d⟩
theorem Inv.unpinned {pins pl : List (Addr × Obj)} {σ : St} {H : Hp} {s : Shared} (I : Inv X (pins ++ pl) σ H s) : Inv X pins σ H s := I.pins_of fun p hp => I.pin p (List.mem_append_right _ (List.mem_append_left _ hp))
theorem ps_for {iter : Expr} {body : List Stmt} {wi : TI} {g : TG} {tb : TS} {pos : Pos} (hp : PassesOwn (model X.prog X.w) X.A X.env X.xe) (hc : X.calm = true) (hi : PI X tg iter wi) (hg : PG X tg g) (hb : PSs X body tb)
    (hs : ∀ x, foldedSetIterable iter X.env x = pure x := by intro _; rfl) : PS X (.For tg iter body [] pos) (tFor wi g tb) := by
  intro pins s σ H D I h
  refine wpAny_For (thn (hi pins s σ H _ I h) fun v s1 h1 => thn h1 fun itv s2 h2 => ?_) hs
  obtain ⟨it, fp, tn, J, H2, e, I2, T, st2, f2, W, ⟨m0, w0⟩, turn⟩ := h2
  subst e
  -- what stays true of the iterator's objects through the loop
  have stat : ∀ {H' : Hp}, (∀ b ∈ fp, H' b = none) → ∀ b ∈ fp, FpOk X pins H' b := fun hn b hb => ⟨hn b hb, (f2 b hb).2⟩
  refine codeAny_forLoop_any (fun n s' => ∃ i σ' H', Inv X pins σ' H' s' ∧ tn i s'.heap ∧ (∀ b ∈ fp, H' b = none) ∧ W i n σ' H') ?_ m0 ⟨0, σ, H2, I2, st2, fun b hb => (f2 b hb).1, w0⟩
  rintro n s3 ⟨i, σ3, H3, I3, st3, fr3, w3⟩
  rcases turn i n σ3 H3 w3 with ⟨stop, qn⟩ | ⟨go, N, hN, step⟩
  · refine wpAny_passesOwn hp (thn (T.done X rfl rfl rfl hc i pins s3 σ3 H3 X.xe I3 (stat fr3) st3 stop) fun r s4 ⟨hr, I4⟩ => ?_)
    subst hr
    exact wpAny_execs_nil ⟨σ3, H3, I4, qn⟩
  · refine wpAny_passesOwn hp (thn (T.item X rfl rfl rfl hc i pins s3 σ3 H3 X.xe I3 (stat fr3) st3 go) fun r s4 ⟨u, hr, h4⟩ => ?_)
    subst hr
    refine wpAny_passesOwn hp (thn h4 fun _ s5 ⟨x, H5, I5, r5, y5, st5, fr5⟩ => ?_)
    have I5' := I5.pinned (stat fr5) (T.obj _ _ st5)
    refine wpAny_passesOwn hp (thn (hg _ s5 σ3 H5 x u _ I5' r5 (step x H5 y5)) fun _ s6 ⟨σ6, H6, I6, q6⟩ => ?_)
    refine wpAny_passesOwn hp (thn (hb _ s6 σ6 H6 _ I6 q6) fun f s7 q7 => ?_)
    have again : ∀ {σ7 : St} {H7 : Hp}, Inv X (pins ++ pinsAt fp s5.heap) σ7 H7 s7 → N σ7 H7 → ∃ m, m < n ∧ ∃ i σ' H', Inv X pins σ' H' s7 ∧ tn i s7.heap ∧ (∀ b ∈ fp, H' b = none) ∧ W i m σ' H' := fun {σ7 H7} I7 n7 => by
      obtain ⟨m', hm, w7⟩ := hN σ7 H7 n7
      refine ⟨m', hm, i + 1, σ7, H7, I7.unpinned, T.keep _ _ _ st5 fun b hb o e => (I7.pin (b, o) (List.mem_append_right _ (List.mem_append_right _ (mem_pinsAt hb e)))).1, fun b hb => ?_, w7⟩
      obtain ⟨o, e, d⟩ := T.obj _ _ st5 b hb
      exact (I7.pin (b, o) (List.mem_append_right _ (List.mem_append_right _ (mem_pinsAt hb e)))).2.1
    cases f with
    | next => obtain ⟨σ7, H7, I7, n7⟩ := q7; exact again I7 n7
    | cont => obtain ⟨σ7, H7, I7, n7⟩ := q7; exact again I7 n7
    | brk => obtain ⟨σ7, H7, I7, q7⟩ := q7; exact ⟨σ7, H7, I7.unpinned, q7⟩
    | ret v => obtain ⟨x7, σ7, H7, I7, r7, q7⟩ := q7; exact ⟨x7, σ7, H7, I7.unpinned, r7, q7⟩
end
theorem for_list {K : PySem.W.Frag} {a : Addr} {xs : List V} {g : TG} {tb : TS} {D : Ends} {σ : St} {H : Hp} (Pv : Nat → St → Hp → Prop) (h0 : Pv 0 σ H) (hl : ∀ i σ H, i ≤ xs.length → Pv i σ H → SqL K H a xs)
    (hs : ∀ i x σ H, xs[i]? = some x → Pv i σ H → g x σ H fun σ2 H2 => tb { D with nx := Pv (i + 1), ct := Pv (i + 1), bk := D.nx } σ2 H2) (hd : ∀ σ H, Pv xs.length σ H → D.nx σ H) :
    ∃ W : Nat → Nat → St → Hp → Prop, (∃ m, W 0 m σ H) ∧ ∀ i m σ H, W i m σ H →
      ((Itl K a).stop i H ∧ D.nx σ H) ∨ ((Itl K a).go i H ∧ ∃ N : St → Hp → Prop, (∀ σ' H', N σ' H' → ∃ m', m' < m ∧ W (i + 1) m' σ' H') ∧ ∀ x H', (Itl K a).yld i H x H' → g x σ H' fun σ2 H2 => tb { D with nx := N, ct := N, bk := D.nx } σ2 H2) := by
  refine ⟨fun i m σ H => m = xs.length - i ∧ i ≤ xs.length ∧ Pv i σ H, ⟨xs.length, by simp, Nat.zero_le _, h0⟩, ?_⟩
  rintro i m σ H ⟨rfl, hi, p⟩
  have q := hl i σ H hi p
  by_cases hlt : i < xs.length
  · refine .inr ⟨⟨xs, xs[i], q, by simp [hlt]⟩, Pv (i + 1), fun σ' H' p' => ⟨xs.length - (i + 1), by omega, rfl, hlt, p'⟩, fun x H' y => ?_⟩
    obtain ⟨e, y⟩ := y
    subst e
    exact hs i x σ _ (y xs q) p
  · have e : i = xs.length := by omega
    subst e
    exact .inl ⟨⟨xs, q, Nat.le_refl _⟩, hd σ H p⟩
theorem for_range {lo : Int} {n : Nat} {g : TG} {tb : TS} {D : Ends} {σ : St} {H : Hp} (Pv : Nat → St → Hp → Prop) (h0 : Pv 0 σ H)
    (hs : ∀ i σ H, i < n → Pv i σ H → g (.int (lo + i)) σ H fun σ2 H2 => tb { D with nx := Pv (i + 1), ct := Pv (i + 1), bk := D.nx } σ2 H2) (hd : ∀ σ H, Pv n σ H → D.nx σ H) :
    ∃ W : Nat → Nat → St → Hp → Prop, (∃ m, W 0 m σ H) ∧ ∀ i m σ H, W i m σ H →
      ((Itr lo n).stop i H ∧ D.nx σ H) ∨ ((Itr lo n).go i H ∧ ∃ N : St → Hp → Prop, (∀ σ' H', N σ' H' → ∃ m', m' < m ∧ W (i + 1) m' σ' H') ∧ ∀ x H', (Itr lo n).yld i H x H' → g x σ H' fun σ2 H2 => tb { D with nx := N, ct := N, bk := D.nx } σ2 H2) := by
  refine ⟨fun i m σ H => m = n - i ∧ i ≤ n ∧ Pv i σ H, ⟨n, by simp, Nat.zero_le _, h0⟩, ?_⟩
  rintro i m σ H ⟨rfl, hi, p⟩
  by_cases hlt : i < n
  · refine .inr ⟨hlt, Pv (i + 1), fun σ' H' p' => ⟨n - (i + 1), by omega, rfl, hlt, p'⟩, fun x H' y => ?_⟩
    obtain ⟨e, y⟩ := y
    subst e y
    exact hs i σ _ hlt p
  · have e : i = n := by omega
    subst e
    exact .inl ⟨Nat.le_refl _, hd σ H p⟩
abbrev R2 := V → V → Hp → VK → Prop
def OpR (X : Cx) (f : Value → Value → Sem Value) (r : R2) : Prop :=
  ∀ (pins : List (Addr × Obj)) (s : Shared) (σ : St) (H : Hp) (x y : V) (v u : Value) (Q : VK), Inv X pins σ H s → RelV x v → RelV y u → r x y H Q →
    wpAny (model X.prog X.w) X.A (f v u) (EP X pins σ Q) X.xe s
def UnR (X : Cx) (f : Value → Sem Value) (r : V → Hp → VK → Prop) : Prop :=
  ∀ (pins : List (Addr × Obj)) (s : Shared) (σ : St) (H : Hp) (x : V) (v : Value) (Q : VK), Inv X pins σ H s → RelV x v → r x H Q →
    wpAny (model X.prog X.w) X.A (f v) (EP X pins σ Q) X.xe s
def CallR (X : Cx) (f : Value) (r : List V → Hp → VK → Prop) : Prop :=
  ∀ (pins : List (Addr × Obj)) (s : Shared) (σ : St) (H : Hp) (xs : List V) (us : List Value) (Q : VK), Inv X pins σ H s → Vals xs us → r xs H Q →
    wpAny (model X.prog X.w) X.A (call f us) (EP X pins σ Q) X.xe s
def TruR (X : Cx) (r : V → Hp → (Bool → Hp → Prop) → Prop) : Prop :=
  ∀ (pins : List (Addr × Obj)) (s : Shared) (σ : St) (H : Hp) (x : V) (v : Value) (Q : Bool → Hp → Prop), Inv X pins σ H s → RelV x v → r x H Q →
    wpAny (model X.prog X.w) X.A (truthy v) (TP X pins σ Q) X.xe s
def tOp (r : R2) (ta tb : TE) : TE := fun σ H Q => ta σ H fun x H1 => tb σ H1 fun y H2 => r x y H2 Q
def tUn (r : V → Hp → VK → Prop) (ta : TE) : TE := fun σ H Q => ta σ H fun x H1 => r x H1 Q
def rI (C : Int → Int → Prop) (g : Int → Int → V) : R2 := fun x y H Q => ∃ i j, x = .int i ∧ y = .int j ∧ C i j ∧ Q (g i j) H
def rI0 (g : Int → Int → V) : R2 := fun x y H Q => ∃ i j, x = .int i ∧ y = .int j ∧ Q (g i j) H
def rU (g : Int → V) : V → Hp → VK → Prop := fun x H Q => ∃ i, x = .int i ∧ Q (g i) H
section
variable {X : Cx} {a b c : Expr} {ta tb tc : TE} {pos : Pos}
theorem binT (ha : PE X a ta) (hb : PE X b tb) {pins : List (Addr × Obj)} {s : Shared} {σ : St} {H : Hp} {R : V → V → Hp → Prop} (I : Inv X pins σ H s)
    (h : ta σ H fun x H1 => tb σ H1 fun y H2 => R x y H2) {Q : Value → Shared → Prop} {f : Value → Value → Sem Value}
    (hf : ∀ v u s2 x y H2, Inv X pins σ H2 s2 → RelV x v → RelV y u → R x y H2 → wpAny (model X.prog X.w) X.A (f v u) Q X.xe s2) :
    wpAny (model X.prog X.w) X.A (eval a X.env) (fun v s₁ => wpAny (model X.prog X.w) X.A (eval b X.env) (fun u s₂ => wpAny (model X.prog X.w) X.A (f v u) Q X.xe s₂) X.xe s₁) X.xe s := by
  refine thn (ha pins s σ H _ I h) fun v s1 ⟨x, H1, I1, r1, q1⟩ => ?_
  refine thn (hb pins s1 σ H1 _ I1 q1) fun u s2 ⟨y, H2, I2, r2, q2⟩ => ?_
  exact hf v u s2 x y H2 I2 r1 r2 q2
theorem pe_op {op : Operator} {r : R2} (ho : OpR X (binaryOp op) r) (ha : PE X a ta) (hb : PE X b tb) : PE X (.BinOp a op b pos) (tOp r ta tb) := by
  intro pins s σ H Q I h
  exact wpAny_BinOp (binT ha hb I h fun v u s2 x y H2 I2 rx ry q => ho pins s2 σ H2 x y v u Q I2 rx ry q)
theorem pe_un {op : UnaryOp} {r : V → Hp → VK → Prop} (ho : UnR X (unaryOp op) r) (ha : PE X a ta) : PE X (.UnaryOp op a pos) (tUn r ta) := by
  intro pins s σ H Q I h
  exact UnaryOp_ (thn (ha pins s σ H _ I h) fun v s1 ⟨x, H1, I1, r1, q1⟩ => ho pins s1 σ H1 x v Q I1 r1 q1)
theorem opI {f : Value → Value → Sem Value} {C : Int → Int → Prop} {g : Int → Int → Int}
    (rule : ∀ (i j : Int) (t u : Tok) (s : Shared) (Q : Value → Shared → Prop) (E : Value → Shared → Prop), C i j → Q (.int (g i j) s.toks) { s with toks := s.toks + 1 } → wpAny (model X.prog X.w) X.A (f (.int i t) (.int j u)) Q E s) :
    OpR X f (rI C fun i j => .int (g i j)) := by
  intro pins s σ H x y v u Q I rx ry h
  obtain ⟨i, j, rfl, rfl, hc, q⟩ := h
  obtain ⟨t, rfl⟩ := rx
  obtain ⟨t', rfl⟩ := ry
  exact rule i j t t' s _ _ hc ⟨.int (g i j), H, I.tok _, ⟨_, rfl⟩, q⟩
theorem opI0 {f : Value → Value → Sem Value} {g : Int → Int → Int}
    (rule : ∀ (i j : Int) (t u : Tok) (s : Shared) (Q : Value → Shared → Prop) (E : Value → Shared → Prop), Q (.int (g i j) s.toks) { s with toks := s.toks + 1 } → wpAny (model X.prog X.w) X.A (f (.int i t) (.int j u)) Q E s) :
    OpR X f (rI0 fun i j => .int (g i j)) := by
  intro pins s σ H x y v u Q I rx ry h
  obtain ⟨i, j, rfl, rfl, q⟩ := h
  obtain ⟨t, rfl⟩ := rx
  obtain ⟨t', rfl⟩ := ry
  exact rule i j t t' s _ _ ⟨.int (g i j), H, I.tok _, ⟨_, rfl⟩, q⟩
theorem opB0 {f : Value → Value → Sem Value} {g : Int → Int → Bool}
    (rule : ∀ (i j : Int) (t u : Tok) (s : Shared) (Q : Value → Shared → Prop) (E : Value → Shared → Prop), Q (.bool (g i j)) s → wpAny (model X.prog X.w) X.A (f (.int i t) (.int j u)) Q E s) :
    OpR X f (rI0 fun i j => .bl (g i j)) := by
  intro pins s σ H x y v u Q I rx ry h
  obtain ⟨i, j, rfl, rfl, q⟩ := h
  obtain ⟨t, rfl⟩ := rx
  obtain ⟨t', rfl⟩ := ry
  exact rule i j t t' s _ _ ⟨.bl (g i j), H, I, rfl, q⟩
def CDiv (i j : Int) : Prop := 0 < j ∧ j < 1073741824
def CPow (i j : Int) : Prop := 0 ≤ j ∧ j ≤ 1000000 ∧ i.natAbs < 2 ^ 64
def CMul (i j : Int) : Prop := (-(2 ^ 64) < i ∧ i < 2 ^ 64) ∨ (-(2 ^ 64) < j ∧ j < 2 ^ 64)
theorem CMul.ok {i j : Int} (h : CMul i j) : IntMulOk i j := by
  rcases h with ⟨h1, h2⟩ | ⟨h1, h2⟩
  · exact .of_left (intBits_le_64 h1 h2)
  · exact .of_right (intBits_le_64 h1 h2)
theorem two_pow_nn (k : Nat) : (0 : Int) ≤ 2 ^ k := by
  rw [two_pow_cast]
  exact Int.natCast_nonneg _
theorem op_add : OpR X (binaryOp .Add) (rI0 fun i j => .int (i + j)) := opI0 fun _ _ _ _ _ _ _ q => add_int q
theorem op_sub : OpR X (binaryOp .Sub) (rI0 fun i j => .int (i - j)) := opI0 fun _ _ _ _ _ _ _ q => sub_int q
theorem op_mul : OpR X (binaryOp .Mult) (rI CMul fun i j => .int (i * j)) := opI fun _ _ _ _ _ _ _ hc q => mul_int q hc.ok
theorem op_fdiv : OpR X (binaryOp .FloorDiv) (rI CDiv fun i j => .int (i / j)) := opI fun i j _ _ _ _ _ hc q => by
  have h1 : (0 : Int) < j := hc.1
  have h2 : j < 1073741824 := hc.2
  exact floordiv_int (by omega) (by rw [Int.fdiv_eq_ediv_of_nonneg i (by omega)]; exact q) (.inl (PyProof.noPylong_small (by omega)))
theorem op_mod : OpR X (binaryOp .Mod) (rI (fun _ j => 0 < j) fun i j => .int (i % j)) := opI fun i j _ _ _ _ _ hc q => by
  have h1 : (0 : Int) < j := hc
  exact mod_int' (by omega) (by rw [Int.fmod_eq_emod_of_nonneg i (by omega)]; exact q)
theorem op_modN : OpR X (binaryOp .Mod) (rI (fun _ j => j ≠ 0) fun i j => .int (i.fmod j)) := opI fun _ _ _ _ _ _ _ hc q => mod_int' hc q
theorem op_pow : OpR X (binaryOp .Pow) (rI CPow fun i j => .int (i ^ j.toNat)) := opI fun _ _ _ _ _ _ _ hc q => pow_int_small hc.1 hc.2.1 hc.2.2 q
theorem op_shr : OpR X (binaryOp .RShift) (rI (fun _ j => 0 ≤ j) fun i j => .int (i / 2 ^ j.toNat)) := opI fun i j _ _ _ _ _ hc q =>
  rshift_int hc (by rw [Int.fdiv_eq_ediv_of_nonneg i (two_pow_nn _)]; exact q)
theorem op_and : OpR X (binaryOp .BitAnd) (rI0 fun i j => .int (Builtin.bitAnd i j)) := opI0 fun _ _ _ _ _ _ _ q => and_int q
theorem op_or : OpR X (binaryOp .BitOr) (rI0 fun i j => .int (Builtin.bitOr i j)) := opI0 fun _ _ _ _ _ _ _ q => or_int q
theorem op_xor : OpR X (binaryOp .BitXor) (rI0 fun i j => .int (Builtin.bitXor i j)) := opI0 fun _ _ _ _ _ _ _ q => xor_int q
theorem unI {f : Value → Sem Value} {g : Int → Int}
    (rule : ∀ (i : Int) (t : Tok) (s : Shared) (Q : Value → Shared → Prop) (E : Value → Shared → Prop), Q (.int (g i) s.toks) { s with toks := s.toks + 1 } → wpAny (model X.prog X.w) X.A (f (.int i t)) Q E s) :
    UnR X f (rU fun i => .int (g i)) := by
  intro pins s σ H x v Q I rx h
  obtain ⟨i, rfl, q⟩ := h
  obtain ⟨t, rfl⟩ := rx
  exact rule i t s _ _ ⟨.int (g i), H, I.tok _, ⟨_, rfl⟩, q⟩
theorem un_neg : UnR X (unaryOp .USub) (rU fun i => .int (-i)) := unI fun _ _ _ _ _ q => neg_int q
end
def scal : V → V → Bool
  | .non, .non => true | .non, .int _ => true | .int _, .non => true | .non, .bl _ => true | .bl _, .non => true | .non, .str _ => true | .str _, .non => true
  | .int _, .int _ => true | .bl _, .bl _ => true | .str _, .str _ => true | .byt _, .byt _ => true
  | .int _, .str _ => true | .str _, .int _ => true | .bl _, .str _ => true | .str _, .bl _ => true
  | _, _ => false
def rEq : R2 := fun x y H Q => scal x y = true ∧ Q (.bl (decide (x = y))) H
def rNe : R2 := fun x y H Q => scal x y = true ∧ Q (.bl (!decide (x = y))) H
theorem dec_int {i j : Int} : decide (V.int i = V.int j) = (i == j) := by
  rw [Bool.eq_iff_iff]
  simp
theorem dec_bl {i j : Bool} : decide (V.bl i = V.bl j) = (i == j) := by
  rw [Bool.eq_iff_iff]
  simp
theorem dec_str {i j : Str} : decide (V.str i = V.str j) = (i == j) := by
  rw [Bool.eq_iff_iff]
  simp
theorem dec_byt {i j : Array UInt8} : decide (V.byt i = V.byt j) = (i.toList == j.toList) := by
  rw [Bool.eq_iff_iff]
  cases i
  cases j
  simp
section
variable {X : Cx} {a b c : Expr} {ta tb tc : TE} {pos : Pos}
theorem fin_bl {pins : List (Addr × Obj)} {σ : St} {H : Hp} {s : Shared} {Q : VK} {k k' : Bool} (I : Inv X pins σ H s) (q : Q (.bl k) H) (e : k = k') : EP X pins σ Q (.bool k') s := by
  subst e
  exact ⟨.bl k, H, I, rfl, q⟩
theorem op_eq : OpR X (compareOp .Eq) rEq := by
  intro pins s σ H x y v u Q I rx ry h
  obtain ⟨hs, q⟩ := h
  cases x with
  | non =>
    cases rx
    cases y with
    | non => cases ry; exact PySem.EqNone.eq_none_none (fin_bl I q (by simp))
    | bl j => cases ry; exact PySem.EqNone.eq_none_bool (fin_bl I q (by simp))
    | int j => obtain ⟨t', rfl⟩ := ry; exact PySem.EqNone.eq_none_int (fin_bl I q (by simp))
    | str j => obtain ⟨t', rfl⟩ := ry; exact PySem.EqNone.eq_none_str (fin_bl I q (by simp))
    | _ => exact absurd (show false = true from hs) Bool.false_ne_true
  | bl i =>
    cases rx
    cases y with
    | non => cases ry; exact PySem.EqNone.eq_bool_none (fin_bl I q (by simp))
    | bl j => cases ry; exact eq_bool (fin_bl I q dec_bl)
    | str j => obtain ⟨t', rfl⟩ := ry; exact PySem.EqMixed.eq_bool_str (fin_bl I q (by simp))
    | _ => exact absurd (show false = true from hs) Bool.false_ne_true
  | int i =>
    obtain ⟨t, rfl⟩ := rx
    cases y with
    | non => cases ry; exact PySem.EqNone.eq_int_none (fin_bl I q (by simp))
    | int j => obtain ⟨t', rfl⟩ := ry; exact eq_int (fin_bl I q dec_int)
    | str j => obtain ⟨t', rfl⟩ := ry; exact PySem.EqMixed.eq_int_str (fin_bl I q (by simp))
    | _ => exact absurd (show false = true from hs) Bool.false_ne_true
  | str i =>
    obtain ⟨t, rfl⟩ := rx
    cases y with
    | non => cases ry; exact PySem.EqNone.eq_str_none (fin_bl I q (by simp))
    | bl j => cases ry; exact PySem.EqMixed.eq_str_bool (fin_bl I q (by simp))
    | int j => obtain ⟨t', rfl⟩ := ry; exact PySem.EqMixed.eq_str_int (fin_bl I q (by simp))
    | str j => obtain ⟨t', rfl⟩ := ry; exact eq_str (fin_bl I q dec_str)
    | _ => exact absurd (show false = true from hs) Bool.false_ne_true
  | byt i =>
    obtain ⟨t, rfl⟩ := rx
    cases y with
    | byt j => obtain ⟨t', rfl⟩ := ry; exact PySem.W.eq_bytes (fin_bl I q dec_byt)
    | _ => exact absurd (show false = true from hs) Bool.false_ne_true
  | _ => cases y <;> exact absurd (show false = true from hs) Bool.false_ne_true
theorem op_ne : OpR X (compareOp .NotEq) rNe := by
  intro pins s σ H x y v u Q I rx ry h
  obtain ⟨hs, q⟩ := h
  cases x with
  | non =>
    cases rx
    cases y with
    | non => cases ry; exact PySem.EqNone.ne_none_none (fin_bl I q (by simp))
    | bl j => cases ry; exact PySem.EqNone.ne_none_bool (fin_bl I q (by simp))
    | int j => obtain ⟨t', rfl⟩ := ry; exact PySem.EqNone.ne_none_int (fin_bl I q (by simp))
    | str j => obtain ⟨t', rfl⟩ := ry; exact PySem.EqNone.ne_none_str (fin_bl I q (by simp))
    | _ => exact absurd (show false = true from hs) Bool.false_ne_true
  | bl i =>
    cases rx
    cases y with
    | non => cases ry; exact PySem.EqNone.ne_bool_none (fin_bl I q (by simp))
    | bl j => cases ry; exact ne_bool (fin_bl I q (congrArg not dec_bl))
    | str j => obtain ⟨t', rfl⟩ := ry; exact PySem.EqMixed.ne_bool_str (fin_bl I q (by simp))
    | _ => exact absurd (show false = true from hs) Bool.false_ne_true
  | int i =>
    obtain ⟨t, rfl⟩ := rx
    cases y with
    | non => cases ry; exact PySem.EqNone.ne_int_none (fin_bl I q (by simp))
    | int j => obtain ⟨t', rfl⟩ := ry; exact ne_int (fin_bl I q (congrArg not dec_int))
    | str j => obtain ⟨t', rfl⟩ := ry; exact PySem.EqMixed.ne_int_str (fin_bl I q (by simp))
    | _ => exact absurd (show false = true from hs) Bool.false_ne_true
  | str i =>
    obtain ⟨t, rfl⟩ := rx
    cases y with
    | non => cases ry; exact PySem.EqNone.ne_str_none (fin_bl I q (by simp))
    | bl j => cases ry; exact PySem.EqMixed.ne_str_bool (fin_bl I q (by simp))
    | int j => obtain ⟨t', rfl⟩ := ry; exact PySem.EqMixed.ne_str_int (fin_bl I q (by simp))
    | str j => obtain ⟨t', rfl⟩ := ry; exact ne_str (fin_bl I q (congrArg not dec_str))
    | _ => exact absurd (show false = true from hs) Bool.false_ne_true
  | byt i =>
    obtain ⟨t, rfl⟩ := rx
    cases y with
    | byt j => obtain ⟨t', rfl⟩ := ry; exact PySem.W.ne_bytes (fin_bl I q (congrArg not dec_byt))
    | _ => exact absurd (show false = true from hs) Bool.false_ne_true
  | _ => cases y <;> exact absurd (show false = true from hs) Bool.false_ne_true
theorem op_lt : OpR X (compareOp .Lt) (rI0 fun i j => .bl (decide (i < j))) := opB0 fun _ _ _ _ _ _ _ q => lt_int q
theorem op_le : OpR X (compareOp .LtE) (rI0 fun i j => .bl (decide (i ≤ j))) := opB0 fun _ _ _ _ _ _ _ q => le_int q
theorem op_gt : OpR X (compareOp .Gt) (rI0 fun i j => .bl (decide (j < i))) := opB0 fun _ _ _ _ _ _ _ q => gt_int q
theorem op_ge : OpR X (compareOp .GtE) (rI0 fun i j => .bl (decide (j ≤ i))) := opB0 fun _ _ _ _ _ _ _ q => ge_int q
theorem nomark (b : Expr) {op : CmpOp} (h : op ≠ .In := by decide) (h2 : op ≠ .NotIn := by decide) : behindInMarks op b = false := by
  have e1 : (op == CmpOp.In) = false := by cases op <;> first | rfl | exact absurd rfl h
  have e2 : (op == CmpOp.NotIn) = false := by cases op <;> first | rfl | exact absurd rfl h2
  cases b <;> simp [behindInMarks, e1, e2]
theorem pe_cmpR {op : CmpOp} {r : R2} (ho : OpR X (compareOp op) r) (ha : PE X a ta) (hb : PE X b tb) (hm : behindInMarks op b = false) : PE X (.Compare a [op] [b] pos) (tOp r ta tb) := by
  intro pins s σ H Q I h
  exact wpAny_Compare1 (binT ha hb I h fun v u s2 x y H2 I2 rx ry q => ho pins s2 σ H2 x y v u Q I2 rx ry q) hm
def tTest (t : TE) : TT := fun σ H Q => t σ H fun x H' => ∃ k, x = .bl k ∧ Q k H'
theorem pt_cmpR {op : CmpOp} {r : R2} (ho : OpR X (compareOp op) r) (ha : PE X a ta) (hb : PE X b tb) (hm : behindInMarks op b = false) : PT X (.Compare a [op] [b] pos) (tTest (tOp r ta tb)) := by
  intro pins s σ H Q I h
  refine wpAny_isTrue_Compare1 (thn (ha pins s σ H _ I h) fun v s1 ⟨x, H1, I1, r1, q1⟩ => thn (hb pins s1 σ H1 _ I1 q1) fun u s2 ⟨y, H2, I2, r2, q2⟩ =>
    thn (ho pins s2 σ H2 x y v u _ I2 r1 r2 q2) fun c s3 ⟨z, H3, I3, r3, k, e, q3⟩ => ?_) hm
  subst e
  cases r3
  exact wpAny_truthy_bool ⟨H3, I3, q3⟩
def tChain (r r' : R2) (ta tb tc : TE) : TE := fun σ H Q => ta σ H fun x H1 => tb σ H1 fun y H2 => r x y H2 fun z H3 => ∃ k, z = .bl k ∧
  (if k = true then tc σ H3 fun w' H4 => r' y w' H4 Q else Q (.bl false) H3)
theorem pe_chain {op op' : CmpOp} {r r' : R2} (ho : OpR X (compareOp op) r) (ho' : OpR X (compareOp op') r') (ha : PE X a ta) (hb : PE X b tb) (hc : PE X c tc)
    (hm : lastMarks [op, op'] [b, c] = false := by with_unfolding_all rfl) : PE X (.Compare a [op, op'] [b, c] pos) (tChain r r' ta tb tc) := by
  intro pins s σ H Q I h
  refine Compare_chain (thn (ha pins s σ H _ I h) fun v s1 ⟨x, H1, I1, r1, q1⟩ => chain_link (thn (hb pins s1 σ H1 _ I1 q1) fun u s2 ⟨y, H2, I2, r2, q2⟩ =>
    thn (ho pins s2 σ H2 x y v u _ I2 r1 r2 q2) fun d s3 ⟨z, H3, I3, r3, k, e, q3⟩ => ?_)) hm
  subst e
  cases r3
  refine wpAny_truthy_bool ?_
  cases k with
  | false => exact ite_ff ⟨.bl false, H3, I3, rfl, q3⟩
  | true => exact ite_tt (chain_last (thn (hc pins s3 σ H3 _ I3 q3) fun w' s4 ⟨z', H4, I4, r4, q4⟩ => ho' pins s4 σ H4 y z' u w' Q I4 r2 r4 q4))
def TruV (K : PySem.W.Frag) (x : V) (H : Hp) (k : Bool) : Prop :=
  match x with
  | .non => k = false
  | .bl b => k = b
  | .int i => k = (i != 0)
  | .str y => y.length ≤ sizeLine ∧ k = ((y.length : Int) != 0)
  | .byt y => y.size ≤ sizeLine ∧ k = ((y.size : Int) != 0)
  | .ref p => (∃ xs, SqL K H p xs ∧ k = !xs.isEmpty) ∨ (∃ xs, SqT K H p xs ∧ k = !xs.isEmpty) ∨ ∃ kvs, H p = some (.dK kvs) ∧ k = !kvs.isEmpty
  | _ => False
theorem isEmpty_kv {κ : Type} {kvs : List (κ × V)} {vs : List (κ × Value)} (r : KV kvs vs) : (!vs.isEmpty) = !kvs.isEmpty := by
  cases r <;> rfl
theorem isEmpty_of {xs : List V} {its : List Value} (r : Vals xs its) : (!its.toArray.isEmpty) = !xs.isEmpty := by
  cases r <;> simp
theorem line63 : (sizeLine : Nat) < 2 ^ 63 := by rw [sizeLine_eq]; decide
theorem tru_ok : TruR X (fun x H Q => ∃ k, TruV X.K x H k ∧ Q k H) := by
  intro pins s σ H x v Q I rx h
  obtain ⟨k, e, q⟩ := h
  have hl := line63
  have hs : sizeLine = 16777216 := sizeLine_eq
  cases x with
  | non =>
    cases rx
    have e' : k = false := e
    subst e'
    exact truthy_none ⟨H, I, q⟩
  | bl b =>
    cases rx
    have e' : k = b := e
    subst e'
    exact wpAny_truthy_bool ⟨H, I, q⟩
  | int i =>
    obtain ⟨t, rfl⟩ := rx
    have e' : k = (i != 0) := e
    subst e'
    exact PySem.P.truthy_int ⟨H, I, q⟩
  | str y =>
    obtain ⟨t, rfl⟩ := rx
    obtain ⟨hy, e'⟩ : y.length ≤ sizeLine ∧ k = ((y.length : Int) != 0) := e
    subst e'
    exact PySem.P.truthy_str (by omega) ⟨H, I.tok _, q⟩
  | byt y =>
    obtain ⟨t, rfl⟩ := rx
    obtain ⟨hy, e'⟩ : y.size ≤ sizeLine ∧ k = ((y.size : Int) != 0) := e
    subst e'
    exact PySem.W.truthy_bytes (by omega) ⟨H, I.tok _, q⟩
  | ref p =>
    cases rx
    have e' : (∃ xs, SqL X.K H p xs ∧ k = !xs.isEmpty) ∨ (∃ xs, SqT X.K H p xs ∧ k = !xs.isEmpty) ∨ ∃ kvs, H p = some (.dK kvs) ∧ k = !kvs.isEmpty := e
    rcases e' with ⟨xs, hx, e'⟩ | ⟨xs, hx, e'⟩ | ⟨kvs, hx, e'⟩
    · subst e'
      obtain ⟨its, r, pl, hz⟩ := I.list hx
      have hlen := r.length
      exact wpAny_truthy_list pl.isList (by simp only [List.size_toArray]; omega) ⟨H, I.tok _, by rw [isEmpty_of r]; exact q⟩
    · subst e'
      obtain ⟨its, r, pl, hz⟩ := I.tuple hx
      have hlen := r.length
      exact truthy_tuple pl (by simp only [List.size_toArray]; omega) ⟨H, I.tok _, by rw [isEmpty_of r]; exact q⟩
    · subst e'
      obtain ⟨hz, hS, vs, r, m⟩ : kvs.length ≤ sizeLine ∧ (p == sysModules) = false ∧ ∃ vs, KV kvs vs ∧ s.heap.DictOf (mixKind X.prog X.w) p vs := I.hok p _ hx
      have hlen : kvs.length = vs.length := Paired.length r
      exact wpAny_truthy_dict hS m (by omega) ⟨H, I.tok _, by rw [isEmpty_kv r]; exact q⟩
  | _ => exact (show False from e).elim
theorem pt_truth (ha : PE X a ta) (he : ∀ whole, isTrue a X.env whole = (do let v ← whole; standAt a.pos; holding [v] (truthy v))) :
    PT X a (fun σ H Q => ta σ H fun x H' => ∃ k, TruV X.K x H' k ∧ Q k H') := by
  intro pins s σ H Q I h
  exact isTrue_plain (thn (ha pins s σ H _ I h) fun v s1 ⟨x, H1, I1, r1, q1⟩ => tru_ok pins s1 σ H1 x v Q I1 r1 q1) (he _)
theorem vals1 {x : V} {us : List Value} (r : Vals [x] us) : ∃ u, us = [u] ∧ RelV x u := by
  cases r with
  | cons r1 r2 => cases r2; exact ⟨_, rfl, r1⟩
theorem vals2 {x y : V} {us : List Value} (r : Vals [x, y] us) : ∃ u w', us = [u, w'] ∧ RelV x u ∧ RelV y w' := by
  cases r with
  | cons r1 r2 =>
    cases r2 with
    | cons r3 r4 => cases r4; exact ⟨_, _, rfl, r1, r3⟩
end
structure ObjM (h : Heap) (x dx C : Addr) (mA : Str → Option Value) : Prop where
  obj : h.get? x = some (PySem.W.instObj C dx)
  ns : h.Ns1 dx mA
  ne : dx ≠ x
theorem lookIn_ns {h : Heap} {dx : Addr} {mA : Str → Option Value} (n : h.Ns1 dx mA) : ∃ od, h.get? dx = some od ∧ ∀ name, PySem.W.lookIn name od = some (mA name) := by
  obtain ⟨o, es, ep, ho, hd, hk, _, hm⟩ := n
  refine ⟨o, ho, fun name => ?_⟩
  have e := hm name
  unfold nsFind findBy at e
  rw [← Array.find?_toList] at e
  unfold PySem.W.lookIn
  rw [hd]
  dsimp only
  split
  · rename_i y q
    rw [q] at e
    exact congrArg some e
  · rename_i q
    rw [q] at e
    have a : es.toList.any (·.refKey) = false := by
      rw [List.any_eq_false]
      intro y hy
      obtain ⟨z, t, hkey⟩ := hk y (Array.mem_toList_iff.mp hy)
      simp [DictEntry.refKey, hkey]
    have a' : ¬ es.toList.any (·.refKey) = true := by rw [a]; exact Bool.false_ne_true
    rw [if_neg a']
    exact congrArg some e
theorem ObjM.look {h : Heap} {x dx C : Addr} {mA : Str → Option Value} (I : ObjM h x dx C mA) : ∃ od, PySem.W.InstAt h x (PySem.W.instObj C dx) C (some od) ∧ ∀ name, PySem.W.lookIn name od = some (mA name) :=
  let ⟨od, ho, hl⟩ := lookIn_ns I.ns
  ⟨od, ⟨I.obj, rfl, rfl, ho⟩, hl⟩
section
variable {prog : Program} {w : World} {A : Around} {E : Value → Shared → Prop} {s : Shared} {K : PySem.W.Frag} {x dx C f : Addr} {mA : Str → Option Value} {name : Str} {v : Value}
theorem get_map {expr : Bool} {Q : Value → Shared → Prop} (X : K.In s.heap) (I : ObjM s.heap x dx C mA) (hg : PySem.W.plainGet K C name = true) (hh : PySem.W.hasDictIn K C = true)
    (ha : PySem.W.findIn K (.ref C) name = some none) (hv : mA name = some v) (hv' : PySem.W.handedIn v = true) (h : Q v { s with toks := s.toks + 1 }) :
    wpAny (model prog w) A (getAttr (.ref x) name expr) Q E s := by
  obtain ⟨od, J, hl⟩ := I.look
  exact PySem.W.get_value X J (PySem.W.plainGet_of hg).1 (PySem.W.findObj_own hh ha rfl (by rw [hl, hv])) hv' h
theorem get_meth {pl : Sem Bool} {Q : Value × List Value → Shared → Prop} (X : K.In s.heap) (I : ObjM s.heap x dx C mA) (hg : PySem.W.plainGet K C name = true)
    (hf : PySem.W.findIn K (.ref C) name = some (some (.ref f))) (ht : PySem.W.isFn K (.ref f) = true) (hv : mA name = none) (h : Q (.ref f, [.ref x]) s) :
    wpAny (model prog w) A (getMethod (.ref x) name pl) Q E s := by
  obtain ⟨od, J, hl⟩ := I.look
  exact PySem.W.method_fn X J (PySem.W.plainGet_of hg).1 (PySem.W.plainGet_of hg).2 hf (beq_iff_eq.mp ht) (by show (PySem.W.lookIn name od).map (·.isSome) = some false; rw [hl, hv]; rfl) h
theorem set_map {ns : List Str} {Q : Unit → Shared → Prop} (X : K.In s.heap) (I : ObjM s.heap x dx C mA)
    (hs : PySem.W.findIn K (.ref C) "__setattr__" = some (some (.builtin "object.__setattr__"))) (hp : PySem.W.plainOver K C = true) (ht : PySem.W.takerIn K C name = some none) (hh : PySem.W.hasDictIn K C = true)
    (hw : PySem.Within mA ns) (hsz : ns.length ≤ sizeLine)
    (h : ∀ h', ObjM h' x dx C (fun y => if y = name then some v else mA y) → Heap.SameBut dx s.heap h' → Q () { s with heap := h', toks := s.toks + 2 }) :
    wpAny (model prog w) A (setAttr (.ref x) name v) Q E s := by
  obtain ⟨od, J, hl⟩ := I.look
  refine PySem.W.set_plain X J hs (PySem.W.osa_open (s := { s with toks := s.toks + 1 }) (r := none) X J hp ht fun b => ?_)
  obtain ⟨cd, hc, hd'⟩ := PySem.W.any_some hh
  have hx : s.heap.get? x = some ⟨.ref C, some dx, .plain, #[]⟩ := I.obj
  refine wpAny_bind (wpAny_pure (wpAny_bind (wpAny_bind (wpAny_loadPart hx (wpAny_bind (PySem.W.Looks.here (s := { s with toks := s.toks + 1 }) (PySem.W.looks_clsIn X hc) ?_))))))
  rw [hd']
  refine wpAny_pure (a := some dx) (wpAny_bind (wpAny_pure (wpAny_bind ?_)))
  refine wpAny_nsSet1 (s := { s with toks := s.toks + 1 }) I.ns fun h' hn2 hs2 => ?_
  obtain ⟨oD, esD, epD, hoD, hdD, hcD⟩ := hn2.count (PySem.Within.cons name v hw)
  refine wpAny_bind (wpAny_lookBehind hoD (by rw [hdD]; exact pastItsLine_dict (Nat.le_trans hcD (by rw [List.length_cons]; omega))) ?_)
  exact wpAny_pure (h _ ⟨(hs2.2 _ (Ne.symm I.ne)).trans I.obj, hn2, I.ne⟩ hs2)
theorem make_map {R : Result → Shared → Prop} {vs : List Value} {kw : List (Str × Value)} (X : K.In s.heap) (hm : PySem.W.makesIn K C = true)
    (hi : PySem.W.findIn K (.ref C) "__init__" = some (some (.ref f))) (hf : PySem.W.typeIn K (.ref f) = some (.type "function"))
    (h : codeAny (model prog w) (A.under (.builtin "type.__call__" ⟨.ref C :: vs, kw⟩)) (.call (.ref f) ⟨.ref (s.heap.objs.size + 1) :: vs, kw⟩) (PySem.W.InitBack (s.heap.objs.size + 1) R)
      { s with heap := (s.heap.push PySem.W.emptyDict).push (PySem.W.instObj C s.heap.objs.size) }) :
    codeAny (model prog w) A (.call (.ref C) ⟨vs, kw⟩) R s := by
  obtain ⟨hh, g, d, t, os⟩ := s
  exact PySem.W.make_core (PySem.W.makes_of X hm) (PySem.W.looks_findIn X hi) (fun self => PySem.W.bind_fn X self hf) (.inl rfl) h
end
def putF (f : Str) (v : V) : List (Str × V) → List (Str × V)
  | [] => [(f, v)]
  | (g, x) :: r => if g = f then (g, v) :: r else (g, x) :: putF f v r
theorem lookup_putF (f g : Str) (v : V) : ∀ fs : List (Str × V), (putF f v fs).lookup g = if g = f then some v else fs.lookup g
  | [] => by
    show List.lookup g [(f, v)] = _
    by_cases h : g = f
    · have hb : (g == f) = true := beq_iff_eq.mpr h
      simp only [List.lookup, hb, if_pos h]
    · have hb : (g == f) = false := beq_eq_false_iff_ne.mpr h
      simp only [List.lookup, hb, if_neg h]
  | (k, x) :: r => by
    have ih := lookup_putF f g v r
    rw [show putF f v ((k, x) :: r) = (if k = f then (k, v) :: r else (k, x) :: putF f v r) from rfl]
    by_cases hk : k = f
    · rw [if_pos hk]
      by_cases h : g = k
      · have hb : (g == k) = true := beq_iff_eq.mpr h
        simp only [List.lookup, hb, if_pos (h.trans hk)]
      · have hb : (g == k) = false := beq_eq_false_iff_ne.mpr h
        simp only [List.lookup, hb, if_neg (fun e : g = f => h (e.trans hk.symm))]
    · rw [if_neg hk]
      by_cases h : g = k
      · have hb : (g == k) = true := beq_iff_eq.mpr h
        simp only [List.lookup, hb, if_neg (fun e : g = f => hk (h.symm.trans e))]
      · have hb : (g == k) = false := beq_eq_false_iff_ne.mpr h
        simp only [List.lookup, hb]
        exact ih
theorem keys_putF (f : Str) (v : V) : ∀ fs : List (Str × V), f ∈ (putF f v fs).map (·.1) ∧ ∀ g, g ∈ fs.map (·.1) → g ∈ (putF f v fs).map (·.1)
  | [] => ⟨by simp [putF], fun g h => by simp at h⟩
  | (k, x) :: r => by
    obtain ⟨i1, i2⟩ := keys_putF f v r
    rw [show putF f v ((k, x) :: r) = (if k = f then (k, v) :: r else (k, x) :: putF f v r) from rfl]
    by_cases hk : k = f
    · rw [if_pos hk]
      subst hk
      exact ⟨by simp, fun g h => by simpa using h⟩
    · rw [if_neg hk]
      refine ⟨?_, fun g h => ?_⟩
      · rw [List.map_cons]
        exact List.mem_cons_of_mem _ i1
      · rw [List.map_cons] at h ⊢
        rcases List.mem_cons.mp h with e | e
        · exact List.mem_cons.mpr (.inl e)
        · exact List.mem_cons_of_mem _ (i2 g e)
theorem length_putF (f : Str) (v : V) : ∀ fs : List (Str × V), (putF f v fs).length ≤ fs.length + 1
  | [] => by simp [putF]
  | (k, x) :: r => by
    have ih := length_putF f v r
    rw [show putF f v ((k, x) :: r) = (if k = f then (k, v) :: r else (k, x) :: putF f v r) from rfl]
    by_cases hk : k = f
    · rw [if_pos hk, List.length_cons, List.length_cons]; omega
    · rw [if_neg hk, List.length_cons, List.length_cons]; omega
theorem RelO.some_of {v : V} {o : Option Value} (r : RelO (some v) o) : ∃ u, o = some u ∧ RelV v u := by
  cases o with
  | none => exact (show False from r).elim
  | some u => exact ⟨u, rfl, r⟩
theorem RelO.none_of {o : Option Value} (r : RelO none o) : o = none := by
  cases o with
  | none => rfl
  | some u => exact (show False from r).elim
theorem handed_of {v : V} {u : Value} (r : RelV v u) : PySem.W.handedIn u = true := by
  cases v with
  | non => cases (show u = Value.none from r); rfl
  | bl b => cases (show u = Value.bool b from r); rfl
  | int i => obtain ⟨t, e⟩ := (show ∃ t, u = Value.int i t from r); cases e; rfl
  | str x => obtain ⟨t, e⟩ := (show ∃ t, u = Value.str x t from r); cases e; rfl
  | byt b => obtain ⟨t, e⟩ := (show ∃ t, u = Value.bytes b t from r); cases e; rfl
  | flt b => obtain ⟨t, e⟩ := (show ∃ t, u = Value.float b t from r); cases e; rfl
  | ref a => cases (show u = Value.ref a from r); rfl
  | ty n => cases (show u = Value.type n from r); rfl
section
variable {P : Program} {w : World} {H H' : Hp} {h h' : Heap} {a C dx : Addr} {fs fs' : List (Str × V)}
theorem ins_get (hok : HOk P w H h) (e : H a = some (.ins C dx fs)) : ∃ mA, ObjM h a dx C mA ∧ (∀ f, RelO (fs.lookup f) (mA f)) ∧ PySem.Within mA (fs.map (·.1)) ∧ fs.length ≤ 1000 ∧ H dx = some (.own a) := by
  obtain ⟨d, z, ne, ob, mA, n, r, q⟩ := (show ObjOk P w H h a (.ins C dx fs) from hok a _ e)
  exact ⟨mA, ⟨ob, n, ne⟩, r, q, z, d⟩
end
structure Cls (K : PySem.W.Frag) (C : Addr) : Prop where
  pg : PySem.W.plainGet K C Str.empty = true
  hd : PySem.W.hasDictIn K C = true
  po : PySem.W.plainOver K C = true
  sa : PySem.W.findIn K (.ref C) "__setattr__" = some (some (.builtin "object.__setattr__"))
theorem Cls.get {K : PySem.W.Frag} {C : Addr} (c : Cls K C) (f : Str) : PySem.W.plainGet K C f = true := c.pg
def NoAttr (K : PySem.W.Frag) (C : Addr) (f : Str) : Prop := PySem.W.findIn K (.ref C) f = some none
theorem NoAttr.taker {K : PySem.W.Frag} {C : Addr} {f : Str} (n : NoAttr K C f) : PySem.W.takerIn K C f = some none := by
  unfold PySem.W.takerIn
  rw [show PySem.W.findIn K (.ref C) f = some none from n]
  rfl
structure Meth (K : PySem.W.Frag) (C : Addr) (m : Str) (f : Addr) : Prop where
  at_ : PySem.W.findIn K (.ref C) m = some (some (.ref f))
  fn : PySem.W.isFn K (.ref f) = true
  kp : PySem.W.keepIn K (.ref f) = true
section
variable {X : Cx} {pins : List (Addr × Obj)} {σ : St} {H : Hp} {s : Shared} {a C dx : Addr} {fs : List (Str × V)} {f : Str} {v : V} {A : Around} {E : Value → Shared → Prop}
theorem getattr_ok {b : Bool} {Q : Value → Shared → Prop} (I : Inv X pins σ H s) (e : H a = some (.ins C dx fs)) (c : Cls X.K C) (n : NoAttr X.K C f) (l : fs.lookup f = some v)
    (h : ∀ u s', Inv X pins σ H s' → RelV v u → Q u s') : wpAny (model X.prog X.w) A (getAttr (.ref a) f b) Q E s := by
  obtain ⟨mA, O, r, _, _, _⟩ := ins_get I.hok e
  obtain ⟨u, hu, ru⟩ := RelO.some_of (v := v) (o := mA f) (by rw [← l]; exact r f)
  exact get_map I.kIn O (c.get f) c.hd n hu (handed_of ru) (h u _ (I.tok _) ru)
theorem getmeth_ok {m : Str} {g : Addr} {pl : Sem Bool} {Q : Value × List Value → Shared → Prop} (I : Inv X pins σ H s) (e : H a = some (.ins C dx fs)) (c : Cls X.K C) (k : Meth X.K C m g) (l : fs.lookup m = none)
    (h : Q (.ref g, [.ref a]) s) : wpAny (model X.prog X.w) A (getMethod (.ref a) m pl) Q E s := by
  obtain ⟨mA, O, r, _, _, _⟩ := ins_get I.hok e
  have hn : mA m = none := RelO.none_of (by rw [← l]; exact r m)
  exact get_meth I.kIn O (c.get m) k.at_ k.fn hn h
theorem setattr_ok {y : V} {u : Value} {Q : Unit → Shared → Prop} (I : Inv X pins σ H s) (e : H a = some (.ins C dx fs)) (c : Cls X.K C) (n : NoAttr X.K C f) (hl : fs.length < 1000) (ry : RelV y u)
    (h : ∀ s', Inv X pins σ (upd H a (.ins C dx (putF f y fs))) s' → Q () s') : wpAny (model X.prog X.w) A (setAttr (.ref a) f u) Q E s := by
  obtain ⟨mA, O, r, wi, _, ho⟩ := ins_get I.hok e
  have hz : (fs.map (·.1)).length ≤ sizeLine := by rw [List.length_map, sizeLine_eq]; omega
  refine set_map I.kIn O c.sa c.po n.taker c.hd wi hz fun h' O' sb => h _ ?_
  have hd : ∃ o, h'.get? dx = some o := let ⟨o, _, _, e', _⟩ := O'.ns; ⟨o, e'⟩
  refine I.write (x := a) (e := dx) (by rw [e]; exact True.intro) (.inr ho) (fun b q hb z => (sb.2 b hb).trans z) hd ?_
  refine ⟨by rw [upd_ne O.ne]; exact ho, ?_, O.ne, O'.obj, _, O'.ns, fun g => ?_, fun g hg => ?_⟩
  · have := length_putF f y fs; omega
  · show RelO ((putF f y fs).lookup g) (if g = f then some u else mA g)
    rw [lookup_putF]
    by_cases q : g = f
    · rw [if_pos q, if_pos q]; exact ry
    · rw [if_neg q, if_neg q]; exact r g
  · by_cases q : g = f
    · rw [q]; exact (keys_putF f y fs).1
    · refine (keys_putF f y fs).2 g (wi g fun z => hg ?_)
      show (if g = f then some u else mA g) = none
      rw [if_neg q]; exact z
theorem Inv.made (I : Inv X pins σ H s) : Inv X pins σ (upd (upd H s.heap.objs.size (.own (s.heap.objs.size + 1))) (s.heap.objs.size + 1) (.ins C s.heap.objs.size []))
    { s with heap := (s.heap.push PySem.W.emptyDict).push (PySem.W.instObj C s.heap.objs.size) } := by
  have e1 : (s.heap.push PySem.W.emptyDict).get? s.heap.objs.size = some PySem.W.emptyDict := Heap.get?_push_size s.heap rfl
  have e2 : ((s.heap.push PySem.W.emptyDict).push (PySem.W.instObj C s.heap.objs.size)).get? (s.heap.objs.size + 1) = some (PySem.W.instObj C s.heap.objs.size) := by
    have := Heap.get?_push_size (s.heap.push PySem.W.emptyDict) (o := PySem.W.instObj C s.heap.objs.size) rfl
    rwa [Heap.size_push] at this
  have e3 : (s.heap.push PySem.W.emptyDict).Ns s.heap.objs.size (fun _ => none) := ⟨PySem.W.emptyDict, #[], _, e1, rfl, (fun e he => absurd he (by simp)), fun _ => rfl⟩
  have I1 := I.laid (a := s.heap.objs.size) (o := .own (s.heap.objs.size + 1)) (h' := s.heap.push PySem.W.emptyDict) (t' := s.toks) (fun b u q => Heap.get?_push_of_some _ q) (Nat.le_refl _) ⟨_, e1⟩
  refine I1.laid (a := s.heap.objs.size + 1) (o := .ins C s.heap.objs.size []) (t' := s.toks) (fun b u q => Heap.get?_push_of_some _ q) (Nat.le_of_eq (Heap.size_push _ _)) ?_
  have ne : s.heap.objs.size ≠ s.heap.objs.size + 1 := Nat.ne_of_lt (Nat.lt_succ_self _)
  refine ⟨by rw [upd_ne ne, upd_same], Nat.zero_le _, ne, e2, fun _ => none, (Heap.Ns1.of_empty e3).at fun o q => Heap.get?_push_of_some _ q, fun _ => True.intro, fun y hy => absurd rfl hy⟩
theorem attr_of {prog : Program} {w : World} {env : Env} {e : Expr} {f : Str} {pos : Pos} {s : Shared} {Q : Value → Shared → Prop} (hb : attributeBase e f env (eval e env) = eval e env)
    (h : wpAny (model prog w) A (eval e env) (fun o s₁ => wpAny (model prog w) A (getAttr o f true) Q E s₁) E s) : wpAny (model prog w) A (eval (.Attribute e f pos) env) Q E s :=
  Attribute_any_ h (by rw [arm_eval_Attribute, hb])
end
def tFld (K : PySem.W.Frag) (ta : TE) (f : Str) : TE := fun σ H Q => ta σ H fun x H1 => ∃ a C dx fs v, x = .ref a ∧ H1 a = some (.ins C dx fs) ∧ Cls K C ∧ NoAttr K C f ∧ fs.lookup f = some v ∧ Q v H1
def sFld (K : PySem.W.Frag) (ta tv : TE) (f : Str) : TS := fun D σ H => tv σ H fun y H1 => ta σ H1 fun x H2 => ∃ a C dx fs, x = .ref a ∧ H2 a = some (.ins C dx fs) ∧ Cls K C ∧ NoAttr K C f ∧ fs.length < 1000 ∧
  D.nx σ (upd H2 a (.ins C dx (putF f y fs)))
section
variable {X : Cx} {o e value : Expr} {f : Str} {pos pos' tpos : Pos} {ta tv : TE}
theorem pe_fld (he : PE X e ta) (hb : attributeBase e f X.env (eval e X.env) = eval e X.env) : PE X (.Attribute e f pos) (tFld X.K ta f) := by
  intro pins s σ H Q I h
  refine attr_of hb (thn (he pins s σ H _ I h) fun u s1 ⟨x, H1, I1, rx, a, C, dx, fs, v, ex, ea, c, n, l, q⟩ => ?_)
  subst ex
  obtain rfl : u = Value.ref a := rx
  exact getattr_ok I1 ea c n l fun u' s2 I2 ru => ⟨v, H1, I2, ru, q⟩
theorem ps_fld (ha : PE X o ta) (hv : PE X value tv) (hs : swapsWith value (some (.Attribute o f pos')) pos.line X.env = pure false) : PS X (.Assign [.Attribute o f pos'] value pos) (sFld X.K ta tv f) := by
  intro pins s σ H D I h
  refine plainObj_wpAny_Assign_Attribute (thn (hv pins s σ H _ I h) fun u s1 ⟨y, H1, I1, ry, q⟩ => thn (ha pins s1 σ H1 _ I1 q) fun ov s2 ⟨x, H2, I2, rx, a, C, dx, fs, ex, ea, c, n, l, q2⟩ => ?_) hs
  subst ex
  obtain rfl : ov = Value.ref a := rx
  exact setattr_ok I2 ea c n l ry fun s3 I3 => ⟨σ, _, I3, q2⟩
end
section
variable {X : Cx} {pins : List (Addr × Obj)} {σ : St} {H : Hp} {s : Shared} {A : Around} {E : Value → Shared → Prop} {Q : Value → Shared → Prop} {c : Value} {b : Bool}
inductive TyOf (K : PySem.W.Frag) (H : Hp) : V → Value → Prop where
  | non : TyOf K H .non (.type "NoneType")
  | bl (x : Bool) : TyOf K H (.bl x) (.type "bool")
  | int (i : Int) : TyOf K H (.int i) (.type "int")
  | str (x : Str) : TyOf K H (.str x) (.type "str")
  | flt (x : UInt64) : TyOf K H (.flt x) (.type "float")
  | lst {a : Addr} {xs : List V} (e : H a = some (.lst xs)) : TyOf K H (.ref a) (.type "list")
  | frz {a : Addr} {o : Obj} {xs : List V} (e : H a = some (.frz o (.lst xs))) : TyOf K H (.ref a) (.type "list")
  | tup {a : Addr} {xs : List V} (e : H a = some (.tup xs)) : TyOf K H (.ref a) (.type "tuple")
  | dK {a : Addr} {kvs : List (Key × V)} (e : H a = some (.dK kvs)) : TyOf K H (.ref a) (.type "dict")
  | dT {a : Addr} {kvs : List (List Key × V)} (e : H a = some (.dT kvs)) : TyOf K H (.ref a) (.type "dict")
  | ins {a C dx : Addr} {fs : List (Str × V)} (e : H a = some (.ins C dx fs)) (cl : Cls K C) (ha : PySem.W.findIn K (.ref C) "__class__" = some (some (.builtin "object.__class__")))
      (hn : PySem.W.specialIn K (.builtin "object.__class__") "__get__" = some (some (.builtin "getset_descriptor.__get__"))) (htk : PySem.W.takesIn K (.builtin "object.__class__") = some true)
      (hm : PySem.W.mroIn K C (.type "object") = some true) : TyOf K H (.ref a) (.ref C)
theorem isinst_ok {x : V} {u t : Value} (I : Inv X pins σ H s) (rx : RelV x u) (ty : TyOf X.K H x t) (e : PySem.W.kitOne X.K t c = some b) (h : ∀ tk, Q (.bool b) { s with toks := tk }) :
    wpAny (model X.prog X.w) A (call (.builtin "isinstance") [u, c]) Q E s := by
  cases ty with
  | non => cases (show u = Value.none from rx); exact PySem.W.kia_one PySem.W.kitx_none I.kIn True.intro e (fun z => nomatch z) h
  | bl y => cases (show u = Value.bool y from rx); exact PySem.W.kia_one PySem.W.kitx_bool I.kIn True.intro e (fun z => nomatch z) h
  | int i => obtain ⟨t, q⟩ := (show ∃ t, u = Value.int i t from rx); cases q; exact PySem.W.kia_one PySem.W.kitx_int I.kIn True.intro e (fun z => nomatch z) h
  | str y => obtain ⟨t, q⟩ := (show ∃ t, u = Value.str y t from rx); cases q; exact PySem.W.kia_one PySem.W.kitx_str I.kIn True.intro e (fun z => nomatch z) h
  | flt y => obtain ⟨t, q⟩ := (show ∃ t, u = Value.float y t from rx); cases q; exact PySem.W.kia_one PySem.W.kitx_float I.kIn True.intro e (fun z => nomatch z) h
  | @lst a xs ea =>
    cases (show u = Value.ref a from rx)
    obtain ⟨_, _, n, _, h1⟩ := (show ObjOk X.prog X.w H s.heap a (.lst xs) from I.hok a _ ea)
    exact PySem.W.kia_one PySem.W.kitx_list I.kIn ⟨_, h1, rfl⟩ e (fun z => nomatch z) h
  | @frz a ob xs ea =>
    cases (show u = Value.ref a from rx)
    obtain ⟨_, _, _, n, _, h1⟩ := (show ObjOk X.prog X.w H s.heap a (.frz ob (.lst xs)) from I.hok a _ ea)
    exact PySem.W.kia_one PySem.W.kitx_list I.kIn ⟨_, h1, rfl⟩ e (fun z => nomatch z) h
  | @tup a xs ea =>
    cases (show u = Value.ref a from rx)
    obtain ⟨_, _, _, p⟩ := (show ObjOk X.prog X.w H s.heap a (.tup xs) from I.hok a _ ea)
    obtain ⟨o, h1, h2, _⟩ := p
    exact PySem.W.kia_one PySem.W.kitx_tuple I.kIn ⟨o, h1, h2⟩ e (fun z => nomatch z) h
  | @dK a kvs ea =>
    cases (show u = Value.ref a from rx)
    obtain ⟨_, _, vs, _, p⟩ := (show ObjOk X.prog X.w H s.heap a (.dK kvs) from I.hok a _ ea)
    obtain ⟨o, es, ep, h1, h2, _⟩ := p
    exact PySem.W.kia_one PySem.W.kitx_dict I.kIn ⟨o, h1, h2.1⟩ e (fun z => nomatch z) h
  | @dT a kvs ea =>
    cases (show u = Value.ref a from rx)
    obtain ⟨_, _, xs, _, o, es, ep, h1, h2, _⟩ := (show ObjOk X.prog X.w H s.heap a (.dT kvs) from I.hok a _ ea)
    exact PySem.W.kia_one PySem.W.kitx_dict I.kIn ⟨o, h1, h2.1⟩ e (fun z => nomatch z) h
  | @ins a C dx fs ea cl ha hn htk hm =>
    cases (show u = Value.ref a from rx)
    obtain ⟨mA, O, _⟩ := ins_get I.hok ea
    obtain ⟨od, J, _⟩ := O.look
    exact PySem.W.kia_one (PySem.W.kitx_own (cl.get _) cl.hd ha hn htk hm) I.kIn J e (fun z => nomatch z) h
end
structure Room (k : Nat) (A : Around) : Prop where
  dp : A.depth + 3 * k + 5 < recursionLimit
  un : A.units + 16 * k + 200 < cLine
theorem Room.mono {j k : Nat} {A : Around} (r : Room k A) (h : j ≤ k) : Room j A := ⟨by have := r.dp; omega, by have := r.un; omega⟩
theorem Room.deeper {k : Nat} {A : Around} (r : Room (k + 1) A) (env : Env) : Room k (A.deeper env) :=
  ⟨by have := r.dp; show A.depth + 1 + 3 * k + 5 < _; omega, by have := r.un; show A.units + 3 + 16 * k + 200 < _; omega⟩
theorem make_depth {A : Around} {C : Addr} {us : List Value} {kw : List (Str × Value)} : (A.under (.builtin "type.__call__" ⟨.ref C :: us, kw⟩)).depth = A.depth + 1 := by
  first | rfl | simp [Around.under, Code.weight, Code.isCreation, Code.isGuard, Code.isCaller, Code.frames, Code.isFrame, guardIds]
theorem make_units {A : Around} {C : Addr} {us : List Value} {kw : List (Str × Value)} : (A.under (.builtin "type.__call__" ⟨.ref C :: us, kw⟩)).units = A.units + 1 := by
  first | rfl | simp [Around.under, Code.cUnits, Code.frames, Code.isFrame]
theorem Room.make {k : Nat} {A : Around} (r : Room (k + 1) A) (C : Addr) (us : List Value) (kw : List (Str × Value)) : Room k (A.under (.builtin "type.__call__" ⟨.ref C :: us, kw⟩)) :=
  ⟨by have := r.dp; rw [make_depth]; omega, by have := r.un; rw [make_units]; omega⟩
theorem Room.depth {k : Nat} {A : Around} (r : Room k A) : A.depth < recursionLimit := by have := r.dp; omega
theorem Room.units {k : Nat} {A : Around} (r : Room k A) : A.units + 64 < cLine := by have := r.un; omega
def tNil : TA := fun _ H Q => Q [] H
def tCons (ta : TE) (tr : TA) : TA := fun σ H Q => ta σ H fun x H1 => tr σ H1 fun xs H2 => Q (x :: xs) H2
section
variable {X : Cx} {e : Expr} {es : List Expr} {te : TE} {t : TA} {pos : Pos}
theorem pa_nil : PA X [] tNil := fun _ _ _ _ H Q I h => Calls.spliced_nil ⟨[], H, I, .nil, h⟩
theorem pa_cons (ha : PE X e te) (hr : PA X es t) (hs : starEach (e :: es) X.env = (false, eval e X.env) :: starEach es X.env := by rfl) : PA X (e :: es) (tCons te t) := by
  intro pos pins s σ H Q I h
  rw [hs]
  show wpAny _ _ (spliced ((false, eval e X.env) :: backTo pos (starEach es X.env))) _ _ s
  refine Calls.spliced_cons (thn (ha pins s σ H _ I h) fun u s1 ⟨x, H1, I1, r1, q1⟩ => ?_)
  exact thn (hr pos pins s1 σ H1 _ I1 q1) fun us s2 ⟨xs, H2, I2, r2, q2⟩ => ⟨x :: xs, H2, I2, .cons r1 r2, q2⟩
def tTup (t : TA) : TE := fun σ H Q => t σ H fun xs H1 => xs.length ≤ sizeLine ∧ ∀ p, H1 p = none → Q (.ref p) (upd H1 p (.tup xs))
def tLst (t : TA) : TE := fun σ H Q => t σ H fun xs H1 => xs.length ≤ sizeLine ∧ ∀ p, H1 p = none → Q (.ref p) (upd H1 p (.lst xs))
theorem pe_tup {x1} (h : PA X es t) : PE X (.Tuple es x1 pos) (tTup t) := by
  intro pins s σ H Q I hq
  refine wpAny_Tuple_spliced (thn (h pos pins s σ H _ I hq) fun us s1 ⟨xs, H1, I1, r, z, q⟩ => ⟨by rw [← r.length]; exact z, ?_⟩)
  have hf : H1 s1.heap.objs.size = none := I1.hok.fresh (Nat.le_refl _)
  refine ⟨.ref s1.heap.objs.size, upd H1 s1.heap.objs.size (.tup xs), I1.laid (t' := s1.toks) (fun b u e => Heap.get?_push_of_some _ e) (Nat.le_refl _) ?_, rfl, q _ hf⟩
  exact ⟨z, us, r, ⟨_, Heap.get?_push_size _ rfl, rfl, _, rfl⟩⟩
theorem pe_lst (h : PA X es t) : PE X (.List es pos) (tLst t) := by
  intro pins s σ H Q I hq
  refine wpAny_List_spliced (thn (h pos pins s σ H _ I hq) fun us s1 ⟨xs, H1, I1, r, z, q⟩ => ⟨by rw [← r.length]; exact z, ?_⟩)
  have hf : H1 s1.heap.objs.size = none := I1.hok.fresh (Nat.le_refl _)
  refine ⟨.ref s1.heap.objs.size, upd H1 s1.heap.objs.size (.lst xs), I1.laid (t' := s1.toks) (fun b u e => Heap.get?_push_of_some _ e) (Nat.le_refl _) ?_, rfl, q _ hf⟩
  exact ⟨z, us, 0, r, Heap.get?_push_size _ rfl⟩
end
abbrev Sp := List V → Hp → VK → XK → Prop
structure CXT where
  f : List Env → Hp → Shared → XK → Value → Shared → Prop
  st : Bool
structure RoomC (CX : CXT) (base : Heap) (k : Nat) (A : Around) : Prop where
  rm : Room k A
  st : CX.st = true → A.handled = none
  hd : HCalm A base
structure Env0 (P : Program) (w : World) (K : PySem.W.Frag) (mg : Str → Option Value) (base : Heap) (A : Around) (outer : List Env) (s : Shared) (H : Hp) : Prop where
  frames : A.frames = some outer
  mod : Mod K mg base
  bs : ∀ b o, base.get? b = some o → s.heap.get? b = some o ∧ H b = none
  bsz : base.objs.size ≤ s.heap.objs.size
  funs : s.heap.FunFrames base outer
  frf : ∀ b ∈ frs outer, H b = none
  hok : HOk P w H s.heap
  bare : AllBare s.gens
def CE (outer : List Env) (P : Program) (w : World) (H : Hp) (s : Shared) (Q : VK) (u : Value) (s' : Shared) : Prop :=
  ∃ v H', s'.os = s.os ∧ AllBare s'.gens ∧ Un (frs outer) [] H H' s.heap s'.heap ∧ HOk P w H' s'.heap ∧ RelV v u ∧ Q v H'
def CR (CX : CXT) (outer : List Env) (P : Program) (w : World) (H : Hp) (s : Shared) (Q : VK) (E : XK) (r : Result) (s' : Shared) : Prop :=
  match r with
  | .ok (.ret u) => CE outer P w H s Q u s'
  | .ok _ => False
  | .error e => CX.f outer H s E e s'
structure FnOk (P : Program) (w : World) (K : PySem.W.Frag) (mg : Str → Option Value) (base : Heap) (CX : CXT) (k : Nat) (f : Addr) (fd : FuncData) (ps : List Str) (sp : Sp) : Prop where
  len : ∀ vs H Q E, sp vs H Q E → vs.length = ps.length
  run : ∀ (A : Around) (outer : List Env) (s : Shared) (H : Hp) (args : Args) (us : List Value) (vs : List V) (Q : VK) (E : XK), RoomC CX base k A → Env0 P w K mg base A outer s H → BindsTo s fd args (ps.zip us) → Vals vs us → sp vs H Q E →
    codeAny (model P w) A (.call (.ref f) args) (CR CX outer P w H s Q E) s
theorem FnOk.imp {P : Program} {w : World} {K : PySem.W.Frag} {mg : Str → Option Value} {base : Heap} {CX : CXT} {k : Nat} {f : Addr} {fd : FuncData} {ps : List Str} {sp sp' : Sp} (F : FnOk P w K mg base CX k f fd ps sp)
    (h : ∀ vs H Q E, sp' vs H Q E → sp vs H Q E) : FnOk P w K mg base CX k f fd ps sp' :=
  ⟨fun vs H Q E q => F.len vs H Q E (h _ _ _ _ q), fun A outer s H args us vs Q E hr he hb hv hs => F.run A outer s H args us vs Q E hr he hb hv (h _ _ _ _ hs)⟩
theorem Env0.make {P : Program} {w : World} {K : PySem.W.Frag} {mg : Str → Option Value} {base : Heap} {A : Around} {outer : List Env} {s : Shared} {H : Hp} (e : Env0 P w K mg base A outer s H) (C : Addr) (us : List Value) (kw : List (Str × Value)) :
    Env0 P w K mg base (A.under (.builtin "type.__call__" ⟨.ref C :: us, kw⟩)) outer s H := ⟨by first | exact e.frames | (simpa [Around.under, Code.envs, Code.isFrame, pushEnvs] using e.frames), e.mod, e.bs, e.bsz, e.funs, e.frf, e.hok, e.bare⟩
section
variable {X : Cx} {pins : List (Addr × Obj)} {σ : St} {H : Hp} {s s' : Shared}
theorem Inv.env0 (I : Inv X pins σ H s) : Env0 X.prog X.w X.K X.mg X.base X.A X.stack s H :=
  ⟨I.ok.frames, I.ok.mod, I.bs, Nat.le_trans I.ok.bsz I.sz, I.stack, I.stkFree, I.hok, I.bare⟩
theorem Inv.after {Q : VK} {u : Value} (I : Inv X pins σ H s) (h : CE X.stack X.prog X.w H s Q u s') : EP X pins σ Q u s' := by
  obtain ⟨v, H', os, bare, un, hok, r, q⟩ := h
  obtain ⟨hh, g, d, t, os'⟩ := s'
  obtain rfl : os' = s.os := os
  exact ⟨v, H', I.call (h' := hh) (g' := g) (d' := d) (t' := t) (ch := []) un hok bare (fun b z => absurd z (by simp)), r, q⟩
end
def tCall (sp : Sp) (dvs : List V) (E : XK) (t : TA) : TE := fun σ H Q => t σ H fun vs H1 => sp (vs ++ dvs) H1 Q E
def tMeth (C : Addr) (m : Str) (sp : Sp) (dvs : List V) (E : XK) (ta : TE) (t : TA) : TE := fun σ H Q => ta σ H fun x H1 => ∃ a dx fs, x = .ref a ∧ H1 a = some (.ins C dx fs) ∧ fs.lookup m = none ∧
  t σ H1 fun vs H2 => sp (x :: (vs ++ dvs)) H2 Q E
def tMake (C : Addr) (sp : Sp) (dvs : List V) (E : XK) (t : TA) : TE := fun σ H Q => t σ H fun vs H1 => ∀ x dx, H1 x = none → H1 dx = none → dx ≠ x →
  sp (.ref x :: (vs ++ dvs)) (upd (upd H1 dx (.own x)) x (.ins C dx [])) (fun v H2 => v = .non ∧ Q (.ref x) H2) E
def Binds (K : PySem.W.Frag) (fd : FuncData) (ps : List Str) (ds : List Value) : Prop :=
  ∀ (s : Shared) (us : List Value), K.In s.heap → (us ++ ds).length = ps.length → BindsTo s fd ⟨us, []⟩ (ps.zip (us ++ ds))
theorem Binds.all {K : PySem.W.Frag} {fd : FuncData} {ps : List Str} (h : ∀ us : List Value, us.length = ps.length → bindArgs fd ⟨us, []⟩ = pure (ps.zip us)) : Binds K fd ps [] := fun s us _ hl => by
  rw [List.append_nil] at hl ⊢
  exact .of_eq (h us hl)
structure Passes (CX : CXT) (X : Cx) (E : XK) : Prop where
  cl : X.calm = true
  st : CX.st = true → X.sx = true
  go : ∀ (pins : List (Addr × Obj)) (σ : St) (H : Hp) (s : Shared) (e : Value) (s' : Shared), Inv X pins σ H s → CX.f X.stack H s E e s' → X.xe e s'
theorem Passes.room {CX : CXT} {X : Cx} {E : XK} {pins : List (Addr × Obj)} {σ : St} {H : Hp} {s : Shared} {k : Nat} (p : Passes CX X E) (I : Inv X pins σ H s) (r : Room k X.A) : RoomC CX X.base k X.A := ⟨r, fun z => I.ok.st (p.st z), I.ok.hd p.cl⟩
section
variable {X : Cx} {CX : CXT} {k : Nat} {f C : Addr} {fd : FuncData} {ps : List Str} {sp : Sp} {dvs : List V} {ds : List Value} {E : XK} {x m : Str} {p pos apos : Pos} {e o : Expr} {es : List Expr} {ta : TE} {t : TA}
theorem run_fn {pins : List (Addr × Obj)} {σ : St} {H : Hp} {s : Shared} {Q : VK} {us : List Value} {vs : List V} (F : FnOk X.prog X.w X.K X.mg X.base CX k f fd ps sp) (hr : Room k X.A) (hb : Binds X.K fd ps ds) (hd : Vals dvs ds) (hx : Passes CX X E)
    (I : Inv X pins σ H s) (r : Vals vs us) (h : sp (vs ++ dvs) H Q E) : wpAny (model X.prog X.w) X.A (call (.ref f) us) (EP X pins σ Q) X.xe s := by
  have r2 : Vals (vs ++ dvs) (us ++ ds) := r.append hd
  have hl : (us ++ ds).length = ps.length := by rw [← r2.length]; exact F.len _ _ _ _ h
  refine wpAny_call (codeAny_mono (F.run X.A X.stack s H ⟨us, []⟩ (us ++ ds) (vs ++ dvs) Q E (hx.room I hr) I.env0 (hb s us I.kIn hl) r2 h) fun r s' hq => ?_)
  cases r with
  | error e => exact hx.go pins σ H s e s' I hq
  | ok fl =>
    cases fl with
    | ret u => exact I.after hq
    | next => exact False.elim hq
    | brk => exact False.elim hq
    | cont => exact False.elim hq
theorem pe_call (F : FnOk X.prog X.w X.K X.mg X.base CX k f fd ps sp) (hr : Room k X.A) (hg : Gl X x) (hm : X.mg x = some (.ref f)) (hk : PySem.W.keepIn X.K (.ref f) = true) (hb : Binds X.K fd ps ds) (hd : Vals dvs ds) (hx : Passes CX X E)
    (ha : PA X (e :: es) t) (hdb : (x == ("__debug__" : Str)) = false := by decide) (he : starEach (e :: es) X.env = (false, eval e X.env) :: starEach es X.env := by rfl) (hpl : (backTo pos (starEach es X.env)).any (·.1) = false := by rfl) :
    PE X (.Call (.Name x p) (e :: es) [] pos) (tCall sp dvs E t) := by
  intro pins s σ H Q I h
  refine wpAny_Call_Name_kw (ld_glob I hg hm ?_ hdb)
  refine PySem.W.callWith_K (h₀ := X.base) I.ok.mod.kin hk (thn (ha pos pins s σ H _ I h) fun us s1 ⟨vs, H1, I1, r, q⟩ => ⟨I1.kIn, ?_⟩) he hpl
  exact run_fn F hr hb hd hx I1 r q
structure Mk (K : PySem.W.Frag) (C f : Addr) : Prop where
  makes : PySem.W.makesIn K C = true
  init : PySem.W.findIn K (.ref C) "__init__" = some (some (.ref f))
  fn : PySem.W.isFn K (.ref f) = true
  kp : PySem.W.keepIn K (.ref C) = true
theorem run_make {pins : List (Addr × Obj)} {σ : St} {H : Hp} {s : Shared} {Q : VK} {us : List Value} {vs : List V} (M : Mk X.K C f) (F : FnOk X.prog X.w X.K X.mg X.base CX k f fd ps sp) (hr : Room (k + 1) X.A) (hb : Binds X.K fd ps ds) (hd : Vals dvs ds)
    (hx : Passes CX X E) (I : Inv X pins σ H s) (r : Vals vs us)
    (h : ∀ x dx, H x = none → H dx = none → dx ≠ x → sp (.ref x :: (vs ++ dvs)) (upd (upd H dx (.own x)) x (.ins C dx [])) (fun v H2 => v = .non ∧ Q (.ref x) H2) E) :
    wpAny (model X.prog X.w) X.A (call (.ref C) us) (EP X pins σ Q) X.xe s := by
  have hq := h (s.heap.objs.size + 1) s.heap.objs.size (I.hok.fresh (Nat.le_succ _)) (I.hok.fresh (Nat.le_refl _)) (Nat.ne_of_lt (Nat.lt_succ_self _))
  have I2 := Inv.made (C := C) I
  have r2 : Vals (V.ref (s.heap.objs.size + 1) :: (vs ++ dvs)) (Value.ref (s.heap.objs.size + 1) :: (us ++ ds)) := .cons rfl (r.append hd)
  have hl : (Value.ref (s.heap.objs.size + 1) :: us ++ ds).length = ps.length := by
    have e := r2.length
    rw [F.len _ _ _ _ hq] at e
    exact e.symm
  refine wpAny_call (make_map (f := f) I.kIn M.makes M.init (beq_iff_eq.mp M.fn) (codeAny_mono (F.run _ X.stack _ _ ⟨Value.ref (s.heap.objs.size + 1) :: us, []⟩ (Value.ref (s.heap.objs.size + 1) :: (us ++ ds)) _ _ E ⟨hr.make C us [], fun z => I2.ok.st (hx.st z), I2.ok.hd hx.cl⟩
    (I2.env0.make C us []) (hb _ (Value.ref (s.heap.objs.size + 1) :: us) I2.kIn hl) r2 hq) fun r s' hq' => ?_))
  cases r with
  | error e => exact hx.go pins σ _ _ e s' I2 hq'
  | ok fl =>
    cases fl with
    | ret u =>
      obtain ⟨v, H', I3, rv, ev, q3⟩ := I2.after hq'
      subst ev
      exact ⟨rv, ⟨V.ref (s.heap.objs.size + 1), H', I3, rfl, q3⟩⟩
    | next => exact False.elim hq'
    | brk => exact False.elim hq'
    | cont => exact False.elim hq'
theorem pe_make (M : Mk X.K C f) (F : FnOk X.prog X.w X.K X.mg X.base CX k f fd ps sp) (hr : Room (k + 1) X.A) (hg : Gl X x) (hm : X.mg x = some (.ref C)) (hb : Binds X.K fd ps ds) (hd : Vals dvs ds) (hx : Passes CX X E)
    (ha : PA X (e :: es) t) (hdb : (x == ("__debug__" : Str)) = false := by decide) (he : starEach (e :: es) X.env = (false, eval e X.env) :: starEach es X.env := by rfl) (hpl : (backTo pos (starEach es X.env)).any (·.1) = false := by rfl) :
    PE X (.Call (.Name x p) (e :: es) [] pos) (tMake C sp dvs E t) := by
  intro pins s σ H Q I h
  refine wpAny_Call_Name_kw (ld_glob I hg hm ?_ hdb)
  refine PySem.W.callWith_K (h₀ := X.base) I.ok.mod.kin M.kp (thn (ha pos pins s σ H _ I h) fun us s1 ⟨vs, H1, I1, r, q⟩ => ⟨I1.kIn, ?_⟩) he hpl
  exact run_make M F hr hb hd hx I1 r q
end
section
variable {X : Cx} {CX : CXT} {k : Nat} {f C : Addr} {fd : FuncData} {ps ks : List Str} {sp : Sp} {E : XK} {x m : Str} {p pos apos kpos : Pos} {e o : Expr} {es : List Expr} {kws : List Keyword} {te ta : TE} {t tk : TA} {nm : Option Str}
variable {g : List Value → List Value → List Value} {gV : List V → List V → List V}
end
structure FnScope (N P : List Str) (sc : Scope) : Prop where
  kind : sc.kind = .function
  co : sc.isCoroutine = false
  gen : sc.isGenerator = false
  nd : N.Nodup
  pre : N.take P.length = P
  par : ∀ x ∈ P, sc.names.lookup x = some .local ∨ sc.names.lookup x = some .cell
  nofree : ∀ y ∈ sc.names, y.2 ≠ .free
theorem bindL_out {kindOf : Str → Option NameKind} {x : Str} : ∀ {binds : List (Str × Value)} {m : Str → Option Value}, (∀ v, (x, v) ∉ binds) → bindL kindOf binds m x = m x
  | [], _, _ => rfl
  | (n, v) :: r, m, h => by
    unfold bindL
    rw [bindL_out fun w hw => h w (List.mem_cons_of_mem _ hw)]
    split
    · have : x ≠ n := by rintro rfl; exact h v List.mem_cons_self
      simp [this]
    · rfl
theorem bindC_out {kindOf : Str → Option NameKind} {x : Str} : ∀ {binds : List (Str × Value)} {m : Str → Option Value}, (∀ v, (x, v) ∉ binds) → bindC kindOf binds m x = m x
  | [], _, _ => rfl
  | (n, v) :: r, m, h => by
    unfold bindC
    rw [bindC_out fun w hw => h w (List.mem_cons_of_mem _ hw)]
    split
    · rfl
    · have : x ≠ n := by rintro rfl; exact h v List.mem_cons_self
      simp [this]
theorem bindL_get {kindOf : Str → Option NameKind} {x : Str} {v : Value} : ∀ {P : List Str} {vs : List Value} {i : Nat} {m : Str → Option Value}, P.Nodup → P[i]? = some x → vs[i]? = some v → kindOf x = some .local →
    bindL kindOf (P.zip vs) m x = some v
  | [], _, _, _, _, h, _, _ => by simp at h
  | _ :: _, [], _, _, _, _, h, _ => by simp at h
  | p :: P, w :: vs, 0, m, nd, h1, h2, hk => by
    simp at h1 h2; subst h1; subst h2
    show bindL kindOf ((p, w) :: P.zip vs) m p = _
    unfold bindL
    rw [bindL_out fun v hv => (List.nodup_cons.mp nd).1 (List.of_mem_zip hv).1, if_pos hk]
    simp
  | p :: P, w :: vs, i + 1, m, nd, h1, h2, hk => by
    show bindL kindOf ((p, w) :: P.zip vs) m x = _
    unfold bindL
    exact bindL_get (i := i) (List.nodup_cons.mp nd).2 (by simpa using h1) (by simpa using h2) hk
theorem bindC_get {kindOf : Str → Option NameKind} {x : Str} {v : Value} : ∀ {P : List Str} {vs : List Value} {i : Nat} {m : Str → Option Value}, P.Nodup → P[i]? = some x → vs[i]? = some v → kindOf x ≠ some .local →
    bindC kindOf (P.zip vs) m x = some v
  | [], _, _, _, _, h, _, _ => by simp at h
  | _ :: _, [], _, _, _, _, h, _ => by simp at h
  | p :: P, w :: vs, 0, m, nd, h1, h2, hk => by
    simp at h1 h2; subst h1; subst h2
    show bindC kindOf ((p, w) :: P.zip vs) m p = _
    unfold bindC
    rw [bindC_out fun v hv => (List.nodup_cons.mp nd).1 (List.of_mem_zip hv).1, if_neg hk]
    simp
  | p :: P, w :: vs, i + 1, m, nd, h1, h2, hk => by
    show bindC kindOf ((p, w) :: P.zip vs) m x = _
    unfold bindC
    exact bindC_get (i := i) (List.nodup_cons.mp nd).2 (by simpa using h1) (by simpa using h2) hk
def start (N : List Str) (vs : List V) : St := vs.map some ++ List.replicate (N.length - vs.length) none
def cxOf (CX : CXT) (P : Program) (w : World) (K : PySem.W.Frag) (mg : Str → Option Value) (base : Heap) (N : List Str) (qual : Str) (scope : Scope) (f : Addr) (cd : Value) (A : Around) (outer : List Env) (s : Shared) (H : Hp) (E : XK) : Cx where
  prog := P
  w := w
  K := K
  mg := mg
  base := base
  A := A.deeper (envOfC qual scope s.heap.objs.size f cd)
  N := N
  s₀ := s
  H₀ := H
  env := envOfC qual scope s.heap.objs.size f cd
  outer := outer
  stack := envOfC qual scope s.heap.objs.size f cd :: outer
  ex := []
  calm := true
  sx := CX.st
  fn := fun _ => true
  pn := []
  xe := fun e s' => wpAny (model P w) (A.deeper (envOfC qual scope s.heap.objs.size f cd)) (leaving (envOfC qual scope s.heap.objs.size f cd) e) (fun _ s'' => CX.f outer H s E e s'') (fun e' s'' => CX.f outer H s E e' s'') s'
theorem cell_has {sc : Scope} {n : Nat} {x : Str} (h : sc.names.lookup x = some .cell) : ∃ c, (cellsFrom n sc.names []).lookup x = some c := by
  have q := PySem.W.cellsFrom_some sc.names n [] (.inl h)
  exact Option.isSome_iff_exists.mp q
theorem inv_start {CX : CXT} {P : Program} {w : World} {K : PySem.W.Frag} {mg : Str → Option Value} {base : Heap} {N ps : List Str} {qual : Str} {scope : Scope} {f : Addr} {cd : Value} {A : Around} {outer : List Env} {s s1 : Shared} {H : Hp} {E : XK} {us : List Value} {vs : List V}
    (S : FnScope N ps scope) (hd : CX.st = true → A.handled = none) (hc : HCalm A base) (e0 : Env0 P w K mg base A outer s H) (hl : vs.length = ps.length) (r : Vals vs us)
    (x : InCallC s s.heap.objs.size (bindL (envOfC qual scope s.heap.objs.size f cd).kindOf (ps.zip us) fun _ => none) (cellsFrom (s.heap.objs.size + 1) scope.names []) (bindC (envOfC qual scope s.heap.objs.size f cd).kindOf (ps.zip us) fun _ => none) s1) :
    Inv (cxOf CX P w K mg base N qual scope f cd A outer s H E) [] (start N vs) H s1 := by
  have hpl : ps.length ≤ N.length := by have := congrArg List.length S.pre; rw [List.length_take] at this; omega
  obtain ⟨h1, tk, rfl, hk⟩ := x.done
  have noA : ∀ b : Addr, b ∉ (cxOf CX P w K mg base N qual scope f cd A outer s H E).ex := fun b z => absurd (show b ∈ ([] : List Addr) from z) (by simp)
  refine ⟨⟨e0.mod, S.kind, rfl, rfl, Nat.le_refl _, fun y z c h1 h2 => ?_, fun y hy => ?_, fun y c _ h => ?_, fun _ => hc, hd, Around.frames_deeper e0.frames, .inr ⟨rfl, rfl⟩, fun b z => absurd z (noA b), e0.bs, e0.bsz, fun b _ _ => noA b, fun b z => absurd z (noA b), e0.funs, e0.frf⟩,
    rfl, e0.bare, Un.kept hk, ⟨_, x.toInCall.ns, fun i y v h1 h2 h3 => ?_⟩, fun y c h => ⟨_, x.cell y c h⟩, e0.hok.fresh (Nat.le_refl _), fun y c h => ?_, fun p hp => absurd (show p ∈ ([] : List (Addr × Obj)) from hp) (by simp), e0.hok.kept hk, ?_⟩
  · exact name_of_addr x.apart (PySem.mem_of_lookup h1) (PySem.mem_of_lookup h2)
  · have hy : scope.names.lookup y = some .cell ∨ scope.names.lookup y = some .free := hy
    rcases hy with hy | hy
    · exact cell_has hy
    · exact absurd rfl (S.nofree _ (PySem.mem_of_lookup hy))
  · exact Nat.le_of_lt (x.above y c (PySem.mem_of_lookup h))
  · have hi : i < vs.length := by
      unfold start at h2
      by_cases hi : i < vs.length
      · exact hi
      · rw [List.getElem?_append_right (by simpa using hi)] at h2
        rw [List.getElem?_replicate] at h2
        split at h2 <;> cases h2
    have ha : vs[i]? = some v := by
      unfold start at h2
      rw [List.getElem?_append_left (by simpa using hi), List.getElem?_map] at h2
      cases e : vs[i]? with
      | none => rw [e] at h2; cases h2
      | some a => rw [e] at h2; cases h2; rfl
    obtain ⟨u, hu, rv⟩ := r.get ha
    have hp : ps[i]? = some y := by
      rw [← S.pre, List.getElem?_take_of_lt (by omega)]; exact h1
    have ndP : ps.Nodup := by rw [← S.pre]; exact S.nd.sublist (List.take_sublist _ _)
    refine ⟨u, rv, ?_⟩
    rcases S.par y (List.mem_of_getElem? hp) with k | k
    · exact .inl ⟨k, bindL_get ndP hp hu k⟩
    · obtain ⟨c, e⟩ := cell_has (n := s.heap.objs.size + 1) k
      refine .inr ⟨.inl k, c, e, ?_⟩
      have q := x.cell y c e
      rw [bindC_get ndP hp hu (by show scope.names.lookup y ≠ _; rw [k]; decide)] at q
      exact q
  · exact e0.hok.fresh (Nat.le_of_lt (x.above y c (PySem.mem_of_lookup h)))
  · unfold start
    show _ = N.length
    rw [List.length_append, List.length_map, List.length_replicate]
    omega
theorem fn_of {CX : CXT} {P : Program} {w : World} {K : PySem.W.Frag} {mg : Str → Option Value} {base : Heap} {k : Nat} {f : Addr} {name qual : Str} {params : Arguments} {body : List Stmt} {scope : Scope} {dV kV doc pm cdv ct oc : Value} {an od : Option Addr}
    {osl : Array (Option Value)} {N ps : List Str} {sp : Sp} (lk : K.lookup f = some ⟨oc, od, .func (PySem.W.fnOf name qual params body scope dV kV doc pm an cdv ct), osl⟩) (hcd : PySem.W.codeIn K cdv qual = true) (S : FnScope N ps scope)
    (len : ∀ vs H Q E, sp vs H Q E → vs.length = ps.length)
    (hbody : ∀ (A : Around) (outer : List Env) (s : Shared) (H : Hp) (vs : List V) (Q : VK) (E : XK), Room k (A.deeper (envOfC qual scope s.heap.objs.size f cdv)) → sp vs H Q E →
      ∃ t, PSs (cxOf CX P w K mg base N qual scope f cdv A outer s H E) body t ∧ t { nx := fun _ H' => Q .non H', rt := Q } (start N vs) H) :
    FnOk P w K mg base CX (k + 1) f (PySem.W.fnOf name qual params body scope dV kV doc pm an cdv ct) ps sp := by
  refine ⟨len, fun A outer s H args us vs Q E hr e0 hb r hsp => ?_⟩
  have hl := len _ _ _ _ hsp
  have KX : K.In s.heap := e0.mod.kin.keeps fun b o e => (e0.bs b o e).1
  have lim : s.heap.NoLimit := e0.mod.nolimit.keeps fun b o e => (e0.bs b o e).1
  have hkind : ∀ y ∈ ps.zip us, scope.names.lookup y.1 = some .local ∨ (scope.names.lookup y.1 = some .cell ∧ ((cellsFrom (s.heap.objs.size + 1) scope.names []).lookup y.1).isSome = true) := fun ⟨n, v⟩ hy => by
    rcases S.par n (List.of_mem_zip hy).1 with q | q
    · exact .inl q
    · exact .inr ⟨q, PySem.W.cellsFrom_some _ _ _ (.inl q)⟩
  refine codeAny_call_function hr.rm.depth (KX _ _ lk) rfl S.co S.gen rfl (PySem.W.codeRec_of KX hcd) (hb _ _ _ _ ?_)
  refine wpAny_newFunctionEnv_cells S.kind hkind fun env he s1 x => ?_
  subst he
  refine ⟨lim.keeps x.toInCall.keep, codeAny_func ?_⟩
  obtain ⟨t, ht, hq⟩ := hbody A outer s H vs Q E (hr.rm.deeper _) hsp
  have I : Inv (cxOf CX P w K mg base N qual scope f cdv A outer s H E) [] (start N vs) H s1 := inv_start S hr.st hr.hd e0 hl r x
  refine wpAny_mono (ht [] s1 (start N vs) H _ I hq) (fun fl s' hs => ?_) fun e s' hs => hs
  have fin : ∀ {σ' : St} {H' : Hp} {v : V} {u : Value}, Inv (cxOf CX P w K mg base N qual scope f cdv A outer s H E) [] σ' H' s' → RelV v u → Q v H' → CE outer P w H s Q u s' :=
    fun {σ' H' v u} J rv q => ⟨v, H', J.os, J.bare, J.base, J.hok, rv, q⟩
  cases fl with
  | ret u =>
    obtain ⟨v, σ', H', J, rv, q⟩ := hs
    exact fin J rv q
  | next =>
    obtain ⟨σ', H', J, q⟩ := hs
    exact fin (v := V.non) (u := Value.none) J rfl q
  | brk =>
    obtain ⟨_, _, _, q⟩ := hs
    exact False.elim q
  | cont =>
    obtain ⟨_, _, _, q⟩ := hs
    exact False.elim q
section
variable {X : Cx} {x : Str} {p pos : Pos} {e : Expr} {es : List Expr} {t : TA} {id T : String} {r : List V → Hp → VK → Prop}
def tCB (r : List V → Hp → VK → Prop) (t : TA) : TE := fun σ H Q => t σ H fun vs H1 => r vs H1 Q
theorem pe_callB (hc : CallR X (.builtin id) r) (hg : Gl X x) (hm : X.mg x = none) (hv : bootBuiltins x = some (.builtin id)) (ha : PA X (e :: es) t) (hn : x ≠ "__name__" := by decide) (hdb : (x == ("__debug__" : Str)) = false := by decide)
    (he : starEach (e :: es) X.env = (false, eval e X.env) :: starEach es X.env := by rfl) (hpl : (backTo pos (starEach es X.env)).any (·.1) = false := by rfl) : PE X (.Call (.Name x p) (e :: es) [] pos) (tCB r t) := by
  intro pins s σ H Q I h
  refine wpAny_Call_Name_kw (ld_blt I hg hm hv ?_ hn hdb)
  exact PyProof.Rows.callWith_builtin1 (thn (ha pos pins s σ H _ I h) fun us s1 ⟨vs, H1, I1, r1, q1⟩ => hc pins s1 σ H1 vs us Q I1 r1 q1) he hpl
theorem pe_callTy (hc : CallR X (.type T) r) (hg : Gl X x) (hm : X.mg x = none) (hv : bootBuiltins x = some (.type T)) (ha : PA X (e :: es) t) (hn : x ≠ "__name__" := by decide) (hdb : (x == ("__debug__" : Str)) = false := by decide)
    (he : starEach (e :: es) X.env = (false, eval e X.env) :: starEach es X.env := by rfl) (hpl : (backTo pos (starEach es X.env)).any (·.1) = false := by rfl) : PE X (.Call (.Name x p) (e :: es) [] pos) (tCB r t) := by
  intro pins s σ H Q I h
  refine wpAny_Call_Name_kw (ld_blt I hg hm hv ?_ hn hdb)
  exact PyProof.Rows.callWith_type1 (thn (ha pos pins s σ H _ I h) fun us s1 ⟨vs, H1, I1, r1, q1⟩ => hc pins s1 σ H1 vs us Q I1 r1 q1) he hpl
end
end L2
namespace HT
open PySem PyProof.Rows
section
open PySem.SeqAt
open PySem.AutoSeq1 (wpAny_loadPart')
open PySem.MeetsSeq PySem.MeetsSeq2 PySem.MeetsSeq3
end
section
variable {prog : Program} {w : World} {A : Around} {E : Value → Shared → Prop} {s : Shared}
def sIx (n d : Nat) : Option Int → Nat
  | none => d
  | some v => if v < 0 then (v + (n : Int)).toNat else min v.toNat n
theorem sIx_nat (n d k : Nat) : sIx n d (some (k : Int)) = min k n := by
  show (if (k : Int) < 0 then ((k : Int) + (n : Int)).toNat else min (k : Int).toNat n) = min k n
  rw [if_neg (by omega), Int.toNat_natCast]
end
end HT
namespace L2
open PySem PySem.Spec PyProof.Rows
abbrev TO := St → Hp → (Option Int → Hp → Prop) → Prop
def PO (X : Cx) (e : Option Expr) (t : TO) : Prop :=
  ∀ (pins : List (Addr × Obj)) (s : Shared) (σ : St) (H : Hp) (Q : Option Int → Hp → Prop), Inv X pins σ H s → t σ H Q →
    wpAny (model X.prog X.w) X.A (evalPart e X.env) (fun u s' => ∃ o H', Inv X pins σ H' s' ∧ IsPart u o ∧ Q o H') X.xe s
def tNoPart : TO := fun _ H Q => Q none H
def tPart (t : TE) : TO := fun σ H Q => t σ H fun x H1 => ∃ i, x = .int i ∧ Q (some i) H1
section
variable {X : Cx} {e : Expr} {te : TE} {lo hi : Option Expr} {tl th : TO} {pos p2 : Pos}
theorem po_none : PO X none tNoPart := by
  intro pins s σ H Q I h
  rw [evalPart_none]
  exact wpAny_pure ⟨none, H, I, .none, h⟩
theorem po_some (h : PE X e te) : PO X (some e) (tPart te) := by
  intro pins s σ H Q I hw
  rw [evalPart_some]
  refine thn (h pins s σ H _ I hw) fun u s1 ⟨x, H1, I1, r1, q1⟩ => ?_
  obtain ⟨i, rfl, q⟩ := q1
  obtain ⟨t, rfl⟩ := r1
  exact ⟨some i, H1, I1, .int i t, q⟩
def SlR (X : Cx) (r : V → Option Int → Option Int → Hp → VK → Prop) : Prop :=
  ∀ (pins : List (Addr × Obj)) (s : Shared) (σ : St) (H : Hp) (x : V) (v vl vu : Value) (lo hi : Option Int) (sl : Addr) (Q : VK), Inv X pins σ H s → RelV x v → s.heap.IsSliceOf sl vl vu .none → IsPart vl lo → IsPart vu hi → r x lo hi H Q →
    ∃ T id, typeLookup (.type T) "__getitem__" = pure (some (.builtin id)) ∧ s.TypeIs v T ∧ wpAny (model X.prog X.w) X.A (getItem v (.ref sl)) (EP X pins σ Q) X.xe s
def tSl (r : V → Option Int → Option Int → Hp → VK → Prop) (te : TE) (tl th : TO) : TE := fun σ H Q => te σ H fun x H1 => tl σ H1 fun l H2 => th σ H2 fun u H3 => r x l u H3 Q
theorem pe_slice {r : V → Option Int → Option Int → Hp → VK → Prop} (hr : SlR X r) (he : PE X e te) (hl : PO X lo tl) (hu : PO X hi th) : PE X (.Subscript e (.Slice lo hi none p2) pos) (tSl r te tl th) := by
  intro pins s σ H Q I h
  refine Subscript_ (thn (he pins s σ H _ I h) fun v s1 ⟨x, H1, I1, r1, q1⟩ => ?_)
  refine wpAny_Slice (thn (hl pins s1 σ H1 _ I1 q1) fun vl s2 ⟨l, H2, I2, pl, q2⟩ => thn (hu pins s2 σ H2 _ I2 q2) fun vu s3 ⟨u, H3, I3, pu, q3⟩ => ?_)
  rw [evalPart_none]
  refine wpAny_pure ?_
  have I4 : Inv X pins σ H3 { s3 with heap := s3.heap.push { cls := .type "slice", data := .fields #[vl, vu, .none] } } := I3.kept (t' := s3.toks) fun b ob q => Heap.get?_push_of_some _ q
  obtain ⟨T, id, hT, ht, hg⟩ := hr pins { s3 with heap := s3.heap.push { cls := .type "slice", data := .fields #[vl, vu, .none] } } σ H3 x v vl vu l u s3.heap.objs.size Q I4 r1 (Heap.IsSliceOf.new ..) pl pu q3
  show wpAny (model X.prog X.w) X.A (subscriptTail e (.Slice lo hi none p2) v (.ref s3.heap.objs.size)) (EP X pins σ Q) X.xe { s3 with heap := s3.heap.push { cls := .type "slice", data := .fields #[vl, vu, .none] } }
  exact tail_any (ops := [.ref s3.heap.objs.size, v]) ht hT hg (by with_unfolding_all rfl)
def cutV (xs : List V) (lo hi : Option Int) : List V := (xs.drop (HT.sIx xs.length 0 lo)).take (HT.sIx xs.length xs.length hi - HT.sIx xs.length 0 lo)
theorem cutV_length (xs : List V) (lo hi : Option Int) : (cutV xs lo hi).length ≤ xs.length := by
  unfold cutV
  rw [List.length_take, List.length_drop]
  omega
end
def ixN (n : Nat) (i : Int) : Option Nat := if 0 ≤ i then (if i < n then some i.toNat else none) else if -(n : Int) ≤ i then some (i + n).toNat else none
def atI {α : Type} (xs : List α) (i : Int) : Option α := (ixN xs.length i).bind fun j => xs[j]?
theorem ixN_seq {n : Nat} {i : Int} {j : Nat} (h : ixN n i = some j) : seqIndex? i n = some j ∧ j < n ∧ -(n : Int) ≤ i ∧ i < n := by
  unfold ixN at h
  by_cases h0 : 0 ≤ i
  · rw [if_pos h0] at h
    by_cases h1 : i < n
    · rw [if_pos h1] at h
      have e : i.toNat = j := Option.some.inj h
      exact ⟨by rw [seqIndex_of h0 h1, e], by omega, by omega, h1⟩
    · rw [if_neg h1] at h; cases h
  · rw [if_neg h0] at h
    by_cases h1 : -(n : Int) ≤ i
    · rw [if_pos h1] at h
      have e : (i + n).toNat = j := Option.some.inj h
      exact ⟨by rw [seqIndex_neg (by omega) h1, e], by omega, h1, by omega⟩
    · rw [if_neg h1] at h; cases h
theorem atI_get {α : Type} {xs : List α} {i : Int} {v : α} (h : atI xs i = some v) : ∃ j, seqIndex? i xs.length = some j ∧ xs[j]? = some v ∧ j < xs.length ∧ -(xs.length : Int) ≤ i ∧ i < xs.length := by
  unfold atI at h
  cases e : ixN xs.length i with
  | none => rw [e] at h; cases h
  | some j =>
    rw [e] at h
    obtain ⟨h1, h2, h3, h4⟩ := ixN_seq e
    exact ⟨j, h1, h, h2, h3, h4⟩
theorem atI_nat {α : Type} {xs : List α} {j : Nat} {v : α} (h : xs[j]? = some v) : atI xs (j : Int) = some v := by
  have hj : j < xs.length := (List.getElem?_eq_some_iff.mp h).1
  have e : ixN xs.length (j : Int) = some j := by
    unfold ixN
    rw [if_pos (by omega), if_pos (by omega)]; simp
  unfold atI; rw [e]; exact h
theorem atI_last {α : Type} (xs : List α) (v : α) : atI (xs ++ [v]) (-1) = some v := by
  have hl : (xs ++ [v]).length = xs.length + 1 := by simp
  have e : ixN (xs ++ [v]).length (-1) = some xs.length := by
    unfold ixN
    rw [hl, if_neg (by decide), if_pos (by omega)]
    congr 1
    omega
  unfold atI
  rw [e]
  show (xs ++ [v])[xs.length]? = some v
  simp
def PlainIx (b : Expr) : Prop := ∀ o i, subscripted b false o i = operate [o, i] (getItem o i)
def IxR (X : Cx) (r : R2) : Prop :=
  ∀ (value slice : Expr) (pins : List (Addr × Obj)) (s : Shared) (σ : St) (H : Hp) (x y : V) (v u : Value) (Q : VK), Inv X pins σ H s → RelV x v → RelV y u → r x y H Q →
    subscripted slice false v u = operate [v, u] (getItem v u) → wpAny (model X.prog X.w) X.A (subscriptTail value slice v u) (EP X pins σ Q) X.xe s
def MtR (X : Cx) (id : String) (r : V → List V → Hp → VK → Prop) : Prop :=
  ∀ (pins : List (Addr × Obj)) (s : Shared) (σ : St) (H : Hp) (x : V) (xs : List V) (v : Value) (us : List Value) (Q : VK), Inv X pins σ H s → RelV x v → Vals xs us → r x xs H Q →
    wpAny (model X.prog X.w) X.A (call (.builtin id) (v :: us)) (EP X pins σ Q) X.xe s
section
variable {X : Cx} {a b : Expr} {ta tb : TE} {pos : Pos}
theorem pe_ix {r : R2} (hr : IxR X r) (ha : PE X a ta) (hb : PE X b tb) (hs : PlainIx b) : PE X (.Subscript a b pos) (tOp r ta tb) := by
  intro pins s σ H Q I h
  exact Subscript_ (binT ha hb I h fun v u s2 x y H2 I2 rx ry q => hr a b pins s2 σ H2 x y v u Q I2 rx ry q (hs _ _))
def rIxL (K : PySem.W.Frag) : R2 := fun x y H Q => ∃ p xs i v, x = .ref p ∧ y = .int i ∧ SqL K H p xs ∧ atI xs i = some v ∧ Q v H
def rIxT (K : PySem.W.Frag) : R2 := fun x y H Q => ∃ p xs i v, x = .ref p ∧ y = .int i ∧ SqT K H p xs ∧ atI xs i = some v ∧ Q v H
theorem ix_list : IxR X (rIxL X.K) := by
  intro value slice pins s σ H x y v u Q I rx ry h hs
  obtain ⟨p, xs, i, z, rfl, rfl, hq, he, q⟩ := h
  cases rx
  obtain ⟨t, rfl⟩ := ry
  obtain ⟨its, r, pl, hz⟩ := I.list hq
  obtain ⟨j, h1, h2, h3, h4, h5⟩ := atI_get he
  obtain ⟨w, ew, rw'⟩ := r.get h2
  have hl := r.length
  have hn := line63
  have fin : EP X pins σ Q w s := ⟨z, H, I, rw', q⟩
  by_cases h0 : 0 ≤ i
  · have hj : i.toNat = j := by
      rw [seqIndex_of h0 h5] at h1
      exact Option.some.inj h1
    exact item_listR pl.isList h0 (by omega) (by rw [hj]; simpa using ew) fin hs
  · have hj : (i + (its.toArray.size : Int)).toNat = j := by
      rw [seqIndex_neg (by omega) h4] at h1
      rw [List.size_toArray, ← hl]
      exact Option.some.inj h1
    exact subscriptTail_builtinR (x := w) pl.isList.typeIs slot_list_getitem.lookup
      (wpAny_getItem_list_neg (Q := fun r s' => r = w ∧ EP X pins σ Q r s') pl.isList (by omega) (by rw [List.size_toArray] <;> omega) (by omega) (by rw [hj]; simpa using ew) ⟨rfl, fin⟩) hs
theorem ix_tup : IxR X (rIxT X.K) := by
  intro value slice pins s σ H x y v u Q I rx ry h hs
  obtain ⟨p, xs, i, z, rfl, rfl, hq, he, q⟩ := h
  cases rx
  obtain ⟨t, rfl⟩ := ry
  obtain ⟨its, r, pl, hz⟩ := I.tuple hq
  obtain ⟨j, h1, h2, h3, h4, h5⟩ := atI_get he
  obtain ⟨w, ew, rw'⟩ := r.get h2
  have hl := r.length
  have hn := line63
  have fin : EP X pins σ Q w s := ⟨z, H, I, rw', q⟩
  exact subscriptTail_builtinR (x := w) pl.typeIs slot_tuple_getitem.lookup
    (getItem_tuple (j := j) (Q := fun r s' => r = w ∧ EP X pins σ Q r s') pl (by omega) (by omega) (by rw [List.size_toArray, ← hl]; exact h1) (by simpa using ew) ⟨rfl, fin⟩) hs
theorem slice_bounds (lo hi : Option Int) (n : Nat) : (sliceBounds lo hi none n).1 = ((HT.sIx n 0 lo : Nat) : Int) ∧ (sliceBounds lo hi none n).2.1 = ((HT.sIx n n hi : Nat) : Int) ∧ (sliceBounds lo hi none n).2.2 = 1 := by
  refine ⟨?_, ?_, rfl⟩
  · cases lo with
    | none => simp [sliceBounds, HT.sIx]
    | some i =>
      simp only [sliceBounds, HT.sIx, Option.getD_none, show (1 : Int) > 0 by decide, if_true]
      by_cases h : i < 0
      · simp only [h, if_true] <;> omega
      · simp only [h, if_false] <;> omega
  · cases hi with
    | none => simp [sliceBounds, HT.sIx]
    | some i =>
      simp only [sliceBounds, HT.sIx, Option.getD_none, show (1 : Int) > 0 by decide, if_true]
      by_cases h : i < 0
      · simp only [h, if_true] <;> omega
      · simp only [h, if_false] <;> omega
theorem slicePick_cut (its : List Value) (lo hi : Option Int) : slicePick its.toArray lo hi none = ((its.drop (HT.sIx its.length 0 lo)).take (HT.sIx its.length its.length hi - HT.sIx its.length 0 lo)).toArray := by
  obtain ⟨h1, h2, h3⟩ := slice_bounds lo hi its.toArray.size
  unfold slicePick
  rw [h1, h2, h3]
  simp only [sliceRange_one, pick_run, List.size_toArray] <;> rfl
def rSlL (K : PySem.W.Frag) : V → Option Int → Option Int → Hp → VK → Prop := fun x lo hi H Q => ∃ a xs, x = .ref a ∧ SqL K H a xs ∧ ∀ p, H p = none → Q (.ref p) (upd H p (.lst (cutV xs lo hi)))
theorem sl_list : SlR X (rSlL X.K) := by
  intro pins s σ H x v vl vu lo hi sl Q I rx hs pl pu h
  obtain ⟨a, xs, rfl, hx, q⟩ := h
  cases rx
  obtain ⟨its, r, ht, hz⟩ := I.list hx
  have hlen := r.length
  refine ⟨"list", _, slot_list_getitem.lookup, ht.isList.typeIs, ?_⟩
  refine wpAny_getItem_list_slice ht.isList hs pl pu .none (by simp) ?_ (by rw [List.size_toArray] <;> omega)
  rw [slicePick_cut, ← hlen]
  refine ⟨.ref s.heap.objs.size, _, I.laid (t' := s.toks) (o := .lst (cutV xs lo hi)) (fun b ob q => Heap.get?_push_of_some _ q) (Nat.le_refl _) ?_, rfl, q _ (I.hok.fresh (Nat.le_refl _))⟩
  exact ⟨Nat.le_trans (cutV_length xs lo hi) hz, _, 0, (r.drop (HT.sIx xs.length 0 lo)).take (HT.sIx xs.length xs.length hi - HT.sIx xs.length 0 lo), Heap.get?_push_size _ rfl⟩
def flatV : V → Bool
  | .non => true
  | .bl _ => true
  | .int _ => true
  | .str _ => true
  | _ => false
def eqV : V → V → Bool
  | .non, .non => true
  | .bl a, .bl b => a == b
  | .bl a, .int b => (if a then 1 else 0) == b
  | .int a, .bl b => a == (if b then 1 else 0)
  | .int a, .int b => a == b
  | .str a, .str b => a == b
  | _, _ => false
theorem eqAt_V {A : Around} {s : Shared} {y x : V} {u v : Value} (ry : RelV y u) (rx : RelV x v) (fy : flatV y = true) (fx : flatV x = true) : SeqAt.EqAt A s u v (eqV y x) := by
  cases y with
  | non =>
    cases ry
    cases x with
    | non => cases rx; exact SeqAt.EqAt.same _
    | bl b => cases rx; exact SeqAt.EqAt.none_bool b
    | int b => obtain ⟨t, rfl⟩ := rx; exact SeqAt.EqAt.none_int b t
    | str b => obtain ⟨t, rfl⟩ := rx; exact SeqAt.EqAt.none_str b t
    | _ => exact absurd (show false = true from fx) Bool.false_ne_true
  | bl a =>
    cases ry
    cases x with
    | non => cases rx; exact SeqAt.EqAt.bool_none a
    | bl b => cases rx; exact SeqAt.EqAt.bool_bool a b
    | int b => obtain ⟨t, rfl⟩ := rx; exact SeqAt.EqAt.bool_int a b t
    | str b => obtain ⟨t, rfl⟩ := rx; exact SeqAt.EqAt.bool_str a b t
    | _ => exact absurd (show false = true from fx) Bool.false_ne_true
  | int a =>
    obtain ⟨t', rfl⟩ := ry
    cases x with
    | non => cases rx; exact SeqAt.EqAt.int_none a t'
    | bl b => cases rx; exact SeqAt.EqAt.int_bool a t' b
    | int b => obtain ⟨t, rfl⟩ := rx; exact SeqAt.EqAt.int_int a t' b t
    | str b => obtain ⟨t, rfl⟩ := rx; exact SeqAt.EqAt.int_str a t' b t
    | _ => exact absurd (show false = true from fx) Bool.false_ne_true
  | str a =>
    obtain ⟨t', rfl⟩ := ry
    cases x with
    | non => cases rx; exact SeqAt.EqAt.str_none a t'
    | bl b => cases rx; exact SeqAt.EqAt.str_bool a t' b
    | int b => obtain ⟨t, rfl⟩ := rx; exact SeqAt.EqAt.str_int a t' b t
    | str b => obtain ⟨t, rfl⟩ := rx; exact SeqAt.EqAt.str_str a t' b t
    | _ => exact absurd (show false = true from fx) Bool.false_ne_true
  | _ => exact absurd (show false = true from fy) Bool.false_ne_true
def eqU (x : V) (u : Value) : Bool := match u with
  | .none => eqV .non x
  | .bool b => eqV (.bl b) x
  | .int i _ => eqV (.int i) x
  | .str z _ => eqV (.str z) x
  | _ => false
theorem eqU_of {x y : V} {u : Value} (r : RelV y u) (f : flatV y = true) : eqU x u = eqV y x := by
  cases y with
  | non => cases r; rfl
  | bl b => cases r; rfl
  | int i => obtain ⟨t, rfl⟩ := r; rfl
  | str z => obtain ⟨t, rfl⟩ := r; rfl
  | _ => exact absurd (show false = true from f) Bool.false_ne_true
theorem any_eqU {x : V} : ∀ {xs : List V} {us : List Value}, Vals xs us → xs.all flatV = true → us.any (eqU x) = xs.any fun y => eqV y x
  | _, _, .nil, _ => rfl
  | y :: xs, u :: us, .cons r t, f => by
    rw [List.all_cons, Bool.and_eq_true] at f
    rw [List.any_cons, List.any_cons, eqU_of r f.1, any_eqU t f.2]
theorem mem_eqAt {A : Around} {s : Shared} {x : V} {v : Value} (rx : RelV x v) (fx : flatV x = true) : ∀ {xs : List V} {us : List Value}, Vals xs us → xs.all flatV = true → ∀ u ∈ us, SeqAt.EqAt A s u v (eqU x u)
  | _, _, .nil, _ => fun u hu => by cases hu
  | y :: xs, u :: us, .cons r t, f => fun u' hu => by
    rw [List.all_cons, Bool.and_eq_true] at f
    rcases List.mem_cons.mp hu with rfl | hu
    · rw [eqU_of r f.1]; exact eqAt_V r rx f.1 fx
    · exact mem_eqAt rx fx t f.2 u' hu
def inV (x : V) (xs : List V) : Bool := xs.any fun y => eqV y x
def rIn (K : PySem.W.Frag) (neg : Bool) : R2 := fun x y H Q => ∃ p xs, y = .ref p ∧ (SqL K H p xs ∨ SqT K H p xs) ∧ flatV x = true ∧ xs.all flatV = true ∧ Q (.bl (if neg then !inV x xs else inV x xs)) H
theorem op_in_seq : OpR X (compareOp .In) (rIn X.K false) := by
  intro pins s σ H x y v u Q I rx ry h
  obtain ⟨p, xs, rfl, hq, fx, fs, q⟩ := h
  cases ry
  rcases hq with hq | hq
  · obtain ⟨its, r, pl, hz⟩ := I.list hq
    refine SeqAt.in_listAt (eqU x) pl.isList (fun w hw => mem_eqAt rx fx r fs w (by simpa using hw)) ⟨.bl _, H, I, rfl, ?_⟩
    rw [show its.toArray.any (eqU x) = its.any (eqU x) by simp, any_eqU r fs]
    exact q
  · obtain ⟨its, r, pl, hz⟩ := I.tuple hq
    refine SeqAt.in_tupleAt (eqU x) pl (fun w hw => mem_eqAt rx fx r fs w (by simpa using hw)) ⟨.bl _, H, I, rfl, ?_⟩
    rw [show its.toArray.any (eqU x) = its.any (eqU x) by simp, any_eqU r fs]
    exact q
theorem call_len_seq : CallR X (.builtin "len") (fun xs H Q => ∃ p ys, xs = [.ref p] ∧ (SqL X.K H p ys ∨ SqT X.K H p ys) ∧ Q (.int ys.length) H) := by
  intro pins s σ H xs us Q I r h
  obtain ⟨p, ys, rfl, hq, q⟩ := h
  obtain ⟨u, rfl, rx⟩ := vals1 r
  cases rx
  have hn := line63
  rcases hq with hq | hq
  · obtain ⟨its, r', pl, hz⟩ := I.list hq
    have hlen := r'.length
    exact Calls.call_len_list pl.isList (by simp only [List.size_toArray] <;> omega) ⟨.int ys.length, H, I.tok _, ⟨s.toks + 1, by rw [List.size_toArray, hlen]⟩, q⟩
  · obtain ⟨its, r', pl, hz⟩ := I.tuple hq
    have hlen := r'.length
    exact len_tuple pl (by simp only [List.size_toArray] <;> omega) ⟨.int ys.length, H, I.tok _, ⟨s.toks + 1, by rw [List.size_toArray, hlen]⟩, q⟩
theorem call_list_of : CallR X (.type "list") (fun xs H Q => ∃ p ys, xs = [.ref p] ∧ (SqL X.K H p ys ∨ SqT X.K H p ys) ∧ ∀ l, H l = none → Q (.ref l) (upd H l (.lst ys))) := by
  intro pins s σ H xs us Q I r h
  obtain ⟨p, ys, rfl, hq, q⟩ := h
  obtain ⟨u, rfl, rx⟩ := vals1 r
  cases rx
  have fin : ∀ (its : List Value), Vals ys its → ys.length ≤ sizeLine → ∀ (h' : Heap) (c' : Nat), (∀ b o', s.heap.get? b = some o' → h'.get? b = some o') →
      h'.get? s.heap.objs.size = some { cls := .type "list", dict := none, data := .seq its.toArray c', slots := #[] } → EP X pins σ Q (.ref s.heap.objs.size) { s with heap := h' } := fun its r' hz h' c' kp e =>
    ⟨.ref s.heap.objs.size, _, I.laid (t' := s.toks) kp (Nat.le_refl _) (show ObjOk X.prog X.w _ h' _ (.lst ys) from ⟨hz, its, c', r', e⟩), rfl, q _ (I.hok.fresh (Nat.le_refl _))⟩
  rcases hq with hq | hq
  · obtain ⟨its, r', pl, hz⟩ := I.list hq
    have hlen := r'.length
    obtain ⟨o, ho, hc, n, hd⟩ := pl.isList
    exact call_list_seq p (.inl rfl) ho hc hd (fun h' c' kp e => fin its r' hz h' c' kp e) (by simp only [List.size_toArray] <;> omega)
  · obtain ⟨its, r', pl, hz⟩ := I.tuple hq
    have hlen := r'.length
    obtain ⟨o, ho, hc, n, hd⟩ := pl
    exact call_list_seq p (.inr rfl) ho hc hd (fun h' c' kp e => fin its r' hz h' c' kp e) (by simp only [List.size_toArray] <;> omega)
theorem call_tuple_of : CallR X (.type "tuple") (fun xs H Q => ∃ p ys, xs = [.ref p] ∧ ((SqL X.K H p ys ∧ ∀ l, H l = none → Q (.ref l) (upd H l (.tup ys))) ∨ (SqT X.K H p ys ∧ Q (.ref p) H))) := by
  intro pins s σ H xs us Q I r h
  obtain ⟨p, ys, rfl, h⟩ := h
  obtain ⟨u, rfl, rx⟩ := vals1 r
  cases rx
  rcases h with ⟨hq, q⟩ | ⟨hq, q⟩
  · obtain ⟨its, r', pl, hz⟩ := I.list hq
    have hlen := r'.length
    refine call_tuple_list pl.isList (fun h' kp => ?_) (by simp only [List.size_toArray] <;> omega)
    have I1 : Inv X pins σ H { s with heap := h' } := I.kept (t' := s.toks) kp
    have I2 : Inv X pins σ (upd H h'.objs.size (.tup ys)) { s with heap := h'.push { cls := .type "tuple", data := .seq its.toArray } } :=
      I1.laid (t' := s.toks) (fun b o e => Heap.get?_push_of_some _ e) (Nat.le_refl _) (show ObjOk X.prog X.w _ _ _ (.tup ys) from ⟨hz, its, r', IsTup.new _ _⟩)
    exact ⟨.ref h'.objs.size, _, I2, rfl, q _ (I1.hok.fresh (Nat.le_refl _))⟩
  · obtain ⟨its, r', pl, hz⟩ := I.tuple hq
    exact call_tuple_same pl ⟨.ref p, H, I, rfl, q⟩
def tyV (K : PySem.W.Frag) (T : String) (x : V) (H : Hp) : Prop := match x with
  | .str _ => T = "str"
  | .int _ => T = "int"
  | .ref p => (T = "list" ∧ ∃ xs, SqL K H p xs) ∨ (T = "tuple" ∧ ∃ o, K.lookup p = some o ∧ o.cls = .type "tuple" ∧ o.dict = none) ∨
      (T = "dict" ∧ ((∃ kvs, H p = some (.dK kvs)) ∨ ∃ kvs, H p = some (.dT kvs))) ∨ (T = "set" ∧ ∃ S n, H p = some (.set S n))
  | _ => False
theorem tyV_is {pins : List (Addr × Obj)} {σ : St} {H : Hp} {s : Shared} {T : String} {x : V} {v : Value} (I : Inv X pins σ H s) (r : RelV x v) (ty : tyV X.K T x H) :
    s.TypeIs v T ∧ ∀ a, v = .ref a → ∃ ob, s.heap.get? a = some ob ∧ ob.dict = none := by
  cases x with
  | str z =>
    obtain ⟨t, rfl⟩ := r
    cases (show T = "str" from ty)
    exact ⟨typeIs_str s z t, fun _ e => nomatch e⟩
  | int i =>
    obtain ⟨t, rfl⟩ := r
    cases (show T = "int" from ty)
    exact ⟨typeIs_int s i t, fun _ e => nomatch e⟩
  | ref p =>
    cases r
    rcases ty with ⟨rfl, xs, hq⟩ | ⟨rfl, o, hk, hc, hd⟩ | ⟨rfl, hk⟩ | ⟨rfl, S, n, hk⟩
    · obtain ⟨its, _, pl, _⟩ := I.list hq
      refine ⟨pl.isList.typeIs, fun a e => ?_⟩
      cases e
      obtain ⟨o, n, e, c, hd, _⟩ := pl
      exact ⟨o, e, hd⟩
    · refine ⟨⟨o, I.kIn p o hk, hc⟩, fun a e => ?_⟩
      cases e
      exact ⟨o, I.kIn _ o hk, hd⟩
    · have z : ∃ o, s.heap.get? p = some o ∧ o.ExactDict := by
        rcases hk with ⟨kvs, hk⟩ | ⟨kvs, hk⟩
        · obtain ⟨_, _, _, _, o, _, _, e, ex, _⟩ := I.hok p _ hk
          exact ⟨o, e, ex⟩
        · obtain ⟨_, _, _, _, o, _, _, e, ex, _⟩ := I.hok p _ hk
          exact ⟨o, e, ex⟩
      obtain ⟨o, e, ex⟩ := z
      refine ⟨⟨o, e, ex.1⟩, fun a e2 => ?_⟩
      cases e2
      exact ⟨o, e, ex.2.1⟩
    · obtain ⟨o, _, _, _, e, ex, _⟩ := I.hok p _ hk
      refine ⟨⟨o, e, ex.1⟩, fun a e2 => ?_⟩
      cases e2
      exact ⟨o, e, ex.2.1⟩
  | _ => exact False.elim ty
def tBM0 (K : PySem.W.Frag) (T : String) (r : V → List V → Hp → VK → Prop) (to : TE) : TE := fun σ H Q => to σ H fun x H1 => tyV K T x H1 ∧ r x [] H1 Q
def tBM (K : PySem.W.Frag) (T : String) (r : V → List V → Hp → VK → Prop) (to : TE) (t : TA) : TE := fun σ H Q => to σ H fun x H1 => tyV K T x H1 ∧ t σ H1 fun xs H2 => r x xs H2 Q
variable {o e : Expr} {es : List Expr} {to : TE} {t : TA} {name : Str} {apos cpos : Pos} {T id : String} {r : V → List V → Hp → VK → Prop}
theorem pe_bm0 (pa : PlainAttrs T) (slot : Slot T name id) (hty : typeOf (.builtin id) = pure (.type "method_descriptor")) (hm : MtR X id r) (ho : PE X o to)
    (hbase : attributeBase o name X.env (eval o X.env) = eval o X.env := by rfl) (hline : (apos.endLine == cpos.line) = true := by rfl) : PE X (.Call (.Attribute o name apos) [] [] cpos) (tBM0 X.K T r to) := by
  intro pins s σ H Q I h
  refine wpAny_Call_method0_late hbase hline (thn (ho pins s σ H _ I h) fun v s1 ⟨x, H1, I1, r1, ty, q1⟩ => ?_)
  obtain ⟨h1, h2⟩ := tyV_is I1 r1 ty
  exact ⟨T, id, pa, slot, hty, h1, h2, Calls.callWith_builtin rfl (PySem.evalArgs_none (hm pins s1 σ H1 x [] v [] Q I1 r1 .nil q1))⟩
theorem pe_bm (pa : PlainAttrs T) (slot : Slot T name id) (hty : typeOf (.builtin id) = pure (.type "method_descriptor")) (hm : MtR X id r) (ho : PE X o to) (ha : PA X (e :: es) t)
    (hbase : attributeBase o name X.env (eval o X.env) = eval o X.env := by rfl)
    (hfew : ((backTo cpos (starEach (e :: es) X.env)).all (fun x => !x.1) && (backToKw cpos (keywordEach [] X.env)).all (fun x => x.1.isSome)
      && decide ((e :: es).length + ([] : List Keyword).length + (if ([] : List Keyword).isEmpty then 0 else 1) < 30)) = true := by rfl)
    (hline : (apos.endLine == cpos.line) = true := by rfl) (hs : starEach (e :: es) X.env = (false, eval e X.env) :: starEach es X.env := by rfl) (hplain : (backTo cpos (starEach es X.env)).any (·.1) = false := by rfl) :
    PE X (.Call (.Attribute o name apos) (e :: es) [] cpos) (tBM X.K T r to t) := by
  intro pins s σ H Q I h
  refine wpAny_Call_method_late hbase hfew hline rfl (thn (ho pins s σ H _ I h) fun v s1 ⟨x, H1, I1, r1, ty, q1⟩ => ?_)
  obtain ⟨h1, h2⟩ := tyV_is I1 r1 ty
  refine ⟨T, id, pa, slot, hty, h1, h2, ?_⟩
  have hA := ha cpos pins s1 σ H1 _ I1 q1
  rw [hs] at hA ⊢
  refine Calls.callWith_builtin (by show (false || (backTo cpos (starEach es X.env)).any (·.1)) = false; rw [hplain] <;> rfl) (Calls.evalArgs_plain ?_)
  exact thn hA fun us s2 ⟨vs, H2, I2, r2, q2⟩ => hm pins s2 σ H2 x vs v us Q I2 r1 r2 q2
end
def MtM (X : Cx) (id : String) (r : V → List V → Hp → VK → Prop) : Prop :=
  ∀ (pins : List (Addr × Obj)) (s : Shared) (σ : St) (H : Hp) (x : V) (xs : List V) (v : Value) (us : List Value) (Q : VK), Inv X pins σ H s → RelV x v → Vals xs us → r x xs H Q →
    wpAny (model X.prog X.w) X.A (call (.builtin id) (v :: us)) (EP X pins σ Q) X.xe s
theorem Vals.one : ∀ {x : V} {us : List Value}, Vals [x] us → ∃ u, us = [u] ∧ RelV x u
  | _, _, .cons r .nil => ⟨_, rfl, r⟩
theorem Vals.zero : ∀ {us : List Value}, Vals [] us → us = []
  | _, .nil => rfl
theorem Vals.dropLast {xs : List V} {us : List Value} (h : Vals xs us) : Vals xs.dropLast us.dropLast := by
  induction h with
  | nil => exact .nil
  | cons r t ih =>
    cases t with
    | nil => exact .nil
    | cons q t' => exact .cons r ih
theorem Vals.reverse {xs : List V} {us : List Value} (h : Vals xs us) : Vals xs.reverse us.reverse := by
  induction h with
  | nil => exact .nil
  | cons r t ih => rw [List.reverse_cons, List.reverse_cons]; exact Vals.append ih (.cons r .nil)
theorem erase_last {α : Type} (l : List α) : l.eraseIdx (l.length - 1) = l.dropLast := by
  induction l with
  | nil => rfl
  | cons a r ih =>
    cases r with
    | nil => rfl
    | cons b r =>
      have e : (a :: b :: r).length - 1 = ((b :: r).length - 1) + 1 := by
        have h1 : (a :: b :: r).length = r.length + 2 := rfl
        have h2 : (b :: r).length = r.length + 1 := rfl
        omega
      rw [e, List.eraseIdx_cons_succ, ih]
      all_goals rfl
section
variable {X : Cx} {pins : List (Addr × Obj)} {σ : St} {H : Hp} {s : Shared} {l b : Addr} {xs ys zs : List V}
theorem Inv.lset {its its' : List Value} {n : Nat} {f : Array Value → Array Value} {t' : Nat} (I : Inv X pins σ H s) (hH : H l = some (.lst xs))
    (e : s.heap.get? l = some { cls := .type "list", data := .seq its.toArray n }) (hf : f its.toArray = its'.toArray) (hv : Vals ys its') (hz : ys.length ≤ sizeLine) :
    Inv X pins σ (upd H l (.lst ys)) { s with heap := s.heap.update l (Obj.mapSeq f), toks := t' } := by
  have q := PySem.IsL.update e f
  rw [hf] at q
  refine I.write (x := l) (e := l) (by rw [hH]; exact trivial) (.inl rfl) (fun b' u hb hu => (Heap.get?_update_other s.heap (Obj.mapSeq f) (Ne.symm hb)).trans hu) ⟨_, q⟩ ?_
  exact ⟨hz, its', _, hv, q⟩
theorem Inv.lnew {its : List Value} {t' : Nat} (I : Inv X pins σ H s) (hv : Vals ys its) (hz : ys.length ≤ sizeLine) :
    Inv X pins σ (upd H s.heap.objs.size (.lst ys)) { s with heap := s.heap.push { cls := .type "list", data := .seq its.toArray }, toks := t' } :=
  I.laid (fun _ _ q => Heap.get?_push_of_some _ q) (Nat.le_refl _) ⟨hz, its, 0, hv, Heap.get?_push_size _ rfl⟩
theorem Inv.fresh (I : Inv X pins σ H s) : H s.heap.objs.size = none := I.hok.fresh (Nat.le_refl _)
theorem Inv.lstM (I : Inv X pins σ H s) (hH : H l = some (.lst xs)) : xs.length ≤ sizeLine ∧ ∃ (its : List Value) (n : Nat), Vals xs its ∧ xs.length = its.length ∧ s.heap.get? l = some { cls := .type "list", data := .seq its.toArray n } := by
  obtain ⟨z, its, n, r, e⟩ := I.hok l _ hH
  exact ⟨z, its, n, r, r.length, e⟩
end
section
variable {X : Cx}
def rAppend : V → List V → Hp → VK → Prop := fun x vs H Q => ∃ l xs y, x = .ref l ∧ vs = [y] ∧ H l = some (.lst xs) ∧ xs.length < sizeLine ∧ Q .non (upd H l (.lst (xs ++ [y])))
theorem mt_append : MtM X "list.append" rAppend := by
  intro pins s σ H x vs v us Q I rx rv h
  obtain ⟨l, xs, y, rfl, rfl, hH, hz, q⟩ := h
  cases rx
  obtain ⟨u, rfl, ru⟩ := rv.one
  obtain ⟨z, its, n, r, hl, e⟩ := I.lstM hH
  refine call_meets F.slot_list_append ⟨_, e, rfl⟩ F.entry_list_append (F.args_list_append_2 _ _) (PySem.list_append l its.toArray n u (by rw [List.size_toArray]; omega)) ⟨e, ?_⟩
  refine ⟨.non, _, I.lset (its' := its ++ [u]) hH e (by simp) (r.append (.cons ru .nil)) ?_, rfl, q⟩
  rw [List.length_append, List.length_singleton]
  omega
def rPop : V → List V → Hp → VK → Prop := fun x vs H Q => ∃ l xs y, x = .ref l ∧ vs = [] ∧ H l = some (.lst xs) ∧ xs[xs.length - 1]? = some y ∧ Q y (upd H l (.lst xs.dropLast))
theorem mt_pop : MtM X "list.pop" rPop := by
  intro pins s σ H x vs v us Q I rx rv h
  obtain ⟨l, xs, y, rfl, rfl, hH, hy, q⟩ := h
  cases rx
  have hus := rv.zero
  subst hus
  obtain ⟨z, its, n, r, hl, e⟩ := I.lstM hH
  obtain ⟨u, hu, ru⟩ := r.get hy
  have hy' : its.toArray[its.toArray.size - 1]? = some u := by
    show its.toArray[its.length - 1]? = some u
    rw [← Array.getElem?_toList, ← hl]
    exact hu
  refine call_meets F.slot_list_pop ⟨_, e, rfl⟩ F.entry_list_pop (F.args_list_pop_1 _) (MeetsSeq.list_pop_last l its.toArray n u hy' (by rw [List.size_toArray]; omega)) ⟨e, ?_⟩
  refine ⟨y, _, I.lset (its' := its.dropLast) hH e ?_ r.dropLast ?_, ru, q⟩
  · show its.toArray.eraseIdxIfInBounds (its.toArray.size - 1) = its.dropLast.toArray
    rw [List.size_toArray, List.eraseIdxIfInBounds_toArray, erase_last]
  · rw [List.length_dropLast]
    omega
def rCat : R2 := fun x y H Q => ∃ l b xs zs, x = .ref l ∧ y = .ref b ∧ H l = some (.lst xs) ∧ H b = some (.lst zs) ∧ xs.length + zs.length ≤ sizeLine ∧ ∀ p, H p = none → Q (.ref p) (upd H p (.lst (xs ++ zs)))
theorem op_cat : OpR X (binaryOp .Add) rCat := by
  intro pins s σ H x y v u Q I rx ry h
  obtain ⟨l, b, xs, zs, rfl, rfl, hH, hB, hz, q⟩ := h
  cases rx
  cases ry
  obtain ⟨z, its, n, r, hl, e⟩ := I.lstM hH
  obtain ⟨z2, its2, n2, r2, hl2, e2⟩ := I.lstM hB
  refine PySem.P.add_list e e2 ?_ (by rw [List.size_toArray, List.size_toArray]; omega)
  have ea : its.toArray ++ its2.toArray = (its ++ its2).toArray := by simp
  rw [ea]
  exact ⟨.ref _, _, I.lnew (t' := s.toks) (r.append r2) (by rw [List.length_append]; omega), rfl, q _ I.fresh⟩
end
section
variable {prog : Program} {w : World} {A : Around} {E : Value → Shared → Prop} {s : Shared}
end
section
variable {X : Cx}
end
section
variable {κ : Type} [DecidableEq κ]
def valV (kvs : List (κ × V)) (k : κ) : Option V := (kvs.find? fun kv => decide (kv.1 = k)).map (·.2)
def putK (kvs : List (κ × V)) (k : κ) (v : V) : List (κ × V) :=
  if (kvs.any fun kv => decide (kv.1 = k)) = true then kvs.map (fun kv => if kv.1 = k then (kv.1, v) else kv) else kvs ++ [(k, v)]
theorem valV_pos {p : κ × V} {r : List (κ × V)} {k : κ} (e : p.1 = k) : valV (p :: r) k = some p.2 := by simp [valV, List.find?_cons, e]
theorem valV_neg {p : κ × V} {r : List (κ × V)} {k : κ} (e : ¬ p.1 = k) : valV (p :: r) k = valV r k := by simp [valV, List.find?_cons, e]
theorem valV_any (k : κ) : ∀ kvs : List (κ × V), (kvs.any fun kv => decide (kv.1 = k)) = (valV kvs k).isSome
  | [] => rfl
  | p :: r => by
    rw [List.any_cons]
    by_cases e : p.1 = k
    · simp only [valV_pos e, decide_eq_true e, Bool.true_or, Option.isSome_some]
    · rw [valV_neg e, decide_eq_false e, Bool.false_or]; exact valV_any k r
theorem length_putK (kvs : List (κ × V)) (k : κ) (v : V) : (putK kvs k v).length ≤ kvs.length + 1 := by
  unfold putK
  split
  · rw [List.length_map]; omega
  · rw [List.length_append, List.length_cons, List.length_nil]; omega
theorem RelO.isSome_eq {o : Option V} {u : Option Value} (r : RelO o u) : o.isSome = u.isSome := by
  cases o with
  | none => cases u with
    | none => rfl
    | some _ => exact (show False from r).elim
  | some _ => cases u with
    | none => exact (show False from r).elim
    | some _ => rfl
theorem KV.val {kvs : List (κ × V)} {vs : List (κ × Value)} (r : KV kvs vs) (k : κ) : RelO (valV kvs k) (valueAt vs k) := by
  unfold KV at r
  induction r with
  | nil => exact True.intro
  | @cons p q ps qs h t ih =>
    obtain ⟨h1, h2⟩ := h
    by_cases e : p.1 = k
    · have e' : q.1 = k := h1.symm.trans e
      have b : valueAt (q :: qs) k = some q.2 := by simp [valueAt, List.find?_cons, e']
      rw [valV_pos e, b]; exact h2
    · have e' : ¬ q.1 = k := fun z => e (h1.trans z)
      have b : valueAt (q :: qs) k = valueAt qs k := by simp [valueAt, List.find?_cons, e']
      rw [valV_neg e, b]; exact ih
theorem KV.any {kvs : List (κ × V)} {vs : List (κ × Value)} (r : KV kvs vs) (k : κ) : (kvs.any fun kv => decide (kv.1 = k)) = vs.any fun kv => decide (kv.1 = k) := by
  unfold KV at r
  induction r with
  | nil => rfl
  | cons h t ih => rw [List.any_cons, List.any_cons, ih, h.1]
theorem KV.repl {kvs : List (κ × V)} {vs : List (κ × Value)} (r : KV kvs vs) (k : κ) {y : V} {u : Value} (ry : RelV y u) :
    KV (kvs.map fun kv => if kv.1 = k then (kv.1, y) else kv) (vs.map fun kv => if kv.1 = k then (kv.1, u) else kv) := by
  unfold KV at r ⊢
  induction r with
  | nil => exact .nil
  | @cons p q ps qs h t ih =>
    rw [List.map_cons, List.map_cons]
    refine .cons ?_ ih
    obtain ⟨h1, h2⟩ := h
    by_cases e : p.1 = k
    · rw [if_pos e, if_pos (h1.symm.trans e)]; exact ⟨h1, ry⟩
    · rw [if_neg e, if_neg (fun z => e (h1.trans z))]; exact ⟨h1, h2⟩
theorem KV.put {kvs : List (κ × V)} {vs : List (κ × Value)} (r : KV kvs vs) (k : κ) {y : V} {u : Value} (ry : RelV y u) : KV (putK kvs k y) (stored vs k u) := by
  unfold putK stored
  rw [r.any k]
  by_cases e : (vs.any fun kv => decide (kv.1 = k)) = true
  · rw [if_pos e, if_pos e]; exact r.repl k ry
  · rw [if_neg e, if_neg e]; exact Paired.snoc r ⟨rfl, ry⟩
theorem KV.length {kvs : List (κ × V)} {vs : List (κ × Value)} (r : KV kvs vs) : kvs.length = vs.length := Paired.length r
end
theorem kV_is {P : Program} {w : World} {k : Key} {u : Value} (r : RelV (kV k) u) : (mixKind P w).is k u = true := by
  cases k with
  | inl i => obtain ⟨t, e⟩ := (show ∃ t, u = Value.int i t from r); subst e; exact mixKind_int P w i t
  | inr x => obtain ⟨t, e⟩ := (show ∃ t, u = Value.str x t from r); subst e; exact mixKind_str P w x t
theorem items_are {P : Program} {w : World} : ∀ {ks : List Key} {us : List Value}, Vals (ks.map kV) us → ItemsAre (mixKind P w) ks us
  | [], _, r => by rw [List.map_nil] at r; cases r; exact .nil
  | k :: ks, _, r => by
    rw [List.map_cons] at r
    cases r with
    | cons h t => exact .cons (kV_is h) (items_are t)
abbrev KT (H : Hp) : List (List Key × V) → List (List Key × Addr × Value) → Prop := Paired fun p q => p.1 = q.1 ∧ H q.2.1 = some (.tup (p.1.map kV)) ∧ RelV p.2 q.2.2
theorem KT.val {H : Hp} {kvs : List (List Key × V)} {xs : List (List Key × Addr × Value)} (r : KT H kvs xs) (k : List Key) : RelO (valV kvs k) ((atKey xs k).map (·.2)) := by
  induction r with
  | nil => exact True.intro
  | @cons p q ps qs h t ih =>
    obtain ⟨h1, _, h2⟩ := h
    by_cases e : p.1 = k
    · have e' : q.1 = k := h1.symm.trans e
      have b : atKey (q :: qs) k = some q.2 := by simp [atKey, List.find?_cons, e']
      rw [valV_pos e, b]; exact h2
    · have e' : ¬ q.1 = k := fun z => e (h1.trans z)
      have b : atKey (q :: qs) k = atKey qs k := by simp [atKey, List.find?_cons, e']
      rw [valV_neg e, b]; exact ih
theorem KT.repl {H : Hp} {kvs : List (List Key × V)} {xs : List (List Key × Addr × Value)} (r : KT H kvs xs) (k : List Key) {y : V} {u : Value} (ry : RelV y u) :
    KT H (kvs.map fun kv => if kv.1 = k then (kv.1, y) else kv) (xs.map (putAt k u)) := by
  induction r with
  | nil => exact .nil
  | @cons p q ps qs h t ih =>
    rw [List.map_cons, List.map_cons]
    refine .cons ?_ ih
    obtain ⟨h1, h2, h3⟩ := h
    unfold putAt
    by_cases e : p.1 = k
    · rw [if_pos e, if_pos (h1.symm.trans e)]; exact ⟨h1, h2, ry⟩
    · rw [if_neg e, if_neg (fun z => e (h1.trans z))]; exact ⟨h1, h2, h3⟩
theorem KT.put {H : Hp} {kvs : List (List Key × V)} {xs : List (List Key × Addr × Value)} (r : KT H kvs xs) (k : List Key) {b : Addr} {y : V} {u : Value} (hb : H b = some (.tup (k.map kV))) (ry : RelV y u) :
    KT H (putK kvs k y) (storedH xs k b u) := by
  have e : (kvs.any fun kv => decide (kv.1 = k)) = (atKey xs k).isSome := by
    rw [valV_any, (r.val k).isSome_eq, Option.isSome_map]
  unfold putK storedH
  rw [e]
  by_cases q : (atKey xs k).isSome = true
  · rw [if_pos q, if_pos q]; exact r.repl k ry
  · rw [if_neg q, if_neg q]; exact Paired.snoc r ⟨rfl, hb, ry⟩
theorem KT.keeps {H H' : Hp} {kvs : List (List Key × V)} {xs : List (List Key × Addr × Value)} (r : KT H kvs xs) (ht : ∀ b ys, H b = some (.tup ys) → H' b = some (.tup ys)) : KT H' kvs xs :=
  Paired.mapP r fun _ _ z => ⟨z.1, ht _ _ z.2.1, z.2.2⟩
section
variable {P : Program} {w : World} {H : Hp} {h : Heap} {a : Addr}
theorem rd_of {u : HO} (ok : HOk P w H h) (e : Rd H a u) : ObjOk P w H h a u := e.ok ok
theorem dk_rd {kvs : List (Key × V)} (ok : HOk P w H h) (e : Rd H a (.dK kvs)) : kvs.length ≤ sizeLine ∧ (a == sysModules) = false ∧ ∃ vs, KV kvs vs ∧ h.DictOf (mixKind P w) a vs :=
  show ObjOk P w H h a (.dK kvs) from rd_of ok e
theorem dk_of {kvs : List (Key × V)} (ok : HOk P w H h) (e : H a = some (.dK kvs)) : kvs.length ≤ sizeLine ∧ (a == sysModules) = false ∧ ∃ vs, KV kvs vs ∧ h.DictOf (mixKind P w) a vs := dk_rd ok (.inl e)
theorem key_of {ks : List Key} (ok : HOk P w H h) (e : H a = some (.tup (ks.map kV))) : (tupleKind (mixKind P w)).is h ks a := by
  obtain ⟨_, its, r, o, h1, h2, n, h3⟩ := (show ObjOk P w H h a (.tup (ks.map kV)) from ok a _ e)
  exact ⟨o, its.toArray, n, h1, h2, h3, by simpa using items_are r⟩
theorem dt_rd {kvs : List (List Key × V)} (ok : HOk P w H h) (e : Rd H a (.dT kvs)) : kvs.length ≤ sizeLine ∧ (a == sysModules) = false ∧
    ∃ xs, KT H kvs xs ∧ h.DictOfH (tupleKind (mixKind P w)) a xs := by
  obtain ⟨z, y, xs, r, o, es, ep, h1, h2, h3, h4, h5⟩ := (show ObjOk P w H h a (.dT kvs) from rd_of ok e)
  refine ⟨z, y, xs, r, o, es, ep, h1, h2, h3, h4, fun x hx => ?_, h5⟩
  have all : ∀ {l : List (List Key × V)} {m : List (List Key × Addr × Value)}, KT H l m → ∀ x ∈ m, (tupleKind (mixKind P w)).is h x.1 x.2.1 := by
    intro l m q
    induction q with
    | nil => intro x hx; exact nomatch hx
    | @cons p q ps qs hq t ih =>
      intro x hx
      rcases List.mem_cons.mp hx with e | hx
      · subst e
        exact key_of ok (by rw [← hq.1]; exact hq.2.1)
      · exact ih x hx
  exact all r x hx
theorem dt_of {kvs : List (List Key × V)} (ok : HOk P w H h) (e : H a = some (.dT kvs)) : kvs.length ≤ sizeLine ∧ (a == sysModules) = false ∧
    ∃ xs, KT H kvs xs ∧ h.DictOfH (tupleKind (mixKind P w)) a xs := dt_rd ok (.inl e)
end
def DGet (H : Hp) (a : Addr) (y : V) (r : Option V) : Prop :=
  (∃ kvs k, Rd H a (.dK kvs) ∧ y = kV k ∧ r = valV kvs k) ∨ ∃ kvs k b, Rd H a (.dT kvs) ∧ y = .ref b ∧ H b = some (.tup (k.map kV)) ∧ r = valV kvs k
def DPut (H : Hp) (a : Addr) (y v : V) (H' : Hp) : Prop :=
  (∃ kvs k, H a = some (.dK kvs) ∧ y = kV k ∧ kvs.length < sizeLine ∧ H' = upd H a (.dK (putK kvs k v))) ∨
  ∃ kvs k b, H a = some (.dT kvs) ∧ y = .ref b ∧ H b = some (.tup (k.map kV)) ∧ kvs.length < sizeLine ∧ H' = upd H a (.dT (putK kvs k v))
theorem DGet.k {H : Hp} {a : Addr} {kvs : List (Key × V)} {k : Key} (e : H a = some (.dK kvs)) : DGet H a (kV k) (valV kvs k) := .inl ⟨kvs, k, .inl e, rfl, rfl⟩
theorem DPut.k {H : Hp} {a : Addr} {kvs : List (Key × V)} {k : Key} {v : V} (e : H a = some (.dK kvs)) (hl : kvs.length < sizeLine) : DPut H a (kV k) v (upd H a (.dK (putK kvs k v))) := .inl ⟨kvs, k, e, rfl, hl, rfl⟩
section
variable {X : Cx} {pins : List (Addr × Obj)} {σ : St} {H : Hp} {s : Shared} {a : Addr} {y v : V} {u r : Value} {o : Option V} {A : Around} {E : Value → Shared → Prop}
theorem Inv.big (I : Inv X pins σ H s) : sysModules < s.heap.objs.size := by
  have h : mainGlobals < s.heap.objs.size := (I.mod.glob.keeps I.bk).lt
  exact Nat.lt_trans (by decide) h
theorem d_getItem {Q : Value → Shared → Prop} (hu : A.units + 1 < cLine) (I : Inv X pins σ H s) (g : DGet H a y (some v)) (ry : RelV y u) (h : ∀ w' s', Inv X pins σ H s' → RelV v w' → Q w' s') :
    wpAny (model X.prog X.w) A (getItem (.ref a) u) Q E s := by
  rcases g with ⟨kvs, k, e, ey, l⟩ | ⟨kvs, k, b, e, ey, eb, l⟩
  · subst ey
    obtain ⟨z, hd, vs, rel, dd⟩ := dk_rd I.hok e
    obtain ⟨w', hw, rw'⟩ := RelO.some_of (v := v) (o := valueAt vs k) (by rw [l]; exact rel.val k)
    exact wpAny_getItem_of (kV_is ry) dd.mapOf hw (h w' _ (I.tok _) rw')
  · subst ey
    cases (show u = Value.ref b from ry)
    obtain ⟨z, hd, xs, rel, dd⟩ := dt_rd I.hok e
    obtain ⟨w', hw, rw'⟩ := RelO.some_of (v := v) (o := (atKey xs k).map (·.2)) (by rw [l]; exact rel.val k)
    obtain ⟨p, hp, hp2⟩ := Option.map_eq_some_iff.mp hw
    refine wpAny_getItem_heap (tupleKind_room_in1 hu) (key_of I.hok eb) dd hp ?_
    rw [hp2]
    exact h w' _ (I.tok _) rw'
theorem d_in {Q : Value → Shared → Prop} (hu : A.units + 1 < cLine) (I : Inv X pins σ H s) (g : DGet H a y o) (ry : RelV y u) (h : ∀ s', Inv X pins σ H s' → Q (.bool o.isSome) s') :
    wpAny (model X.prog X.w) A (compareOp .In u (.ref a)) Q E s := by
  rcases g with ⟨kvs, k, e, ey, l⟩ | ⟨kvs, k, b, e, ey, eb, l⟩
  · subst ey
    obtain ⟨z, hd, vs, rel, dd⟩ := dk_rd I.hok e
    refine wpAny_in_of (kV_is ry) hd dd.mapOf ?_
    rw [← (rel.val k).isSome_eq, ← l]
    exact h _ (I.tok _)
  · subst ey
    cases (show u = Value.ref b from ry)
    obtain ⟨z, hd, xs, rel, dd⟩ := dt_rd I.hok e
    refine wpAny_in_heap (tupleKind_room_in1 hu) (key_of I.hok eb) hd dd ?_
    have q := (rel.val k).isSome_eq
    rw [Option.isSome_map] at q
    rw [← q, ← l]
    exact h _ (I.tok _)
theorem d_notIn {Q : Value → Shared → Prop} (hu : A.units + 1 < cLine) (I : Inv X pins σ H s) (g : DGet H a y o) (ry : RelV y u) (h : ∀ s', Inv X pins σ H s' → Q (.bool (!o.isSome)) s') :
    wpAny (model X.prog X.w) A (compareOp .NotIn u (.ref a)) Q E s := by
  rcases g with ⟨kvs, k, e, ey, l⟩ | ⟨kvs, k, b, e, ey, eb, l⟩
  · subst ey
    obtain ⟨z, hd, vs, rel, dd⟩ := dk_rd I.hok e
    refine wpAny_notIn_of (kV_is ry) hd dd.mapOf ?_
    rw [← (rel.val k).isSome_eq, ← l]
    exact h _ (I.tok _)
  · subst ey
    cases (show u = Value.ref b from ry)
    obtain ⟨z, hd, xs, rel, dd⟩ := dt_rd I.hok e
    refine wpAny_notIn_heap (tupleKind_room_in1 hu) (key_of I.hok eb) hd dd ?_
    have q := (rel.val k).isSome_eq
    rw [Option.isSome_map] at q
    rw [← q, ← l]
    exact h _ (I.tok _)
theorem d_write {h' : Heap} {t' : Nat} {ob : HO} (I : Inv X pins σ H s) (mu : Mut (H a)) (hs : Heap.SameBut a s.heap h') (he : ∃ q, h'.get? a = some q) (new : ObjOk X.prog X.w (upd H a ob) h' a ob) :
    Inv X pins σ (upd H a ob) { s with heap := h', toks := t' } :=
  I.write (x := a) (e := a) mu (.inl rfl) (fun b q hb z => (hs.2 b hb).trans z) he new
theorem dk_new {P : Program} {w : World} {H' : Hp} {h' : Heap} {kvs : List (Key × V)} {vs : List (Key × Value)} (z : kvs.length ≤ sizeLine) (hd : (a == sysModules) = false) (rel : KV kvs vs) (dd : h'.DictOf (mixKind P w) a vs) :
    ObjOk P w H' h' a (.dK kvs) := ⟨z, hd, vs, rel, dd⟩
theorem d_setItem {H' : Hp} {Q : Unit → Shared → Prop} (hu : A.units + 1 < cLine) (I : Inv X pins σ H s) (g : DPut H a y v H') (ry : RelV y u) (rv : RelV v r) (h : ∀ s', Inv X pins σ H' s' → Q () s') :
    wpAny (model X.prog X.w) A (setItem (.ref a) u r) Q E s := by
  rcases g with ⟨kvs, k, e, ey, l, eH⟩ | ⟨kvs, k, b, e, ey, eb, l, eH⟩
  · subst ey eH
    obtain ⟨z, hd, vs, rel, dd⟩ := dk_of I.hok e
    have hz : vs.length ≤ sizeLine := by rw [← rel.length]; exact z
    have hl : (putK kvs k v).length ≤ sizeLine := by have := length_putK kvs k v; omega
    refine wpAny_setItem_pairs (hsz := hz) (kV_is ry) dd fun h' dd' hs => h _ ?_
    have he : ∃ q, h'.get? a = some q := let ⟨q, _, _, hq, _⟩ := dd'; ⟨q, hq⟩
    exact d_write I (by rw [e]; exact True.intro) hs he (dk_new hl hd (rel.put k rv) dd')
  · subst ey eH
    cases (show u = Value.ref b from ry)
    obtain ⟨z, hd, xs, rel, dd⟩ := dt_of I.hok e
    have hz : xs.length ≤ sizeLine := by rw [← Paired.length rel]; exact z
    have hl : (putK kvs k v).length ≤ sizeLine := by have := length_putK kvs k v; omega
    refine wpAny_setItem_heap (hsz := hz) (tupleKind_room_in1 hu) (key_of I.hok eb) dd fun h' dd' hs => h _ ?_
    obtain ⟨q, es, ep, hq, h2, h3, h4, _, h5⟩ := dd'
    refine d_write I (by rw [e]; exact True.intro) hs ⟨q, hq⟩ ⟨hl, hd, _, (rel.put k eb rv).keeps fun c ys ec => ?_, q, es, ep, hq, h2, h3, h4, h5⟩
    rw [upd_ne (ne_of ec e (fun z => nomatch z))]
    exact ec
end
section
variable {X : Cx} {pins : List (Addr × Obj)} {σ : St} {H : Hp} {s : Shared} {a : Addr} {kvs : List (Key × V)} {k : Key} {u : Value} {A : Around} {E : Value → Shared → Prop}
theorem d_len {Q : Value → Shared → Prop} (I : Inv X pins σ H s) (e : Rd H a (.dK kvs)) (h : ∀ t s', Inv X pins σ H s' → Q (.int kvs.length t) s') : wpAny (model X.prog X.w) A (call (.builtin "len") [.ref a]) Q E s := by
  obtain ⟨z, hd, vs, rel, dd⟩ := dk_rd I.hok e
  refine call_len_dict hd dd (by rw [← rel.length]; rw [sizeLine_eq] at z; omega) ?_
  rw [← rel.length]
  exact h _ _ (I.tok _)
end
def NoSl (i : Expr) : Prop := ∀ ov iv, subscripted i false ov iv = operate [ov, iv] (getItem ov iv)
theorem subD_of {prog : Program} {w : World} {A : Around} {E : Value → Shared → Prop} {s : Shared} {env : Env} {value slice : Expr} {pos : Pos} {T id : String} {Q : Value → Shared → Prop}
    (hl : typeLookup (.type T) "__getitem__" = pure (some (.builtin id))) (hs : NoSl slice)
    (h : wpAny (model prog w) A (eval value env) (fun o s₁ => wpAny (model prog w) A (eval slice env) (fun i s₂ => s₂.TypeIs o T ∧ wpAny (model prog w) A (getItem o i) Q E s₂) E s₁) E s) :
    wpAny (model prog w) A (eval (.Subscript value slice pos) env) Q E s := by
  refine Subscript_ (wpAny_mono h (fun o s₁ h₁ => wpAny_mono h₁ (fun i s₂ h₂ => ?_) fun _ _ x => x) fun _ _ x => x)
  obtain ⟨hT, h₂⟩ := h₂
  unfold subscriptTail
  refine wpAny_bind ?_
  rw [getitemInPython_of_ne hT.not_modules]
  refine wpAny_bind (wpAny_specialOf hT hl ?_)
  have fin : wpAny (model prog w) A (subscripted slice false o i) (fun r s₃ => wpAny (model prog w) A (letTemporaryGo value o r >>= fun _ => pure r) Q E s₃) E s₂ := by
    rw [hs o i]
    exact wpAny_operating (wpAny_mono h₂ (fun r s₃ h₃ => wpAny_bind (wpAny_letTemporaryGo (wpAny_pure h₃))) fun _ _ x => x)
  first
    | exact wpAny_pure (wpAny_bind fin)
    | exact wpAny_bind (wpAny_pure (wpAny_bind fin))
    | exact wpAny_bind fin
theorem dict_typeIs {X : Cx} {pins : List (Addr × Obj)} {σ : St} {H : Hp} {s : Shared} {a : Addr} {y : V} {o : Option V} (I : Inv X pins σ H s) (g : DGet H a y o) : s.TypeIs (.ref a) "dict" := by
  rcases g with ⟨kvs, k, e, _, _⟩ | ⟨kvs, k, b, e, _, _, _⟩
  · obtain ⟨_, _, vs, _, dd⟩ := dk_rd I.hok e
    exact dd.typeIs
  · obtain ⟨_, _, xs, _, dd⟩ := dt_rd I.hok e
    exact dd.typeIs
def tDGet (td ty : TE) : TE := fun σ H Q => td σ H fun x H1 => ty σ H1 fun y H2 => ∃ a v, x = .ref a ∧ DGet H2 a y (some v) ∧ Q v H2
def tDIn (ty td : TE) : TE := fun σ H Q => ty σ H fun y H1 => td σ H1 fun x H2 => ∃ a o, x = .ref a ∧ DGet H2 a y o ∧ Q (.bl o.isSome) H2
def tDNotIn (ty td : TE) : TE := fun σ H Q => ty σ H fun y H1 => td σ H1 fun x H2 => ∃ a o, x = .ref a ∧ DGet H2 a y o ∧ Q (.bl (!o.isSome)) H2
def sDPut (td ty tv : TE) : TS := fun D σ H => tv σ H fun v H1 => td σ H1 fun x H2 => ty σ H2 fun y H3 => ∃ a H4, x = .ref a ∧ DPut H3 a y v H4 ∧ D.nx σ H4
section
variable {X : Cx} {o i e value : Expr} {pos pos' tpos : Pos} {td ty tv : TE}
theorem pe_dget (hu : X.A.units + 1 < cLine) (ho : PE X o td) (hi : PE X i ty) (hs : NoSl i) : PE X (.Subscript o i pos) (tDGet td ty) := by
  intro pins s σ H Q I h
  refine subD_of PySem.F.slot_dict_getitem.lookup hs (thn (ho pins s σ H _ I h) fun u s1 ⟨x, H1, I1, rx, q1⟩ => thn (hi pins s1 σ H1 _ I1 q1) fun iv s2 ⟨y, H2, I2, ry, a, v, ex, g, q2⟩ => ?_)
  subst ex
  obtain rfl : u = Value.ref a := rx
  exact ⟨dict_typeIs I2 g, d_getItem hu I2 g ry fun w' s3 I3 rw' => ⟨v, H2, I3, rw', q2⟩⟩
theorem pc_din (hu : X.A.units + 1 < cLine) (hi : PE X i ty) (ho : PE X o td) : PC X .In i o (tDIn ty td) := by
  intro pins s σ H Q I h
  refine thn (hi pins s σ H _ I h) fun iv s1 ⟨y, H1, I1, ry, q1⟩ => thn (ho pins s1 σ H1 _ I1 q1) fun u s2 ⟨x, H2, I2, rx, a, ov, ex, g, q2⟩ => ?_
  subst ex
  obtain rfl : u = Value.ref a := rx
  exact d_in hu I2 g ry fun s3 I3 => ⟨.bl ov.isSome, H2, I3, rfl, q2⟩
theorem pc_dnotin (hu : X.A.units + 1 < cLine) (hi : PE X i ty) (ho : PE X o td) : PC X .NotIn i o (tDNotIn ty td) := by
  intro pins s σ H Q I h
  refine thn (hi pins s σ H _ I h) fun iv s1 ⟨y, H1, I1, ry, q1⟩ => thn (ho pins s1 σ H1 _ I1 q1) fun u s2 ⟨x, H2, I2, rx, a, ov, ex, g, q2⟩ => ?_
  subst ex
  obtain rfl : u = Value.ref a := rx
  exact d_notIn hu I2 g ry fun s3 I3 => ⟨.bl (!ov.isSome), H2, I3, rfl, q2⟩
theorem ps_dput (hu : X.A.units + 1 < cLine) (ho : PE X o td) (hi : PE X i ty) (hv : PE X value tv) (hs : swapsWith value (some (.Subscript o i pos')) pos.line X.env = pure false) :
    PS X (.Assign [.Subscript o i pos'] value pos) (sDPut td ty tv) := by
  intro pins s σ H D I h
  refine wpAny_Assign_Subscript (thn (hv pins s σ H _ I h) fun r s1 ⟨v, H1, I1, rv, q1⟩ => thn (ho pins s1 σ H1 _ I1 q1) fun u s2 ⟨x, H2, I2, rx, q2⟩ => thn (hi pins s2 σ H2 _ I2 q2) fun iv s3 ⟨y, H3, I3, ry, a, H4, ex, g, q3⟩ => ?_) hs
  subst ex
  obtain rfl : u = Value.ref a := rx
  exact d_setItem hu I3 g ry rv fun s4 I4 => ⟨σ, H4, I4, q3⟩
end
theorem dk_empty {P : Program} {w : World} {H : Hp} (h : Heap) (hb : sysModules < h.objs.size) : ObjOk P w H (h.push { cls := .type "dict", data := .dict #[] }) h.objs.size (.dK []) :=
  ⟨Nat.zero_le _, beq_eq_false_iff_ne.mpr (Ne.symm (Nat.ne_of_lt hb)), [], .nil, Heap.DictOf.new h⟩
def tDNewK : TE := fun _ H Q => ∀ p, H p = none → Q (.ref p) (upd H p (.dK []))
section
variable {X : Cx} {pos : Pos}
theorem pe_dnewK : PE X (.Dict [] [] pos) tDNewK := fun pins s σ H Q I h =>
  wpAny_Dict_empty ⟨.ref s.heap.objs.size, _, I.laid (a := s.heap.objs.size) (o := .dK []) (t' := s.toks) (fun _ _ q => Heap.get?_push_of_some _ q) (Nat.le_refl _) (dk_empty s.heap I.big), rfl, h _ (I.hok.fresh (Nat.le_refl _))⟩
end
def tPairs : List (TE × TE) → St → Hp → (List (V × V) → Hp → Prop) → Prop
  | [], _, H, Q => Q [] H
  | (tk, tv) :: r, σ, H, Q => tk σ H fun x H1 => tv σ H1 fun y H2 => tPairs r σ H2 fun ps H3 => Q ((x, y) :: ps) H3
abbrev VV : List (V × V) → List (Value × Value) → Prop := Paired fun p q => RelV p.1 q.1 ∧ RelV p.2 q.2
def PPs (X : Cx) (pos : Pos) (keys : List (Option Expr)) (values : List Expr) (trs : List (TE × TE)) : Prop :=
  ∀ (pins : List (Addr × Obj)) (s : Shared) (σ : St) (H : Hp) (Q : List (V × V) → Hp → Prop), Inv X pins σ H s → tPairs trs σ H Q →
    wpAny (model X.prog X.w) X.A (evalPairs (pairTrees keys values X.env pos)) (fun vs s' => ∃ ps H', Inv X pins σ H' s' ∧ VV ps vs ∧ Q ps H') X.xe s
theorem pps_nil {X : Cx} {pos : Pos} : PPs X pos [] [] [] := fun pins s σ H Q I h => pairTrees_nil_walk ⟨[], H, I, .nil, h⟩
theorem pps_cons {X : Cx} {pos : Pos} {k v : Expr} {ks : List (Option Expr)} {vs : List Expr} {tk tv : TE} {trs : List (TE × TE)} (hk : PE X k tk) (hv : PE X v tv) (hr : PPs X pos ks vs trs) :
    PPs X pos (some k :: ks) (v :: vs) ((tk, tv) :: trs) := fun pins s σ H Q I h =>
  pairTrees_cons_walk (thn (hk pins s σ H _ I h) fun u s1 ⟨x, H1, I1, rx, q1⟩ => thn (hv pins s1 σ H1 _ I1 q1) fun w2 s2 ⟨y, H2, I2, ry, q2⟩ =>
    thn (hr pins s2 σ H2 _ I2 q2) fun ws s3 ⟨ps, H3, I3, rel, q3⟩ => ⟨(x, y) :: ps, H3, I3, .cons ⟨rx, ry⟩ rel, q3⟩)
def mergeK (kvs more : List (Key × V)) : List (Key × V) := more.foldl (fun acc kv => putK acc kv.1 kv.2) kvs
theorem KV.merge : ∀ {more : List (Key × V)} {rs : List (Key × Value)} {kvs : List (Key × V)} {vs : List (Key × Value)}, KV more rs → KV kvs vs → KV (mergeK kvs more) (merged vs rs) := by
  intro more rs kvs vs r
  unfold KV at r
  induction r generalizing kvs vs with
  | nil => intro q; exact q
  | @cons p q ps qs h t ih =>
    intro r0
    have e : KV (putK kvs p.1 p.2) (stored vs q.1 q.2) := by
      have := r0.put p.1 h.2
      rw [← h.1]; exact this
    exact ih e
theorem length_mergeK : ∀ (more kvs : List (Key × V)), (mergeK kvs more).length ≤ kvs.length + more.length
  | [], kvs => by show kvs.length ≤ kvs.length + 0; omega
  | p :: r, kvs => by
    have h1 := length_mergeK r (putK kvs p.1 p.2)
    have h2 := length_putK kvs p.1 p.2
    show (mergeK (putK kvs p.1 p.2) r).length ≤ _
    rw [List.length_cons]; omega
theorem carries_of {P : Program} {w : World} : ∀ {kvs : List (Key × V)} {ws : List (Value × Value)}, VV (kvs.map fun kv => (kV kv.1, kv.2)) ws → ∃ rs, Carries (mixKind P w) ws rs ∧ KV kvs rs
  | [], _, r => by rw [List.map_nil] at r; cases r; exact ⟨[], True.intro, .nil⟩
  | p :: kvs, _, r => by
    rw [List.map_cons] at r
    cases r with
    | @cons a b as bs h t =>
      obtain ⟨rs, c, q⟩ := carries_of (P := P) (w := w) t
      obtain ⟨b1, b2⟩ := b
      exact ⟨(p.1, b2) :: rs, ⟨kV_is h.1, rfl, c⟩, .cons ⟨rfl, h.2⟩ q⟩
def tDisp (trs : List (TE × TE)) : TE := fun σ H Q => ∀ p, H p = none → tPairs trs σ (upd H p (.dK [])) fun ps H2 => H2 p = some (.dK []) ∧ ∃ kvs : List (Key × V), ps = kvs.map (fun kv => (kV kv.1, kv.2)) ∧ kvs.length ≤ 15 ∧ Q (.ref p) (upd H2 p (.dK (mergeK [] kvs)))
theorem pe_disp {X : Cx} {pos : Pos} {keys : List (Option Expr)} {values : List Expr} {trs : List (TE × TE)} (h : PPs X pos keys values trs) (hall : keys.all (·.isSome) = true) (hl : keys.length = values.length) (h0 : keys ≠ [])
    (h15 : keys.length ≤ 15) : PE X (.Dict keys values pos) (tDisp trs) := by
  intro pins s σ H Q I q
  have hn := I.hok.fresh (Nat.le_refl s.heap.objs.size)
  have I1 := I.laid (a := s.heap.objs.size) (o := .dK []) (h' := s.heap.push { cls := .type "dict", data := .dict #[] }) (t' := s.toks) (fun _ _ q => Heap.get?_push_of_some _ q) (Nat.le_refl _) (dk_empty s.heap I.big)
  refine wpAny_Dict_walk (knd := mixKind X.prog X.w) hall hl h0 h15 (thn (h pins _ σ _ _ I1 (q _ hn)) fun ws s2 ⟨ps, H2, I2, rel, e, kvs, ep, lk, q2⟩ => ?_)
  subst ep
  obtain ⟨rs, c, rk⟩ := carries_of (P := X.prog) (w := X.w) rel
  obtain ⟨z, hd, vs0, r0, dd⟩ := dk_of I2.hok e
  cases r0
  refine ⟨rs, c, dd, fun h' dd' hs => ⟨.ref s.heap.objs.size, _, ?_, rfl, q2⟩⟩
  have hz : (mergeK [] kvs).length ≤ sizeLine := by
    have h1 := length_mergeK kvs []
    rw [List.length_nil] at h1
    rw [sizeLine_eq]; omega
  have he : ∃ q, h'.get? s.heap.objs.size = some q := let ⟨q, _, _, hq, _⟩ := dd'; ⟨q, hq⟩
  exact d_write I2 (by rw [e]; exact True.intro) hs he (dk_new hz hd (rk.merge .nil) dd')
section
variable {X : Cx} {pins : List (Addr × Obj)} {σ : St} {H : Hp} {s : Shared} {a : Addr} {y d : V} {u r : Value} {o : Option V} {A : Around} {E : Value → Shared → Prop}
end
section
variable {X : Cx} {o e f : Expr} {apos cpos : Pos} {td ty tx : TE}
end
section
variable {X : Cx} {pins : List (Addr × Obj)} {σ : St} {H : Hp} {s : Shared} {a : Addr} {kvs : List (Key × V)} {A : Around} {E : Value → Shared → Prop}
theorem d_copyOf {Q : Value → Shared → Prop} (I : Inv X pins σ H s) (e : Rd H a (.dK kvs)) (h : ∀ p s', H p = none → Inv X pins σ (upd H p (.dK kvs)) s' → Q (.ref p) s') : wpAny (model X.prog X.w) A (call (.type "dict") [.ref a]) Q E s := by
  obtain ⟨z, hd, vs, rel, dd⟩ := dk_rd I.hok e
  refine kt_call_dict hd dd (by rw [← rel.length]; exact z) fun h' dd' hs => ?_
  refine h _ _ (I.hok.fresh (Nat.le_refl _)) (I.laid (a := s.heap.objs.size) (o := .dK kvs) (t' := s.toks) (fun b q hq => ?_) (Nat.le_refl _) (dk_new z (beq_eq_false_iff_ne.mpr (Ne.symm (Nat.ne_of_lt I.big))) rel dd'))
  exact (hs.2 b (Nat.ne_of_lt (Heap.lt_size hq))).trans (Heap.get?_push_of_some _ hq)
end
section
variable {X : Cx} {pins : List (Addr × Obj)} {σ : St} {H : Hp} {s : Shared} {a : Addr} {y : V} {u : Value} {A : Around} {E : Value → Shared → Prop}
end
end L2
namespace Att
open PySem PySem.W PySem.Calls PyProof.Rows
theorem ints_of_wellAll {P : Params} {h : Heap} : ∀ (ns : List Int) (vs : List Value), WellAll P h vs (ns.map WData.int) → IntsAre vs ns := by
  intro ns
  induction ns with
  | nil =>
    intro vs w
    rw [List.map_nil] at w
    cases w
    exact .nil
  | cons n ns ih =>
    intro vs w
    rw [List.map_cons] at w
    cases w with
    | cons a b =>
      cases a
      exact .cons _ _ (ih _ b)
theorem script_of {l : OpenLaw} {n : Nat} (hn : l.most = some n) {P : Params} {h : Heap} {args : List WData} {vals : List Value}
    (hpre : l.row.toRowW.claim.pre args = true) (hwl : WellAll P h vals args) :
    ∃ a vs ns, vals = [Value.ref a] ∧ args = [WData.list (ns.map WData.int)] ∧ h.get? a = some { cls := .type "list", data := .seq vs.toArray } ∧ IntsAre vs ns ∧ ns.length ≤ n := by
  have hsh : WShape.hasAll [] args [.list .int] = true := (pre_splitW hpre).1
  have hc : l.pre.holds [] { args := args } = true := (pre_splitW hpre).2
  obtain ⟨d, r, rfl, h1, h2⟩ := hasAllW_cons hsh
  obtain rfl := hasAllW_nil h2
  obtain ⟨xs, rfl, h3⟩ := hasW_list h1
  obtain ⟨ns, rfl⟩ := items_int h3
  have hlen : ns.length ≤ n := by
    unfold OpenLaw.pre at hc
    have h4 : (WTm.not (.lt (.lit (.int (n : Int))) (.len (.arg 0)))).holds [] { args := [.list (ns.map .int)] } = true := by
      have h4 := (holds_andW hc).1
      rw [hn] at h4
      exact h4
    have h5 := condW_of h4 (w_not (w_lt w_lit (w_len_list (w_arg rfl))))
    rw [List.length_map] at h5
    refine Nat.le_of_not_lt fun q => ?_
    have q' : (n : Int) < ((ns.length : Nat) : Int) := by omega
    first
      | (rw [decide_eq_true q'] at h5; exact absurd h5 (by decide))
      | (simp at h5; omega)
  cases hwl with
  | cons w1 w2 =>
    cases w2
    cases w1 with
    | list ho hall => exact ⟨_, _, ns, rfl, rfl, ho, ints_of_wellAll ns _ hall, hlen⟩
theorem post_true (l : OpenLaw) (args : List WData) : l.row.toRowW.claim.post args (.bool true) args = true :=
  postW_of (r := l.row.toRowW) (X := (true == true))
    (show WShape.has [] (.bool true) .bool = true by first | rfl | decide | simp [WShape.has, WShape.arms, WShape.armsAll])
    (show (WTm.eq .res (.lit (.bool true))).value [] { args := args, res := some (.bool true), after := args } = some (.bool (true == true)) from w_eq_bool (w_res rfl) w_lit) rfl
theorem attach_call {l : OpenLaw} {n : Nat} {q : Program} {loose : List Str} {XP : (Str → Option Value) → Heap → Prop} {YP : World → Heap → Prop} {d : DefRec}
    (hn : l.most = some n) (hdf : d.params.defaults = [])
    (call : ∀ (w : World) (s₀ s₁ : Shared) (mg mb : Str → Option Value) (fa : Addr) (o : Obj) (pm cd doc : Value) (a : Addr) (vs : List Value) (ns : List Int),
      Ground q loose [] XP w s₀ mg mb s₁.heap → YP w s₁.heap →
      s₁.heap.get? fa = some o → o.data = .func (docDef d.name d.params d.body d.scope pm cd doc) → s₁.heap.CodeRec cd d.name → mg d.name = some (.ref fa) →
      s₁.heap.get? a = some { cls := .type "list", data := .seq vs.toArray } → IntsAre vs ns → ns.length ≤ n → s₁.gens = #[] →
      codeAny (model l.prog w) callerA (.call (.ref fa) ⟨[.ref a], []⟩) (fun r s' => r = .ok (.ret (.bool true)) ∧ OldK s₁.heap s'.heap ∧ s'.os = s₁.os ∧ AllBare s'.gens) s₁) :
    WalkO q loose XP YP l.row.toRowW d [] (fun f vs => PySem.call f vs) := by
  intro w s₀ s₁ mg mb G Y fa o pm cd doc dV kV ho hd hcd hD hmg hg args vals as hpre hlay hrd hwl hlo
  obtain rfl : dV = .none := Dflts.none hD hdf
  obtain rfl : kV = .none := Dflts.noKw hD
  obtain ⟨a, vs, ns, rfl, rfl, hobj, hints, hlen⟩ := script_of hn hpre hwl
  refine enter_call (codeAny_mono (call w s₀ s₁ mg mb fa o pm cd doc a vs ns G Y ho (fd_plain hd) hcd hmg hobj hints hlen hg) fun r s' hq => ?_)
  obtain ⟨rfl, h2, h3, h4⟩ := hq
  exact ⟨.inl ⟨.bool true, .bool true, [], rfl, fun _ => rfl, .bool true, post_true l _, fun _ => ⟨List.Pairwise.nil, fun _ hm => (nomatch hm)⟩⟩, h2, h3, h4⟩
section
variable {prog : Program} {w : World} {A : Around} {E : Value → Shared → Prop} {s : Shared} {K : Frag}
end
end Att
namespace L2
open PySem PySem.Spec PyProof.Rows
theorem vals_ints : ∀ {vs : List Value} {ns : List Int}, IntsAre vs ns → Vals (ns.map V.int) vs
  | _, _, .nil => .nil
  | _, _, .cons n t h => .cons ⟨t, rfl⟩ (vals_ints h)
def inClass (s : Stmt) (j : Nat) : Stmt := match s with
  | .ClassDef _ _ _ body _ _ _ _ _ _ _ => body.getD j (.Pass ⟨0, 0, 0, 0⟩)
  | _ => .Pass ⟨0, 0, 0, 0⟩
def defArgs (s : Stmt) : Arguments := match s with
  | .FunctionDef _ a _ _ _ _ _ _ _ _ => a
  | _ => { posonlyargs := [], args := [], vararg := none, kwonlyargs := [], kw_defaults := [], kwarg := none, defaults := [] }
def defBody (s : Stmt) : List Stmt := match s with
  | .FunctionDef _ _ b _ _ _ _ _ _ _ => b
  | _ => []
def defScope (s : Stmt) : Scope := match s with
  | .FunctionDef _ _ _ _ _ _ sc _ _ _ => sc
  | _ => { kind := .function, names := [], isGenerator := false, isCoroutine := false }
abbrev CX0 : CXT := ⟨fun _ _ _ _ _ _ => False, false⟩
abbrev CX1 : CXT := ⟨fun _ _ _ _ _ _ => False, true⟩
abbrev E0 : XK := fun _ _ _ => False
theorem pass0 {X : Cx} (hc : X.calm = true := by rfl) : Passes CX0 X E0 := ⟨hc, (fun z => nomatch z), fun _ _ _ _ _ _ _ h => h.elim⟩
theorem pass1 {X : Cx} (hc : X.calm = true := by rfl) (hs : X.sx = true := by rfl) : Passes CX1 X E0 := ⟨hc, (fun _ => hs), fun _ _ _ _ _ _ _ h => h.elim⟩
structure Fun (K : PySem.W.Frag) (x qual : Str) (st : Stmt) (f : Addr) (fd : FuncData) : Prop where
  ex : ∃ (oc : Value) (od : Option Addr) (kV doc pm : Value) (an : Option Addr) (cdv ct : Value) (osl : Array (Option Value)),
    fd = PySem.W.fnOf x qual (defArgs st) (defBody st) (defScope st) .none kV doc pm an cdv ct ∧ K.lookup f = some ⟨oc, od, .func fd, osl⟩ ∧ PySem.W.codeIn K cdv qual = true
  kp : PySem.W.keepIn K (.ref f) = true
section
variable {P : Program} {w : World} {K : PySem.W.Frag} {mg : Str → Option Value} {base : Heap}
theorem Fun.ok {x qual : Str} {st : Stmt} {f : Addr} {fd : FuncData} {N ps : List Str} {k : Nat} {sp : Sp} (F : Fun K x qual st f fd) (S : FnScope N ps (defScope st)) (len : ∀ vs H Q E, sp vs H Q E → vs.length = ps.length)
    (hbody : ∀ (cdv : Value) (A : Around) (outer : List Env) (s : Shared) (H : Hp) (vs : List V) (Q : VK) (E : XK), Room k (A.deeper (envOfC qual (defScope st) s.heap.objs.size f cdv)) → sp vs H Q E →
      ∃ t, PSs (cxOf CX0 P w K mg base N qual (defScope st) f cdv A outer s H E).nox (defBody st) t ∧ t { nx := fun _ H' => Q .non H', rt := Q } (start N vs) H) : FnOk P w K mg base CX0 (k + 1) f fd ps sp := by
  obtain ⟨oc, od, kV, doc, pm, an, cdv, ct, osl, rfl, lk, hcd⟩ := F.ex
  refine fn_of lk hcd S len fun A outer s H vs Q E hr hsp => ?_
  obtain ⟨t, h, q⟩ := hbody cdv A outer s H vs Q E hr hsp
  exact ⟨t, h.nox, q⟩
theorem Fun.ok1 {x qual : Str} {st : Stmt} {f : Addr} {fd : FuncData} {N ps : List Str} {k : Nat} {sp : Sp} (F : Fun K x qual st f fd) (S : FnScope N ps (defScope st)) (len : ∀ vs H Q E, sp vs H Q E → vs.length = ps.length)
    (hbody : ∀ (cdv : Value) (A : Around) (outer : List Env) (s : Shared) (H : Hp) (vs : List V) (Q : VK) (E : XK), Room k (A.deeper (envOfC qual (defScope st) s.heap.objs.size f cdv)) → sp vs H Q E →
      ∃ t, PSs (cxOf CX1 P w K mg base N qual (defScope st) f cdv A outer s H E).nox (defBody st) t ∧ t { nx := fun _ H' => Q .non H', rt := Q } (start N vs) H) : FnOk P w K mg base CX1 (k + 1) f fd ps sp := by
  obtain ⟨oc, od, kV, doc, pm, an, cdv, ct, osl, rfl, lk, hcd⟩ := F.ex
  refine fn_of lk hcd S len fun A outer s H vs Q E hr hsp => ?_
  obtain ⟨t, h, q⟩ := hbody cdv A outer s H vs Q E hr hsp
  exact ⟨t, h.nox, q⟩
theorem Fun.binds {x qual : Str} {st : Stmt} {f : Addr} {fd : FuncData} {ps : List Str} (F : Fun K x qual st f fd)
    (h : ∀ (kV doc pm : Value) (an : Option Addr) (cdv ct : Value) (us : List Value), us.length = ps.length → bindArgs (PySem.W.fnOf x qual (defArgs st) (defBody st) (defScope st) .none kV doc pm an cdv ct) ⟨us, []⟩ = pure (ps.zip us)) : Binds K fd ps [] := by
  obtain ⟨oc, od, kV, doc, pm, an, cdv, ct, osl, rfl, lk, hcd⟩ := F.ex
  exact .all (h kV doc pm an cdv ct)
theorem fun_mk {x qual : Str} {st : Stmt} {f : Addr} {oc : Value} {od an : Option Addr} {osl : Array (Option Value)} {kV doc pm cdv ct : Value} (l : K.lookup f = some ⟨oc, od, .func (PySem.W.fnOf x qual (defArgs st) (defBody st) (defScope st) .none kV doc pm an cdv ct), osl⟩)
    (c : PySem.W.codeIn K cdv qual = true) (k : PySem.W.keepIn K (.ref f) = true) : Fun K x qual st f (PySem.W.fnOf x qual (defArgs st) (defBody st) (defScope st) .none kV doc pm an cdv ct) := ⟨⟨oc, od, kV, doc, pm, an, cdv, ct, osl, rfl, l, c⟩, k⟩
end
theorem hu_of {A : Around} {k : Nat} (hr : Room k A) : A.units + 1 < cLine := Nat.lt_of_le_of_lt (Nat.add_le_add_left (by decide : 1 ≤ 64) _) hr.units
section
variable {X : Cx}
theorem pv (i : Nat) {x : Str} {pos : Pos} (hN : X.N[i]? = some x := by rfl) (hv : Vis X.env.scope x := by first | exact Or.inl rfl | exact Or.inr (Or.inl rfl) | exact Or.inr (Or.inr rfl)) (hd : (x == ("__debug__" : Str)) = false := by decide)
    (hcd : (x == ("__classdict__" : Str)) = false := by decide) : PE X (.Name x pos) (tVar i) := pe_var hN hv hd hcd
end
theorem iteF {A B : Prop} (h : B) : if false = true then A else B := by
  rw [if_neg Bool.false_ne_true]
  exact h
theorem iteT {A B : Prop} (h : A) : if true = true then A else B := by
  rw [if_pos rfl]
  exact h
theorem ite2 {c A B : Prop} [Decidable c] (h1 : c → A) (h2 : ¬ c → B) : if c then A else B := by
  by_cases h : c
  · rw [if_pos h]
    exact h1 h
  · rw [if_neg h]
    exact h2 h
def Same (H H' : Hp) : Prop := ∀ b o, H b = some o → H' b = some o
theorem Same.refl (H : Hp) : Same H H := fun _ _ h => h
theorem Same.trans {H H1 H2 : Hp} (a : Same H H1) (b : Same H1 H2) : Same H H2 := fun c o h => b c o (a c o h)
theorem Same.free {H H' : Hp} (e : Same H H') {l : Addr} (h : H' l = Option.none) : H l = Option.none := by
  cases q : H l with
  | none => rfl
  | some o =>
    rw [e l o q] at h
    cases h
theorem Same.seq {K : PySem.W.Frag} {H H' : Hp} {a : Addr} {xs : List V} (e : Same H H') (h : SqL K H a xs) : SqL K H' a xs := by
  rcases h with (h | ⟨o, h⟩) | h
  · exact .inl (.inl (e _ _ h))
  · exact .inl (.inr ⟨o, e _ _ h⟩)
  · exact .inr h
section
variable {X : Cx}
theorem call_lenD : CallR X (.builtin "len") (fun xs H Q => ∃ a kvs, xs = [V.ref a] ∧ H a = some (.dK kvs) ∧ Q (.int kvs.length) H) := by
  intro pins s σ H xs us Q I r h
  obtain ⟨a, kvs, rfl, ha, q⟩ := h
  obtain ⟨u, rfl, ru⟩ := vals1 r
  cases ru
  exact d_len I (.inl ha) fun t s' I' => ⟨.int kvs.length, H, I', ⟨t, rfl⟩, q⟩
end
section
variable {κ : Type} [DecidableEq κ]
end
section
variable {X : Cx} {pins : List (Addr × Obj)} {σ : St} {H : Hp} {s : Shared} {h' : Heap}
theorem Inv.adopt {D : Addr} {o : HO} (I : Inv X pins σ H s) (hn : H D = none) (hL : D ≠ X.env.locals) (h0 : X.s₀.heap.objs.size ≤ D)
    (hc : ∀ x c, X.env.cells.lookup x = some c → c ≠ D) (hp : ∀ p ∈ X.pn ++ pins, p.1 ≠ D) (new : ObjOk X.prog X.w (upd H D o) s.heap D o) : Inv X pins σ (upd H D o) s := by
  have ne : ∀ b u, H b = some u → b ≠ D := fun b u e => ne_of_none e hn
  refine ⟨I.ok, I.os, I.bare, ⟨I.base.keep, I.base.slot, fun b u e n hx => ?_, I.base.there, fun b xs e => ?_, fun b u v e => ?_, fun b ps e => ?_⟩, I.loc, I.cell, ?_, fun x c e => ?_, fun p hp' => ?_, fun b u e => ?_, I.len⟩
  · rw [upd_ne (Nat.ne_of_lt (Nat.lt_of_lt_of_le (Heap.lt_size e) h0))]; exact I.base.free b u e n hx
  · have q := I.base.tups b xs e
    rw [upd_ne (ne _ _ q)]; exact q
  · have q := I.base.frzs b u v e
    rw [upd_ne (ne _ _ q)]; exact q
  · obtain ⟨m, q⟩ := I.base.tbls b ps e
    exact ⟨m, by rw [upd_ne (ne _ _ q)]; exact q⟩
  · rw [upd_ne (Ne.symm hL)]; exact I.free
  · rw [upd_ne (hc x c e)]; exact I.freeC x c e
  · obtain ⟨e, n, r⟩ := I.pin p hp'
    exact ⟨e, by rw [upd_ne (hp p hp')]; exact n, r⟩
  · by_cases hb : b = D
    · subst hb; rw [upd_same] at e; cases e; exact new
    · rw [upd_ne hb] at e
      exact (I.hok b u e).stay (fun _ _ _ q => q) (fun c q => by rw [upd_ne (ne _ _ q)]; exact q) fun c xs q => by rw [upd_ne (ne _ _ q)]; exact q
theorem Inv.turns {t' : Nat} {ch : List Addr} (I : Inv X pins σ H s) (k : ∀ b o, b ∉ ch → s.heap.get? b = some o → h'.get? b = some o) (hf : ∀ b ∈ ch, FpOk X pins H b) :
    Inv X pins σ H { s with heap := h', toks := t' } := by
  have nit : ∀ b u, H b = some u → b ∉ ch := fun b u e z => by rw [(hf b z).1] at e; cases e
  refine I.step (g' := s.gens) (d' := s.drawn) (ch := ch) (fun b hb => ?_) (fun b o _ _ hc e _ => k b o hc e) (fun b o _ _ hc e _ => ⟨o.slots, k b o hc e⟩) (fun _ _ _ _ n => n)
    (fun b o hc e => ⟨o, k b o hc e⟩) (fun _ _ e => e) (fun _ _ _ e => e) (fun b ps e => ⟨#[], by rw [e]; simp⟩) (fun m hm => ?_) (fun b u e => ?_) I.bare
  · obtain ⟨f0, f1, f2, f3, f4, f5⟩ := hf b hb
    exact ⟨f3, f1, f4, f5⟩
  · obtain ⟨o, es, ep, ho, r⟩ := hm
    exact ⟨o, es, ep, k _ o (fun z => (hf _ z).2.1 rfl) ho, r⟩
  · refine (I.hok b u e).stay (fun c v hc q => k c v ?_ q) (fun _ q => q) fun _ _ q => q
    rcases hc with z | z
    · rw [z]; exact nit b u e
    · exact nit c _ z
end
theorem closure_go {env : Env} (f : Str × NameKind → List (Str × Addr) → Sem (ForInStep (List (Str × Addr))))
    (hf : ∀ name kind cs, f (name, kind) cs = if kind == .free then (do let a ← cellOf env name; pure (.yield ((name, a) :: cs))) else pure (.yield cs)) :
    ∀ (names : List (Str × NameKind)) (cs : List (Str × Addr)), (∀ n, (n, NameKind.free) ∈ names → ∃ c, env.cells.lookup n = some c) → (∀ x c, cs.lookup x = some c → env.cells.lookup x = some c) →
      ∃ cl, forIn names cs f = pure cl ∧ (∀ x c, cl.lookup x = some c → env.cells.lookup x = some c) ∧ (∀ x, (∃ c, cs.lookup x = some c) ∨ (x, NameKind.free) ∈ names → ∃ c, cl.lookup x = some c)
  | [], cs, _, h => ⟨cs, rfl, h, fun x hx => hx.elim (fun z => z) fun z => nomatch z⟩
  | (n, k) :: r, cs, hn, h => by
    by_cases hk : k = .free
    · subst hk
      obtain ⟨c, hc⟩ := hn n List.mem_cons_self
      obtain ⟨cl, e, h1, h2⟩ := closure_go f hf r ((n, c) :: cs) (fun m hm => hn m (List.mem_cons_of_mem _ hm)) (fun x d hx => by
        by_cases hxn : x = n
        · subst hxn
          rw [List.lookup_cons, beq_self_eq_true] at hx
          cases hx
          exact hc
        · rw [List.lookup_cons, beq_eq_false_iff_ne.mpr hxn] at hx
          exact h x d hx)
      refine ⟨cl, ?_, h1, fun x hx => ?_⟩
      · rw [List.forIn_cons, hf]
        have e1 : cellOf env n = pure c := by unfold cellOf; rw [hc]
        rw [e1]
        exact e
      · rcases hx with ⟨d, hd⟩ | hx
        · refine h2 x (.inl ?_)
          by_cases hxn : x = n
          · subst hxn
            exact ⟨c, by rw [List.lookup_cons, beq_self_eq_true]⟩
          · exact ⟨d, by rw [List.lookup_cons, beq_eq_false_iff_ne.mpr hxn]; exact hd⟩
        · rcases List.mem_cons.mp hx with e2 | hx
          · obtain rfl : x = n := (Prod.mk.inj e2).1
            exact h2 x (.inl ⟨c, by rw [List.lookup_cons, beq_self_eq_true]⟩)
          · exact h2 x (.inr hx)
    · have hkb : (k == NameKind.free) = false := beq_eq_false_iff_ne.mpr hk
      obtain ⟨cl, e, h1, h2⟩ := closure_go f hf r cs (fun m hm => hn m (List.mem_cons_of_mem _ hm)) h
      refine ⟨cl, ?_, h1, fun x hx => h2 x ?_⟩
      · rw [List.forIn_cons, hf, hkb]
        exact e
      · rcases hx with hx | hx
        · exact .inl hx
        · rcases List.mem_cons.mp hx with e2 | hx
          · cases e2
            exact absurd rfl hk
          · exact .inr hx
theorem closure_of {env : Env} {scope : Scope} (hn : ∀ n, (n, NameKind.free) ∈ scope.names → ∃ c, env.cells.lookup n = some c) :
    ∃ cl, closureFor scope env = pure cl ∧ (∀ x c, cl.lookup x = some c → env.cells.lookup x = some c) ∧ ∀ x, (x, NameKind.free) ∈ scope.names → ∃ c, cl.lookup x = some c := by
  obtain ⟨cl, e, h1, h2⟩ := closure_go (env := env) (fun x cs => match x with | (name, kind) => if kind == .free then (do let a ← cellOf env name; pure (.yield ((name, a) :: cs))) else pure (.yield cs)) (fun _ _ _ => rfl) scope.names [] hn (fun x c z => nomatch z)
  refine ⟨cl, ?_, h1, fun x hx => h2 x (.inr hx)⟩
  unfold closureFor
  exact Eq.trans (congrArg (fun t : Sem (List (Str × Addr)) => t >>= fun r => pure r) e) rfl
def relS (scope sc : Scope) : Scope :=
  { scope with names := scope.names.map fun (n, k) => if (k == .free && sc.kind == .function && sc.names.lookup n == some .cell) then (n, .cell) else (n, k) }
def compOk (sc scope : Scope) : Bool :=
  decide (scope.kind = .function) && (scope.names.all (fun p => decide (p.2 ≠ .cell)) && (scope.names.all (fun p => decide (p.2 = .local → scope.names.lookup p.1 = some .local)) &&
  scope.names.all (fun p => decide (p.2 = .free → (sc.names.lookup p.1 = some .cell ∨ sc.names.lookup p.1 = some .free)))))
def frOk (N : List Str) (scope : Scope) (fr : List (Str × Nat)) : Bool := fr.all fun p => decide (N[p.2]? = some p.1) && decide (scope.names.lookup p.1 = some .free)
structure CompOk (sc scope : Scope) : Prop where
  kind : scope.kind = .function
  cell : ∀ p ∈ scope.names, p.2 ≠ .cell
  loc : ∀ p ∈ scope.names, p.2 = .local → scope.names.lookup p.1 = some .local
  free : ∀ n, (n, NameKind.free) ∈ scope.names → sc.names.lookup n = some .cell ∨ sc.names.lookup n = some .free
theorem compOk_of {sc scope : Scope} (h : compOk sc scope = true) : CompOk sc scope := by
  unfold compOk at h
  rw [Bool.and_eq_true, Bool.and_eq_true, Bool.and_eq_true, List.all_eq_true, List.all_eq_true, List.all_eq_true] at h
  obtain ⟨h1, h2, h3, h4⟩ := h
  exact ⟨of_decide_eq_true h1, fun p hp => of_decide_eq_true (h2 p hp), fun p hp => of_decide_eq_true (h3 p hp), fun n hn => of_decide_eq_true (h4 (n, .free) hn) rfl⟩
theorem lookup_mem {α : Type} {x : Str} {v : α} : ∀ {l : List (Str × α)}, l.lookup x = some v → (x, v) ∈ l
  | [], h => nomatch h
  | (n, k) :: r, h => by
    rw [List.lookup_cons] at h
    by_cases hx : x = n
    · subst hx
      rw [beq_self_eq_true] at h
      cases h
      exact List.mem_cons_self
    · rw [beq_eq_false_iff_ne.mpr hx] at h
      exact List.mem_cons_of_mem _ (lookup_mem h)
theorem relabel_lookup {env : Env} {x : Str} : ∀ {names : List (Str × NameKind)} {k : NameKind},
    (names.map fun (n, k) => if (k == NameKind.free && env.scope.kind == .function && env.kindOf n == some .cell) then (n, NameKind.cell) else (n, k)).lookup x = some k →
    (k = .cell ∧ ((x, NameKind.free) ∈ names ∨ (x, NameKind.cell) ∈ names)) ∨ (x, k) ∈ names
  | [], _, h => nomatch h
  | (n, j) :: r, k, h => by
    have ih := @relabel_lookup env x r k
    rw [List.map_cons] at h
    by_cases hc : (j == NameKind.free && env.scope.kind == .function && env.kindOf n == some .cell) = true
    · simp only [hc, if_true] at h
      rw [List.lookup_cons] at h
      by_cases hx : x = n
      · subst hx
        rw [beq_self_eq_true] at h
        cases h
        have hj : j = .free := by
          rw [Bool.and_eq_true, Bool.and_eq_true] at hc
          exact beq_iff_eq.mp hc.1.1
        subst hj
        exact .inl ⟨rfl, .inl List.mem_cons_self⟩
      · rw [beq_eq_false_iff_ne.mpr hx] at h
        rcases ih h with ⟨e, z | z⟩ | z
        · exact .inl ⟨e, .inl (List.mem_cons_of_mem _ z)⟩
        · exact .inl ⟨e, .inr (List.mem_cons_of_mem _ z)⟩
        · exact .inr (List.mem_cons_of_mem _ z)
    · simp only [hc] at h
      rw [if_neg Bool.false_ne_true, List.lookup_cons] at h
      by_cases hx : x = n
      · subst hx
        rw [beq_self_eq_true] at h
        cases h
        exact .inr List.mem_cons_self
      · rw [beq_eq_false_iff_ne.mpr hx] at h
        rcases ih h with ⟨e, z | z⟩ | z
        · exact .inl ⟨e, .inl (List.mem_cons_of_mem _ z)⟩
        · exact .inl ⟨e, .inr (List.mem_cons_of_mem _ z)⟩
        · exact .inr (List.mem_cons_of_mem _ z)
theorem relabel_free {env : Env} {x : Str} : ∀ {names : List (Str × NameKind)}, names.lookup x = some .free →
    (names.map fun (n, k) => if (k == NameKind.free && env.scope.kind == .function && env.kindOf n == some .cell) then (n, NameKind.cell) else (n, k)).lookup x = some .cell ∨
    (names.map fun (n, k) => if (k == NameKind.free && env.scope.kind == .function && env.kindOf n == some .cell) then (n, NameKind.cell) else (n, k)).lookup x = some .free
  | [], h => nomatch h
  | (n, j) :: r, h => by
    have ih := @relabel_free env x r
    rw [List.map_cons]
    rw [List.lookup_cons] at h
    by_cases hx : x = n
    · subst hx
      rw [beq_self_eq_true] at h
      cases h
      by_cases hc : (NameKind.free == NameKind.free && env.scope.kind == .function && env.kindOf x == some .cell) = true
      · simp only [hc, if_true]
        rw [List.lookup_cons, beq_self_eq_true]
        exact .inl rfl
      · simp only [hc]
        rw [if_neg Bool.false_ne_true, List.lookup_cons, beq_self_eq_true]
        exact .inr rfl
    · rw [beq_eq_false_iff_ne.mpr hx] at h
      by_cases hc : (j == NameKind.free && env.scope.kind == .function && env.kindOf n == some .cell) = true
      · simp only [hc, if_true]
        rw [List.lookup_cons, beq_eq_false_iff_ne.mpr hx]
        exact ih h
      · simp only [hc]
        rw [if_neg Bool.false_ne_true, List.lookup_cons, beq_eq_false_iff_ne.mpr hx]
        exact ih h
theorem compLoop_go {prog : Program} {w : World} {A : Around} {R : Result → Shared → Prop} {s : Shared} {elt target iter : Expr} {ifs : List Expr} {scope : Scope} {pos : Pos} {it acc : Value} {env : Env} (EW : Value → Shared → Prop) (hE : ∀ x s', EW x s' → notedBy (model prog w) A env (fun y s'' => R (.error y) s'') x s') (I : Nat → Shared → Prop)
    (turn : ∀ n s, I n s → wpAny (model prog w) A (pyNext it) (fun r s₁ => match r with
      | none => R (.ok .next) s₁
      | some v => wpAny (model prog w) A (letOwnedTupleGo target it v) (fun _ s₀ => wpAny (model prog w) A (assign target env v) (fun _ s₂ =>
          wpAny (model prog w) A (forIn ifs true fun c r => if r = true then do let ok ← isTrue c env (eval c env); pure (ForInStep.yield ok) else pure (ForInStep.yield r)) (fun ok s₃ =>
            if ok = true then wpAny (model prog w) A (eval elt env) (fun x s₄ =>
              wpAny (model prog w) A (call (.builtin "list.append") [acc, x]) (fun _ s₅ => ∃ m, m < n ∧ I m s₅) (fun _ _ => False) s₄) EW s₃
            else ∃ m, m < n ∧ I m s₃) EW s₂) EW s₀) (fun _ _ => False) s₁) (fun _ _ => False) s)
    (n : Nat) (h : I n s) : codeAny (model prog w) A (.compLoop (.ListComp elt [⟨target, iter, ifs, 0⟩] scope pos) 0 it acc env) R s := by
  refine codeAny_loop rfl I (fun n s hI => ?_) n h
  show wpAny _ A ((compTurn (.ListComp elt [⟨target, iter, ifs, 0⟩] scope pos) 0 it acc env).onRaise (fun x => do noteFrame x env; theTreesLotGoes x)) _ _ s
  refine wpAny_noted ?_
  rw [compTurn_list]
  refine wpAny_bind (wpAny_standAt (wpAny_bind (wpAny_mono (turn n s hI) (fun r s₁ h₁ => ?_) fun _ _ h' => h'.elim)))
  cases r with
  | none => exact wpAny_pure h₁
  | some v =>
    refine wpAny_bind (wpAny_mono h₁ (fun _ s₀ h₀ => ?_) fun _ _ h' => h'.elim)
    refine wpAny_bind (wpAny_mono h₀ (fun _ s₂ h₂ => wpAny_bind (wpAny_mono h₂ (fun ok s₃ h₃ => ?_) hE)) hE)
    cases ok with
    | false => exact wpAny_pure ⟨rfl, h₃⟩
    | true =>
      exact wpAny_bind (wpAny_bind (wpAny_mono h₃ (fun x s₄ h₄ => wpAny_bind (wpAny_mono h₄ (fun _ s₅ h₅ => wpAny_pure (wpAny_pure ⟨rfl, h₅⟩)) fun _ _ h' => h'.elim)) hE))
def cxComp (X : Cx) (scope : Scope) (N : List Str) (cl : List (Str × Addr)) (C : Addr) (s : Shared) (H : Hp) (fp : List Addr) (pins : List (Addr × Obj)) : Cx where
  prog := X.prog
  w := X.w
  K := X.K
  mg := X.mg
  base := X.base
  A := X.A
  N := N
  s₀ := s
  H₀ := H
  env := compEnvC scope cl C X.env
  outer := X.stack
  stack := X.stack
  ex := fp
  fn := fun _ => false
  calm := X.calm
  sx := X.sx
  pn := X.pn ++ pins
  xe := fun _ _ => False
def PTs (Y : Cx) (ifs : List Expr) (tc : TT) : Prop :=
  ∀ (pins : List (Addr × Obj)) (s : Shared) (σ : St) (H : Hp) (Q : Bool → Hp → Prop), Inv Y pins σ H s → tc σ H Q →
    wpAny (model Y.prog Y.w) Y.A (forIn ifs true fun c r => if r = true then do let ok ← isTrue c Y.env (eval c Y.env); pure (ForInStep.yield ok) else pure (ForInStep.yield r)) (TP Y pins σ Q) Y.xe s
def tNoIf : TT := fun _ H Q => Q true H
theorem pts_nil {Y : Cx} : PTs Y [] tNoIf := fun pins s σ H Q I h => wpAny_tests_nil ⟨H, I, h⟩
def OwnG (n : Nat) (g : TG) : Prop := ∀ v σ H (Q Q' : St → Hp → Prop), (∀ σ2 H2, Q σ2 H2 → σ2.length = σ.length → (∀ j, n ≤ j → σ2[j]? = σ[j]?) → Q' σ2 H2) → g v σ H Q → g v σ H Q'
theorem own_name {n i : Nat} (h : i < n) : OwnG n (gName i) := fun v σ H Q Q' f q => f _ _ q (by simp) fun j hj => List.getElem?_set_ne (by omega)
structure CompR (Y : Cx) (tg : Expr) (ifs : List Expr) (elt : Expr) (g : TG) (tc : TT) (te : TE) : Prop where
  tg : PG Y tg g
  ts : PTs Y ifs tc
  el : PE Y elt te
def stC (n : Nat) (fr : List (Str × Nat)) (σ : St) : St := List.replicate n none ++ fr.map fun p => (σ[p.2]?).join
def tTurns (n : Nat) (fr : List (Str × Nat)) (g : TG) (tc : TT) (te : TE) (σ : St) (J : It) (H : Hp) (F : List V → Hp → Prop) : Prop :=
  ∃ W : Nat → Nat → List V → Hp → Prop, (∃ m, W 0 m [] H) ∧ ∀ i m ys H, W i m ys H →
    (J.stop i H ∧ F ys H) ∨ (J.go i H ∧ ∃ Nx : List V → Hp → Prop, (∀ ys' H', Nx ys' H' → ∃ m', m' < m ∧ W (i + 1) m' ys' H') ∧ ∀ x H', J.yld i H x H' → g x (stC n fr σ) H' fun σ2 H2 => tc σ2 H2 fun b H3 =>
      if b = true then te σ2 H3 fun y H4 => ys.length < sizeLine ∧ Nx (ys ++ [y]) H4 else Nx ys H3)
def tComp (n : Nat) (fr : List (Str × Nat)) (wi : TI) (g : TG) (tc : TT) (te : TE) : TE := fun σ H Q => wi σ H fun J H1 => tTurns n fr g tc te σ J H1 fun ys H2 => ∀ p, H2 p = none → Q (.ref p) (upd H2 p (.lst ys))
abbrev lobj (its : List Value) (n : Nat) : Obj := { cls := .type "list", data := .seq its.toArray n }
section
variable {X : Cx} {elt iter tg : Expr} {ifs : List Expr} {scope sc : Scope} {pos : Pos} {own N : List Str} {fr : List (Str × Nat)} {g : TG} {tc : TT} {te : TE} {wi : TI}
theorem comp_cxok {pins : List (Addr × Obj)} {σ : St} {H : Hp} {s : Shared} {cl : List (Str × Addr)} {C : Addr} {fp : List Addr} {N' : List Str} (I : Inv X pins σ H s) (ho : CompOk X.env.scope scope)
    (h1 : ∀ x c, cl.lookup x = some c → X.env.cells.lookup x = some c) (h2 : ∀ x, (x, NameKind.free) ∈ scope.names → ∃ c, cl.lookup x = some c) (hf : ∀ b ∈ fp, FpOk X pins H b) (hlt : ∀ b ∈ fp, b < s.heap.objs.size) (hC : s.heap.objs.size ≤ C) :
    (cxComp X scope N' cl C s H fp pins).Ok where
  mod := I.ok.mod
  kind := ho.kind
  glob := I.ok.glob
  blt := I.ok.blt
  above := hC
  inj := fun x y c e1 e2 => I.ok.inj x y c (h1 x c e1) (h1 y c e2)
  has := fun x hx => by
    have go : ∀ k, (k = .cell ∨ k = .free) → (relabel scope X.env).names.lookup x = some k → ∃ c, cl.lookup x = some c := fun k hk e => by
      rcases relabel_lookup (env := X.env) e with ⟨_, z | z⟩ | z
      · exact h2 x z
      · exact absurd rfl (ho.cell _ z)
      · rcases hk with rfl | rfl
        · exact absurd rfl (ho.cell _ z)
        · exact h2 x z
    rcases hx with hx | hx
    · exact go _ (.inl rfl) hx
    · exact go _ (.inr rfl) hx
  cab := fun x c e => absurd e Bool.false_ne_true
  hd := I.ok.hd
  st := I.ok.st
  frames := I.ok.frames
  stk := .inl rfl
  exf := fun b hb => ⟨Nat.ne_of_lt (Nat.lt_of_lt_of_le (hlt b hb) hC), fun x c e => (hf b hb).2.2.2.2.1 x c (h1 x c e)⟩
  bs := I.bs
  bsz := Nat.le_trans I.ok.bsz I.sz
  noex := fun b o e hb => by
    rcases (hf b hb).2.2.2.1 with z | z
    · exact I.ok.noex b o e z
    · exact absurd (Nat.lt_of_lt_of_le (Nat.lt_of_lt_of_le (Heap.lt_size e) I.ok.bsz) z) (Nat.lt_irrefl _)
  exfs := fun b hb z => by
    rcases List.mem_cons.mp (I.stkSub b z) with e | e
    · exact (hf b hb).2.1 e
    · exact (hf b hb).2.2.1 e
  funs := I.stack
  frf := I.stkFree
theorem comp_blockW {pins : List (Addr × Obj)} {σ : St} {H2 : Hp} {s2 : Shared} {cl : List (Str × Addr)} {fp : List Addr} {it : Addr} {tn : Nat → Heap → Prop} {J : It} {F : List V → Hp → Prop} {RR : Value → Addr → Result → Shared → Prop} {E : Value → Shared → Prop}
    (xw : Cx → Value → Shared → Prop) (hcalm : X.calm = true) (ho : CompOk X.env.scope scope) (hfr : ∀ p ∈ fr, X.N[p.2]? = some p.1 ∧ scope.names.lookup p.1 = some .free) (hG : OwnG own.length g)
    (hY : ∀ cl C s H fp pins, CompR ((cxComp X scope (own ++ fr.map (·.1)) cl C s H fp pins).wish (xw (cxComp X scope (own ++ fr.map (·.1)) cl C s H fp pins))) tg ifs elt g tc te)
    (I2 : Inv X pins σ H2 s2) (T : Turn X.prog X.w X.K tg J fp it tn) (st2 : tn 0 s2.heap) (f2 : ∀ b ∈ fp, FpOk X pins H2 b) (rd : tTurns own.length fr g tc te σ J H2 F)
    (h1 : ∀ x c, cl.lookup x = some c → X.env.cells.lookup x = some c) (h2 : ∀ x, (x, NameKind.free) ∈ scope.names → ∃ c, cl.lookup x = some c)
    (fin : ∀ D C s' H' ys its n' m, Inv X pins σ H' s' → FpOk X pins H' D → X.s₀.heap.objs.size ≤ D → s'.heap.get? D = some (lobj its n') → Vals ys its → ys.length ≤ sizeLine → FpOk X pins H' C → X.s₀.heap.objs.size ≤ C → C ≠ D → s'.heap.Ns C m → F ys H' → RR (.ref D) C (.ok .next) s')
    (hE : ∀ D C x s', s2.heap.objs.size ≤ C → xw (cxComp X scope (own ++ fr.map (·.1)) cl C s2 H2 fp pins) x s' → notedBy (model X.prog X.w) X.A (compEnvC scope cl C X.env) (fun y s'' => RR (.ref D) C (.error y) s'') x s') :
    wpAny (model X.prog X.w) X.A (newList []) (fun acc s₃ => wpAny (model X.prog X.w) X.A (newFunctionEnv scope X.env.globals cl [] X.env.qual none .none (some X.env)) (fun cenv s₄ =>
      codeAny (model X.prog X.w) X.A (.compStart (.ListComp elt [⟨tg, iter, ifs, 0⟩] scope pos) 0 (.ref it) acc { cenv with scope := relabel scope X.env }) (RR acc cenv.locals) s₄) E s₃) E s2 := by
  refine wpAny_newObj_type (wpAny_newFunctionEnv ho.cell (by intro y hy; simp at hy) (fun h₁ hns₁ hsb₁ => ?_) ho.kind)
  dsimp only at hns₁ hsb₁ ⊢
  generalize hHH : s2.heap.push { cls := .type "list", dict := none, data := .seq ([] : List Value).toArray } = HH at hns₁ hsb₁ ⊢
  have hC : HH.objs.size = s2.heap.objs.size + 1 := by rw [← hHH, Heap.size_push]
  have hDC : s2.heap.objs.size ≠ HH.objs.size := by rw [hC]; exact Nat.ne_of_lt (Nat.lt_succ_self _)
  have hCle : s2.heap.objs.size ≤ HH.objs.size := by rw [hC]; exact Nat.le_succ _
  have below : ∀ b, b < s2.heap.objs.size → b ≠ HH.objs.size := fun b hb => by rw [hC]; exact Nat.ne_of_lt (Nat.lt_succ_of_lt hb)
  have old : ∀ b o, s2.heap.get? b = some o → h₁.get? b = some o := fun b o e => hsb₁.extBut b o (below b (Heap.lt_size e)) (Heap.get?_push_of_some _ (hHH ▸ Heap.get?_push_of_some _ e))
  have hacc : h₁.get? s2.heap.objs.size = some (lobj [] 0) := hsb₁.extBut _ _ hDC (Heap.get?_push_of_some _ (hHH ▸ Heap.get?_push_size _ rfl))
  have hlt : ∀ b ∈ fp, b < s2.heap.objs.size := fun b hb => by
    obtain ⟨o, e, _⟩ := T.obj 0 _ st2 b hb
    exact Heap.lt_size e
  have okY := comp_cxok (N' := own ++ fr.map (·.1)) I2 ho h1 h2 f2 hlt hCle
  have hD0 : H2 s2.heap.objs.size = none := I2.hok.fresh (Nat.le_refl _)
  have hC0 : H2 HH.objs.size = none := I2.hok.fresh hCle
  have R' := hY cl HH.objs.size s2 H2 fp pins
  have hE' := hE s2.heap.objs.size HH.objs.size
  generalize hYe : cxComp X scope (own ++ fr.map (·.1)) cl HH.objs.size s2 H2 fp pins = Y at okY R' hE'
  -- the cells of the block
  have cellY : ∀ x c, cl.lookup x = some c → ∃ v, h₁.IsCell c v := fun x c e => by
    obtain ⟨v, o, q, d⟩ := I2.cell x c (h1 x c e)
    exact ⟨v, o, old c o q, d⟩
  have pinY : ∀ p ∈ X.pn ++ pins, h₁.get? p.1 = some p.2 ∧ H2 p.1 = none ∧ p.1 ≠ HH.objs.size ∧ p.1 ∉ frs X.stack ∧ ∀ v, p.2.data ≠ .cell v := fun p hp => by
    obtain ⟨e, n, ne, nf, d⟩ := I2.pin p hp
    refine ⟨old _ _ e, n, below _ (Heap.lt_size e), fun z => ?_, d⟩
    rcases List.mem_cons.mp (I2.stkSub _ z) with q | q
    · exact ne q
    · exact nf q
  have I0 : Inv Y [(s2.heap.objs.size, lobj [] 0)] (stC own.length fr σ) H2 { s2 with heap := h₁, toks := s2.toks + ([] : List (Str × Value)).length } := by
    subst hYe
    refine ⟨okY, rfl, I2.bare, Un.kept old, ⟨_, hns₁, fun i x v e1 e2 e3 => ?_⟩, cellY, hC0, fun x c e => I2.freeC x c (h1 x c e), fun p hp => ?_, I2.hok.kept old, ?_⟩
    · -- a slot that is set is a free name's
      have hi : own.length ≤ i := by
        rcases Nat.lt_or_ge i own.length with z | z
        · have q : (stC own.length fr σ)[i]? = some none := by
            unfold stC
            rw [List.getElem?_append_left (by simpa using z), List.getElem?_replicate, if_pos z]
          rw [q] at e2
          cases e2
        · exact z
      have e1' : (fr.map (·.1))[i - own.length]? = some x := by
        have : (own ++ fr.map (·.1))[i]? = some x := e1
        rwa [List.getElem?_append_right hi] at this
      have e2' : (fr.map fun p => (σ[p.2]?).join)[i - own.length]? = some (some v) := by
        unfold stC at e2
        rwa [List.getElem?_append_right (by simpa using hi), List.length_replicate] at e2
      rw [List.getElem?_map] at e1' e2'
      cases hp : fr[i - own.length]? with
      | none => rw [hp] at e1'; cases e1'
      | some p =>
        rw [hp] at e1' e2'
        have ep : p.1 = x := Option.some.inj e1'
        have ev : (σ[p.2]?).join = some v := Option.some.inj e2'
        obtain ⟨hN, hl⟩ := hfr p (List.mem_of_getElem? hp)
        rw [ep] at hN hl
        have hσ : σ[p.2]? = some (some v) := by
          cases q : σ[p.2]? with
          | none => rw [q] at ev; cases ev
          | some y => rw [q] at ev; exact congrArg some ev
        obtain ⟨m, hn, hloc⟩ := I2.loc
        have hk := ho.free x (lookup_mem hl)
        obtain ⟨u, r, l⟩ := hloc p.2 x v hN hσ (by rcases hk with z | z; exact .inr (.inl z); exact .inr (.inr z))
        refine ⟨u, r, ?_⟩
        rcases l with ⟨k, _⟩ | ⟨k, c, ec, hcell⟩
        · rcases hk with z | z
          · have k' : X.env.scope.names.lookup x = some .local := k
            rw [z] at k'; cases k'
          · have k' : X.env.scope.names.lookup x = some .local := k
            rw [z] at k'; cases k'
        · obtain ⟨c', ec'⟩ := h2 x (lookup_mem hl)
          have : c' = c := Option.some.inj ((h1 x c' ec').symm.trans ec)
          subst this
          obtain ⟨o, qo, qd⟩ := hcell
          exact .inr ⟨relabel_free (env := X.env) hl, c', ec', o, old _ _ qo, qd⟩
    · rcases List.mem_append.mp hp with z | z
      · exact pinY p z
      · have ep : p = (s2.heap.objs.size, lobj [] 0) := by simpa using z
        subst ep
        refine ⟨hacc, hD0, hDC, fun z => ?_, fun v z => nomatch z⟩
        rcases List.mem_cons.mp (I2.stkSub _ z) with q | q
        · exact absurd I2.lt (by rw [← q]; exact Nat.lt_irrefl _)
        · exact I2.nofs (Nat.le_refl _) q
    · show (List.replicate own.length none ++ fr.map fun p : Str × Nat => (σ[p.2]?).join).length = (own ++ fr.map (·.1)).length
      simp
  have Yp : Y.prog = X.prog ∧ Y.w = X.w ∧ Y.K = X.K ∧ Y.calm = true ∧ Y.A = X.A ∧ Y.env = compEnvC scope cl HH.objs.size X.env ∧ (Y.xe = fun _ _ => False) := by
    subst hYe
    exact ⟨rfl, rfl, rfl, hcalm, rfl, rfl, rfl⟩
  obtain ⟨y1, y2, y3, y4, y5, y6, y7⟩ := Yp
  have fpY : ∀ {H' : Hp} {its : List Value} {n' : Nat}, (∀ b ∈ fp, H' b = none) → ∀ b ∈ fp, FpOk Y [(s2.heap.objs.size, lobj its n')] H' b := fun {H' its n'} hn b hb => by
    subst hYe
    obtain ⟨f0, f1, f3, f4, f5, f6⟩ := f2 b hb
    refine ⟨hn b hb, below b (hlt b hb), okY.exfs b hb, .inl hb, fun x c e => f5 x c (h1 x c e), fun p hp => ?_⟩
    rcases List.mem_append.mp hp with z | z
    · exact f6 p z
    · have ep : p = (s2.heap.objs.size, lobj its n') := by simpa using z
      subst ep
      exact Nat.ne_of_gt (hlt b hb)
  have hYlen : ∀ {H' : Hp} {s' : Shared} {pl : List (Addr × Obj)} {σ' : St}, Inv Y pl σ' H' s' → σ'.length = (stC own.length fr σ).length → (∀ j, own.length ≤ j → σ'[j]? = (stC own.length fr σ)[j]?) → Inv Y pl (stC own.length fr σ) H' s' := fun I hl hk => by
    refine I.weak hl.symm fun i v e => ?_
    rcases Nat.lt_or_ge i own.length with z | z
    · have q : (stC own.length fr σ)[i]? = some none := by
        unfold stC
        rw [List.getElem?_append_left (by simpa using z), List.getElem?_replicate, if_pos z]
      rw [q] at e
      cases e
    · rw [hk i z]; exact e
  obtain ⟨W, ⟨m0, w0⟩, turn⟩ := rd
  have loop : ∀ s₃ : Shared, s₃ = { s2 with heap := h₁, toks := s2.toks + ([] : List (Str × Value)).length } →
      codeAny (model X.prog X.w) X.A (.compLoop (.ListComp elt [⟨tg, iter, ifs, 0⟩] scope pos) 0 (.ref it) (.ref s2.heap.objs.size) (compEnvC scope cl HH.objs.size X.env)) (RR (.ref s2.heap.objs.size) HH.objs.size) s₃ := by
    rintro s₃ rfl
    refine compLoop_go (xw Y) (fun x s' h => hE' x s' hCle h) (fun n s' => ∃ i ys its n' H', Inv Y [(s2.heap.objs.size, lobj its n')] (stC own.length fr σ) H' s' ∧ tn i s'.heap ∧ (∀ b ∈ fp, H' b = none) ∧ Vals ys its ∧ ys.length ≤ sizeLine ∧ W i n ys H') ?_ m0
      ⟨0, [], [], 0, H2, I0, T.keep _ _ _ st2 fun b _ o e => old b o e, fun b hb => (f2 b hb).1, .nil, Nat.zero_le _, w0⟩
    rintro n s3 ⟨i, ys, its, n', H3, I3, st3, fr3, rv, hz, w3⟩
    have pinD := I3.pin (s2.heap.objs.size, lobj its n') (List.mem_append_right _ (by simp))
    rcases turn i n ys H3 w3 with ⟨stop, qn⟩ | ⟨go, Nx, hNx, step⟩
    · have q := T.done Y y1 y2 y3 y4 i _ s3 _ H3 (fun _ _ => False) I3 (fpY fr3) st3 stop
      rw [y5] at q
      refine thn q fun r s4 ⟨hr, I4⟩ => ?_
      subst hr
      have pinD4 := I4.pin (s2.heap.objs.size, lobj its n') (List.mem_append_right _ (by simp))
      obtain ⟨m, hm, _⟩ := I4.loc
      have IX : Inv X pins σ H3 s4 := by
        subst hYe
        exact I2.call' (ch := fp) I4.os I4.base I4.hok I4.bare fun b hb => ⟨(f2 b hb).2.2.2.1, (f2 b hb).2.1, (f2 b hb).2.2.2.2.1, (f2 b hb).2.2.2.2.2⟩
      rw [y6] at hm
      have hCf : H3 HH.objs.size = none := by
        have z := I4.free
        rw [y6] at z
        exact z
      refine fin s2.heap.objs.size HH.objs.size s4 H3 ys its n' m IX (I2.fpOk (Nat.le_refl _) pinD4.2.1) I2.sz pinD4.1 rv hz (I2.fpOk hCle hCf) (Nat.le_trans I2.sz hCle) (Ne.symm hDC) hm qn
    · have q := T.item Y y1 y2 y3 y4 i _ s3 _ H3 (fun _ _ => False) I3 (fpY fr3) st3 go
      rw [y5] at q
      refine thn q fun r s4 ⟨u, hr, h4⟩ => ?_
      subst hr
      refine thn h4 fun _ s5 ⟨x, H5, I5, r5, y5', st5, fr5⟩ => ?_
      have I5' := I5.pinned (fpY fr5) (T.obj _ _ st5)
      have q6 : wpAny (model Y.prog Y.w) Y.A (assign tg Y.env u) _ (xw Y) s5 := R'.tg _ s5 _ H5 x u _ (I5'.wish _) r5 (hG _ _ _ _ _ (fun σ2 H2' qq l k => (⟨qq, l, k⟩ : _ ∧ _ ∧ _)) (step x H5 y5'))
      rw [y1, y2, y5, y6] at q6
      refine thn q6 fun _ s6 ⟨σ6, H6, I6, qt, hl6, hk6⟩ => ?_
      have q7 : wpAny (model Y.prog Y.w) Y.A (forIn ifs true fun c r => if r = true then do let ok ← isTrue c Y.env (eval c Y.env); pure (ForInStep.yield ok) else pure (ForInStep.yield r)) _ (xw Y) s6 := R'.ts _ s6 _ H6 _ I6 qt
      rw [y1, y2, y5, y6] at q7
      refine thn q7 fun ok s7 ⟨H7, I7, q7⟩ => ?_
      -- a turn's end: the iterator's records and the list are pinned as they were
      have again : ∀ {s8 : Shared} {H8 : Hp} {ys8 : List V} {its8 : List Value} {n8 : Nat}, Inv Y [(s2.heap.objs.size, lobj its8 n8)] σ6 H8 s8 → (∀ b ∈ fp, ∀ o, s5.heap.get? b = some o → s8.heap.get? b = some o) → (∀ b ∈ fp, H8 b = none) → Vals ys8 its8 → ys8.length ≤ sizeLine → Nx ys8 H8 →
          ∃ m, m < n ∧ ∃ i ys its n' H', Inv Y [(s2.heap.objs.size, lobj its n')] (stC own.length fr σ) H' s8 ∧ tn i s8.heap ∧ (∀ b ∈ fp, H' b = none) ∧ Vals ys its ∧ ys.length ≤ sizeLine ∧ W i m ys H' := fun {s8 H8 ys8 its8 n8} I8 kp fr8 rv8 hz8 nx => by
        obtain ⟨m', hm, w8⟩ := hNx ys8 H8 nx
        exact ⟨m', hm, i + 1, ys8, its8, n8, H8, hYlen I8 hl6 hk6, T.keep _ _ _ st5 kp, fr8, rv8, hz8, w8⟩
      cases ok with
      | false =>
        rw [if_neg Bool.false_ne_true] at q7 ⊢
        refine again I7.unwish.unpinned (fun b hb o e => (I7.pin (b, o) (List.mem_append_right _ (List.mem_append_right _ (mem_pinsAt hb e)))).1) (fun b hb => ?_) rv hz q7
        obtain ⟨o, e, d⟩ := T.obj _ _ st5 b hb
        exact (I7.pin (b, o) (List.mem_append_right _ (List.mem_append_right _ (mem_pinsAt hb e)))).2.1
      | true =>
        rw [if_pos rfl] at q7 ⊢
        have q8 : wpAny (model Y.prog Y.w) Y.A (eval elt Y.env) _ (xw Y) s7 := R'.el _ s7 _ H7 _ I7 q7
        rw [y1, y2, y5, y6] at q8
        refine thn q8 fun v s8 ⟨yv, H8, I8, r8, hsz, nx⟩ => ?_
        have pin8 := I8.pin (s2.heap.objs.size, lobj its n') (List.mem_append_right _ (List.mem_append_left _ (by simp)))
        refine wpAny_list_append_plain (hsz := by have := rv.length; simp only [List.size_toArray]; omega) ⟨n', pin8.1⟩ fun h9 ⟨n9, e9⟩ sb => ?_
        have Iu := I8.unwish.pins_of (pins' := []) (fun p hp => nomatch hp)
        have DF : FpOk Y [] H8 s2.heap.objs.size := by
          subst hYe
          refine ⟨pin8.2.1, hDC, pin8.2.2.2.1, .inr (Nat.le_refl _), fun x c e => ?_, fun p hp => ?_⟩
          · obtain ⟨w', o, qo, _⟩ := I2.cell x c (h1 x c e)
            exact Nat.ne_of_lt (Heap.lt_size qo)
          · have hp' : p ∈ X.pn ++ pins := by
              rw [List.append_nil] at hp
              exact hp
            exact Nat.ne_of_lt (Heap.lt_size (I2.pin p hp').1)
        have I9 : Inv Y [] σ6 H8 { s8 with heap := h9 } := Iu.turns (t' := s8.toks) (ch := [s2.heap.objs.size]) (fun b o hb e => (sb.2 b (by simpa using hb)).trans e) (fun b hb => by
          have e : b = s2.heap.objs.size := by simpa using hb
          subst e
          exact DF)
        have e9' : h9.get? s2.heap.objs.size = some (lobj (its ++ [v]) n9) := by
          rw [e9]
          simp
        have I10 : Inv Y [(s2.heap.objs.size, lobj (its ++ [v]) n9)] σ6 H8 { s8 with heap := h9 } := I9.pins_of fun p hp => by
          have ep : p = (s2.heap.objs.size, lobj (its ++ [v]) n9) := by simpa using hp
          subst ep
          exact ⟨e9', pin8.2.1, pin8.2.2.1, pin8.2.2.2.1, fun w' z => nomatch z⟩
        refine again I10 (fun b hb o e => (sb.2 b (Nat.ne_of_lt (hlt b hb))).trans (I8.pin (b, o) (List.mem_append_right _ (List.mem_append_right _ (mem_pinsAt hb e)))).1) (fun b hb => ?_) (rv.append (.cons r8 .nil)) (by simp; omega) nx
        obtain ⟨o, e, d⟩ := T.obj _ _ st5 b hb
        exact (I8.pin (b, o) (List.mem_append_right _ (List.mem_append_right _ (mem_pinsAt hb e)))).2.1
  exact codeAny_compStart_list (loop _ rfl) (T.self _ 0 _ _ _ (T.keep _ _ _ st2 fun b _ o e => old b o e) (loop _ rfl))
theorem comp_block {pins : List (Addr × Obj)} {σ : St} {H2 : Hp} {s2 : Shared} {cl : List (Str × Addr)} {fp : List Addr} {it : Addr} {tn : Nat → Heap → Prop} {J : It} {F : List V → Hp → Prop} {RR : Value → Addr → Result → Shared → Prop} {E : Value → Shared → Prop}
    (hcalm : X.calm = true) (ho : CompOk X.env.scope scope) (hfr : ∀ p ∈ fr, X.N[p.2]? = some p.1 ∧ scope.names.lookup p.1 = some .free) (hG : OwnG own.length g)
    (hY : ∀ cl C s H fp pins, CompR (cxComp X scope (own ++ fr.map (·.1)) cl C s H fp pins) tg ifs elt g tc te)
    (I2 : Inv X pins σ H2 s2) (T : Turn X.prog X.w X.K tg J fp it tn) (st2 : tn 0 s2.heap) (f2 : ∀ b ∈ fp, FpOk X pins H2 b) (rd : tTurns own.length fr g tc te σ J H2 F)
    (h1 : ∀ x c, cl.lookup x = some c → X.env.cells.lookup x = some c) (h2 : ∀ x, (x, NameKind.free) ∈ scope.names → ∃ c, cl.lookup x = some c)
    (fin : ∀ D C s' H' ys its n' m, Inv X pins σ H' s' → FpOk X pins H' D → X.s₀.heap.objs.size ≤ D → s'.heap.get? D = some (lobj its n') → Vals ys its → ys.length ≤ sizeLine → FpOk X pins H' C → X.s₀.heap.objs.size ≤ C → C ≠ D → s'.heap.Ns C m → F ys H' → RR (.ref D) C (.ok .next) s') :
    wpAny (model X.prog X.w) X.A (newList []) (fun acc s₃ => wpAny (model X.prog X.w) X.A (newFunctionEnv scope X.env.globals cl [] X.env.qual none .none (some X.env)) (fun cenv s₄ =>
      codeAny (model X.prog X.w) X.A (.compStart (.ListComp elt [⟨tg, iter, ifs, 0⟩] scope pos) 0 (.ref it) acc { cenv with scope := relabel scope X.env }) (RR acc cenv.locals) s₄) E s₃) E s2 :=
  comp_blockW (fun _ _ _ => False) hcalm ho hfr hG hY I2 T st2 f2 rd h1 h2 fin fun _ _ _ _ _ h => h.elim
theorem comp_setup {pins : List (Addr × Obj)} {σ : St} {H : Hp} {s : Shared} (I : Inv X pins σ H s) (hsc : X.env.scope = sc) (hok : compOk sc scope = true) (hNN : X.N = N) (hfr : frOk N scope fr = true) :
    CompOk X.env.scope scope ∧ (∀ p ∈ fr, X.N[p.2]? = some p.1 ∧ scope.names.lookup p.1 = some .free) ∧
    ∃ cl, closureFor scope X.env = pure cl ∧ (∀ x c, cl.lookup x = some c → X.env.cells.lookup x = some c) ∧ ∀ x, (x, NameKind.free) ∈ scope.names → ∃ c, cl.lookup x = some c := by
  subst hsc hNN
  have ho := compOk_of hok
  refine ⟨ho, fun p hp => ?_, closure_of fun n hn => I.ok.has n (ho.free n hn)⟩
  unfold frOk at hfr
  rw [List.all_eq_true] at hfr
  have q := hfr p hp
  rw [Bool.and_eq_true] at q
  exact ⟨of_decide_eq_true q.1, of_decide_eq_true q.2⟩
theorem pe_comp (sc : Scope) (N own : List Str) (fr : List (Str × Nat)) (hcalm : X.calm = true) (hi : PI X tg iter wi) (hG : OwnG own.length g)
    (hY : ∀ cl C s H fp pins, CompR (cxComp X scope (own ++ fr.map (·.1)) cl C s H fp pins) tg ifs elt g tc te)
    (hsc : X.env.scope = sc := by rfl) (hok : compOk sc scope = true := by decide +kernel) (hNN : X.N = N := by rfl) (hfr : frOk N scope fr = true := by decide +kernel)
    (hs : ∀ x, foldedSetIterable iter X.env x = pure x := by intro _; rfl) :
    PE X (.ListComp elt [⟨tg, iter, ifs, 0⟩] scope pos) (tComp own.length fr wi g tc te) := by
  intro pins s σ H Q I h
  obtain ⟨ho, hfr', cl, hcl, c1, c2⟩ := comp_setup I hsc hok hNN hfr
  rw [eval_ListComp]
  refine wpAny_comprehension_free (use := none) rfl hs hcl ho.kind ho.loc (thn (hi pins s σ H _ I h) fun v s1 q1 => thn q1 fun itv s2 q2 => ?_)
  obtain ⟨it, fp, tn, J, H2, e, I2, T, st2, f2, rd⟩ := q2
  subst e
  refine comp_block (RR := fun acc C => compPost (model X.prog X.w) X.A X.xe none (EP X pins σ Q) acc C) hcalm ho hfr' hG hY I2 T st2 f2 rd c1 c2 ?_
  intro D C s' H' ys its n' m I' fD zD eD rv hz fC zC hCD hm hF
  refine ⟨m, hm, fun h' sb => ?_⟩
  have I3 : Inv X pins σ H' { s' with heap := h' } := I'.turns (t' := s'.toks) (ch := [C]) (fun b o hb e => (sb.2 b (by simpa using hb)).trans e) (fun b hb => by
    have e : b = C := by simpa using hb
    subst e
    exact fC)
  exact ⟨.ref D, _, I3.adopt (o := .lst ys) fD.1 fD.2.1 zD fD.2.2.2.2.1 fD.2.2.2.2.2 ⟨hz, its, n', rv, (sb.2 D (Ne.symm hCD)).trans eD⟩, rfl, hF D fD.1⟩
end
theorem turns_list {K : PySem.W.Frag} {a : Addr} {xs : List V} {n : Nat} {fr : List (Str × Nat)} {g : TG} {tc : TT} {te : TE} {σ : St} {H : Hp} {F : List V → Hp → Prop} (Pv : Nat → List V → Hp → Prop) (h0 : Pv 0 [] H) (hl : ∀ i ys H, i ≤ xs.length → Pv i ys H → SqL K H a xs)
    (hs : ∀ i x ys H, xs[i]? = some x → Pv i ys H → g x (stC n fr σ) H fun σ2 H2 => tc σ2 H2 fun b H3 => if b = true then te σ2 H3 fun y H4 => ys.length < sizeLine ∧ Pv (i + 1) (ys ++ [y]) H4 else Pv (i + 1) ys H3)
    (hd : ∀ ys H, Pv xs.length ys H → F ys H) : tTurns n fr g tc te σ (Itl K a) H F := by
  refine ⟨fun i m ys H => m = xs.length - i ∧ i ≤ xs.length ∧ Pv i ys H, ⟨xs.length, by simp, Nat.zero_le _, h0⟩, ?_⟩
  rintro i m ys H ⟨rfl, hi, p⟩
  have q := hl i ys H hi p
  by_cases hlt : i < xs.length
  · refine .inr ⟨⟨xs, xs[i], q, by simp [hlt]⟩, Pv (i + 1), fun ys' H' p' => ⟨xs.length - (i + 1), by omega, rfl, hlt, p'⟩, fun x H' y => ?_⟩
    obtain ⟨e, y⟩ := y
    subst e
    exact hs i x ys _ (y xs q) p
  · have e : i = xs.length := by omega
    subst e
    exact .inl ⟨⟨xs, q, Nat.le_refl _⟩, hd ys H p⟩
theorem turns_range {lo : Int} {k n : Nat} {fr : List (Str × Nat)} {g : TG} {tc : TT} {te : TE} {σ : St} {H : Hp} {F : List V → Hp → Prop} (Pv : Nat → List V → Hp → Prop) (h0 : Pv 0 [] H)
    (hs : ∀ i ys H, i < k → Pv i ys H → g (.int (lo + i)) (stC n fr σ) H fun σ2 H2 => tc σ2 H2 fun b H3 => if b = true then te σ2 H3 fun y H4 => ys.length < sizeLine ∧ Pv (i + 1) (ys ++ [y]) H4 else Pv (i + 1) ys H3)
    (hd : ∀ ys H, Pv k ys H → F ys H) : tTurns n fr g tc te σ (Itr lo k) H F := by
  refine ⟨fun i m ys H => m = k - i ∧ i ≤ k ∧ Pv i ys H, ⟨k, by simp, Nat.zero_le _, h0⟩, ?_⟩
  rintro i m ys H ⟨rfl, hi, p⟩
  by_cases hlt : i < k
  · refine .inr ⟨hlt, Pv (i + 1), fun ys' H' p' => ⟨k - (i + 1), by omega, rfl, hlt, p'⟩, fun x H' y => ?_⟩
    obtain ⟨e, y⟩ := y
    subst e y
    exact hs i ys _ hlt p
  · have e : i = k := by omega
    subst e
    exact .inl ⟨Nat.le_refl _, hd ys H p⟩
abbrev Cx.in1 (X : Cx) : Cx := { X with A := X.A.in1 }
theorem Inv.in1 {X : Cx} {pins : List (Addr × Obj)} {σ : St} {H : Hp} {s : Shared} (I : Inv X pins σ H s) : Inv X.in1 pins σ H s :=
  ⟨⟨I.ok.mod, I.ok.kind, I.ok.glob, I.ok.blt, I.ok.above, I.ok.inj, I.ok.has, I.ok.cab, I.ok.hd, I.ok.st, I.ok.frames, I.ok.stk, I.ok.exf, I.ok.bs, I.ok.bsz, I.ok.noex, I.ok.exfs, I.ok.funs, I.ok.frf⟩, I.os, I.bare, I.base, I.loc, I.cell, I.free, I.freeC, I.pin, I.hok, I.len⟩
theorem Inv.out1 {X : Cx} {pins : List (Addr × Obj)} {σ : St} {H : Hp} {s : Shared} (I : Inv X.in1 pins σ H s) : Inv X pins σ H s :=
  ⟨⟨I.ok.mod, I.ok.kind, I.ok.glob, I.ok.blt, I.ok.above, I.ok.inj, I.ok.has, I.ok.cab, I.ok.hd, I.ok.st, I.ok.frames, I.ok.stk, I.ok.exf, I.ok.bs, I.ok.bsz, I.ok.noex, I.ok.exfs, I.ok.funs, I.ok.frf⟩, I.os, I.bare, I.base, I.loc, I.cell, I.free, I.freeC, I.pin, I.hok, I.len⟩
def TruL (K : PySem.W.Frag) (H : Hp) (ys : List V) (ks : List Bool) : Prop := Paired (fun y k => TruV K y H k) ys ks
theorem paired_get {α β : Type} {F : α → β → Prop} : ∀ {l₁ : List α} {l₂ : List β} {i : Nat} {a : α}, Paired F l₁ l₂ → l₁[i]? = some a → ∃ b, l₂[i]? = some b ∧ F a b
  | _, _, _, _, .nil, e => by simp at e
  | _, _, 0, _, .cons r _, e => by simp at e; subst e; exact ⟨_, rfl, r⟩
  | _, _, i + 1, a, .cons _ t, e => by
    obtain ⟨b, h1, h2⟩ := paired_get (i := i) (a := a) t (by simpa using e)
    exact ⟨b, by simpa using h1, h2⟩
section
variable {X : Cx} {pins : List (Addr × Obj)} {σ : St} {H : Hp} {R : Result → Shared → Prop} {a it : Addr} {ys : List V} {ks : List Bool}
theorem any_loop (hc : X.calm = true) (hq : SqL X.K H a ys) (ht : TruL X.K H ys ks) (hR : ∀ s', Inv X pins σ H s' → R (.ok (.ret (.bool (ks.any id)))) s') : ∀ (k i : Nat) (s : Shared), ys.length - i = k → i ≤ ys.length → (ks.take i).any id = false →
    Inv X pins σ H s → FpOk X pins H it → s.heap.IsListIter it a i → codeAny (model X.prog X.w) X.A (.builtin "any.loop" ⟨[.ref it], []⟩) R s := by
  have hlen : ys.length = ks.length := Paired.length ht
  intro k
  induction k with
  | zero =>
    intro i s hk hi hn I hf st
    have hin : i = ys.length := by omega
    refine codeAny_builtin F.entry_any_loop ?_
    rw [Around.under_plainId F.plain_any_loop _]
    show wpAny _ X.A.in1 (pyNext (.ref it) >>= _) _ _ s
    have T := turn_list (P := X.prog) (w := X.w) (K := X.K) (tg := .Name "x" ⟨0, 0, 0, 0⟩) a it
    refine wpAny_bind (thn (T.done X.in1 rfl rfl rfl hc i pins s σ H _ I.in1 (fun b hb => by
      have e : b = it := by simpa using hb
      subst e
      exact hf) st ⟨ys, hq, by omega⟩) fun r s1 ⟨hr, I1⟩ => ?_)
    subst hr
    refine wpAny_bind (wpAny_rule (wpAny_pure ?_))
    have := hR s1 I1.out1
    rw [← List.take_of_length_le (l := ks) (i := i) (by omega), hn] at this
    exact this
  | succ k ih =>
    intro i s hk hi hn I hf st
    have hlt : i < ys.length := by omega
    have hx : ys[i]? = some ys[i] := List.getElem?_eq_getElem hlt
    obtain ⟨b, hb, htv⟩ := paired_get ht hx
    refine codeAny_builtin F.entry_any_loop ?_
    rw [Around.under_plainId F.plain_any_loop _]
    show wpAny _ X.A.in1 (pyNext (.ref it) >>= _) _ _ s
    obtain ⟨its, rv, p, _⟩ := I.list hq
    obtain ⟨u, hu, ru⟩ := rv.get hx
    refine wpAny_bind (wpAny_pyNext_list_item st p.isList (x := u) (by simpa using hu) fun h' st' sb => ?_)
    have I1 : Inv X pins σ H { s with heap := h' } := I.turns (t' := s.toks) (ch := [it]) (fun c o hc' e => (sb.2 c (by simpa using hc')).trans e) (fun c hc' => by
      have e : c = it := by simpa using hc'
      subst e
      exact hf)
    obtain ⟨oi, ei, ci, di⟩ := id st'
    have I1' : Inv X.in1 (pins ++ [(it, oi)]) σ H { s with heap := h' } := I1.in1.pins_of fun q hq' => by
      rcases List.mem_append.mp hq' with z | z
      · exact I1.pin q (List.mem_append_right _ z)
      · have e : q = (it, oi) := by simpa using z
        subst e
        exact ⟨ei, hf.1, hf.2.1, hf.2.2.1, fun v z => by rw [di] at z; cases z⟩
    refine wpAny_bind (wpAny_holding (wpAny_mono (tru_ok (X := X.in1.nox) _ _ σ H ys[i] u (fun k' H' => k' = b ∧ H' = H) (I1'.wish _) ru ⟨b, htv, rfl, rfl⟩) (fun kb s2 ⟨H2, I2', e1, e2⟩ => ?_) (fun _ _ z => z.elim)))
    subst e1 e2
    have I2 := I2'.unwish
    have st2 : s2.heap.IsListIter it a (i + 1) := ⟨oi, (I2.pin (it, oi) (List.mem_append_right _ (List.mem_append_right _ (by simp)))).1, ci, di⟩
    refine wpAny_bind (wpAny_letGo ?_)
    have hbk : ks[i]? = some kb := hb
    cases kb with
    | false =>
      simp only [Bool.false_eq_true, if_false]
      refine wpAny_pure ⟨plainId_quiet F.plain_any_loop _, ih (i + 1) s2 (by omega) hlt ?_ I2.unpinned.out1 hf st2⟩
      rw [List.take_add_one, hbk, List.any_append, hn]
      rfl
    | true =>
      simp only [if_true]
      refine wpAny_bind (wpAny_rule (wpAny_pure ?_))
      have := hR s2 I2.unpinned.out1
      have e : ks.any id = true := List.any_eq_true.mpr ⟨true, List.mem_of_getElem? hbk, rfl⟩
      rw [e] at this
      exact this
end
section
variable {X : Cx}
theorem boot_any' : bootBuiltins "any" = some (.builtin "any") := by decide +kernel
theorem call_any (hc : X.calm = true) : CallR X (.builtin "any") (fun xs H Q => ∃ p ys ks, xs = [.ref p] ∧ SqL X.K H p ys ∧ TruL X.K H ys ks ∧ Q (.bl (ks.any id)) H) := by
  intro pins s σ H xs us Q I r h
  obtain ⟨p, ys, ks, rfl, hq, ht, q⟩ := h
  obtain ⟨u, rfl, ru⟩ := vals1 r
  cases ru
  refine call_function_tree F.kind_any F.plain_any F.entry_any (F.args_any1 _) ?_
  unfold Builtin.«any»
  refine wpAny_bind (m := oneArg "any" _) (wpAny_pure ?_)
  obtain ⟨its, rv, pl, hz⟩ := I.list hq
  refine wpAny_bind (wpAny_pyIter_list pl.isList ?_)
  refine wpAny_pure ⟨plainId_quiet F.plain_any_loop _, any_loop (it := s.heap.objs.size) hc hq ht ?_ ys.length 0 _ rfl (Nat.zero_le _) rfl (I.kept (t' := s.toks) fun b o e => Heap.get?_push_of_some _ e) (I.fpOk (Nat.le_refl _) (I.hok.fresh (Nat.le_refl _))) ⟨_, Heap.get?_push_size _ rfl, rfl, rfl⟩⟩
  exact fun s' I' => ⟨.bl _, H, I', rfl, q⟩
theorem call_isinst : CallR X (.builtin "isinstance") (fun xs H Q => ∃ x T t b, xs = [x, .ty T] ∧ TyOf X.K H x t ∧ PySem.W.kitOne X.K t (.type T) = some b ∧ Q (.bl b) H) := by
  intro pins s σ H xs us Q I r h
  obtain ⟨x, T, t, b, rfl, ty, e, q⟩ := h
  obtain ⟨u, w', rfl, ru, rw'⟩ := vals2 r
  cases rw'
  exact isinst_ok I ru ty e fun tk => ⟨.bl b, H, I.tok _, rfl, q⟩
end
theorem turns_list0 {K : PySem.W.Frag} {a : Addr} {xs : List V} {n : Nat} {fr : List (Str × Nat)} {g : TG} {te : TE} {σ : St} {H : Hp} {F : List V → Hp → Prop} (Pv : Nat → List V → Hp → Prop) (h0 : Pv 0 [] H) (hl : ∀ i ys H, i ≤ xs.length → Pv i ys H → SqL K H a xs)
    (hs : ∀ i x ys H, xs[i]? = some x → Pv i ys H → g x (stC n fr σ) H fun σ2 H2 => te σ2 H2 fun y H4 => ys.length < sizeLine ∧ Pv (i + 1) (ys ++ [y]) H4)
    (hd : ∀ ys H, Pv xs.length ys H → F ys H) : tTurns n fr g tNoIf te σ (Itl K a) H F := turns_list Pv h0 hl (fun i x ys H hx p => hs i x ys H hx p) hd
theorem turns_range0 {lo : Int} {k n : Nat} {fr : List (Str × Nat)} {g : TG} {te : TE} {σ : St} {H : Hp} {F : List V → Hp → Prop} (Pv : Nat → List V → Hp → Prop) (h0 : Pv 0 [] H)
    (hs : ∀ i ys H, i < k → Pv i ys H → g (.int (lo + i)) (stC n fr σ) H fun σ2 H2 => te σ2 H2 fun y H4 => ys.length < sizeLine ∧ Pv (i + 1) (ys ++ [y]) H4)
    (hd : ∀ ys H, Pv k ys H → F ys H) : tTurns n fr g tNoIf te σ (Itr lo k) H F := turns_range Pv h0 (fun i ys H hi p => hs i ys H hi p) hd
abbrev frA (l : List Env) : List Addr := l.filterMap (·.frame)
structure Flew (S ch : List Addr) (h h' : Heap) : Prop where
  keep : ∀ b o, b ∉ S → b ∉ ch → h.get? b = some o → h'.get? b = some o
  slot : ∀ b o, b ∉ ch → h.get? b = some o → ∃ sl, h'.get? b = some { o with slots := sl }
  size : h.objs.size ≤ h'.objs.size
theorem Flew.trans {S c1 c2 : List Addr} {h h1 h2 : Heap} (a : Flew S c1 h h1) (b : Flew S c2 h1 h2) : Flew S (c1 ++ c2) h h2 where
  keep := fun x o hs hc e => by
    rw [List.mem_append, not_or] at hc
    exact b.keep x o hs hc.2 (a.keep x o hs hc.1 e)
  slot := fun x o hc e => by
    rw [List.mem_append, not_or] at hc
    obtain ⟨s1, e1⟩ := a.slot x o hc.1 e
    obtain ⟨s2, e2⟩ := b.slot x _ hc.2 e1
    exact ⟨s2, e2⟩
  size := Nat.le_trans a.size b.size
theorem Flew.mono {S c1 c2 : List Addr} {h h1 : Heap} (a : Flew S c1 h h1) (k : ∀ b ∈ c1, b ∈ c2) : Flew S c2 h h1 :=
  ⟨fun x o hs hc e => a.keep x o hs (fun z => hc (k x z)) e, fun x o hc e => a.slot x o (fun z => hc (k x z)) e, a.size⟩
structure ExcNew (h : Heap) (e : Addr) (cls : Value) (dx : Option Addr) (oe : Obj) (vs : Array Value) : Prop where
  get : h.get? e = some oe
  cls : oe.cls = cls
  dict : oe.dict = dx
  data : oe.data = .fields vs
  tb : vs[1]? = some .none
  cx : vs[2]? = some .none
structure ExcAt (h : Heap) (e : Addr) (cls : Value) (dx : Option Addr) (T : Addr) (fl : Value) (oe oT : Obj) (vs ts : Array Value) : Prop where
  get : h.get? e = some oe
  cls : oe.cls = cls
  dict : oe.dict = dx
  data : oe.data = .fields vs
  tb : vs[1]? = some (.ref T)
  ne : T ≠ e
  getT : h.get? T = some oT
  dataT : oT.data = .fields ts
  fl : ts[3]? = some fl
  cx : vs[2]? = some .none
theorem dict_mapF (o : Obj) (f : Array Value → Array Value) : (o.mapFields f).dict = o.dict := by
  obtain ⟨c, d, dt, sl⟩ := o
  cases dt <;> rfl
section
variable {M : Model} {A : Around} {E : Value → Shared → Prop} {s : Shared} {base : Heap} {env : Env} {outer : List Env} {L e : Addr} {cls : Value} {dx : Option Addr} {Q : Unit → Shared → Prop}
theorem not_frame (hl : s.heap.FunFrames base (env :: outer)) {b : Addr} {o : Obj} {vs : Array Value} (e1 : s.heap.get? b = some o) (d : o.data = .fields vs) : b ∉ frA (env :: outer) := fun hm => by
  obtain ⟨_, o', ho, hnf⟩ := hl.mem hm
  rw [e1] at ho
  cases ho
  exact hnf vs d
theorem entryD {oe : Obj} {vs : Array Value} {head : Value} {hn : Bool} (hfr : A.frames = some (env :: outer)) (hl : s.heap.FunFrames base (env :: outer)) (hf : env.frame = some L)
    (he : s.heap.get? e = some oe) (hc : oe.cls = cls) (hx : oe.dict = dx) (hd : oe.data = .fields vs) (hsz : 1 < vs.size) (hcx : vs[2]? = some .none)
    (h : ∀ h' T oe' oT vs' ts, s.heap.objs.size ≤ T → Flew (frA (env :: outer)) [e] s.heap h' → ExcAt h' e cls dx T (rawInt L) oe' oT vs' ts → Q () { s with heap := h' }) :
    wpAny M A (do let a ← frameOf env; let pl ← entryPlaceOf L hn; let b ← EntryCells.newEntry head a .none (rawInt L) .none pl; setField (.ref e) 1 b) Q E s := by
  have ne := not_frame hl he hd
  refine wpAny_bind (wpAny_frameOf_fun hfr hl hf fun h1 so => wpAny_bind (wpAny_entryPlaceOf fun pl hpl => ?_))
  unfold EntryCells.newEntry newFields
  refine wpAny_bind (wpAny_newObj_type ?_ (hpl.sizeOk5 _ _ _ _ _))
  have e1 : h1.get? e = some oe := (so.2.1 e ne).trans he
  generalize hto : ({ cls := .type "traceback", dict := none, data := .fields ([head, .ref L, .none, rawInt L, .none] ++ (if pl.isEmpty then List.replicate 6 Value.none else pl)).toArray } : Obj) = tobj
  have hT3 : ∃ ts, tobj.data = .fields ts ∧ ts[3]? = some (rawInt L) ∧ tobj.isFreed = false := by
    subst hto
    exact ⟨_, rfl, by first | (simp; done) | (rcases hpl with rfl | ⟨_, _, _, _, _, _, _, rfl⟩ <;> simp), rfl⟩
  obtain ⟨ts, td, t3, tf⟩ := hT3
  have e2 : (h1.push tobj).get? e = some oe := Heap.get?_push_of_some tobj e1
  have sz1 : h1.objs.size = s.heap.objs.size := so.1
  have nT : h1.objs.size ≠ e := Nat.ne_of_gt (Heap.lt_size e1)
  have d3 := Obj.data_mapFields hd (·.setIfInBounds 1 (Value.ref h1.objs.size))
  refine wpAny_setField e2 hd hsz (h _ h1.objs.size _ tobj _ ts (Nat.le_of_eq sz1.symm) ⟨fun b o hs hc' q => ?_, fun b o hc' q => ?_, ?_⟩ ⟨Heap.get?_update_self _ e2 (Obj.isFreed_of_fields d3), (Obj.cls_mapFields _ _).trans hc, (dict_mapF _ _).trans hx, d3, by simp [hsz], nT, ?_, td, t3, by rw [Array.getElem?_setIfInBounds_ne (by decide)]; exact hcx⟩)
  · rw [Heap.get?_update_other _ _ (Ne.symm (show b ≠ e by simpa using hc'))]
    exact Heap.get?_push_of_some _ ((so.2.1 b hs).trans q)
  · obtain ⟨sl, q1⟩ := so.2.2 b o q
    refine ⟨sl, ?_⟩
    rw [Heap.get?_update_other _ _ (Ne.symm (show b ≠ e by simpa using hc'))]
    exact Heap.get?_push_of_some _ q1
  · have z := Heap.size_push h1 tobj
    have z2 : ((h1.push tobj).update e (Obj.mapFields (·.setIfInBounds 1 (Value.ref h1.objs.size)))).objs.size = (h1.push tobj).objs.size := (Heap.SameBut.update (a := e) (h1.push tobj) (Obj.mapFields (·.setIfInBounds 1 (Value.ref h1.objs.size)))).1
    exact Nat.le_trans (Nat.le_of_eq sz1.symm) (Nat.le_trans (by rw [z]; exact Nat.le_succ _) (Nat.le_of_eq z2.symm))
  · rw [Heap.get?_update_other _ _ (Ne.symm nT)]
    exact Heap.get?_push_size h1 tf
theorem noteD_first {oe : Obj} {vs : Array Value} (hfr : A.frames = some (env :: outer)) (hl : s.heap.FunFrames base (env :: outer)) (hf : env.frame = some L) (x : ExcNew s.heap e cls dx oe vs)
    (h : ∀ h' T oe' oT vs' ts, s.heap.objs.size ≤ T → Flew (frA (env :: outer)) [e] s.heap h' → ExcAt h' e cls dx T (rawInt L) oe' oT vs' ts → Q () { s with heap := h' }) : wpAny M A (noteFrame (.ref e) env) Q E s := by
  unfold noteFrame
  simp only [hf]
  refine wpAny_bind (wpAny_field x.get x.data x.tb ?_)
  rw [if_neg (by decide)]
  exact entryD hfr hl hf x.get x.cls x.dict x.data (Array.getElem?_eq_some_iff.mp x.tb).1 x.cx h
theorem unflyD {T : Addr} {fl : Value} {oe oT : Obj} {vs ts : Array Value} (x : ExcAt s.heap e cls dx T fl oe oT vs ts) (S : List Addr) :
    Flew S [T] s.heap (s.heap.update T (Obj.mapFields (·.setIfInBounds 3 .none))) ∧ ∃ oT' ts', ExcAt (s.heap.update T (Obj.mapFields (·.setIfInBounds 3 .none))) e cls dx T .none oe oT' vs ts' := by
  have hsz : 3 < ts.size := (Array.getElem?_eq_some_iff.mp x.fl).1
  have d3 := Obj.data_mapFields x.dataT (·.setIfInBounds 3 Value.none)
  have oth : ∀ b, b ≠ T → (s.heap.update T (Obj.mapFields (·.setIfInBounds 3 .none))).get? b = s.heap.get? b := fun b hb => Heap.get?_update_other _ _ (Ne.symm hb)
  refine ⟨⟨fun b o _ hc q => (oth b (by simpa using hc)).trans q, fun b o hc q => ⟨o.slots, (oth b (by simpa using hc)).trans q⟩, Nat.le_of_eq (Heap.SameBut.update (a := T) s.heap _).1.symm⟩, _, _, (oth e (Ne.symm x.ne)).trans x.get, x.cls, x.dict, x.data, x.tb, x.ne, Heap.get?_update_self _ x.getT (Obj.isFreed_of_fields d3), d3, by simp [hsz], x.cx⟩
theorem flightD {T : Addr} {fl : Value} {oe oT : Obj} {vs ts : Array Value} (x : ExcAt s.heap e cls dx T fl oe oT vs ts) (S : List Addr)
    (h : ∀ h' oT' ts', Flew S [T] s.heap h' → ExcAt h' e cls dx T .none oe oT' vs ts' → Q () { s with heap := h' }) : wpAny M A (setFlight (.ref e) none) Q E s := by
  obtain ⟨k1, oT', ts', k2⟩ := unflyD (s := s) x S
  unfold setFlight
  refine wpAny_bind (wpAny_field x.get x.data x.tb ?_)
  rw [if_pos (show (Value.ref T != Value.none) = true from by simp)]
  exact wpAny_setField x.getT x.dataT (Array.getElem?_eq_some_iff.mp x.fl).1 (h _ _ _ k1 k2)
theorem noteD_next {T : Addr} {fl : Value} {oe oT : Obj} {vs ts : Array Value} (hfr : A.frames = some (env :: outer)) (hl : s.heap.FunFrames base (env :: outer)) (hf : env.frame = some L) (x : ExcAt s.heap e cls dx T fl oe oT vs ts) (hne : (fl == rawInt L) = false)
    (h : ∀ h' T' oe' oT' vs' ts', s.heap.objs.size ≤ T' → Flew (frA (env :: outer)) [e, T] s.heap h' → ExcAt h' e cls dx T' (rawInt L) oe' oT' vs' ts' → Q () { s with heap := h' }) : wpAny M A (noteFrame (.ref e) env) Q E s := by
  unfold noteFrame
  simp only [hf]
  refine wpAny_bind (wpAny_field x.get x.data x.tb ?_)
  rw [if_pos (show (Value.ref T != Value.none) = true from by simp)]
  refine wpAny_bind (wpAny_field x.getT x.dataT x.fl ?_)
  rw [if_neg (show ¬ ((fl == rawInt L) = true) by rw [hne]; exact Bool.false_ne_true)]
  refine wpAny_bind (wpAny_setField x.getT x.dataT (Array.getElem?_eq_some_iff.mp x.fl).1 ?_)
  obtain ⟨k1, oT', ts', k2⟩ := unflyD (s := s) x (frA (env :: outer))
  have nfT := not_frame hl x.getT x.dataT
  have hl2 : (s.heap.update T (Obj.mapFields (·.setIfInBounds 3 .none))).FunFrames base (env :: outer) := hl.of_keeps fun b o q hnf => by
    obtain ⟨sl, q'⟩ := k1.slot b o (fun z => by
      have z' : b = T := by simpa using z
      subst z'
      rw [x.getT] at q
      cases q
      exact hnf ts x.dataT) q
    exact ⟨_, q', rfl⟩
  refine entryD (s := { s with heap := s.heap.update T (Obj.mapFields (·.setIfInBounds 3 .none)) }) hfr hl2 hf k2.get k2.cls k2.dict k2.data (Array.getElem?_eq_some_iff.mp x.tb).1 x.cx fun h' T' oe' oT2 vs' ts2 hT' fl at' => ?_
  exact h h' T' oe' oT2 vs' ts2 (Nat.le_trans k1.size hT') ((k1.trans fl).mono (by intro b hb; simp at hb ⊢; rcases hb with z | z <;> simp [z])) at'
end
end L2
namespace L2
open PySem PySem.Spec PyProof.Rows PySem.W
section
variable {prog : Program} {w : World} {A : Around} {R : Result → Shared → Prop} {E : Value → Shared → Prop} {h : Heap} {g : Array GenState} {d : Drawn} {t : Nat} {os : OsState}
variable {nm q : Str} {C N f : Addr} {bs bm bmB : List Value} {hdct : Bool} {sn : List Str} {sub : List Value} {ab : Bool} {col : Option Bool} {dd : Option Addr} {k0 k1 k2 k3 k5 : Option Value} {B Bn newId nid initId inN : String} {bmN : List Value}
abbrev excObj (C t : Addr) : Obj := { cls := .ref C, data := .fields #[.ref t, .none, .none, .none, .bool false, .none] }
abbrev tupObj (rest : List Value) : Obj := { cls := .type "tuple", data := .seq rest.toArray }
end
end L2
namespace L2
open PySem PySem.Spec PyProof.Rows
structure ExcOut (P : Program) (w : World) (outer : List Env) (H : Hp) (s : Shared) (cls : Value) (dx : Option Addr) (H' : Hp) (x : Addr) (s' : Shared) : Prop where
  os : s'.os = s.os
  bare : AllBare s'.gens
  un : Un (frs outer) [] H H' s.heap s'.heap
  hok : HOk P w H' s'.heap
  hx : H' x = none
  nx : s.heap.objs.size ≤ x
  fly : ∃ T oe oT vs ts, H' T = none ∧ s.heap.objs.size ≤ T ∧ ExcAt s'.heap x cls dx T .none oe oT vs ts
def CXE (P : Program) (w : World) : CXT := ⟨fun outer H s E e s' => ∃ x cls dx H', e = .ref x ∧ ExcOut P w outer H s cls dx H' x s' ∧ E cls dx H', true⟩
section
variable {X : Cx} {pins : List (Addr × Obj)} {σ : St} {H : Hp} {s : Shared} {h' : Heap} {ch : List Addr}
theorem Inv.flew {g : Array GenState} (I : Inv X pins σ H s) (fl : Flew (frs X.stack) ch s.heap h') (hc : ∀ b ∈ ch, H b = none) : HOk X.prog X.w H h' := fun a o e =>
  (I.hok a o e).stay (fun b u hb q => fl.keep b u (fun z => by
    rcases hb with rfl | hb
    · rw [I.stkFree b z] at e; cases e
    · rw [I.stkFree b z] at hb; cases hb) (fun z => by
    rcases hb with rfl | hb
    · rw [hc b z] at e; cases e
    · rw [hc b z] at hb; cases hb) q) (fun _ q => q) fun _ _ q => q
theorem Inv.unFlew (I : Inv X pins σ H s) (hx : X.ex = []) (hst : X.stack = X.env :: X.outer) (hfr : X.env.frame = some X.env.locals) (fl : Flew (frs X.stack) ch s.heap h') (hc : ∀ b ∈ ch, X.s₀.heap.objs.size ≤ b) : Un (frs X.outer) [] X.H₀ H X.s₀.heap h' := by
  have old : ∀ {b : Addr} {o : Obj}, X.s₀.heap.get? b = some o → b ∉ ch ∧ b ≠ X.env.locals := fun {b o} e => ⟨fun z => absurd (Nat.lt_of_lt_of_le (Heap.lt_size e) (hc b z)) (Nat.lt_irrefl _), Nat.ne_of_lt (Nat.lt_of_lt_of_le (Heap.lt_size e) I.ok.above)⟩
  have nex : ∀ b : Addr, b ∉ X.ex := fun b z => by rw [hx] at z; cases z
  have nst : ∀ {b : Addr}, b ∉ frs X.outer → b ≠ X.env.locals → b ∉ frs X.stack := fun {b} h1 h2 z => by
    rcases List.mem_cons.mp (I.stkSub b z) with q | q
    · exact h2 q
    · exact h1 q
  refine ⟨fun b o e n hb _ => fl.keep b o (nst hb (old e).2) (old e).1 (I.base.keep b o e n hb (nex b)), fun b o e n hb _ => ?_, fun b o e n _ => I.base.free b o e n (nex b), fun b o e _ => ?_, I.base.tups, I.base.frzs, I.base.tbls⟩
  · obtain ⟨sl, q⟩ := I.base.slot b o e n hb (nex b)
    obtain ⟨sl2, q2⟩ := fl.slot b _ (old e).1 q
    exact ⟨sl2, q2⟩
  · obtain ⟨o', q⟩ := I.base.there b o e (nex b)
    obtain ⟨sl, q2⟩ := fl.slot b o' (old e).1 q
    exact ⟨_, q2⟩
end
section
variable {P : Program} {w : World} {K : PySem.W.Frag} {mg : Str → Option Value} {base : Heap} {N : List Str} {qual : Str} {scope : Scope} {f : Addr} {cd : Value} {A : Around} {outer : List Env} {s₀ : Shared} {H₀ : Hp} {E : XK}
end
theorem Fun.okE {P : Program} {w : World} {K : PySem.W.Frag} {mg : Str → Option Value} {base : Heap} {x qual : Str} {st : Stmt} {f : Addr} {fd : FuncData} {N ps : List Str} {k : Nat} {sp : Sp} (F : Fun K x qual st f fd) (S : FnScope N ps (defScope st)) (len : ∀ vs H Q E, sp vs H Q E → vs.length = ps.length)
    (hbody : ∀ (cdv : Value) (A : Around) (outer : List Env) (s : Shared) (H : Hp) (vs : List V) (Q : VK) (E : XK), Room k (A.deeper (envOfC qual (defScope st) s.heap.objs.size f cdv)) → sp vs H Q E →
      ∃ t, PSs (cxOf (CXE P w) P w K mg base N qual (defScope st) f cdv A outer s H E) (defBody st) t ∧ t { nx := fun _ H' => Q .non H', rt := Q } (start N vs) H) :
    FnOk P w K mg base (CXE P w) (k + 1) f fd ps sp := by
  obtain ⟨oc, od, kV, doc, pm, an, cdv, ct, osl, rfl, lk, hcd⟩ := F.ex
  exact fn_of lk hcd S len fun A outer s H vs Q E hr hsp => hbody cdv A outer s H vs Q E hr hsp
def Flies (X : Cx) (h : Heap) (H : Hp) (x : Addr) (cls : Value) (dx : Option Addr) : Prop :=
  (∃ oe vs, ExcNew h x cls dx oe vs) ∨ ∃ T fl oe oT vs ts, FpOk X [] H T ∧ ExcAt h x cls dx T fl oe oT vs ts
abbrev XS := St → Value → Option Addr → Hp → Prop
def Wx (X : Cx) (E : XS) (e : Value) (s : Shared) : Prop := ∃ x cls dx H σ, e = .ref x ∧ Inv X [] σ H s ∧ FpOk X [] H x ∧ Flies X s.heap H x cls dx ∧ E σ cls dx H
structure Own (X : Cx) : Prop where
  ex : X.ex = []
  st : X.stack = X.env :: X.outer
  fr : X.env.frame = some X.env.locals
theorem FpOk.old {X : Cx} {pins : List (Addr × Obj)} {H : Hp} {b : Addr} (f : FpOk X pins H b) (o : X.ex = []) : X.s₀.heap.objs.size ≤ b := by
  rcases f.2.2.2.1 with z | z
  · rw [o] at z; cases z
  · exact z
section
variable {X : Cx} {pins : List (Addr × Obj)} {σ : St} {H : Hp} {s : Shared} {h' : Heap} {ch : List Addr}
theorem Inv.fly (I : Inv X [] σ H s) (fl : Flew (frs X.stack) ch s.heap h') (hf : ∀ b ∈ ch, FpOk X [] H b) : Inv X [] σ H { s with heap := h' } := by
  have nst : ∀ {b : Addr}, b ≠ X.env.locals → b ∉ X.fs → b ∉ frs X.stack := fun {b} h1 h2 z => by
    rcases List.mem_cons.mp (I.stkSub b z) with q | q
    · exact h1 q
    · exact h2 q
  refine I.step (g' := s.gens) (d' := s.drawn) (t' := s.toks) (ch := ch) (fun b hb => ?_) (fun b o h1 h2 hc e _ => fl.keep b o (nst h1 h2) hc e) (fun b o _ _ hc e _ => fl.slot b o hc e) (fun _ _ _ _ n => n)
    (fun b o hc e => ?_) (fun _ _ e => e) (fun _ _ _ e => e) (fun b ps e => ⟨#[], by rw [e]; simp⟩) (fun m hm => ?_) (I.flew (g := s.gens) fl fun b hb => (hf b hb).1) I.bare
  · obtain ⟨f0, f1, f2, f3, f4, f5⟩ := hf b hb
    exact ⟨f3, f1, f4, f5⟩
  · obtain ⟨sl, q⟩ := fl.slot b o hc e
    exact ⟨_, q⟩
  · obtain ⟨o, es, ep, ho, r⟩ := hm
    obtain ⟨sl, q⟩ := fl.slot _ o (fun z => (hf _ z).2.1 rfl) ho
    exact ⟨_, es, ep, q, r⟩
end
section
variable {X : Cx} {σ : St} {H : Hp} {s : Shared} {x : Addr} {cls : Value} {dx : Option Addr} {Q : Unit → Shared → Prop} {E : Value → Shared → Prop} {A : Around}
theorem noteX (ow : Own X) (hA : A.frames = some X.stack) (I : Inv X [] σ H s) (fx : FpOk X [] H x) (f : Flies X s.heap H x cls dx)
    (h : ∀ h' T oe oT vs ts, Inv X [] σ H { s with heap := h' } → FpOk X [] H T → ExcAt h' x cls dx T (rawInt X.env.locals) oe oT vs ts → Q () { s with heap := h' }) : wpAny (model X.prog X.w) A (noteFrame (.ref x) X.env) Q E s := by
  have hst := I.stack
  rw [ow.st] at hst hA
  have hone : ∀ b ∈ [x], FpOk X [] H b := fun b hb => by rw [List.mem_singleton.mp hb]; exact fx
  rcases f with ⟨oe, vs, n⟩ | ⟨T, fl, oe, oT, vs, ts, fT, a⟩
  · refine noteD_first hA hst ow.fr n fun h' T oe' oT vs' ts hT flw at' => ?_
    exact h h' T oe' oT vs' ts (I.fly (by rw [ow.st]; exact flw) hone) (I.fpOk hT (I.hok.fresh hT)) at'
  · by_cases hfl : fl = rawInt X.env.locals
    rotate_left
    · refine noteD_next hA hst ow.fr a (beq_eq_false_iff_ne.mpr hfl) fun h' T' oe' oT' vs' ts' hT flw at' => ?_
      refine h h' T' oe' oT' vs' ts' (I.fly (by rw [ow.st]; exact flw) fun b hb => ?_) (I.fpOk hT (I.hok.fresh hT)) at'
      simp only [List.mem_cons, List.not_mem_nil, or_false] at hb
      rcases hb with rfl | rfl
      · exact fx
      · exact fT
    · subst hfl
      unfold noteFrame
      simp only [ow.fr]
      refine wpAny_bind (wpAny_field a.get a.data a.tb ?_)
      rw [if_pos (show (Value.ref T != Value.none) = true from by simp)]
      refine wpAny_bind (wpAny_field a.getT a.dataT a.fl ?_)
      rw [if_pos (show (rawInt X.env.locals == rawInt X.env.locals) = true from by first | (simp; done) | exact beq_self_eq_true _)]
      exact wpAny_pure (h s.heap T oe oT vs ts I fT a)
theorem landX {T : Addr} {fl : Value} {oe oT : Obj} {vs ts : Array Value} (I : Inv X [] σ H s) (fT : FpOk X [] H T) (a : ExcAt s.heap x cls dx T fl oe oT vs ts)
    (h : ∀ h' oT' ts', Inv X [] σ H { s with heap := h' } → ExcAt h' x cls dx T .none oe oT' vs ts' → Q () { s with heap := h' }) : wpAny (model X.prog X.w) A (setFlight (.ref x) none) Q E s :=
  flightD a (frs X.stack) fun h' oT' ts' flw at' => h h' oT' ts' (I.fly flw fun b hb => by rw [List.mem_singleton.mp hb]; exact fT) at'
theorem backX {T : Addr} {fl : Value} {oe oT : Obj} {vs ts : Array Value} (ow : Own X) (I : Inv X [] σ H s) (fT : FpOk X [] H T) (a : ExcAt s.heap x cls dx T fl oe oT vs ts)
    (h : ∀ h' oT' ts', Inv X [] σ H { s with heap := h' } → ExcAt h' x cls dx T (rawInt X.env.locals) oe oT' vs ts' → Q () { s with heap := h' }) :
    wpAny (model X.prog X.w) A (do if (← field (.ref x) 1) == .none then unsupported "frame.own-activation:exception-without-traceback"
                                   setFlight (.ref x) X.env.frame) Q E s := by
  refine wpAny_bind (wpAny_field a.get a.data a.tb ?_)
  rw [if_neg (show ¬ ((Value.ref T == Value.none) = true) from by simp)]
  unfold setFlight
  refine wpAny_bind (wpAny_field a.get a.data a.tb ?_)
  rw [if_pos (show (Value.ref T != Value.none) = true from by simp), ow.fr]
  have hsz : 3 < ts.size := (Array.getElem?_eq_some_iff.mp a.fl).1
  have d3 := Obj.data_mapFields a.dataT (·.setIfInBounds 3 (rawInt X.env.locals))
  have oth : ∀ b, b ≠ T → (s.heap.update T (Obj.mapFields (·.setIfInBounds 3 (rawInt X.env.locals)))).get? b = s.heap.get? b := fun b hb => Heap.get?_update_other _ _ (Ne.symm hb)
  refine wpAny_setField a.getT a.dataT hsz (h _ _ _ (I.fly (ch := [T]) ⟨fun b o _ hc q => (oth b (by simpa using hc)).trans q, fun b o hc q => ⟨o.slots, (oth b (by simpa using hc)).trans q⟩, Nat.le_of_eq (Heap.SameBut.update (a := T) s.heap _).1.symm⟩ fun b hb => by rw [List.mem_singleton.mp hb]; exact fT)
    ⟨(oth x (Ne.symm a.ne)).trans a.get, a.cls, a.dict, a.data, a.tb, a.ne, Heap.get?_update_self _ a.getT (Obj.isFreed_of_fields d3), d3, by simp [hsz], a.cx⟩)
theorem Wx.passesOwn {EX : XS} (ow : Own X) : PassesOwn (model X.prog X.w) X.A X.env (Wx X EX) := by
  intro e s' ⟨x, cls, dx, H, σ, he, I, fx, f, hE⟩
  subst he
  refine noteX ow I.ok.frames I fx f fun h1 T oe oT vs ts I1 fT a1 => ?_
  refine backX ow I1 fT a1 fun h2 oT' ts' I2 a2 => ?_
  exact ⟨x, cls, dx, H, σ, rfl, I2, fx, .inr ⟨T, _, oe, oT', vs, ts', fT, a2⟩, hE⟩
end
section
variable {P : Program} {w : World} {K : PySem.W.Frag} {mg : Str → Option Value} {base : Heap} {N : List Str} {qual : Str} {scope : Scope} {f : Addr} {cd : Value} {A : Around} {outer : List Env} {s₀ : Shared} {H₀ : Hp} {E : XK}
theorem own_cx {CX : CXT} : Own (cxOf CX P w K mg base N qual scope f cd A outer s₀ H₀ E) := ⟨rfl, rfl, rfl⟩
theorem Wx.leaves {e : Value} {s : Shared} (h : Wx (cxOf (CXE P w) P w K mg base N qual scope f cd A outer s₀ H₀ E) (fun _ => E) e s) : (cxOf (CXE P w) P w K mg base N qual scope f cd A outer s₀ H₀ E).xe e s := by
  obtain ⟨x, cls, dx, H, σ, he, I, fx, fly, hE⟩ := h
  subst he
  have ow : Own (cxOf (CXE P w) P w K mg base N qual scope f cd A outer s₀ H₀ E) := own_cx
  show wpAny _ _ (leaving _ _) _ _ _
  unfold leaving
  refine wpAny_bind (noteX ow I.ok.frames I fx fly fun h1 T oe oT vs ts I1 fT a1 => ?_)
  refine flightD (s := { s with heap := h1 }) a1 (frs (cxOf (CXE P w) P w K mg base N qual scope f cd A outer s₀ H₀ E).stack) fun h2 oT' ts' flw a2 => ?_
  have hch : ∀ b ∈ [T], FpOk (cxOf (CXE P w) P w K mg base N qual scope f cd A outer s₀ H₀ E) [] H b := fun b hb => by rw [List.mem_singleton.mp hb]; exact fT
  refine ⟨x, cls, dx, H, rfl, ⟨I1.os, I1.bare, I1.unFlew rfl rfl rfl flw (fun b hb => (hch b hb).old rfl), I1.flew (g := s.gens) flw (fun b hb => (hch b hb).1), fx.1, fx.old rfl, T, oe, oT', vs, ts', fT.1, fT.old rfl, a2⟩, hE⟩
end
abbrev Cx.thrown (X : Cx) (E : XS) : Cx := X.wish (Wx X E)
theorem Fun.okX {P : Program} {w : World} {K : PySem.W.Frag} {mg : Str → Option Value} {base : Heap} {x qual : Str} {st : Stmt} {f : Addr} {fd : FuncData} {N ps : List Str} {k : Nat} {sp : Sp} (F : Fun K x qual st f fd) (S : FnScope N ps (defScope st)) (len : ∀ vs H Q E, sp vs H Q E → vs.length = ps.length)
    (hbody : ∀ (cdv : Value) (A : Around) (outer : List Env) (s : Shared) (H : Hp) (vs : List V) (Q : VK) (E : XK), Room k (A.deeper (envOfC qual (defScope st) s.heap.objs.size f cdv)) → sp vs H Q E →
      ∃ t, PSs ((cxOf (CXE P w) P w K mg base N qual (defScope st) f cdv A outer s H E).thrown fun _ => E) (defBody st) t ∧ t { nx := fun _ H' => Q .non H', rt := Q } (start N vs) H) :
    FnOk P w K mg base (CXE P w) (k + 1) f fd ps sp := by
  refine F.okE S len fun cdv A outer s H vs Q E hr hsp => ?_
  obtain ⟨t, h, q⟩ := hbody cdv A outer s H vs Q E hr hsp
  refine ⟨t, fun pins s' σ' H' D I hw => ?_, q⟩
  exact wpAny_mono (h pins s' σ' H' D (I.wish _) hw) (fun _ _ z => z.unwish) fun e s2 z => z.leaves
theorem Wx.passes {X : Cx} {EX : XS} {pins : List (Addr × Obj)} {σ : St} {H : Hp} {s s' : Shared} {e : Value} (I : Inv X pins σ H s) (h : (CXE X.prog X.w).f X.stack H s (EX σ) e s') : Wx X EX e s' := by
  obtain ⟨x, cls, dx, H', he, O, hE⟩ := h
  obtain ⟨T, oe, oT, vs, ts, hT, zT, a⟩ := O.fly
  have I0 := I.pins_of (pins' := []) (fun p hp => nomatch hp)
  have I' := I0.call' (ch := []) O.os O.un O.hok O.bare (fun b z => nomatch z)
  exact ⟨x, cls, dx, H', σ, he, I', I0.fpOk O.nx O.hx, .inr ⟨T, _, oe, oT, vs, ts, I0.fpOk zT hT, a⟩, hE⟩
def tCallE (sp : Sp) (dvs : List V) (EX : XS) (t : TA) : TE := fun σ H Q => t σ H fun vs H1 => sp (vs ++ dvs) H1 Q (EX σ)
section
variable {X : Cx} {EX : XS} {k : Nat} {f C : Addr} {fd : FuncData} {ps : List Str} {sp : Sp} {dvs : List V} {ds : List Value} {x m : Str} {p pos apos : Pos} {e o : Expr} {es : List Expr} {ta : TE} {t : TA}
theorem run_fnE {pins : List (Addr × Obj)} {σ : St} {H : Hp} {s : Shared} {Q : VK} {us : List Value} {vs : List V} (F : FnOk X.prog X.w X.K X.mg X.base (CXE X.prog X.w) k f fd ps sp) (hr : Room k X.A) (hb : Binds X.K fd ps ds) (hd : Vals dvs ds) (hcs : X.calm = true ∧ X.sx = true)
    (I : Inv (X.thrown EX) pins σ H s) (r : Vals vs us) (h : sp (vs ++ dvs) H Q (EX σ)) : wpAny (model X.prog X.w) X.A (call (.ref f) us) (EP (X.thrown EX) pins σ Q) (Wx X EX) s := by
  have r2 : Vals (vs ++ dvs) (us ++ ds) := r.append hd
  have hl : (us ++ ds).length = ps.length := by rw [← r2.length]; exact F.len _ _ _ _ h
  refine wpAny_call (codeAny_mono (F.run X.A X.stack s H ⟨us, []⟩ (us ++ ds) (vs ++ dvs) Q (EX σ) ⟨hr, fun _ => I.ok.st hcs.2, I.ok.hd hcs.1⟩ I.env0 (hb s us I.kIn hl) r2 h) fun r s' hq => ?_)
  cases r with
  | error e => exact Wx.passes I.unwish hq
  | ok fl =>
    cases fl with
    | ret u => exact I.after hq
    | next => exact False.elim hq
    | brk => exact False.elim hq
    | cont => exact False.elim hq
theorem pe_callE (F : FnOk X.prog X.w X.K X.mg X.base (CXE X.prog X.w) k f fd ps sp) (hr : Room k X.A) (hg : Gl X x) (hm : X.mg x = some (.ref f)) (hk : PySem.W.keepIn X.K (.ref f) = true) (hb : Binds X.K fd ps ds) (hd : Vals dvs ds)
    (ha : PA (X.thrown EX) (e :: es) t) (hdb : (x == ("__debug__" : Str)) = false := by decide) (he : starEach (e :: es) X.env = (false, eval e X.env) :: starEach es X.env := by rfl) (hpl : (backTo pos (starEach es X.env)).any (·.1) = false := by rfl) (hcs : X.calm = true ∧ X.sx = true := by exact ⟨rfl, rfl⟩) :
    PE (X.thrown EX) (.Call (.Name x p) (e :: es) [] pos) (tCallE sp dvs EX t) := by
  intro pins s σ H Q I h
  refine wpAny_Call_Name_kw (ld_glob I hg hm ?_ hdb)
  refine PySem.W.callWith_K (h₀ := X.base) I.ok.mod.kin hk (thn (ha pos pins s σ H _ I h) fun us s1 ⟨vs, H1, I1, r, q⟩ => ⟨I1.kIn, ?_⟩) he hpl
  exact run_fnE F hr hb hd hcs I1 r q
end
end L2
namespace L2
open PySem PySem.Spec PyProof.Rows PySem.W
abbrev vMro : List Value := [.type "ValueError", .type "Exception", .type "BaseException", .type "object"]
abbrev excD (C : Addr) (dx : Option Addr) (t : Addr) : Obj := { cls := .ref C, dict := dx, data := .fields #[.ref t, .none, .none, .none, .bool false, .none] }
def keysStr (es : List DictEntry) : Bool := es.all fun e => match e.key with | .str _ _ => true | _ => false
theorem ns_of {K : PySem.W.Frag} {h : Heap} {N : Addr} {oc : Value} {od : Option Addr} {es : Array DictEntry} {ep : Nat} {sl : Array (Option Value)} (X : K.In h) (l : K.lookup N = some ⟨oc, od, .dict es ep, sl⟩) (k : keysStr es.toList = true) : h.Ns N (fun x => nsFind es x) :=
  ⟨_, es, ep, X N _ l, rfl, fun e he => by
    unfold keysStr at k
    rw [List.all_eq_true] at k
    have q := k e (Array.mem_toList_iff.mpr he)
    cases hk : e.key with
    | str n t => exact ⟨n, t, rfl⟩
    | _ => rw [hk] at q; exact absurd q Bool.false_ne_true, fun _ => rfl⟩
structure ExcC (K : PySem.W.Frag) (C : Addr) (bm : List Value) : Prop where
  obj : ∃ nm q N bs hdct sn sub ab col dd k0 k1 k2 k3 k5, K.lookup C = some (excClassObj nm q C N bs bm hdct sn sub ab col dd k0 k1 k2 k3 k5 "ValueError.__new__")
  tail : ∀ h, K.In h → OwnTail h vMro bm
  kp : PySem.W.keepIn K (.ref C) = true
section
variable {prog : Program} {w : World} {A : Around} {R : Result → Shared → Prop} {E : Value → Shared → Prop} {s : Shared} {K : PySem.W.Frag} {C : Addr} {bm : List Value}
theorem initV_bind (self : Value) : bindSpecial (.builtin "ValueError.__init__") self = pure (.builtin "ValueError.__init__", [self]) := PySem.F.excBase_ValueError.init.bind self
theorem excMake0 (X : K.In s.heap) (c : ExcC K C bm) (hi : PySem.W.findIn K (.ref C) "__init__" = some (some (.builtin "ValueError.__init__"))) {rest : List Value} (hrest : rest.length ≤ sizeLine) {Q : Value → Shared → Prop}
    (h : ∀ h' t, (∀ b o, s.heap.get? b = some o → h'.get? b = some o) → h'.get? (s.heap.objs.size + 1) = some (excD C none t) → Q (.ref (s.heap.objs.size + 1)) { s with heap := h' }) :
    wpAny (model prog w) A (call (.ref C) rest) Q E s := by
  obtain ⟨nm, q, N, bs, hdct, sn, sub, ab, col, dd, k0, k1, k2, k3, k5, lk⟩ := c.obj
  obtain ⟨hh, g, d, t, os⟩ := s
  have hC := X C _ lk
  have F := PySem.F.excBase_ValueError
  have T := c.tail _ X
  have f1 := tc_lookup
  have f2 := tc_bind (.ref C)
  have hT : (⟨hh, g, d, t, os⟩ : Shared).TypeIs (.ref C) "type" := ⟨_, hC, rfl⟩
  refine wpAny_call (codeAny_of_tree ?_)
  show wpAny _ _ (callAny (.ref C) _) _ _ _
  repeat (any_goals (first | assumption | with_reducible refine wpAny_loadPart_at hC ?_ | wp_step))
  refine ⟨rfl, codeAny_call_builtin_at (Code.quiet_builtin _ (by decide +kernel)) entry_typeCall (wpAny_check_type_call_sub hC ?_)⟩
  repeat (first | with_reducible refine wpAny_loadPart_at hC ?_ | with_reducible refine wpAny_madeBy_exc hC ?_ | wp_step)
  refine codeAny_call_builtin_code (Code.quiet_builtin _ F.quiet) (wpAny_check_new_subU F (by decide +kernel) T hC (codeAny_exc_new_subU F (by decide +kernel) F T hC ?_ hrest))
  show wpAny _ _ _ _ _ _
  have k : ∀ b o, hh.get? b = some o → ((hh.push (tupObj rest)).push (excObj C hh.objs.size)).get? b = some o := fun b o e => Heap.get?_push_of_some _ (Heap.get?_push_of_some _ e)
  have hx : ((hh.push (tupObj rest)).push (excObj C hh.objs.size)).get? (hh.objs.size + 1) = some (excObj C hh.objs.size) := by heap_get
  have c1 := k _ _ hC
  have hcC : (Value.ref C :: bm).contains (.ref C) = true := by simp
  have i1 := (PySem.W.looks_findIn (M := model prog w) X hi).keeps k
  have b1 : PySem.W.Looks (model prog w) ((hh.push (tupObj rest)).push (excObj C hh.objs.size)) (bindSpecial (.builtin "ValueError.__init__") (.ref (hh.objs.size + 1))) (.builtin "ValueError.__init__", [.ref (hh.objs.size + 1)]) := .of_pure (initV_bind _)
  have t1 : PySem.W.Looks (model prog w) ((hh.push (tupObj rest)).push (excObj C hh.objs.size)) (typeOf (.ref (hh.objs.size + 1))) (.ref C) := (PySem.W.Looks.ld hx).andThen .now
  have t2 : PySem.W.Looks (model prog w) ((hh.push (tupObj rest)).push (excObj C hh.objs.size)) (isSubtype (.ref C) (.ref C)) true := fun A' Q' E' s' k' q' => by
    obtain ⟨h', g', d', tk', os'⟩ := s'
    refine wpAny_isSubtype_exc (k' _ _ c1) ?_
    rw [hcC]
    exact q'
  show wpAny (model prog w) _ (isInstance (.ref (hh.objs.size + 1)) (.ref C) >>= _) _ _ ⟨(hh.push (tupObj rest)).push (excObj C hh.objs.size), g, d, t, os⟩
  unfold isInstance callSpecial? specialOf
  repeat (first | with_reducible refine wpAny_call ?_ | lk)
  refine codeAny_call_builtin F.init.plain F.initEntry (wpAny_check_init_subU F (T.keeps k) c1 hx rfl ?_)
  wp_walk
  refine h _ ((hh.push (tupObj rest)).push (excObj C hh.objs.size)).objs.size (fun b o e => ?_) ?_
  · show (Heap.update _ _ _).get? b = _
    rw [Heap.get?_update_other _ _ (Nat.ne_of_gt (Nat.lt_succ_of_lt (Heap.lt_size (h := hh) e)))]
    exact Heap.get?_push_of_some _ (k b o e)
  · show (Heap.update _ _ _).get? _ = _
    rw [Heap.get?_update_self _ (Heap.get?_push_of_some _ hx) rfl]
    rfl
end
section
variable {M : Model} {A : Around} {E : Value → Shared → Prop} {s : Shared} {env : Env} {K : PySem.W.Frag} {C : Addr} {bm : List Value}
theorem raiseD {x : Sem Value} {Q : Flow → Shared → Prop} (c : ExcC K C bm) (hbase : bm.contains (.type "BaseException") = true) (hh : A.handled = none)
    (h : wpAny M A x (fun v s₁ => ∃ e dx t, v = .ref e ∧ K.In s₁.heap ∧ s₁.heap.get? e = some (excD C dx t) ∧ E (.ref e) s₁) E s) : wpAny M A (raiseStmt env (some x) none) Q E s := by
  obtain ⟨nm, q, N, bs, hdct, sn, sub, ab, col, dd, k0, k1, k2, k3, k5, lk⟩ := c.obj
  have hcB : (Value.ref C :: bm).contains (.type "BaseException") = true := by rw [List.contains_cons, hbase, Bool.or_true]
  unfold raiseStmt
  refine wpAny_bind (wpAny_mono h (fun v s₁ h₁ => ?_) fun _ _ x => x)
  obtain ⟨e, dx, t, rfl, X, he, hE⟩ := h₁
  have hC := X C _ lk
  obtain ⟨hp, g, d, tk, os⟩ := s₁
  repeat (first | with_reducible refine wpAny_loadPart_at he ?_ | with_reducible refine wpAny_loadPart_at hC ?_ | (with_reducible refine wpAny_isSubtype_exc hC ?_; rw [hcB]) | wp_step)
  exact wpAny_raiseNew_none hh hE
end
section
variable {X : Cx} {EX : XS} {C : Addr} {bm : List Value} {x : Str} {p pos cpos : Pos} {e : Expr} {es : List Expr} {t : TA}
def tRaise (C : Addr) (EX : XS) (t : TA) : TS := fun _ σ H => t σ H fun vs H1 => vs.length ≤ sizeLine ∧ EX σ (.ref C) none H1
theorem raise_core (c : ExcC X.K C bm) (hbase : bm.contains (.type "BaseException") = true) (hi : PySem.W.findIn X.K (.ref C) "__init__" = some (some (.builtin "ValueError.__init__")))
    {pins : List (Addr × Obj)} {σ : St} {H : Hp} {s : Shared} {us : List Value} (I : Inv X pins σ H s) (hz : us.length ≤ sizeLine) (hE : EX σ (.ref C) none H) :
    wpAny (model X.prog X.w) X.A (call (.ref C) us) (fun v s₁ => ∃ e dx t, v = .ref e ∧ X.K.In s₁.heap ∧ s₁.heap.get? e = some (excD C dx t) ∧ Wx X EX (.ref e) s₁) (Wx X EX) s := by
  refine excMake0 I.kIn c hi hz fun h' t k g => ?_
  have I0 := I.pins_of (pins' := []) (fun p hp => nomatch hp)
  have I1 : Inv X [] σ H { s with heap := h' } := I0.kept (t' := s.toks) k
  have le : s.heap.objs.size ≤ s.heap.objs.size + 1 := Nat.le_succ _
  exact ⟨_, none, t, rfl, I1.kIn, g, _, _, none, H, σ, rfl, I1, I0.fpOk le (I0.hok.fresh le), .inl ⟨_, _, ⟨g, rfl, rfl, rfl, rfl, rfl⟩⟩, hE⟩
theorem ps_raise (hcalm : X.sx = true) (c : ExcC X.K C bm) (hbase : bm.contains (.type "BaseException") = true) (hi : PySem.W.findIn X.K (.ref C) "__init__" = some (some (.builtin "ValueError.__init__"))) (hg : Gl X x) (hm : X.mg x = some (.ref C)) (ha : PA (X.thrown EX) (e :: es) t)
    (hdb : (x == ("__debug__" : Str)) = false := by decide) (he : starEach (e :: es) X.env = (false, eval e X.env) :: starEach es X.env := by rfl) (hpl : (backTo cpos (starEach es X.env)).any (·.1) = false := by rfl) :
    PS (X.thrown EX) (.Raise (some (.Call (.Name x p) (e :: es) [] cpos)) none pos) (tRaise C EX t) := by
  intro pins s σ H D I h
  rw [arm_exec_Raise]
  refine wpAny_bind (wpAny_standAt ?_)
  show wpAny _ _ (raiseStmt _ (some (do let v ← eval (.Call (.Name x p) (e :: es) [] cpos) X.env; standAt pos; pure v)) none) _ _ _
  refine raiseD c hbase (I.ok.st hcalm) (wpAny_bind (thn ?_ fun v s1 z => wpAny_bind (wpAny_standAt (wpAny_pure z))))
  refine wpAny_Call_Name_kw (ld_glob I hg hm ?_ hdb)
  refine PySem.W.callWith_K (h₀ := X.base) I.ok.mod.kin c.kp (thn (ha cpos pins s σ H _ I h) fun us s1 ⟨vs, H1, I1, r, z, hE⟩ => ⟨I1.kIn, ?_⟩) he hpl
  exact raise_core (us := us) c hbase hi I1.unwish (by rw [← r.length]; exact z) hE
end
end L2
namespace L2
open PySem PySem.Spec PyProof.Rows
abbrev Cx.pinned (X : Cx) (pins : List (Addr × Obj)) : Cx := { X with pn := pins }
section
variable {X : Cx} {pins : List (Addr × Obj)} {σ : St} {H : Hp} {s : Shared}
theorem Inv.intoPn (I : Inv X pins σ H s) : Inv (X.pinned (X.pn ++ pins)) [] σ H s :=
  ⟨⟨I.ok.mod, I.ok.kind, I.ok.glob, I.ok.blt, I.ok.above, I.ok.inj, I.ok.has, I.ok.cab, I.ok.hd, I.ok.st, I.ok.frames, I.ok.stk, I.ok.exf, I.ok.bs, I.ok.bsz, I.ok.noex, I.ok.exfs, I.ok.funs, I.ok.frf⟩, I.os, I.bare, I.base, I.loc, I.cell, I.free, I.freeC, fun p hp => I.pin p (by rw [List.append_nil] at hp; exact hp), I.hok, I.len⟩
theorem Inv.outPn (I : Inv (X.pinned (X.pn ++ pins)) [] σ H s) : Inv X pins σ H s :=
  ⟨⟨I.ok.mod, I.ok.kind, I.ok.glob, I.ok.blt, I.ok.above, I.ok.inj, I.ok.has, I.ok.cab, I.ok.hd, I.ok.st, I.ok.frames, I.ok.stk, I.ok.exf, I.ok.bs, I.ok.bsz, I.ok.noex, I.ok.exfs, I.ok.funs, I.ok.frf⟩, I.os, I.bare, I.base, I.loc, I.cell, I.free, I.freeC, fun p hp => I.pin p (by rw [List.append_nil]; exact hp), I.hok, I.len⟩
theorem FpOk.outPn {b : Addr} (f : FpOk (X.pinned (X.pn ++ pins)) [] H b) : FpOk X [] H b :=
  ⟨f.1, f.2.1, f.2.2.1, f.2.2.2.1, f.2.2.2.2.1, fun p hp => f.2.2.2.2.2 p (by rw [List.append_nil] at hp ⊢; exact List.mem_append_left _ hp)⟩
theorem Wx.outPn {EX : XS} {e : Value} (h : Wx (X.pinned (X.pn ++ pins)) EX e s) : Wx X EX e s := by
  obtain ⟨x, cls, dx, H, σ, he, I, fx, f, hE⟩ := h
  refine ⟨x, cls, dx, H, σ, he, I.outPn.pins_of (fun p hp => nomatch hp), fx.outPn, ?_, hE⟩
  rcases f with f | ⟨T, fl, oe, oT, vs, ts, fT, r⟩
  · exact .inl f
  · exact .inr ⟨T, fl, oe, oT, vs, ts, fT.outPn, r⟩
theorem SP.outPn {D : Ends} {f : Flow} (h : SP (X.pinned (X.pn ++ pins)) [] D f s) : SP X pins D f s := by
  cases f with
  | next => obtain ⟨σ', H', I, q⟩ := h; exact ⟨σ', H', I.outPn, q⟩
  | brk => obtain ⟨σ', H', I, q⟩ := h; exact ⟨σ', H', I.outPn, q⟩
  | cont => obtain ⟨σ', H', I, q⟩ := h; exact ⟨σ', H', I.outPn, q⟩
  | ret u => obtain ⟨v, σ', H', I, r, q⟩ := h; exact ⟨v, σ', H', I.outPn, r, q⟩
end
def cxSuite (X : Cx) (x : Addr) (oe : Obj) : Cx := { X with A := X.A.mark (some (.ref x)), calm := false, sx := false, pn := (x, oe) :: X.pn, xe := fun _ _ => False }
section
variable {X : Cx} {σ : St} {H : Hp} {s : Shared} {x : Addr} {oe : Obj}
theorem Inv.suite (I : Inv X [] σ H s) (fx : FpOk X [] H x) (g : s.heap.get? x = some oe) (d : ∀ v, oe.data ≠ .cell v) : Inv (cxSuite X x oe) [] σ H s :=
  ⟨⟨I.ok.mod, I.ok.kind, I.ok.glob, I.ok.blt, I.ok.above, I.ok.inj, I.ok.has, I.ok.cab, fun z => absurd z Bool.false_ne_true, fun z => absurd z Bool.false_ne_true, I.ok.frames, I.ok.stk, I.ok.exf, I.ok.bs, I.ok.bsz, I.ok.noex, I.ok.exfs, I.ok.funs, I.ok.frf⟩, I.os, I.bare, I.base, I.loc, I.cell, I.free, I.freeC, fun p hp => by
    rw [List.append_nil] at hp
    rcases List.mem_cons.mp hp with rfl | hp
    · exact ⟨g, fx.1, fx.2.1, fx.2.2.1, d⟩
    · exact I.pin p (by rw [List.append_nil]; exact hp), I.hok, I.len⟩
theorem Inv.unsuite (I : Inv (cxSuite X x oe) [] σ H s) (hd : X.calm = true → HCalm X.A X.base) (ok : X.Ok) : Inv X [] σ H s :=
  ⟨ok, I.os, I.bare, I.base, I.loc, I.cell, I.free, I.freeC, fun p hp => I.pin p (by rw [List.append_nil] at hp ⊢; exact List.mem_cons_of_mem _ hp), I.hok, I.len⟩
end
def PH (X : Cx) (hs : List ExceptHandler) (EX : XS) (th : Ends → XS) : Prop :=
  ∀ (σ : St) (H : Hp) (s : Shared) (x : Addr) (cls : Value) (dx : Option Addr) (T : Addr) (oe oT : Obj) (vs ts : Array Value) (D : Ends), Inv X [] σ H s → FpOk X [] H x → FpOk X [] H T → ExcAt s.heap x cls dx T .none oe oT vs ts → th D σ cls dx H →
    wpAny (model X.prog X.w) X.A (handleBy (.ref x) X.env hs) (SP X [] D) (Wx X EX) s
section
variable {X : Cx} {EX : XS} {th : Ends → XS} {hs : List ExceptHandler} {C : Addr} {c : Str} {np pos : Pos} {b₀ : Stmt} {suite : List Stmt} {ts' : Addr → Obj → TS}
theorem ph_nil (ow : Own X) : PH X [] EX (fun _ => EX) := by
  intro σ H s x cls dx T oe oT vs ts D I fx fT a hE
  refine wpAny_handleBy_nil ?_
  unfold PySem.passOn
  refine wpAny_bind (wpAny_field a.get a.data a.tb ?_)
  rw [if_neg (show ¬ ((Value.ref T == Value.none) = true) from by simp)]
  unfold setFlight
  refine wpAny_bind (wpAny_bind (wpAny_field a.get a.data a.tb ?_))
  rw [if_pos (show (Value.ref T != Value.none) = true from by simp), ow.fr]
  have hsz : 3 < ts.size := (Array.getElem?_eq_some_iff.mp a.fl).1
  have d3 := Obj.data_mapFields a.dataT (·.setIfInBounds 3 (rawInt X.env.locals))
  have oth : ∀ b, b ≠ T → (s.heap.update T (Obj.mapFields (·.setIfInBounds 3 (rawInt X.env.locals)))).get? b = s.heap.get? b := fun b hb => Heap.get?_update_other _ _ (Ne.symm hb)
  refine wpAny_setField a.getT a.dataT hsz (wpAny_throw ⟨x, cls, dx, H, σ, rfl, I.fly (ch := [T]) ⟨fun b o _ hc q => (oth b (by simpa using hc)).trans q, fun b o hc q => ⟨o.slots, (oth b (by simpa using hc)).trans q⟩, Nat.le_of_eq (Heap.SameBut.update (a := T) s.heap _).1.symm⟩ (fun b hb => by rw [List.mem_singleton.mp hb]; exact fT), fx,
    .inr ⟨T, rawInt X.env.locals, oe, _, vs, _, fT, ⟨(oth x (Ne.symm a.ne)).trans a.get, a.cls, a.dict, a.data, a.tb, a.ne, Heap.get?_update_self _ a.getT (Obj.isFreed_of_fields d3), d3, by simp [hsz], a.cx⟩⟩, hE⟩)
theorem ph_cons (hcls : Gl X c) (hm : X.mg c = some (.ref C)) (hsu : ∀ x oe, PSs (cxSuite X x oe) (b₀ :: suite) (ts' x oe)) (hr : PH X hs EX th) (hdb : (c == ("__debug__" : Str)) = false := by decide) :
    PH X (.ExceptHandler (some (.Name c np)) none (b₀ :: suite) pos :: hs) EX (fun D σ cls dx H => ∃ b, PySem.W.exmOne X.K cls (.ref C) = some b ∧ if b = true then ∀ x oe, H x = none → oe.cls = cls → oe.dict = dx → (∃ ws, oe.data = .fields ws ∧ ws[2]? = some .none) → ts' x oe D σ H else th D σ cls dx H) := by
  intro σ H s x cls dx T oe oT vs ts D I fx fT a h
  obtain ⟨b, hb, h⟩ := h
  have dn : ∀ v, oe.data ≠ .cell v := fun v z => by rw [a.data] at z; cases z
  have IS := I.suite fx a.get dn
  have mk : (X.A.mark (some (.ref x))) = (cxSuite X x oe).A := rfl
  refine wpAny_handleBy_cons (codeAny_handlers_test ?_) (by intro q; cases q)
  refine ld_glob (X := cxSuite X x oe) IS hcls hm ?_ hdb
  have lt : PySem.W.Looks (model X.prog X.w) s.heap (typeOf (.ref x)) cls := by
    have q : PySem.W.Looks (model X.prog X.w) s.heap (typeOf (.ref x)) oe.cls := (PySem.W.Looks.ld a.get).andThen .now
    rw [a.cls] at q
    exact q
  obtain ⟨hh, g, d, tk, os⟩ := s
  refine (PySem.W.exm_one I.kIn lt hb).at ?_
  cases b with
  | false =>
    rw [if_neg Bool.false_ne_true] at h
    exact hr σ H _ x cls dx T oe oT vs ts D I fx fT a h
  | true =>
    rw [if_pos rfl] at h
    refine codeAny_handlers_suite ?_
    refine landX (A := X.A.mark (some (.ref x))) I fT a fun h1 oT1 ts1 I1 a1 => ?_
    have I2 := I1.suite fx a1.get dn
    refine wpAny_mono (hsu x oe [] _ σ H D I2 (h x oe fx.1 a.cls a.dict ⟨vs, a.data, a.cx⟩)) (fun f s2 q => ?_) (fun _ _ z => z.elim)
    cases f with
    | next => obtain ⟨σ', H', J, q⟩ := q; exact ⟨σ', H', J.unsuite I.ok.hd I.ok, q⟩
    | brk => obtain ⟨σ', H', J, q⟩ := q; exact ⟨σ', H', J.unsuite I.ok.hd I.ok, q⟩
    | cont => obtain ⟨σ', H', J, q⟩ := q; exact ⟨σ', H', J.unsuite I.ok.hd I.ok, q⟩
    | ret u => obtain ⟨v, σ', H', J, r, q⟩ := q; exact ⟨v, σ', H', J.unsuite I.ok.hd I.ok, r, q⟩
end
def tTry (tb : XS → TS) (th : Ends → XS) : TS := fun D σ H => tb (fun σ' cls dx H' => th D σ' cls dx H') D σ H
theorem ps_try {X : Cx} {W : Value → Shared → Prop} {EX : XS} {body : List Stmt} {h₀ : ExceptHandler} {hs : List ExceptHandler} {pos : Pos} {tb : XS → TS} {th : Ends → XS} (ow : Own X) (hW : ∀ e s, Wx X EX e s → W e s)
    (hb : ∀ pn EX1, PSs ((X.pinned pn).thrown EX1) body (tb EX1)) (hh : ∀ pn, PH (X.pinned pn) (h₀ :: hs) EX th) : PS (X.wish W) (.Try body (h₀ :: hs) [] [] pos) (tTry tb th) := by
  intro pins s σ H D I h
  have Ip := I.unwish.intoPn
  have owp : Own (X.pinned (X.pn ++ pins)) := ⟨ow.ex, ow.st, ow.fr⟩
  refine wpAny_Try_except (wpAny_mono (hb (X.pn ++ pins) _ [] s σ H D (Ip.wish _) h) (fun f s1 q => ?_) fun e s1 z => ?_)
  · have q' := q.unwish.outPn
    cases f with
    | next =>
      obtain ⟨σ', H', J, q⟩ := q'
      exact wpAny_execs_nil ⟨σ', H', J.wish _, q⟩
    | brk => obtain ⟨σ', H', J, q⟩ := q'; exact ⟨σ', H', J.wish _, q⟩
    | cont => obtain ⟨σ', H', J, q⟩ := q'; exact ⟨σ', H', J.wish _, q⟩
    | ret u => obtain ⟨v, σ', H', J, r, q⟩ := q'; exact ⟨v, σ', H', J.wish _, r, q⟩
  · obtain ⟨x, cls, dx, H1, σ1, he, I1, fx, fly, hE⟩ := z
    subst he
    refine noteX (X := X.pinned (X.pn ++ pins)) owp I1.ok.frames I1 fx fly fun h1 T oe oT vs ts I2 fT a1 => ?_
    refine landX (X := X.pinned (X.pn ++ pins)) (A := X.A) I2 fT a1 fun h2 oT2 ts2 I3 a2 => ?_
    refine wpAny_mono (hh (X.pn ++ pins) σ1 H1 _ x cls dx T oe oT2 vs ts2 D I3 fx fT a2 hE) (fun f s2 q => ?_) fun e s2 z => hW e s2 z.outPn
    have q' := q.outPn
    cases f with
    | next => obtain ⟨σ', H', J, q⟩ := q'; exact ⟨σ', H', J.wish _, q⟩
    | brk => obtain ⟨σ', H', J, q⟩ := q'; exact ⟨σ', H', J.wish _, q⟩
    | cont => obtain ⟨σ', H', J, q⟩ := q'; exact ⟨σ', H', J.wish _, q⟩
    | ret u => obtain ⟨v, σ', H', J, r, q⟩ := q'; exact ⟨v, σ', H', J.wish _, r, q⟩
end L2
namespace L2
open PySem PySem.Spec PyProof.Rows PySem.W
def ExO (x C : Addr) (dx : Option Addr) : HO := .ext fun h => ∃ oe vs, h.get? x = some oe ∧ oe.cls = .ref C ∧ oe.dict = dx ∧ oe.data = .fields vs
theorem exO_ok {P : Program} {w : World} {H : Hp} {h : Heap} {x C : Addr} {dx : Option Addr} {oe : Obj} {vs : Array Value} (e : h.get? x = some oe) (c : oe.cls = .ref C) (d : oe.dict = dx) (f : oe.data = .fields vs) : ObjOk P w H h x (ExO x C dx) :=
  ⟨⟨oe, vs, e, c, d, f⟩, ⟨_, e⟩, fun h1 h2 ⟨o, v, a, r⟩ k => ⟨o, v, k _ a, r⟩⟩
theorem exO_at {P : Program} {w : World} {H : Hp} {h : Heap} {x C : Addr} {dx : Option Addr} (hok : HOk P w H h) (e : H x = some (ExO x C dx)) : ∃ oe vs, h.get? x = some oe ∧ oe.cls = .ref C ∧ oe.dict = dx ∧ oe.data = .fields vs := (hok x _ e).1
section
variable {prog : Program} {w : World} {A : Around} {E : Value → Shared → Prop} {s : Shared} {K : PySem.W.Frag} {C x t : Addr} {bm : List Value} {name : Str} {v : Value}
end
section
variable {prog : Program} {w : World} {A : Around} {E : Value → Shared → Prop} {s : Shared} {K : PySem.W.Frag} {C x : Addr} {name : Str} {v : Value} {ox od : Obj} {expr : Bool}
end
section
variable {X : Cx} {o e value : Expr} {f : Str} {pos pos' : Pos} {ta tv : TE}
def clsV : Value → Option V
  | .ref a => some (.ref a)
  | .type n => some (.ty n)
  | _ => none
end
section
variable {X : Cx} {EX : XS} {C f : Addr} {bm : List Value} {fd : FuncData} {ps : List Str} {sp : Sp} {k : Nat} {x : Str} {p pos cpos : Pos} {e : Expr} {es : List Expr} {t : TA}
end
section
variable {X : Cx} {pins : List (Addr × Obj)} {σ : St} {H : Hp} {s : Shared} {M : Model} {A : Around} {E : Value → Shared → Prop}
theorem Inv.unname {i : Nat} {n : Str} {m : Str → Option Value} {v : Option Value} {h' : Heap} {t' : Nat} (I : Inv X pins σ H s) (hN : X.N.Nodup) (hi : X.N[i]? = some n) (hm : s.heap.Ns X.env.locals m) (hn' : h'.Ns X.env.locals (fun x => if x = n then v else m x)) (hs : Heap.SameBut X.env.locals s.heap h') :
    Inv X pins (σ.set i none) H { s with heap := h', toks := t' } := by
  obtain ⟨m0, hm0, hl⟩ := id I.loc
  have em : m0 = m := by
    obtain ⟨o1, es1, ep1, g1, d1, _, f1⟩ := hm0
    obtain ⟨o2, es2, ep2, g2, d2, _, f2⟩ := hm
    rw [g1] at g2
    cases g2
    rw [d1] at d2
    cases d2
    funext y
    rw [← f1 y, ← f2 y]
  subst em
  have hiσ : i < σ.length := by rw [I.len]; exact (List.getElem?_eq_some_iff.mp hi).1
  have cne := I.cne
  obtain ⟨oL, _, _, hoL, _⟩ := id hm
  have ab : ∀ {b o}, X.s₀.heap.get? b = some o → b ≠ X.env.locals := fun {b o} e => Nat.ne_of_lt (Nat.lt_of_lt_of_le (Heap.lt_size e) I.ok.above)
  refine ⟨I.ok, I.os, I.bare, ⟨fun b o e n' hb hx => (hs.2 b (ab e)).trans (I.base.keep b o e n' hb hx), fun b o e n' hb hx => ?_, I.base.free, fun b o e hx => ?_, I.base.tups, I.base.frzs, I.base.tbls⟩, ⟨_, hn', fun j y v' e1 e2 e3 => ?_⟩, fun y c e => ?_, I.free, I.freeC, fun p hp => ?_, fun b ob e => ?_, by simpa using I.len⟩
  · obtain ⟨sl, e1⟩ := I.base.slot b o e n' hb hx
    exact ⟨sl, (hs.2 b (ab e)).trans e1⟩
  · obtain ⟨o', e1⟩ := I.base.there b o e hx
    exact ⟨o', (hs.2 b (ab e)).trans e1⟩
  · by_cases hj : j = i
    · subst hj
      rw [List.getElem?_set_self hiσ] at e2
      cases e2
    · rw [List.getElem?_set_ne (Ne.symm hj)] at e2
      obtain ⟨u', r', q⟩ := hl j y v' e1 e2 e3
      refine ⟨u', r', ?_⟩
      rcases q with ⟨k, e⟩ | ⟨k, c, e, z⟩
      · refine .inl ⟨k, ?_⟩
        have ne : y ≠ n := fun e => hj (nodup_ix hN e1 (e ▸ hi))
        show (if y = n then v else m0 y) = some u'
        rw [if_neg ne]
        exact e
      · exact .inr ⟨k, c, e, z.sameBut hs (cne y c e)⟩
  · obtain ⟨w', z⟩ := I.cell y c e
    exact ⟨w', z.sameBut hs (cne y c e)⟩
  · obtain ⟨e, n', ne, nf, d⟩ := I.pin p hp
    exact ⟨(hs.2 p.1 ne).trans e, n', ne, nf, d⟩
  · refine (I.hok b ob e).stay (fun c w' hc q => (hs.2 c ?_).trans q) (fun _ q => q) fun _ _ q => q
    rintro rfl
    rcases hc with rfl | hc
    · rw [I.free] at e; cases e
    · rw [I.free] at hc; cases hc
theorem unbind_ok {i : Nat} {n : Str} {pos : Pos} {Q : Unit → Shared → Prop} (I : Inv X pins σ H s) (hN : X.N.Nodup) (hi : X.N[i]? = some n) (hl : X.env.scope.names.lookup n = some .local)
    (h : ∀ s', Inv X pins (σ.set i none) H s' → Q () s') : wpAny M A (do bindName X.env n .none; unbindBehindTheSuite X.env n pos) Q E s := by
  have hk : X.env.kindOf n = some .local := hl
  have hp : (X.env.scope.kind == .class || (X.env.scope.kind == .module && X.env.locals != X.env.globals)) = false := by rw [I.ok.kind]; rfl
  obtain ⟨m, hm, _⟩ := id I.loc
  refine wpAny_bind (wpAny_bindName (wpAny_storeName_local hk hm (fun h₁ hn₁ hs₁ => ?_) hp))
  unfold unbindBehindTheSuite
  refine wpAny_onRaise ?_
  unfold unbindName
  refine wpAny_bind (wpAny_point (wpAny_bind ?_))
  unfold deleteName
  simp only [hk, hp]
  rw [if_neg (by decide)]
  refine wpAny_bind (wpAny_nsDel_keeps hn₁ fun h₂ v hn₂ hs₂ => ?_)
  simp only [if_true, Option.isSome_some, Bool.not_true, Bool.false_eq_true, if_false]
  refine wpAny_pure (wpAny_point (h _ (I.unname hN hi hm (v := v) (h' := h₂) ?_ (hs₁.trans hs₂))))
  have e : (fun x => if x = n then v else (if x = n then some Value.none else m x)) = fun x => if x = n then v else m x := by
    funext y
    by_cases hy : y = n
    · rw [if_pos hy, if_pos hy]
    · rw [if_neg hy, if_neg hy, if_neg hy]
  rw [← e]
  exact hn₂
end
def unb (i : Nat) (D : Ends) : Ends := { nx := fun σ H => D.nx (σ.set i none) H, bk := fun σ H => D.bk (σ.set i none) H, ct := fun σ H => D.ct (σ.set i none) H, rt := D.rt }
def cxCaught (X : Cx) (x : Addr) : Cx := { X with A := X.A.mark (some (.ref x)), calm := false, sx := false, xe := fun _ _ => False }
section
variable {X : Cx} {σ : St} {H : Hp} {s : Shared} {x : Addr}
theorem Inv.caught (I : Inv X [] σ H s) : Inv (cxCaught X x) [] σ H s :=
  ⟨⟨I.ok.mod, I.ok.kind, I.ok.glob, I.ok.blt, I.ok.above, I.ok.inj, I.ok.has, I.ok.cab, fun z => absurd z Bool.false_ne_true, fun z => absurd z Bool.false_ne_true, I.ok.frames, I.ok.stk, I.ok.exf, I.ok.bs, I.ok.bsz, I.ok.noex, I.ok.exfs, I.ok.funs, I.ok.frf⟩, I.os, I.bare, I.base, I.loc, I.cell, I.free, I.freeC, I.pin, I.hok, I.len⟩
theorem Inv.uncaught (I : Inv (cxCaught X x) [] σ H s) (ok : X.Ok) : Inv X [] σ H s := ⟨ok, I.os, I.bare, I.base, I.loc, I.cell, I.free, I.freeC, I.pin, I.hok, I.len⟩
end
section
variable {X : Cx} {EX : XS} {th : Ends → XS} {hs : List ExceptHandler} {C : Addr} {c n : Str} {i : Nat} {np pos : Pos} {b₀ : Stmt} {suite : List Stmt} {tsu : TS}
theorem ph_as (ow : Own X) (hN : X.N.Nodup) (hi : X.N[i]? = some n) (hl : X.env.scope.names.lookup n = some .local) (hcls : Gl X c) (hm : X.mg c = some (.ref C)) (hsu : ∀ x, PSs (cxCaught X x) (b₀ :: suite) tsu) (hr : PH X hs EX th) (hdb : (c == ("__debug__" : Str)) = false := by decide) :
    PH X (.ExceptHandler (some (.Name c np)) (some n) (b₀ :: suite) pos :: hs) EX (fun D σ cls dx H => ∃ b, PySem.W.exmOne X.K cls (.ref C) = some b ∧ if b = true then ∃ C', cls = .ref C' ∧ ∀ x, H x = none → tsu (unb i D) (σ.set i (some (.ref x))) (upd H x (ExO x C' dx)) else th D σ cls dx H) := by
  intro σ H s x cls dx T oe oT vs ts D I fx fT a h
  obtain ⟨b, hb, h⟩ := h
  have dn : ∀ v, oe.data ≠ .cell v := fun v z => by rw [a.data] at z; cases z
  refine wpAny_handleBy_cons (codeAny_handlers_test ?_) (by intro q; cases q)
  refine ld_glob (X := cxCaught X x) I.caught hcls hm ?_ hdb
  have lt : PySem.W.Looks (model X.prog X.w) s.heap (typeOf (.ref x)) cls := by
    have q : PySem.W.Looks (model X.prog X.w) s.heap (typeOf (.ref x)) oe.cls := (PySem.W.Looks.ld a.get).andThen .now
    rw [a.cls] at q
    exact q
  obtain ⟨hh, g, d, tk, os⟩ := s
  refine (PySem.W.exm_one I.kIn lt hb).at ?_
  cases b with
  | false =>
    rw [if_neg Bool.false_ne_true] at h
    exact hr σ H _ x cls dx T oe oT vs ts D I fx fT a h
  | true =>
    rw [if_pos rfl] at h
    obtain ⟨C', rfl, h⟩ := h
    refine codeAny_handlers_suite_as ?_
    refine landX (A := X.A.mark (some (.ref x))) I fT a fun h1 oT1 ts1 I1 a1 => ?_
    have I2 := I1.adopt (D := x) (o := ExO x C' dx) fx.1 fx.2.1 (fx.old ow.ex) fx.2.2.2.2.1 fx.2.2.2.2.2 (exO_ok a1.get a1.cls a1.dict a1.data)
    refine store_ok (X := cxCaught X x) (v := .ref x) I2.caught hN hi (.inl hl) rfl (fun s3 I3 => ?_) (.inr hl)
    refine wpAny_mono (hsu x [] _ _ _ _ I3 (h x fx.1)) (fun f s4 q => ?_) (fun _ _ z => z.elim)
    cases f with
    | next =>
      obtain ⟨σ', H', J, q⟩ := q
      exact unbind_ok (J.uncaught I.ok) hN hi hl fun s5 I5 => ⟨_, H', I5, q⟩
    | brk =>
      obtain ⟨σ', H', J, q⟩ := q
      exact unbind_ok (J.uncaught I.ok) hN hi hl fun s5 I5 => ⟨_, H', I5, q⟩
    | cont =>
      obtain ⟨σ', H', J, q⟩ := q
      exact unbind_ok (J.uncaught I.ok) hN hi hl fun s5 I5 => ⟨_, H', I5, q⟩
    | ret u =>
      obtain ⟨v, σ', H', J, r, q⟩ := q
      exact unbind_ok (J.uncaught I.ok) hN hi hl fun s5 I5 => ⟨v, _, H', I5, r, q⟩
end
end L2
namespace L2
open PySem PySem.Spec PyProof.Rows PyProof.V PySem.SeqAt
mutual
inductive DV (K : PySem.W.Frag) (H : Hp) : V → PyData → Prop
  | non : DV K H .non .none
  | bl (b : Bool) : DV K H (.bl b) (.bool b)
  | int (i : Int) : DV K H (.int i) (.int i)
  | str (x : Str) : DV K H (.str x) (.str x)
  | lst {a : Addr} {xs : List V} {ds : List PyData} : SqL K H a xs → DVs K H xs ds → DV K H (.ref a) (.list ds)
  | tup {a : Addr} {xs : List V} {ds : List PyData} : SqT K H a xs → DVs K H xs ds → DV K H (.ref a) (.tuple ds)
inductive DVs (K : PySem.W.Frag) (H : Hp) : List V → List PyData → Prop
  | nil : DVs K H [] []
  | cons {x : V} {xs : List V} {d : PyData} {ds : List PyData} : DV K H x d → DVs K H xs ds → DVs K H (x :: xs) (d :: ds)
end
section
variable {X : Cx} {pins : List (Addr × Obj)} {σ : St} {H : Hp} {s : Shared}
mutual
theorem DV.reads (I : Inv X pins σ H s) : ∀ {v : V} {d : PyData} {u : Value}, DV X.K H v d → RelV v u → ∃ as, Reads s.heap u d as
  | _, _, _, .non, r => by cases r; exact ⟨_, .none⟩
  | _, _, _, .bl b, r => by cases r; exact ⟨_, .bool b⟩
  | _, _, _, .int i, r => by obtain ⟨t, rfl⟩ := r; exact ⟨_, .int i t⟩
  | _, _, _, .str x, r => by obtain ⟨t, rfl⟩ := r; exact ⟨_, .str x t⟩
  | _, _, _, .lst hq ds, r => by
    cases r
    obtain ⟨its, rv, p, _⟩ := I.list hq
    obtain ⟨as, ra⟩ := DVs.reads I ds rv
    obtain ⟨o, ho, hc, n, hd⟩ := p.isList
    exact ⟨_, Reads.list ho hc hd (by simpa using ra)⟩
  | _, _, _, .tup hq ds, r => by
    cases r
    obtain ⟨its, rv, p, _⟩ := I.tuple hq
    obtain ⟨as, ra⟩ := DVs.reads I ds rv
    obtain ⟨o, ho, hc, n, hd⟩ := p
    exact ⟨_, Reads.tuple ho hc hd (by simpa using ra)⟩
theorem DVs.reads (I : Inv X pins σ H s) : ∀ {vs : List V} {ds : List PyData} {us : List Value}, DVs X.K H vs ds → Vals vs us → ∃ as, ReadsAll s.heap us ds as
  | _, _, _, .nil, r => by cases r; exact ⟨_, .nil⟩
  | _, _, _, .cons d ds, r => by
    cases r with
    | cons r1 r2 =>
      obtain ⟨as, ra⟩ := DV.reads I d r1
      obtain ⟨bs, rb⟩ := DVs.reads I ds r2
      exact ⟨_, .cons ra rb⟩
end
end
def rDat (K : PySem.W.Frag) (neg : Bool) : R2 := fun x y H Q => ∃ d e, DV K H x d ∧ DV K H y e ∧ shaped d = true ∧ shaped e = true ∧ noMix d e = true ∧ Q (.bl (if neg then !same d e else same d e)) H
theorem op_eqD {X : Cx} (hu : X.A.units + 64 < cLine) : OpR X (compareOp .Eq) (rDat X.K false) := by
  intro pins s σ H x y v u Q I rx ry h
  obtain ⟨d, e, hd, he, sd, se, hm, q⟩ := h
  obtain ⟨as, ra⟩ := hd.reads I rx
  obtain ⟨bs, rb⟩ := he.reads I ry
  exact eq_dataH_same ra rb sd se hu hm ⟨.bl _, H, I, rfl, q⟩
theorem op_neD {X : Cx} (hu : X.A.units + 64 < cLine) : OpR X (compareOp .NotEq) (rDat X.K true) := by
  intro pins s σ H x y v u Q I rx ry h
  obtain ⟨d, e, hd, he, sd, se, hm, q⟩ := h
  obtain ⟨as, ra⟩ := hd.reads I rx
  obtain ⟨bs, rb⟩ := he.reads I ry
  exact ne_dataH_same ra rb sd se hu hm ⟨.bl _, H, I, rfl, q⟩
mutual
def plainD : PyData → Bool
  | .none | .bool _ | .int _ => true
  | .str x => PyData.strOk x
  | .list xs | .tuple xs => plainDs xs
  | .dict _ => false
def plainDs : List PyData → Bool
  | [] => true
  | x :: xs => plainD x && plainDs xs
end
mutual
theorem same_self : ∀ d : PyData, plainD d = true → same d d = true ∧ noMix d d = true ∧ d.canLay0 = true
  | .none, _ => by simp [same, noMix, PyData.canLay0]
  | .bool b, _ => by simp [same, noMix, PyData.canLay0]
  | .int b, _ => by simp [same, noMix, PyData.canLay0]
  | .str b, h => by simp only [plainD] at h; simp [same, noMix, PyData.canLay0, h]
  | .list xs, h => by
    simp only [plainD] at h
    obtain ⟨a, b, c⟩ := sames_self xs h
    simp [same, noMix, PyData.canLay0, a, b, c]
  | .tuple xs, h => by
    simp only [plainD] at h
    obtain ⟨a, b, c⟩ := sames_self xs h
    simp [same, noMix, PyData.canLay0, a, b, c]
  | .dict xs, h => by simp [plainD] at h
theorem sames_self : ∀ ds : List PyData, plainDs ds = true → sameAll ds ds = true ∧ noMixAll ds ds = true ∧ PyData.canLayAll0 ds = true
  | [], _ => by simp [sameAll, noMixAll, PyData.canLayAll0]
  | x :: xs, h => by
    simp only [plainDs, Bool.and_eq_true] at h
    obtain ⟨a, b, c⟩ := same_self x h.1
    obtain ⟨a', b', c'⟩ := sames_self xs h.2
    simp [sameAll, noMixAll, PyData.canLayAll0, a, b, c, a', b', c']
end
theorem shaped_of {d : PyData} (h : plainD d = true) (hd : d.depth ≤ 64) : shaped d = true := by
  show (d.canLay0 && decide (d.depth ≤ 64)) = true
  rw [(same_self d h).2.2, decide_eq_true hd]
  rfl
end L2
namespace L2
open PySem PySem.Spec PyProof.Rows
section
variable {prog : Program} {w : World} {A : Around} {E : Value → Shared → Prop} {s : Shared}
end
section
variable {X : Cx}
end
section
variable {prog : Program} {w : World} {A : Around} {R : Result → Shared → Prop} {I : Addr} {fp wr : List Addr} {G : Array GenState → Array GenState → Prop} {n : Nat} {P : Nat → Value → Prop} {St : Nat → Shared → Prop}
end
section
variable {prog : Program} {w : World} {A : Around} {E : Value → Shared → Prop} {s : Shared}
end
section
variable {X : Cx}
end
section
variable {X : Cx} {K : PySem.W.Frag} {a e : Expr} {ta te : TE}
def tTru (K : PySem.W.Frag) (ta : TE) : TT := fun σ H Q => ta σ H fun x H' => ∃ k, TruV K x H' k ∧ Q k H'
theorem pt_tru (ha : PE X a ta) (hK : X.K = K := by rfl) (he : ∀ whole, isTrue a X.env whole = (do let v ← whole; standAt a.pos; holding [v] (truthy v)) := by intro _; rfl) : PT X a (tTru K ta) := by
  subst hK
  exact pt_truth ha he
def rListOf (K : PySem.W.Frag) : List V → Hp → VK → Prop := fun xs H Q => ∃ p ys, xs = [.ref p] ∧ (SqL K H p ys ∨ SqT K H p ys) ∧ ∀ l, H l = none → Q (.ref l) (upd H l (.lst ys))
theorem call_listK (hK : X.K = K := by rfl) : CallR X (.type "list") (rListOf K) := by
  subst hK
  exact call_list_of
def rIsi (K : PySem.W.Frag) : List V → Hp → VK → Prop := fun xs H Q => ∃ x T t b, xs = [x, .ty T] ∧ TyOf K H x t ∧ PySem.W.kitOne K t (.type T) = some b ∧ Q (.bl b) H
theorem call_isiK (hK : X.K = K := by rfl) : CallR X (.builtin "isinstance") (rIsi K) := by
  subst hK
  exact call_isinst
theorem ix_listK (hK : X.K = K := by rfl) : IxR X (rIxL K) := by
  subst hK
  exact ix_list
def noXS : XS := fun _ _ _ _ => False
theorem noWx {X : Cx} {e : Value} {s : Shared} (h : Wx X noXS e s) : False := by
  obtain ⟨_, _, _, _, _, _, _, _, _, z⟩ := h
  exact z
def thAs (K : PySem.W.Frag) (C : Addr) (i : Nat) (tsu : TS) (th : Ends → XS) : Ends → XS := fun D σ cls dx H => ∃ b, PySem.W.exmOne K cls (.ref C) = some b ∧ if b = true then ∃ C', cls = .ref C' ∧ ∀ x, H x = none → tsu (unb i D) (σ.set i (some (.ref x))) (upd H x (ExO x C' dx)) else th D σ cls dx H
theorem ph_asK {EX : XS} {th : Ends → XS} {hs : List ExceptHandler} {C : Addr} {c n : Str} {i : Nat} {np pos : Pos} {b₀ : Stmt} {suite : List Stmt} {tsu : TS} (ow : Own X) (hN : X.N.Nodup) (hi : X.N[i]? = some n) (hl : X.env.scope.names.lookup n = some .local) (hcls : Gl X c) (hm : X.mg c = some (.ref C)) (hsu : ∀ x, PSs (cxCaught X x) (b₀ :: suite) tsu) (hr : PH X hs EX th)
    (hK : X.K = K := by rfl) (hdb : (c == ("__debug__" : Str)) = false := by decide) : PH X (.ExceptHandler (some (.Name c np)) (some n) (b₀ :: suite) pos :: hs) EX (thAs K C i tsu th) := by
  subst hK
  exact ph_as ow hN hi hl hcls hm hsu hr hdb
end
section
variable {X : Cx}
end
def tMethE (C : Addr) (m : Str) (sp : Sp) (dvs : List V) (EX : XS) (ta : TE) (t : TA) : TE := fun σ H Q => ta σ H fun x H1 => ∃ a dx fs, x = .ref a ∧ H1 a = some (.ins C dx fs) ∧ fs.lookup m = none ∧
  t σ H1 fun vs H2 => sp (.ref a :: (vs ++ dvs)) H2 Q (EX σ)
section
variable {X : Cx} {EX : XS} {k : Nat} {f C : Addr} {fd : FuncData} {ps : List Str} {sp : Sp} {dvs : List V} {ds : List Value} {x m : Str} {p pos apos : Pos} {e o : Expr} {es : List Expr} {ta : TE} {t : TA}
theorem pe_methE {pl : Sem Bool} (he : PE (X.thrown EX) o ta) (c : Cls X.K C) (hm : Meth X.K C m f) (F : FnOk X.prog X.w X.K X.mg X.base (CXE X.prog X.w) k f fd ps sp) (hr : Room k X.A) (hb : Binds X.K fd ps ds) (hd : Vals dvs ds) (ha : PA (X.thrown EX) (e :: es) t)
    (hst : starEach (e :: es) X.env = (false, eval e X.env) :: starEach es X.env := by rfl) (hpl : (backTo pos (starEach es X.env)).any (·.1) = false := by rfl)
    (ht : eval (.Call (.Attribute o m apos) (e :: es) [] pos) X.env = (do
      let ov ← eval o X.env
      standAt apos.atName
      let (f, first) ← holding [ov] (getMethod ov m pl)
      callWith pos f first (backTo pos (starEach (e :: es) X.env)) (backToKw pos (keywordEach [] X.env))) := by rfl) (hcs : X.calm = true ∧ X.sx = true := by exact ⟨rfl, rfl⟩) :
    PE (X.thrown EX) (.Call (.Attribute o m apos) (e :: es) [] pos) (tMethE C m sp dvs EX ta t) := by
  intro pins s σ H Q I h
  refine PySem.W.methodCall_KW (pl := pl) (thn (he pins s σ H _ I h) fun u s1 ⟨x, H1, I1, rx, a, dx, fs, ex, ea, l, q⟩ => ?_) ht
  subst ex
  obtain rfl : u = Value.ref a := rx
  refine getmeth_ok I1 ea c hm l ?_
  refine PySem.W.callWith_K (first := [.ref a]) (h₀ := X.base) I.ok.mod.kin hm.kp (thn (ha pos pins s1 σ H1 _ I1 q) fun us s2 ⟨vs, H2, I2, r, q2⟩ => ⟨I2.kIn, ?_⟩) hst hpl
  exact run_fnE (us := .ref a :: us) (vs := .ref a :: vs) F hr hb hd hcs I2 (.cons rfl r) q2
theorem pe_meth0E {pl : Sem Bool} (he : PE (X.thrown EX) o ta) (c : Cls X.K C) (hm : Meth X.K C m f) (F : FnOk X.prog X.w X.K X.mg X.base (CXE X.prog X.w) k f fd ps sp) (hr : Room k X.A) (hb : Binds X.K fd ps ds) (hd : Vals dvs ds)
    (ht : eval (.Call (.Attribute o m apos) [] [] pos) X.env = (do
      let ov ← eval o X.env
      standAt apos.atName
      let (f, first) ← holding [ov] (getMethod ov m pl)
      callWith pos f first (backTo pos (starEach [] X.env)) (backToKw pos (keywordEach [] X.env))) := by rfl) (hcs : X.calm = true ∧ X.sx = true := by exact ⟨rfl, rfl⟩) :
    PE (X.thrown EX) (.Call (.Attribute o m apos) [] [] pos) (tMethE C m sp dvs EX ta tNil) := by
  intro pins s σ H Q I h
  refine PySem.W.methodCall_KW (pl := pl) (thn (he pins s σ H _ I h) fun u s1 ⟨x, H1, I1, rx, a, dx, fs, ex, ea, l, q⟩ => ?_) ht
  subst ex
  obtain rfl : u = Value.ref a := rx
  refine getmeth_ok I1 ea c hm l ?_
  exact PySem.W.callWith_K0 (first := [.ref a]) I1.kIn hm.kp (run_fnE (us := [.ref a]) (vs := [.ref a]) F hr hb hd hcs I1 (.cons rfl .nil) q)
end
section
variable {X : Cx} {pins : List (Addr × Obj)} {σ : St} {H : Hp} {s : Shared} {d : Addr} {kvs : List (Key × V)} {o : Obj}
end
theorem PE.imp {X : Cx} {e : Expr} {t t' : TE} (h : PE X e t) (i : ∀ σ H Q, t' σ H Q → t σ H Q) : PE X e t' := fun pins s σ H Q I hw => h pins s σ H Q I (i σ H Q hw)
theorem with_tail {X : Cx} {tail body : List Stmt} {G : TS → Prop} (Pr : TS → Prop) (h : ∃ tt, PSs X tail tt ∧ Pr tt) (k : ∀ tt, PSs X tail tt → Pr tt → ∃ t, PSs X body t ∧ G t) : ∃ t, PSs X body t ∧ G t := let ⟨tt, a, b⟩ := h; k tt a b
def fBody : Stmt → List Stmt
  | .For _ _ b _ _ => b
  | _ => []
structure FunD (K : PySem.W.Frag) (x qual : Str) (st : Stmt) (f : Addr) (fd : FuncData) (T : Addr) : Prop where
  ex : ∃ (oc : Value) (od : Option Addr) (kV doc pm : Value) (an : Option Addr) (cdv ct : Value) (osl : Array (Option Value)),
    fd = PySem.W.fnOf x qual (defArgs st) (defBody st) (defScope st) (.ref T) kV doc pm an cdv ct ∧ K.lookup f = some ⟨oc, od, .func fd, osl⟩ ∧ PySem.W.codeIn K cdv qual = true
  kp : PySem.W.keepIn K (.ref f) = true
section
variable {P : Program} {w : World} {K : PySem.W.Frag} {mg : Str → Option Value} {base : Heap}
theorem FunD.binds {x qual : Str} {st : Stmt} {f T : Addr} {fd : FuncData} {ps : List Str} {ds : List Value} {o : Obj} {items : Array Value} {n : Nat} (F : FunD K x qual st f fd T) (ho : K.lookup T = some o) (hs : o.data = .seq items n) (m : Nat) (hm : m + ds.length = ps.length)
    (h : ∀ (kV doc pm : Value) (an : Option Addr) (cdv ct : Value) (us : List Value), us.length = m → ∃ k : Option (Array Value) → Sem (List (Str × Value)), bindArgs (PySem.W.fnOf x qual (defArgs st) (defBody st) (defScope st) (.ref T) kV doc pm an cdv ct) ⟨us, []⟩ = (seqItems? (.ref T) >>= k) ∧ k (some items) = pure (ps.zip (us ++ ds))) : Binds K fd ps ds := by
  obtain ⟨oc, od, kV, doc, pm, an, cdv, ct, osl, rfl, lk, hcd⟩ := F.ex
  intro s us KX hl
  obtain ⟨k, h1, h2⟩ := h kV doc pm an cdv ct us (by rw [List.length_append] at hl; omega)
  exact PySem.W.binds_K KX rfl ho hs h1 h2
theorem funD_mk {x qual : Str} {st : Stmt} {f T : Addr} {oc : Value} {od an : Option Addr} {osl : Array (Option Value)} {kV doc pm cdv ct : Value} (l : K.lookup f = some ⟨oc, od, .func (PySem.W.fnOf x qual (defArgs st) (defBody st) (defScope st) (.ref T) kV doc pm an cdv ct), osl⟩)
    (c : PySem.W.codeIn K cdv qual = true) (k : PySem.W.keepIn K (.ref f) = true) : FunD K x qual st f (PySem.W.fnOf x qual (defArgs st) (defBody st) (defScope st) (.ref T) kV doc pm an cdv ct) T := ⟨⟨oc, od, kV, doc, pm, an, cdv, ct, osl, rfl, l, c⟩, k⟩
end
section
variable {X : Cx} {tg : Expr}
end
section
variable {prog : Program} {w : World} {A : Around} {E : Value → Shared → Prop} {s : Shared}
end
section
variable {prog : Program} {w : World} {A : Around} {E : Value → Shared → Prop} {s : Shared} {n : Addr} {fp1 fp2 : List Addr} {n1 n2 : Nat} {P1 P2 : Nat → Value → Prop} {S1 S2 : Nat → Heap → Prop}
end
section
variable {prog : Program} {w : World} {A : Around} {E : Value → Shared → Prop} {s : Shared} {n : Addr} {fp1 fp2 : List Addr} {n1 n2 : Nat} {P1 P2 : Nat → Value → Prop} {S1 S2 : Nat → Heap → Prop}
end
end L2
namespace Rk
open PySem
def Ab (b : Nat) (n : Int) : Prop := n.natAbs ≤ 2 ^ b
theorem pow_mono {b c : Nat} (h : b ≤ c) : 2 ^ b ≤ 2 ^ c := Nat.pow_le_pow_right (by decide) h
theorem Ab.mono {b c : Nat} {n : Int} (h : Ab b n) (hc : b ≤ c) : Ab c n := Nat.le_trans h (pow_mono hc)
theorem ab_big {n : Int} (h0 : -(10 ^ 30) ≤ n) (h1 : n ≤ 10 ^ 30) : Ab 100 n := by
  unfold Ab
  have e : (2 : Nat) ^ 100 = 1267650600228229401496703205376 := by decide
  have e2 : (10 : Int) ^ 30 = 1000000000000000000000000000000 := by decide
  rw [e2] at h0 h1
  rw [e]
  omega
theorem Ab.add {b : Nat} {x y : Int} (hx : Ab b x) (hy : Ab b y) : Ab (b + 1) (x + y) := by
  unfold Ab at *
  have := Int.natAbs_add_le x y
  rw [Nat.pow_succ]
  omega
theorem Ab.neg {b : Nat} {x : Int} (hx : Ab b x) : Ab b (-x) := by
  unfold Ab at *
  rw [Int.natAbs_neg]
  exact hx
theorem Ab.sub {b : Nat} {x y : Int} (hx : Ab b x) (hy : Ab b y) : Ab (b + 1) (x - y) := by
  rw [Int.sub_eq_add_neg]
  exact hx.add hy.neg
theorem Ab.mul {b c : Nat} {x y : Int} (hx : Ab b x) (hy : Ab c y) : Ab (b + c) (x * y) := by
  unfold Ab at *
  rw [Int.natAbs_mul, Nat.pow_add]
  exact Nat.mul_le_mul hx hy
theorem Ab.ediv {b : Nat} {x y : Int} (hx : Ab b x) : Ab b (x / y) := Nat.le_trans (Int.natAbs_ediv_le_natAbs x y) hx
theorem Ab.fdiv {b : Nat} {x y : Int} (hx : Ab b x) : Ab (b + 1) (x.fdiv y) := by
  have h := hx.ediv (y := y)
  have hp : 0 < 2 ^ b := Nat.pow_pos (by decide)
  unfold Ab at *
  rw [Int.fdiv_eq_ediv, Nat.pow_succ]
  split <;> omega
theorem Ab.up {b k : Nat} {x : Int} (hx : Ab b x) : Ab (b + k) (x * 2 ^ k) := by
  refine hx.mul ?_
  unfold Ab
  rw [Int.natAbs_pow]
  exact Nat.le_refl _
def In (b : Nat) (n : Int) : Prop := -((2 ^ b : Nat) : Int) ≤ n ∧ n < ((2 ^ b : Nat) : Int)
theorem Ab.inn {b : Nat} {x : Int} (h : Ab b x) : In (b + 1) x := by
  have hp : 0 < 2 ^ b := Nat.pow_pos (by decide)
  unfold Ab at h
  unfold In
  rw [Nat.pow_succ]
  generalize 2 ^ b = p at *
  omega
theorem In.ab {b : Nat} {x : Int} (h : In b x) : Ab b x := by
  unfold In at h
  unfold Ab
  generalize 2 ^ b = p at *
  omega
theorem In.not {b : Nat} {x : Int} (h : In b x) : In b (Builtin.bitNot x) := by
  unfold In at *
  unfold Builtin.bitNot
  generalize 2 ^ b = p at *
  omega
theorem In.nat {b : Nat} {x : Int} (h : In b x) : x.toNat < 2 ^ b := by
  have hp : 0 < 2 ^ b := Nat.pow_pos (by decide)
  unfold In at h
  generalize 2 ^ b = p at *
  omega
theorem and_nn {x : Int} {m : Nat} (h : 0 ≤ x) : (0 : Int) ≤ x - ((x.toNat &&& m : Nat) : Int) ∧ x - ((x.toNat &&& m : Nat) : Int) ≤ x := by
  have := Nat.and_le_left (n := x.toNat) (m := m)
  omega
theorem In.and {b : Nat} {x y : Int} (hx : In b x) (hy : In b y) : In b (Builtin.bitAnd x y) := by
  have h1 := hx.not.nat
  have h2 := hy.not.nat
  have hl := Nat.and_le_left (n := x.toNat) (m := y.toNat)
  have ho := Nat.or_lt_two_pow h1 h2
  unfold Builtin.bitAnd
  by_cases h : 0 ≤ x <;> by_cases g : 0 ≤ y
  · rw [decide_eq_true h, decide_eq_true g]
    unfold In at *
    show -_ ≤ ((x.toNat &&& y.toNat : Nat) : Int) ∧ ((x.toNat &&& y.toNat : Nat) : Int) < _
    generalize 2 ^ b = p at *
    omega
  · rw [decide_eq_true h, decide_eq_false g]
    have := and_nn (m := (Builtin.bitNot y).toNat) h
    unfold In at *
    show -_ ≤ x - ((x.toNat &&& (Builtin.bitNot y).toNat : Nat) : Int) ∧ x - ((x.toNat &&& (Builtin.bitNot y).toNat : Nat) : Int) < _
    generalize 2 ^ b = p at *
    omega
  · rw [decide_eq_false h, decide_eq_true g]
    have := and_nn (m := (Builtin.bitNot x).toNat) g
    unfold In at *
    show -_ ≤ y - ((y.toNat &&& (Builtin.bitNot x).toNat : Nat) : Int) ∧ y - ((y.toNat &&& (Builtin.bitNot x).toNat : Nat) : Int) < _
    generalize 2 ^ b = p at *
    omega
  · rw [decide_eq_false h, decide_eq_false g]
    show In b (Builtin.bitNot (((Builtin.bitNot x).toNat ||| (Builtin.bitNot y).toNat : Nat) : Int))
    refine In.not ?_
    unfold In
    generalize 2 ^ b = p at *
    omega
theorem In.or {b : Nat} {x y : Int} (hx : In b x) (hy : In b y) : In b (Builtin.bitOr x y) := (hx.not.and hy.not).not
theorem In.xor {b : Nat} {x y : Int} (hx : In b x) (hy : In b y) : Ab (b + 1) (Builtin.bitXor x y) := (hx.or hy).ab.sub (hx.and hy).ab
theorem Ab.bits {b : Nat} {n : Int} (h : Ab b n) : Builtin.Int.intBits n ≤ b + 1 := by
  unfold Builtin.Int.intBits
  split
  · exact Nat.zero_le _
  · next hz =>
    have hn : n.natAbs ≠ 0 := by
      intro z
      apply hz
      have : n = 0 := by omega
      rw [this]; rfl
    have : n.natAbs.log2 < b + 1 := (Nat.log2_lt hn).mpr (by
      have hp : 0 < 2 ^ b := Nat.pow_pos (by decide)
      unfold Ab at h
      rw [Nat.pow_succ]
      omega)
    omega
theorem Ab.log {b : Nat} {n : Int} (h : Ab b n) : n.natAbs.log2 < b + 1 := by
  rcases Nat.eq_zero_or_pos n.natAbs with h0 | hp
  · rw [h0]; exact Nat.lt_of_le_of_lt (by decide) (Nat.succ_pos b)
  · refine (Nat.log2_lt (Nat.ne_of_gt hp)).mpr ?_
    have hp : 0 < 2 ^ b := Nat.pow_pos (by decide)
    unfold Ab at h
    rw [Nat.pow_succ]
    omega
end Rk
namespace L2
open PySem PySem.Spec PyProof.Rows Rk
section
variable {X : Cx}
def CMulB (i j : Int) : Prop := ∃ b, Ab b i ∧ Ab b j ∧ b ≤ 1000000
theorem pow20 {b : Nat} (h : b ≤ 1000000) : b + 1 ≤ 2 ^ 20 := by
  have e : (2 : Nat) ^ 20 = 1048576 := by decide
  omega
theorem op_mulB : OpR X (binaryOp .Mult) (rI CMulB fun i j => .int (i * j)) := opI fun _ _ _ _ _ _ _ hc q =>
  let ⟨b, h1, h2, h3⟩ := hc
  mul_int q (IntMulOk.of_bits (Nat.le_trans h1.bits (pow20 h3)) (Nat.le_trans h2.bits (pow20 h3)))
def CDivB (i j : Int) : Prop := j ≠ 0 ∧ Ab 8000 j
theorem op_fdivB : OpR X (binaryOp .FloorDiv) (rI CDivB fun i j => .int (i.fdiv j)) := opI fun _ _ _ _ _ _ _ hc q => floordiv_int hc.1 q (.inl (PyProof.noPylong_of_log2 (Nat.lt_trans hc.2.log (by decide))))
def CShlB (i j : Int) : Prop := 0 ≤ j ∧ j ≤ 1000 ∧ Ab 1000000 i
theorem op_shlB : OpR X (binaryOp .LShift) (rI CShlB fun i j => .int (i * 2 ^ j.toNat)) := opI fun _ _ _ _ _ _ _ hc q => lshift_int hc.1 (by
  have h := hc.2.2.bits
  have h2 := hc.2.1
  have e : (2 : Int) ^ 27 = 134217728 := by decide
  omega) q
end
def cStrs : List Expr → Option (List Str)
  | [] => some []
  | .Constant (.str x) _ _ :: es => (cStrs es).map (x :: ·)
  | _ => none
def tVals (vs : List V) : TA := fun _ H Q => Q vs H
theorem pa_strs {X : Cx} : ∀ {es : List Expr} {xs : List Str}, cStrs es = some xs → PA X es (tVals (xs.map V.str))
  | [], xs, h => by
    cases h
    exact pa_nil
  | e :: es, xs, h => by
    cases e with
    | Constant c j p =>
      cases c with
      | str x =>
        have h' : (cStrs es).map (x :: ·) = some xs := h
        cases e : cStrs es with
        | none =>
          rw [e] at h'
          cases h'
        | some ys =>
          rw [e] at h'
          cases h'
          exact pa_cons pe_str (pa_strs e)
      | _ => cases h
    | _ => cases h
structure PSw (X : Cx) (st : Stmt) (t : TS) : Prop where
  ok : PS X st t
structure PAw (X : Cx) (es : List Expr) (t : TA) : Prop where
  ok : PA X es t
theorem paw_strs {X : Cx} {es : List Expr} {xs : List Str} (h : cStrs es = some xs) : PAw X es (tVals (xs.map V.str)) := ⟨pa_strs h⟩
theorem psw_lst {X : Cx} {i : Nat} {x : Str} {es : List Expr} {t : TA} {pos pos' p2 : Pos} (hN : X.N.Nodup) (hi : X.N[i]? = some x) (hx : Loc X.env.scope x) (h : PAw X es t) (hf : X.fn x = true ∨ X.env.scope.names.lookup x = some .local) : PSw X (.Assign [.Name x pos'] (.List es p2) pos) (tAsg (tLst t) (gName i)) := ⟨ps_set hN hi hx (pe_lst h.ok) rfl hf⟩
theorem wt_cons {X : Cx} {st : Stmt} {rest : List Stmt} {t : TS} {G : TS → Prop} (h1 : PSw X st t) (h2 : ∃ u, PSs X rest u ∧ G (tSeq t u)) : ∃ t', PSs X (st :: rest) t' ∧ G t' := let ⟨u, a, b⟩ := h2; ⟨_, pss_cons h1.ok a, b⟩
theorem pe_fldK {X : Cx} {K : PySem.W.Frag} {e : Expr} {ta : TE} {f : Str} {pos : Pos} (he : PE X e ta) (hb : attributeBase e f X.env (eval e X.env) = eval e X.env) (hK : X.K = K := by rfl) : PE X (.Attribute e f pos) (tFld K ta f) := by
  subst hK
  exact pe_fld he hb
def thC (K : PySem.W.Frag) (C : Addr) (tsu : TS) (th : Ends → XS) : Ends → XS := fun D σ cls dx H => ∃ b, PySem.W.exmOne K cls (.ref C) = some b ∧ if b = true then tsu D σ H else th D σ cls dx H
theorem ph_consK {X : Cx} {K : PySem.W.Frag} {EX : XS} {th : Ends → XS} {hs : List ExceptHandler} {C : Addr} {c : Str} {np pos : Pos} {b₀ : Stmt} {suite : List Stmt} {tsu : TS} (hcls : Gl X c) (hm : X.mg c = some (.ref C)) (hsu : ∀ x oe, PSs (cxSuite X x oe) (b₀ :: suite) tsu) (hr : PH X hs EX th) (hK : X.K = K := by rfl) (hdb : (c == ("__debug__" : Str)) = false := by decide) :
    PH X (.ExceptHandler (some (.Name c np)) none (b₀ :: suite) pos :: hs) EX (thC K C tsu th) := by
  subst hK
  intro σ H s x cls dx T oe oT vs ts D I fx fT a h
  refine ph_cons (ts' := fun _ _ => tsu) hcls hm hsu hr hdb σ H s x cls dx T oe oT vs ts D I fx fT a ?_
  obtain ⟨b, hb, h⟩ := h
  refine ⟨b, hb, ?_⟩
  cases b with
  | true => rw [if_pos rfl] at h ⊢; exact fun _ _ _ _ _ _ => h
  | false => rw [if_neg Bool.false_ne_true] at h ⊢; exact h
end L2
namespace Ah
inductive Ld where
  | none | go (p : Nat)
section
def ldsL : Ld → List Nat
  | .none => []
  | .go p => [p]
end
section
variable {row : Nat → List Stp} {n : Nat} {m : Mp} {q : Nat} {ps : List Nat}
end
end Ah
namespace L2
open PySem PySem.Spec PyProof.Rows
section
variable {Y : Cx} {pins : List (Addr × Obj)} {σ : St} {H : Hp} {s : Shared}
open Classical in
end
section
variable {Y : Cx} {k : Nat} {f C x : Addr} {oe : Obj} {ws : Array Value} {fd : FuncData} {ps : List Str} {sp : Sp} {dvs : List V} {ds : List Value} {m : Str} {p pos apos : Pos} {e o : Expr} {es : List Expr} {ta : TE} {t : TA}
end
structure EndsR where
  nx : St → Hp → Prop
  rt : St → VK
abbrev TR := EndsR → St → Hp → Prop
def SR (X : Cx) (pins : List (Addr × Obj)) (D : EndsR) (f : Flow) (s' : Shared) : Prop :=
  match f with
  | .next => ∃ σ' H', Inv X pins σ' H' s' ∧ D.nx σ' H'
  | .ret u => ∃ v σ' H', Inv X pins σ' H' s' ∧ RelV v u ∧ D.rt σ' v H'
  | _ => False
def PR (X : Cx) (st : List Stmt) (t : TR) : Prop :=
  ∀ (pins : List (Addr × Obj)) (s : Shared) (σ : St) (H : Hp) (D : EndsR), Inv X pins σ H s → t D σ H → wpAny (model X.prog X.w) X.A (execs st X.env) (SR X pins D) X.xe s
section
variable {X : Cx} {st : Stmt} {rest a : List Stmt} {t : TS} {u v : TR} {e c : Expr} {te : TE} {tc : TT} {pos : Pos}
def rSeq (t : TS) (u : TR) : TR := fun D σ H => t { nx := fun σ' H' => u D σ' H', rt := fun _ _ => False } σ H
theorem pr_cons (h1 : PS X st t) (h2 : PR X rest u) : PR X (st :: rest) (rSeq t u) := by
  intro pins s σ H D I h
  refine wpAny_execs_cons (thn (h1 pins s σ H _ I h) fun f s1 q => ?_)
  cases f with
  | next =>
    obtain ⟨σ', H', I', q⟩ := q
    exact h2 pins s1 σ' H' D I' q
  | ret v => obtain ⟨_, _, _, _, _, q⟩ := q; exact q.elim
  | brk => obtain ⟨_, _, _, q⟩ := q; exact q.elim
  | cont => obtain ⟨_, _, _, q⟩ := q; exact q.elim
def rRet (te : TE) : TR := fun D σ H => te σ H fun v H' => D.rt σ v H'
theorem pr_ret (he : PE X e te) : PR X [.Return (some e) pos] (rRet te) := by
  intro pins s σ H D I h
  refine wpAny_execs_cons (wpAny_Return_some (thn (he pins s σ H _ I h) fun v s1 ⟨x, H1, I1, r1, q1⟩ => ?_))
  exact ⟨x, σ, H1, I1, r1, q1⟩
def rIf (tc : TT) (v u : TR) : TR := fun D σ H => tc σ H fun b H1 => if b = true then v { D with nx := u D } σ H1 else u D σ H1
theorem pr_if (hc : PT X c tc) (ha : PR X a v) (hr : PR X rest u) : PR X (.If c a [] pos :: rest) (rIf tc v u) := by
  intro pins s σ H D I h
  refine wpAny_execs_cons (wpAny_If (thn (hc pins s σ H _ I h) fun d s1 ⟨H1, I1, q1⟩ => ?_))
  cases d with
  | true =>
    refine thn (ha pins s1 σ H1 _ I1 q1) fun f s2 q => ?_
    cases f with
    | next =>
      obtain ⟨σ', H', I', q⟩ := q
      exact hr pins s2 σ' H' D I' q
    | ret w => exact q
    | brk => exact q.elim
    | cont => exact q.elim
  | false => exact wpAny_execs_nil (hr pins s1 σ H1 D I1 q1)
end
def cellO (c : Addr) (v : V) : HO := .ext fun h => ∃ u, RelV v u ∧ h.IsCell c (some u)
def updC (H : Hp) : List (Addr × V) → Hp
  | [] => H
  | p :: r => upd (updC H r) p.1 (cellO p.1 p.2)
theorem updC_ne {H : Hp} {b : Addr} : ∀ {cv : List (Addr × V)}, (∀ p ∈ cv, b ≠ p.1) → updC H cv b = H b
  | [], _ => rfl
  | p :: r, h => by
    show upd (updC H r) p.1 _ b = _
    rw [upd_ne (h p List.mem_cons_self)]
    exact updC_ne fun q hq => h q (List.mem_cons_of_mem _ hq)
theorem updC_at {H : Hp} {p : Addr × V} : ∀ {cv : List (Addr × V)}, p ∈ cv → (cv.map (·.1)).Nodup → updC H cv p.1 = some (cellO p.1 p.2)
  | q :: r, hp, nd => by
    rw [List.map_cons, List.nodup_cons] at nd
    show upd (updC H r) q.1 _ p.1 = _
    rcases List.mem_cons.mp hp with rfl | hp
    · exact upd_same
    · have hne : p.1 ≠ q.1 := fun e => nd.1 (e ▸ List.mem_map.mpr ⟨p, hp, rfl⟩)
      rw [upd_ne hne]
      exact updC_at hp nd.2
structure CellsOf (X : Cx) (σ : St) (cv : List (Addr × V)) : Prop where
  nd : (cv.map (·.1)).Nodup
  at_ : ∀ p ∈ cv, ∃ (i : Nat) (x : Str), X.N[i]? = some x ∧ σ[i]? = some (some p.2) ∧ X.env.scope.names.lookup x = some .cell ∧ X.env.kindOf x = some .cell ∧ X.env.cells.lookup x = some p.1 ∧ X.fn x = true
section
variable {X : Cx} {pins : List (Addr × Obj)} {σ : St} {H : Hp} {s : Shared} {cv : List (Addr × V)}
theorem CellsOf.is (C : CellsOf X σ cv) (I : Inv X pins σ H s) : ∀ p ∈ cv, H p.1 = none ∧ X.s₀.heap.objs.size ≤ p.1 ∧ ∃ u, RelV p.2 u ∧ s.heap.IsCell p.1 (some u) := fun p hp => by
  obtain ⟨i, x, h1, h2, h3, h4, h5, h6⟩ := C.at_ p hp
  refine ⟨I.freeC x _ h5, I.ok.cab x _ h6 h5, ?_⟩
  obtain ⟨m, _, hl⟩ := I.loc
  obtain ⟨u, r, l⟩ := hl i x p.2 h1 h2 (.inr (.inl h3))
  rcases l with ⟨hk, _⟩ | ⟨_, c, hc, hcell⟩
  · rw [h4] at hk; cases hk
  · rw [h5] at hc
    cases hc
    exact ⟨u, r, hcell⟩
theorem CellsOf.hok (C : CellsOf X σ cv) (I : Inv X pins σ H s) : HOk X.prog X.w (updC H cv) s.heap := fun b o e => by
  by_cases hb : ∃ p ∈ cv, b = p.1
  · obtain ⟨p, hp, rfl⟩ := hb
    rw [updC_at hp C.nd] at e
    cases e
    obtain ⟨_, _, u, r, o, ho, hd⟩ := C.is I p hp
    exact ⟨⟨u, r, o, ho, hd⟩, ⟨o, ho⟩, fun h1 h2 ⟨u1, r1, o1, g1, d1⟩ k => ⟨u1, r1, o1, k _ g1, d1⟩⟩
  · have hb' : ∀ p ∈ cv, b ≠ p.1 := fun p hp z => hb ⟨p, hp, z⟩
    rw [updC_ne hb'] at e
    have keep : ∀ (b : Addr) (u : HO), H b = some u → updC H cv b = some u := fun b u z => by
      rw [updC_ne fun p hp y => by rw [y, (C.is I p hp).1] at z; cases z]
      exact z
    exact (I.hok b o e).stay (fun c q _ z => z) (fun c z => keep c _ z) fun c xs z => keep c _ z
theorem CellsOf.un (C : CellsOf X σ cv) (I : Inv X pins σ H s) : Un X.fs X.ex X.H₀ (updC H cv) X.s₀.heap s.heap := by
  have keep : ∀ (b : Addr) (u : HO), H b = some u → updC H cv b = some u := fun b u z => by
    rw [updC_ne fun p hp y => by rw [y, (C.is I p hp).1] at z; cases z]
    exact z
  have u := I.base
  refine ⟨u.keep, u.slot, fun b o e n hx => ?_, u.there, fun b xs e => keep _ _ (u.tups b xs e), fun b o w e => keep _ _ (u.frzs b o w e), fun b ps e => let ⟨m, z⟩ := u.tbls b ps e; ⟨m, keep _ _ z⟩⟩
  rw [updC_ne fun p hp y => ?_]
  · exact u.free b o e n hx
  · have h1 := (C.is I p hp).2.1
    have h2 := Heap.lt_size e
    rw [y] at h2
    exact absurd (Nat.lt_of_lt_of_le h2 h1) (Nat.lt_irrefl _)
end
theorem fn_ofR {CX : CXT} {P : Program} {w : World} {K : PySem.W.Frag} {mg : Str → Option Value} {base : Heap} {k : Nat} {f : Addr} {name qual : Str} {params : Arguments} {body : List Stmt} {scope : Scope} {dV kV doc pm cdv ct oc : Value} {an od : Option Addr}
    {osl : Array (Option Value)} {N ps : List Str} {sp : Sp} (lk : K.lookup f = some ⟨oc, od, .func (PySem.W.fnOf name qual params body scope dV kV doc pm an cdv ct), osl⟩) (hcd : PySem.W.codeIn K cdv qual = true) (S : FnScope N ps scope)
    (len : ∀ vs H Q E, sp vs H Q E → vs.length = ps.length)
    (hbody : ∀ (A : Around) (outer : List Env) (s : Shared) (H : Hp) (vs : List V) (Q : VK) (E : XK), Room k (A.deeper (envOfC qual scope s.heap.objs.size f cdv)) → sp vs H Q E →
      ∃ t, PR (cxOf CX P w K mg base N qual scope f cdv A outer s H E) body t ∧ t { nx := fun _ H' => Q .non H', rt := fun σ' v H' => ∃ cv, CellsOf (cxOf CX P w K mg base N qual scope f cdv A outer s H E) σ' cv ∧ ((∀ p ∈ cv, H' p.1 = none) → Q v (updC H' cv)) } (start N vs) H) :
    FnOk P w K mg base CX (k + 1) f (PySem.W.fnOf name qual params body scope dV kV doc pm an cdv ct) ps sp := by
  refine ⟨len, fun A outer s H args us vs Q E hr e0 hb r hsp => ?_⟩
  have hl := len _ _ _ _ hsp
  have KX : K.In s.heap := e0.mod.kin.keeps fun b o e => (e0.bs b o e).1
  have lim : s.heap.NoLimit := e0.mod.nolimit.keeps fun b o e => (e0.bs b o e).1
  have hkind : ∀ y ∈ ps.zip us, scope.names.lookup y.1 = some .local ∨ (scope.names.lookup y.1 = some .cell ∧ ((cellsFrom (s.heap.objs.size + 1) scope.names []).lookup y.1).isSome = true) := fun ⟨n, v⟩ hy => by
    rcases S.par n (List.of_mem_zip hy).1 with q | q
    · exact .inl q
    · exact .inr ⟨q, PySem.W.cellsFrom_some _ _ _ (.inl q)⟩
  refine codeAny_call_function hr.rm.depth (KX _ _ lk) rfl S.co S.gen rfl (PySem.W.codeRec_of KX hcd) (hb _ _ _ _ ?_)
  refine wpAny_newFunctionEnv_cells S.kind hkind fun env he s1 x => ?_
  subst he
  refine ⟨lim.keeps x.toInCall.keep, codeAny_func ?_⟩
  obtain ⟨t, ht, hq⟩ := hbody A outer s H vs Q E (hr.rm.deeper _) hsp
  have I : Inv (cxOf CX P w K mg base N qual scope f cdv A outer s H E) [] (start N vs) H s1 := inv_start S hr.st hr.hd e0 hl r x
  refine wpAny_mono (ht [] s1 (start N vs) H _ I hq) (fun fl s' hs => ?_) fun e s' hs => hs
  cases fl with
  | ret u =>
    obtain ⟨v, σ', H', J, rv, cv, C, q⟩ := hs
    exact ⟨v, updC H' cv, J.os, J.bare, C.un J, C.hok J, rv, q fun p hp => (C.is J p hp).1⟩
  | next =>
    obtain ⟨σ', H', J, q⟩ := hs
    exact ⟨V.non, H', J.os, J.bare, J.base, J.hok, rfl, q⟩
  | brk => exact hs.elim
  | cont => exact hs.elim
def cxC (CX : CXT) (P : Program) (w : World) (K : PySem.W.Frag) (mg : Str → Option Value) (base : Heap) (N : List Str) (qual : Str) (scope : Scope) (f : Addr) (cd : Value) (cl : List (Str × Addr)) (A : Around) (outer : List Env) (s : Shared) (H : Hp) (E : XK) : Cx where
  prog := P
  w := w
  K := K
  mg := mg
  base := base
  A := A.deeper (PySem.W.envX qual scope s.heap.objs.size f cd cl)
  N := N
  s₀ := s
  H₀ := H
  env := PySem.W.envX qual scope s.heap.objs.size f cd cl
  outer := outer
  stack := PySem.W.envX qual scope s.heap.objs.size f cd cl :: outer
  ex := []
  calm := true
  sx := CX.st
  fn := fun _ => false
  pn := []
  xe := fun e s' => wpAny (model P w) (A.deeper (PySem.W.envX qual scope s.heap.objs.size f cd cl)) (leaving (PySem.W.envX qual scope s.heap.objs.size f cd cl) e) (fun _ s'' => CX.f outer H s E e s'') (fun e' s'' => CX.f outer H s E e' s'') s'
structure CloScope (N P : List Str) (sc : Scope) : Prop where
  kind : sc.kind = .function
  co : sc.isCoroutine = false
  gen : sc.isGenerator = false
  nd : N.Nodup
  pre : N.take P.length = P
  par : ∀ x ∈ P, sc.names.lookup x = some .local
  nocell : ∀ y ∈ sc.names, y.2 ≠ .cell
structure Closed (base : Heap) (N ps : List Str) (sc : Scope) (cl : List (Str × Addr)) (rest : List (Option V)) : Prop where
  inj : ∀ x y c, cl.lookup x = some c → cl.lookup y = some c → x = y
  has : ∀ x, sc.names.lookup x = some .free → ∃ c, cl.lookup x = some c
  cell : ∀ x c, cl.lookup x = some c → ∃ v, base.IsCell c v
  len : ps.length + rest.length = N.length
  val : ∀ (j : Nat) (v : V), rest[j]? = some (some v) → ∃ x c u, N[ps.length + j]? = some x ∧ sc.names.lookup x = some .free ∧ cl.lookup x = some c ∧ base.IsCell c (some u) ∧ RelV v u
theorem look_mem {α : Type} : ∀ {l : List (Str × α)} {k : Str} {v : α}, (l.map (·.1)).Nodup → (k, v) ∈ l → l.lookup k = some v
  | p :: r, k, v, nd, h => by
    rw [List.map_cons, List.nodup_cons] at nd
    rcases List.mem_cons.mp h with rfl | h
    · rw [List.lookup_cons, beq_self_eq_true]
    · have hne : (k == p.1) = false := by
        rw [beq_eq_false_iff_ne]
        intro e
        exact nd.1 (e ▸ List.mem_map.mpr ⟨(k, v), h, rfl⟩)
      rw [List.lookup_cons, hne]
      exact look_mem nd.2 h
theorem zip_look {ps : List Str} {us : List Value} {i : Nat} {y : Str} {u : Value} (nd : ps.Nodup) (h1 : ps[i]? = some y) (h2 : us[i]? = some u) (hl : us.length = ps.length) : (ps.zip us).reverse.lookup y = some u := by
  have e : (ps.zip us).map (·.1) = ps := by rw [List.map_fst_zip]; omega
  refine look_mem (by rw [List.map_reverse, e]; exact (List.reverse_perm ps).nodup_iff.mpr nd) (List.mem_reverse.mpr ?_)
  refine List.mem_of_getElem? (i := i) ?_
  rw [List.getElem?_zip_eq_some]
  exact ⟨h1, h2⟩
theorem inv_startC {CX : CXT} {P : Program} {w : World} {K : PySem.W.Frag} {mg : Str → Option Value} {base : Heap} {N ps : List Str} {qual : Str} {scope : Scope} {f : Addr} {cd : Value} {cl : List (Str × Addr)} {A : Around} {outer : List Env} {s : Shared} {h1 : Heap} {tk : Nat} {H : Hp} {E : XK} {us : List Value} {vs : List V} {rest : List (Option V)}
    (S : CloScope N ps scope) (C : Closed base N ps scope cl rest) (hd : CX.st = true → A.handled = none) (hc : HCalm A base) (e0 : Env0 P w K mg base A outer s H) (hl : vs.length = ps.length) (r : Vals vs us)
    (hns : h1.Ns s.heap.objs.size (fun x => (ps.zip us).reverse.lookup x)) (hk : ∀ b o, s.heap.get? b = some o → h1.get? b = some o) :
    Inv (cxC CX P w K mg base N qual scope f cd cl A outer s H E) [] (vs.map some ++ rest) H { s with heap := h1, toks := tk } := by
  have noA : ∀ b : Addr, b ∉ (cxC CX P w K mg base N qual scope f cd cl A outer s H E).ex := fun b z => absurd (show b ∈ ([] : List Addr) from z) (by simp)
  have bk : ∀ b o, base.get? b = some o → h1.get? b = some o := fun b o e => hk b o (e0.bs b o e).1
  have hlu : us.length = ps.length := by rw [← r.length]; exact hl
  refine ⟨⟨e0.mod, S.kind, rfl, rfl, Nat.le_refl _, C.inj, fun y hy => ?_, (fun y c h => nomatch h), fun _ => hc, hd, Around.frames_deeper e0.frames, .inr ⟨rfl, rfl⟩, fun b z => absurd z (noA b), e0.bs, e0.bsz, fun b _ _ => noA b, fun b z => absurd z (noA b), e0.funs, e0.frf⟩,
    rfl, e0.bare, Un.kept hk, ⟨_, hns, fun i y v g1 g2 g3 => ?_⟩, fun y c h => ?_, e0.hok.fresh (Nat.le_refl _), fun y c h => ?_, fun p hp => absurd (show p ∈ ([] : List (Addr × Obj)) from hp) (by simp), e0.hok.kept hk, ?_⟩
  · have hy : scope.names.lookup y = some .cell ∨ scope.names.lookup y = some .free := hy
    rcases hy with hy | hy
    · exact absurd rfl (S.nocell _ (PySem.mem_of_lookup hy))
    · exact C.has y hy
  · by_cases hi : i < vs.length
    · rw [List.getElem?_append_left (by simpa using hi), List.getElem?_map] at g2
      have ha : vs[i]? = some v := by
        cases e : vs[i]? with
        | none => rw [e] at g2; cases g2
        | some a => rw [e] at g2; cases g2; rfl
      obtain ⟨u, hu, rv⟩ := r.get ha
      have hp : ps[i]? = some y := by
        rw [← S.pre, List.getElem?_take_of_lt (by omega)]; exact g1
      have ndP : ps.Nodup := by rw [← S.pre]; exact S.nd.sublist (List.take_sublist _ _)
      exact ⟨u, rv, .inl ⟨S.par y (List.mem_of_getElem? hp), zip_look ndP hp hu hlu⟩⟩
    · rw [List.getElem?_append_right (by simpa using hi), List.length_map] at g2
      obtain ⟨x, c, u, n1, n2, n3, n4, n5⟩ := C.val _ v g2
      have e : ps.length + (i - vs.length) = i := by omega
      rw [e] at n1
      have g1' : N[i]? = some y := g1
      rw [n1] at g1'
      cases g1'
      obtain ⟨o, ho, hd'⟩ := n4
      exact ⟨u, n5, .inr ⟨.inr n2, c, n3, o, bk _ _ ho, hd'⟩⟩
  · obtain ⟨v, o, ho, hd'⟩ := C.cell y c h
    exact ⟨v, o, bk _ _ ho, hd'⟩
  · obtain ⟨v, o, ho, hd'⟩ := C.cell y c h
    exact (e0.bs _ _ ho).2
  · show _ = N.length
    rw [List.length_append, List.length_map, hl]
    exact C.len
section
variable {CX : CXT} {P : Program} {w : World} {K : PySem.W.Frag} {mg : Str → Option Value} {base : Heap} {k : Nat} {f : Addr} {o : Obj} {name qual : Str} {params : Arguments} {scope : Scope} {cl : List (Str × Addr)} {dV kV doc pm cdv ct : Value} {an : Option Addr} {N ps : List Str} {rest : List (Option V)} {sp : Sp}
theorem clo_of {body : List Stmt} (ho : base.get? f = some o) (hd : o.data = .func (PySem.W.fnX name qual params body scope cl dV kV doc pm an cdv ct)) (hcd : base.CodeRec cdv qual) (S : CloScope N ps scope) (C : Closed base N ps scope cl rest)
    (len : ∀ vs H Q E, sp vs H Q E → vs.length = ps.length)
    (hbody : ∀ (A : Around) (outer : List Env) (s : Shared) (H : Hp) (vs : List V) (Q : VK) (E : XK), Room k (A.deeper (PySem.W.envX qual scope s.heap.objs.size f cdv cl)) → sp vs H Q E →
      ∃ t, PSs (cxC CX P w K mg base N qual scope f cdv cl A outer s H E) body t ∧ t { nx := fun _ H' => Q .non H', rt := Q } (vs.map some ++ rest) H) :
    FnOk P w K mg base CX (k + 1) f (PySem.W.fnX name qual params body scope cl dV kV doc pm an cdv ct) ps sp := by
  refine ⟨len, fun A outer s H args us vs Q E hr e0 hb r hsp => ?_⟩
  have hl := len _ _ _ _ hsp
  have lim : s.heap.NoLimit := e0.mod.nolimit.keeps fun b o e => (e0.bs b o e).1
  have hcd' : s.heap.CodeRec cdv qual := let ⟨c, oc, vs, tq, h1, h2, h3, h4⟩ := hcd; ⟨c, oc, vs, tq, h1, (e0.bs _ _ h2).1, h3, h4⟩
  refine codeAny_call_def (fd := PySem.W.fnX name qual params body scope cl dV kV doc pm an cdv ct) (body := body) (binds := ps.zip us) hr.rm.depth (e0.bs _ _ ho).1 hd lim hcd' rfl hb S.nocell (fun ⟨n, v⟩ hy => S.par n (List.of_mem_zip hy).1) (fun h₁ hns hk => ?_) S.co S.gen S.kind
  obtain ⟨t, ht, hq⟩ := hbody A outer s H vs Q E (hr.rm.deeper _) hsp
  have I : Inv (cxC CX P w K mg base N qual scope f cdv cl A outer s H E) [] (vs.map some ++ rest) H { s with heap := h₁, toks := s.toks + (ps.zip us).length } := inv_startC S C hr.st hr.hd e0 hl r hns hk
  refine wpAny_mono (ht [] _ (vs.map some ++ rest) H _ I hq) (fun fl s' hs => ?_) fun e s' hs => hs
  have fin : ∀ {σ' : St} {H' : Hp} {v : V} {u : Value}, Inv (cxC CX P w K mg base N qual scope f cdv cl A outer s H E) [] σ' H' s' → RelV v u → Q v H' → CE outer P w H s Q u s' :=
    fun {σ' H' v u} J rv q => ⟨v, H', J.os, J.bare, J.base, J.hok, rv, q⟩
  cases fl with
  | ret u =>
    obtain ⟨v, σ', H', J, rv, q⟩ := hs
    exact fin J rv q
  | next =>
    obtain ⟨σ', H', J, q⟩ := hs
    exact fin (v := V.non) (u := Value.none) J rfl q
  | brk =>
    obtain ⟨_, _, _, q⟩ := hs
    exact False.elim q
  | cont =>
    obtain ⟨_, _, _, q⟩ := hs
    exact False.elim q
theorem lam_of {body : Expr} (ho : base.get? f = some o) (hd : o.data = .func (PySem.W.kla_fn name qual params body scope cl pm cdv ct)) (hcd : base.CodeRec cdv qual) (S : CloScope N ps scope) (C : Closed base N ps scope cl rest)
    (len : ∀ vs H Q E, sp vs H Q E → vs.length = ps.length)
    (hbody : ∀ (A : Around) (outer : List Env) (s : Shared) (H : Hp) (vs : List V) (Q : VK) (E : XK), Room k (A.deeper (PySem.W.envX qual scope s.heap.objs.size f cdv cl)) → sp vs H Q E →
      ∃ t, PE (cxC CX P w K mg base N qual scope f cdv cl A outer s H E) body t ∧ t (vs.map some ++ rest) H Q) :
    FnOk P w K mg base CX (k + 1) f (PySem.W.kla_fn name qual params body scope cl pm cdv ct) ps sp := by
  refine ⟨len, fun A outer s H args us vs Q E hr e0 hb r hsp => ?_⟩
  have hl := len _ _ _ _ hsp
  have lim : s.heap.NoLimit := e0.mod.nolimit.keeps fun b o e => (e0.bs b o e).1
  have hcd' : s.heap.CodeRec cdv qual := let ⟨c, oc, vs, tq, h1, h2, h3, h4⟩ := hcd; ⟨c, oc, vs, tq, h1, (e0.bs _ _ h2).1, h3, h4⟩
  refine PySem.W.kla_callFunE hr.rm.depth (e0.bs _ _ ho).1 hd S.co S.gen rfl hcd' (hb _ _ _ _ ?_)
  refine wpAny_newFunctionEnv S.nocell (fun ⟨n, v⟩ hy => S.par n (List.of_mem_zip hy).1) (fun h₁ hns hsb => ⟨lim.fresh _ hsb, ?_⟩) S.kind
  have hk : ∀ b o, s.heap.get? b = some o → h₁.get? b = some o := fun b o e => hsb.extBut b o (Nat.ne_of_lt (Heap.lt_size e)) (Heap.get?_push_of_some _ e)
  obtain ⟨t, ht, hq⟩ := hbody A outer s H vs Q E (hr.rm.deeper _) hsp
  have I : Inv (cxC CX P w K mg base N qual scope f cdv cl A outer s H E) [] (vs.map some ++ rest) H { s with heap := h₁, toks := s.toks + (ps.zip us).length } := inv_startC S C hr.st hr.hd e0 hl r hns hk
  show codeAny _ _ (.expr body (PySem.W.envX qual scope s.heap.objs.size f cdv cl)) _ _
  refine PySem.W.kla_codeExpr (wpAny_mono (ht [] _ (vs.map some ++ rest) H _ I hq) (fun u s' hs => ?_) fun e s' hs => hs)
  obtain ⟨v, H', J, rv, q⟩ := hs
  exact ⟨v, H', J.os, J.bare, J.base, J.hok, rv, q⟩
end
def FnV (P : Program) (w : World) (K : PySem.W.Frag) (mg : Str → Option Value) (base : Heap) (CX : CXT) (k : Nat) (ps : List Str) (f : Addr) (sp : Sp) : Prop :=
  ∃ fd o, base.get? f = some o ∧ o.data = .func fd ∧ FnOk P w K mg base CX k f fd ps sp ∧ Binds K fd ps []
def tabO (P : Addr) (ps : Array Value) : HO := .ext fun h => h.get? P = some (PySem.W.tabObj ps)
def codeO (c : Addr) (q : Str) : HO := .ext fun h => h.CodeRec (.ref c) q
def funO (f : Addr) (fd : FuncData) : HO := .ext fun h => ∃ o, h.get? f = some o ∧ o.data = .func fd
theorem tri_snoc {a b c : Value} (ha : ∃ i t, a = .int i t) (hb : ∃ i t, b = .int i t) : ∀ {l : List Value}, TriplesOk l → TriplesOk (l ++ [a, b, c]) := by
  obtain ⟨i, t, rfl⟩ := ha
  obtain ⟨j, u, rfl⟩ := hb
  intro l h
  fun_induction TriplesOk l with
  | case1 => exact True.intro
  | case2 _ _ _ _ _ rest ih => exact ih h
  | case3 l h1 h2 => exact h.elim
theorem tri_at : ∀ {l : List Value} {v : Value}, TriplesOk l → l[1]? = some v → ∃ i t, v = .int i t := by
  intro l v h e
  fun_induction TriplesOk l with
  | case1 => cases e
  | case2 i t j u x rest ih => cases e; exact ⟨_, _, rfl⟩
  | case3 l h1 h2 => exact h.elim
theorem among_app {pos : Pos} {c : Value} {r : List Value} : ∀ {l : List Value}, TriplesOk l → codeAmong pos l = some c → codeAmong pos (l ++ r) = some c := by
  intro l h e
  fun_induction TriplesOk l with
  | case1 => cases e
  | case2 i t j u x rest ih =>
    show (if _ then _ else _) = _
    have e' : (if i == pos.line && j == pos.col then some x else codeAmong pos rest) = some c := e
    by_cases z : (i == (pos.line : Int) && j == (pos.col : Int)) = true
    · rw [if_pos z] at e' ⊢
      exact e'
    · rw [if_neg z] at e' ⊢
      exact ih h e'
  | case3 l h1 h2 => exact h.elim
theorem among_none {pos p0 : Pos} {c : Value} : ∀ {l : List Value}, TriplesOk l → codeAmong pos l = none → codeAmong pos (l ++ [rawInt p0.line, rawInt p0.col, c]) = if p0.line = pos.line ∧ p0.col = pos.col then some c else none := by
  intro l h e
  fun_induction TriplesOk l with
  | case1 =>
    show (if ((p0.line : Int) == (pos.line : Int) && (p0.col : Int) == (pos.col : Int)) = true then some c else none) = _
    by_cases z : p0.line = pos.line ∧ p0.col = pos.col
    · rw [if_pos z, if_pos (by rw [z.1, z.2]; simp)]
    · rw [if_neg z, if_neg (fun y => z (by simp only [Bool.and_eq_true, beq_iff_eq] at y; omega))]
  | case2 i t j u x rest ih =>
    have e' : (if i == pos.line && j == pos.col then some x else codeAmong pos rest) = none := e
    by_cases z : (i == (pos.line : Int) && j == (pos.col : Int)) = true
    · rw [if_pos z] at e'
      cases e'
    · rw [if_neg z] at e'
      show (if (i == (pos.line : Int) && j == (pos.col : Int)) = true then some x else codeAmong pos (rest ++ _)) = _
      rw [if_neg z]
      exact ih h e'
  | case3 l h1 h2 => exact h.elim
structure TabA (H : Hp) (P : Addr) (ps : Array Value) (ent : List (Pos × Str)) : Prop where
  tab : H P = some (tabO P ps)
  tri : TriplesOk ps.toList
  ent : ∀ q ∈ ent, codeAmong q.1 ps.toList = none ∨ ∃ c', codeAmong q.1 ps.toList = some (.ref c') ∧ H c' = some (codeO c' q.2)
def Bm (mg : Str → Option Value) (base : Heap) : Prop := ∃ bm ob, mg "__builtins__" = some (.ref bm) ∧ bm ≠ builtinsNs ∧ base.get? bm = some ob ∧ ob.cls = .type "module" ∧ ob.dict = some builtinsNs ∧ ob.data = .plain
structure Made (H H' : Hp) (P f c' : Addr) (fd : FuncData) (qual : Str) (ent : List (Pos × Str)) : Prop where
  fn : H' f = some (funO f fd)
  code : H' c' = some (codeO c' qual)
  tab : ∃ ps', TabA H' P ps' ent
  keep : ∀ b o, H b = some o → b ≠ P → H' b = some o
  new : H f = none
section
variable {X : Cx} {pins : List (Addr × Obj)} {σ : St} {H : Hp} {s : Shared}
theorem Inv.builtinsAt (I : Inv X pins σ H s) (B : Bm X.mg X.base) {P : Addr} {o : HO} (hP : H P = some o) : s.heap.BuiltinsAt X.mg P ∧ mainGlobals ≠ P := by
  obtain ⟨bm, ob, b1, b2, b3, b4, b5, b6⟩ := B
  have hb := I.bs bm ob b3
  have hgP : mainGlobals ≠ P := fun q => by
    obtain ⟨og, es, ep, e, hd, _⟩ := I.mod.glob
    have := (I.bs _ _ e).2
    rw [q, hP] at this
    cases this
  have hbP : bm ≠ P := fun q => by
    have := hb.2
    rw [q, hP] at this
    cases this
  have hbG : bm ≠ mainGlobals := fun q => by
    obtain ⟨og, es, ep, e, hd, _⟩ := I.mod.glob
    rw [q, e] at b3
    cases b3
    rw [hd] at b6
    cases b6
  exact ⟨⟨bm, ob, b1, b2, hbG, hbP, hb.1, b4, b5, b6⟩, hgP⟩
theorem Inv.made1 {h' : Heap} {tk tk2 : Nat} {P c' : Addr} {ps : Array Value} {ent : List (Pos × Str)} {pos : Pos} {qual : Str} {fd : FuncData} {o : Obj} (I : Inv X pins σ H s) (T : TabA H P ps ent) (hent : ∀ q ∈ ent, pos.line = q.1.line ∧ pos.col = q.1.col → q.2 = qual)
    (hx : Heap.ExtBut P s.heap h') (hge : s.heap.objs.size ≤ c') (hlt : c' < h'.objs.size) (hrec : h'.CodeRec (.ref c') qual) (htb : h'.get? P = some (PySem.W.tabObj (ps ++ #[rawInt pos.line, rawInt pos.col, .ref c']))) (ho : o.data = .func fd) (hof : o.isFreed = false) :
    ∃ H', Inv X pins σ H' { s with heap := h'.push o, toks := tk } ∧ Made H H' P h'.objs.size c' fd qual ent := by
  have hPt : s.heap.get? P = some (PySem.W.tabObj ps) := (I.hok P _ T.tab).1
  have hPs : P < s.heap.objs.size := Heap.lt_size hPt
  have hcP : c' ≠ P := Nat.ne_of_gt (Nat.lt_of_lt_of_le hPs hge)
  have hsz : s.heap.objs.size ≤ h'.objs.size := Nat.le_trans hge (Nat.le_of_lt hlt)
  have hfP : h'.objs.size ≠ P := Nat.ne_of_gt (Nat.lt_of_lt_of_le hPs hsz)
  have I1 : Inv X pins σ (upd H P (tabO P (ps ++ #[rawInt pos.line, rawInt pos.col, .ref c']))) { s with heap := h', toks := tk } := I.write (x := P) (e := P) (by rw [T.tab]; exact True.intro) (.inl rfl) (fun b u hb z => hx b u hb z) ⟨_, htb⟩ ⟨htb, ⟨_, htb⟩, fun h1 h2 g k => k _ g⟩
  have nc : (upd H P (tabO P (ps ++ #[rawInt pos.line, rawInt pos.col, .ref c']))) c' = none := by rw [upd_ne hcP]; exact I.hok.fresh hge
  have fT : FpOk X pins (upd H P (tabO P (ps ++ #[rawInt pos.line, rawInt pos.col, .ref c']))) c' := I.fpOk hge nc
  obtain ⟨c2, oc, vs, t, e2, hoc, hdt, hv⟩ := hrec
  cases e2
  have I2 := I1.adopt (o := codeO c' qual) fT.1 fT.2.1 (Nat.le_trans I.sz hge) fT.2.2.2.2.1 fT.2.2.2.2.2 ⟨⟨c', oc, vs, t, rfl, hoc, hdt, hv⟩, ⟨oc, hoc⟩, fun h1 h2 ⟨c3, o3, v3, t3, q1, q2, q3, q4⟩ k => by cases q1; exact ⟨c', o3, v3, t3, rfl, k _ q2, q3, q4⟩⟩
  have hg : (h'.push o).get? h'.objs.size = some o := Heap.get?_push_size _ hof
  have I3 := I2.laid (h' := h'.push o) (a := h'.objs.size) (t' := tk) (o := funO h'.objs.size fd) (fun b u z => Heap.get?_push_of_some _ z) (Nat.le_refl _) ⟨⟨o, hg, ho⟩, ⟨o, hg⟩, fun h1 h2 ⟨o1, g1, d1⟩ k => ⟨o1, k _ g1, d1⟩⟩
  have hfc : h'.objs.size ≠ c' := Nat.ne_of_gt hlt
  refine ⟨_, I3, ⟨upd_same, by rw [upd_ne (Ne.symm hfc)]; exact upd_same, ⟨_, by rw [upd_ne (Ne.symm hfP), upd_ne (Ne.symm hcP)]; exact upd_same, ?_, fun q hq => ?_⟩, fun b u e hb => ?_, I.hok.fresh hsz⟩⟩
  · rw [Array.toList_append]
    exact tri_snoc ⟨_, _, rfl⟩ ⟨_, _, rfl⟩ T.tri
  · rw [Array.toList_append]
    rcases T.ent q hq with z | ⟨c3, z, hc3⟩
    · have := among_none (p0 := pos) (c := .ref c') T.tri z
      by_cases y : pos.line = q.1.line ∧ pos.col = q.1.col
      · rw [if_pos y] at this
        refine .inr ⟨c', this, ?_⟩
        rw [upd_ne (Ne.symm hfc), upd_same, hent q hq y]
      · rw [if_neg y] at this
        exact .inl this
    · refine .inr ⟨c3, among_app T.tri z, ?_⟩
      have n1 : c3 ≠ h'.objs.size := ne_of_none hc3 (I.hok.fresh hsz)
      have n2 : c3 ≠ c' := ne_of_none hc3 (I.hok.fresh hge)
      have n3 : c3 ≠ P := fun y => by
        obtain ⟨⟨c4, o4, v4, t4, q1, q2, q3, q4⟩, _⟩ := I.hok c3 _ hc3
        cases q1
        rw [y, hPt] at q2
        cases q2
        have q3' : Data.fields ps = Data.fields v4 := q3
        cases q3'
        obtain ⟨i, u, e⟩ := tri_at T.tri (by rw [Array.getElem?_toList]; exact q4)
        cases e
      rw [upd_ne n1, upd_ne n2, upd_ne n3]
      exact hc3
  · rw [upd_ne (ne_of_none e (I.hok.fresh hsz)), upd_ne (ne_of_none e (I.hok.fresh hge)), upd_ne hb]
    exact e
end
section
variable {X : Cx} {pins : List (Addr × Obj)} {σ : St} {H : Hp} {s : Shared}
theorem Inv.made2 {h' : Heap} {tk : Nat} {P c' : Addr} {ps : Array Value} {ent : List (Pos × Str)} {qual : Str} {fd : FuncData} {o : Obj} (I : Inv X pins σ H s) (T : TabA H P ps ent) (hc : H c' = some (codeO c' qual))
    (hk : ∀ b o, s.heap.get? b = some o → h'.get? b = some o) (hsz : s.heap.objs.size ≤ h'.objs.size) (ho : o.data = .func fd) (hof : o.isFreed = false) :
    ∃ H', Inv X pins σ H' { s with heap := h'.push o, toks := tk } ∧ Made H H' P h'.objs.size c' fd qual ent := by
  have hg : (h'.push o).get? h'.objs.size = some o := Heap.get?_push_size _ hof
  have hn : H h'.objs.size = none := I.hok.fresh hsz
  have I3 := I.laid (h' := h'.push o) (a := h'.objs.size) (t' := tk) (o := funO h'.objs.size fd) (fun b u z => Heap.get?_push_of_some _ (hk b u z)) hsz ⟨⟨o, hg, ho⟩, ⟨o, hg⟩, fun h1 h2 ⟨o1, g1, d1⟩ k => ⟨o1, k _ g1, d1⟩⟩
  have up : ∀ b u, H b = some u → (upd H h'.objs.size (funO h'.objs.size fd)) b = some u := fun b u e => by rw [upd_ne (ne_of_none e hn)]; exact e
  exact ⟨_, I3, ⟨upd_same, up _ _ hc, ⟨ps, up _ _ T.tab, T.tri, fun q hq => (T.ent q hq).imp id fun ⟨c3, a, b⟩ => ⟨c3, a, up _ _ b⟩⟩, fun b u e _ => up _ _ e, hn⟩⟩
end
structure ClosOf (X : Cx) (scope : Scope) (cl : List (Str × Addr)) : Prop where
  sub : ∀ x c, cl.lookup x = some c → X.env.cells.lookup x = some c
  has : ∀ x, (x, NameKind.free) ∈ scope.names → ∃ c, cl.lookup x = some c
def tLam (X : Cx) (P : Addr) (ent : List (Pos × Str)) (scope : Scope) (qual : Str) (fdOf : List (Str × Addr) → Value → Value → FuncData) : TE := fun σ H Q => (∃ ps, TabA H P ps ent) ∧ ∀ f c' ct cl H', ClosOf X scope cl → Made H H' P f c' (fdOf cl (.ref c') ct) qual ent → Q (.ref f) H'
theorem pe_lam {X : Cx} {c P : Addr} {params : Arguments} {body : Expr} {scope : Scope} {pos : Pos} {ent : List (Pos × Str)} (hcode : X.env.code = .ref c) (C : PySem.W.CodeHd X.base c P) (B : Bm X.mg X.base)
    (hfr : ∀ n, (n, NameKind.free) ∈ scope.names → X.env.kindOf n = some .cell ∨ X.env.kindOf n = some .free) (hin : (pos, X.env.qual ++ "<lambda>") ∈ ent) (hent : ∀ q ∈ ent, pos.line = q.1.line ∧ pos.col = q.1.col → q.2 = X.env.qual ++ "<lambda>")
    (hdef : defaultsOf params X.env = ([], []) := by rfl) :
    PE X (.Lambda params body scope pos) (tLam X P ent scope (X.env.qual ++ "<lambda>") fun cl cd ct => PySem.W.kla_fn "<lambda>" (X.env.qual ++ "<lambda>") params body scope cl ((X.mg "__name__").getD .none) cd ct) := by
  intro pins s σ H Q I h
  obtain ⟨⟨ps, T⟩, q⟩ := h
  obtain ⟨cl, hcl, c1, c2⟩ := closure_of (env := X.env) (scope := scope) fun n hn => I.ok.has n (hfr n hn)
  have CL : ClosOf X scope cl := ⟨c1, c2⟩
  have hg : s.heap.Ns mainGlobals X.mg := I.mod.glob.keeps I.bk
  obtain ⟨hb, hgP⟩ := I.builtinsAt B T.tab
  have hP : s.heap.get? P = some (PySem.W.tabObj ps) := (I.hok P _ T.tab).1
  refine PySem.W.kla_eval hdef ?_
  rcases T.ent _ hin with hnf | ⟨c', hf, hc'⟩
  · refine PySem.W.kla_makeFunction (mg := X.mg) hcl I.ok.glob hg hcode (C.keeps I.bk) hP T.tri hnf hgP hb fun c' ctv h' tk hx hge hlt hrec htb => ?_
    obtain ⟨H', I', M⟩ := I.made1 (o := PySem.W.kla_obj "<lambda>" (X.env.qual ++ "<lambda>") params body scope cl ((X.mg "__name__").getD .none) c' ctv) (tk := tk) (tk2 := tk) T hent hx hge hlt hrec htb rfl rfl
    exact ⟨.ref h'.objs.size, H', I', rfl, q _ c' ctv cl H' CL M⟩
  · refine PySem.W.kla_makeFunctionHit (mg := X.mg) hcl I.ok.glob hg hcode (C.keeps I.bk) hP T.tri hf hb fun ctv h' tk hk hsz => ?_
    obtain ⟨H', I', M⟩ := I.made2 (o := PySem.W.kla_obj "<lambda>" (X.env.qual ++ "<lambda>") params body scope cl ((X.mg "__name__").getD .none) c' ctv) (tk := tk) T hc' hk hsz rfl rfl
    exact ⟨.ref h'.objs.size, H', I', rfl, q _ c' ctv cl H' CL M⟩
def tDef (X : Cx) (i : Nat) (P : Addr) (ent : List (Pos × Str)) (scope : Scope) (qual : Str) (fdOf : List (Str × Addr) → Value → Value → Value → FuncData) : TS := fun D σ H => (∃ ps, TabA H P ps ent) ∧ ∀ f c' ct doc cl H', ClosOf X scope cl → Made H H' P f c' (fdOf cl doc (.ref c') ct) qual ent → D.nx (σ.set i (some (.ref f))) H'
theorem ps_def {X : Cx} {i : Nat} {c P : Addr} {name : Str} {params : Arguments} {body : List Stmt} {scope : Scope} {pos : Pos} {ent : List (Pos × Str)} (hcode : X.env.code = .ref c) (C : PySem.W.CodeHd X.base c P) (B : Bm X.mg X.base)
    (hfr : ∀ n, (n, NameKind.free) ∈ scope.names → X.env.kindOf n = some .cell ∨ X.env.kindOf n = some .free) (hin : (pos, qualnameIn X.env name name) ∈ ent) (hent : ∀ q ∈ ent, pos.line = q.1.line ∧ pos.col = q.1.col → q.2 = qualnameIn X.env name name)
    (hN : X.N.Nodup) (hi : X.N[i]? = some name) (hx : Loc X.env.scope name) (hf : X.fn name = true ∨ X.env.scope.names.lookup name = some .local := by first | exact .inl rfl | exact .inr rfl | assumption)
    (hd0 : params.defaults = [] := by rfl) (hk0 : params.kw_defaults = [] := by rfl) (ha : annTrees params none X.env = [] := by rfl) :
    PS X (.FunctionDef name params body [] none [] scope none name pos) (tDef X i P ent scope (qualnameIn X.env name name) fun cl doc cd ct => PySem.W.fnX name (qualnameIn X.env name name) params body scope cl .none .none doc ((X.mg "__name__").getD .none) none cd ct) := by
  intro pins s σ H D I h
  obtain ⟨⟨ps, T⟩, q⟩ := h
  obtain ⟨cl, hcl, c1, c2⟩ := closure_of (env := X.env) (scope := scope) fun n hn => I.ok.has n (hfr n hn)
  have CL : ClosOf X scope cl := ⟨c1, c2⟩
  have hg : s.heap.Ns mainGlobals X.mg := I.mod.glob.keeps I.bk
  obtain ⟨hb, hgP⟩ := I.builtinsAt B T.tab
  have hP : s.heap.get? P = some (PySem.W.tabObj ps) := (I.hok P _ T.tab).1
  refine PySem.W.nestDef_K hd0 hk0 ha ?_
  rcases T.ent _ hin with hnf | ⟨c', hff, hc'⟩
  · refine PySem.W.makeFunction_K (mg := X.mg) hcl I.ok.glob hg hcode (C.keeps I.bk) hP T.tri hnf hgP hb fun c' ctv doc h' tk hx' hge hlt hrec htb => ?_
    obtain ⟨H', I', M⟩ := I.made1 (o := PySem.W.fnMade name (qualnameIn X.env name name) params body scope cl doc ((X.mg "__name__").getD .none) c' ctv) (tk := tk) (tk2 := tk) T hent hx' hge hlt hrec htb rfl rfl
    exact store_ok I' hN hi hx (v := .ref h'.objs.size) rfl (fun s' I'' => ⟨_, H', I'', q _ c' ctv doc cl H' CL M⟩) hf
  · refine PySem.W.makeFunction_hit (mg := X.mg) hcl I.ok.glob hg hcode (C.keeps I.bk) hP T.tri hff hb fun ctv doc h' tk hk hsz => ?_
    obtain ⟨H', I', M⟩ := I.made2 (o := PySem.W.fnMade name (qualnameIn X.env name name) params body scope cl doc ((X.mg "__name__").getD .none) c' ctv) (tk := tk) T hc' hk hsz rfl rfl
    exact store_ok I' hN hi hx (v := .ref h'.objs.size) rfl (fun s' I'' => ⟨_, H', I'', q _ c' ctv doc cl H' CL M⟩) hf
open Classical in
def offF (H : Hp) (fz : List Addr) : Hp := fun b => if b ∈ fz then none else H b
open Classical in
def onF (H H' : Hp) (fz : List Addr) : Hp := fun b => if b ∈ fz then H b else H' b
theorem off_in {H : Hp} {fz : List Addr} {b : Addr} (h : b ∈ fz) : offF H fz b = none := if_pos h
theorem off_out {H : Hp} {fz : List Addr} {b : Addr} (h : b ∉ fz) : offF H fz b = H b := if_neg h
theorem on_in {H H' : Hp} {fz : List Addr} {b : Addr} (h : b ∈ fz) : onF H H' fz b = H b := if_pos h
theorem on_out {H H' : Hp} {fz : List Addr} {b : Addr} (h : b ∉ fz) : onF H H' fz b = H' b := if_neg h
def Fz (H : Hp) (fz : List Addr) : Prop := ∀ a ∈ fz, ∃ φ, H a = some (.ext φ)
section
variable {P : Program} {w : World} {H H' : Hp} {h h' : Heap} {fz fs : List Addr}
theorem off_some {b : Addr} {o : HO} (e : offF H fz b = some o) : b ∉ fz ∧ H b = some o := by
  by_cases z : b ∈ fz
  · rw [off_in z] at e; cases e
  · rw [off_out z] at e; exact ⟨z, e⟩
theorem HOk.off (ok : HOk P w H h) (F : Fz H fz) : HOk P w (offF H fz) h := fun b o e => by
  obtain ⟨hb, e⟩ := off_some e
  have keep : ∀ (c : Addr) (u : HO), H c = some u → (∀ φ, u ≠ .ext φ) → offF H fz c = some u := fun c u q n => by
    rw [off_out fun z => by obtain ⟨φ, y⟩ := F c z; rw [q] at y; exact n φ (Option.some.inj y)]
    exact q
  exact (ok b o e).stay (fun c u _ q => q) (fun c q => keep c _ q (by intro φ y; cases y)) fun c xs q => keep c _ q (by intro φ y; cases y)
theorem Un.on (F : Fz H fz) (ok : HOk P w H h) (hfs : ∀ b ∈ fs, H b = none) (u : Un fs [] (offF H fz) H' h h') (ok' : HOk P w H' h') : Un fs [] H (onF H H' fz) h h' ∧ HOk P w (onF H H' fz) h' := by
  have there : ∀ a ∈ fz, ∃ o, h.get? a = some o ∧ h'.get? a = some o ∧ H' a = none := fun a ha => by
    obtain ⟨φ, e⟩ := F a ha
    obtain ⟨_, ⟨o, ho⟩, _⟩ := ok a _ e
    have nf : a ∉ fs := fun z => by rw [hfs a z] at e; cases e
    exact ⟨o, ho, u.keep a o ho (off_in ha) nf (by simp), u.free a o ho (off_in ha) (by simp)⟩
  have off : ∀ {b : Addr}, H b = none → offF H fz b = none := fun {b} e => by
    by_cases z : b ∈ fz
    · exact off_in z
    · rw [off_out z]; exact e
  have nin : ∀ {b : Addr} {o : HO}, H b = some o → (∀ φ, o ≠ .ext φ) → b ∉ fz := fun {b o} e n z => by
    obtain ⟨φ, y⟩ := F b z
    rw [e] at y
    exact n φ (Option.some.inj y)
  refine ⟨⟨fun b o e n hb hx => u.keep b o e (off n) hb hx, fun b o e n hb hx => u.slot b o e (off n) hb hx, fun b o e n hx => ?_, u.there, fun b xs e => ?_, fun b o v e => ?_, fun b ps e => ?_⟩, fun b o e => ?_⟩
  · rw [on_out fun z => by obtain ⟨φ, y⟩ := F b z; rw [n] at y; cases y]
    exact u.free b o e (off n) hx
  · have z := nin e (by intro φ y; cases y)
    rw [on_out z]
    exact u.tups b xs (by rw [off_out z]; exact e)
  · have z := nin e (by intro φ y; cases y)
    rw [on_out z]
    exact u.frzs b o v (by rw [off_out z]; exact e)
  · have z := nin e (by intro φ y; cases y)
    rw [on_out z]
    exact u.tbls b ps (by rw [off_out z]; exact e)
  · by_cases z : b ∈ fz
    · rw [on_in z] at e
      obtain ⟨φ, y⟩ := F b z
      rw [e] at y
      cases y
      obtain ⟨g1, _, g3⟩ := ok b _ e
      obtain ⟨o, q1, q2, _⟩ := there b z
      exact ⟨g3 h h' g1 fun o' q => by rw [q1] at q; cases q; exact q2, ⟨o, q2⟩, g3⟩
    · rw [on_out z] at e
      have keep : ∀ (c : Addr) (v : HO), H' c = some v → onF H H' fz c = some v := fun c v q => by
        rw [on_out fun y => by obtain ⟨_, _, _, n⟩ := there c y; rw [n] at q; cases q]
        exact q
      exact (ok' b o e).stay (fun c v _ q => q) (fun c q => keep c _ q) fun c xs q => keep c _ q
end
section
variable {X : Cx} {pins : List (Addr × Obj)} {σ : St} {H : Hp} {s : Shared} {fz : List Addr}
open Classical in
theorem Inv.env0G (I : Inv X pins σ H s) (F : Fz H fz) :
    ∃ base' : Heap, Env0 X.prog X.w X.K X.mg base' X.A X.stack s (offF H fz) ∧ (∀ b o, X.base.get? b = some o → base'.get? b = some o) ∧ ∀ a ∈ fz, base'.get? a = s.heap.get? a := by
  let HX : Hp := fun b => if (X.base.get? b).isSome = true ∨ b ∈ fz then none else some (.own 0)
  have up : ∀ b o, X.base.get? b = some o → (hidT s.heap HX).get? b = some o := fun b o e => hidT_get (I.bk b o e) (if_pos (.inl (by rw [e]; rfl)))
  have only : ∀ b o, (hidT s.heap HX).get? b = some o → s.heap.get? b = some o ∧ ((∃ u, X.base.get? b = some u) ∨ b ∈ fz) := fun b o e => by
    obtain ⟨e1, e2⟩ := of_hidT e
    refine ⟨e1, ?_⟩
    by_cases z : (X.base.get? b).isSome = true ∨ b ∈ fz
    · rcases z with z | z
      · exact .inl (Option.isSome_iff_exists.mp z)
      · exact .inr z
    · have : HX b = some (.own 0) := if_neg z
      rw [this] at e2
      cases e2
  have offn : ∀ {b : Addr}, H b = none → offF H fz b = none := fun {b} e => by
    by_cases z : b ∈ fz
    · exact off_in z
    · rw [off_out z]; exact e
  refine ⟨hidT s.heap HX, ⟨I.ok.frames, ⟨I.mod.kin.keeps up, I.mod.glob.keeps up, (let ⟨mb, h1, h2⟩ := I.mod.blt; ⟨mb, h1.keeps up, h2⟩), I.mod.nolimit.keeps up⟩, fun b o e => ?_, Nat.le_of_eq (hidT_size _ _), ?_, fun b hb => offn (I.stkFree b hb), I.hok.off F, I.bare⟩, up, fun a ha => ?_⟩
  · obtain ⟨e1, z⟩ := only b o e
    rcases z with ⟨u, z⟩ | z
    · exact ⟨e1, offn (I.bs b u z).2⟩
    · exact ⟨e1, off_in z⟩
  · have all : ∀ l : List Env, (∀ b ∈ frs l, H b = none) → s.heap.FunFrames X.base l → s.heap.FunFrames (hidT s.heap HX) l := by
      intro l
      induction l with
      | nil => intro _ _; trivial
      | cons env r ih =>
        intro hfl hl
        obtain ⟨hk, ⟨L, o, hf, hn, ho, hdd⟩, hr⟩ := hl
        refine ⟨hk, ⟨L, o, hf, ?_, ho, hdd⟩, ih (fun b hb => hfl b (by unfold frs; rw [List.filterMap_cons, hf]; exact List.mem_cons_of_mem _ hb)) hr⟩
        cases q : (hidT s.heap HX).get? L with
        | none => rfl
        | some u =>
          obtain ⟨e1, z⟩ := only L u q
          rcases z with ⟨v, z⟩ | z
          · rw [hn] at z
            cases z
          · obtain ⟨φ, y⟩ := F L z
            rw [hfl L (by unfold frs; rw [List.filterMap_cons, hf]; exact List.mem_cons_self)] at y
            cases y
    exact all X.stack I.stkFree I.stack
  · obtain ⟨φ, e⟩ := F a ha
    obtain ⟨_, ⟨o, ho⟩, _⟩ := I.hok a _ e
    rw [ho]
    exact hidT_get ho (if_pos (.inr ha))
end
theorem law_callT {P : Program} {w : World} {K : PySem.W.Frag} {mg mb : Str → Option Value} {CX : CXT} {k : Nat} {fa a : Addr} {fd : FuncData} {x : Str} {sp : Sp} {s₁ : Shared} {vs : List Value} {ns : List Int} {tabs : List (Addr × Addr)}
    (KX : K.In s₁.heap) (hns : s₁.heap.Ns mainGlobals mg) (hb : s₁.heap.Ns builtinsNs mb) (hbb : ∀ x : Str, x ≠ "__name__" → mb x = bootBuiltins x) (hlim : s₁.heap.NoLimit) (hbm : Bm mg s₁.heap) (hg : s₁.gens = #[])
    (ha : s₁.heap.get? a = some { cls := .type "list", data := .seq vs.toArray }) (hi : IntsAre vs ns) (hl : ns.length ≤ sizeLine) (hr : Room k callerA)
    (htab : ∀ q ∈ tabs, PySem.W.CodeHd s₁.heap q.1 q.2 ∧ s₁.heap.get? q.2 = some (PySem.W.tabObj #[]) ∧ K.lookup q.2 = none)
    (F : ∀ base : Heap, K.In base → base.Ns mainGlobals mg → Bm mg base → FnOk P w K mg base CX k fa fd [x] sp) (hbind : ∀ (s : Shared) (u : Value), BindsTo s fd ⟨[u], []⟩ [(x, u)])
    (hsp : ∀ H : Hp, SqL K H a (ns.map V.int) → (∀ q ∈ tabs, H q.2 = some (tabO q.2 #[])) → sp [.ref a] H (fun v H' => v = .bl true ∧ ∀ q ∈ tabs, ∃ ps, H' q.2 = some (tabO q.2 ps)) fun _ _ _ => False)
    (hCX : ∀ H e s', CX.f [] H s₁ (fun _ _ _ => False) e s' → False) :
    codeAny (model P w) callerA (.call (.ref fa) ⟨[.ref a], []⟩) (fun r s' => r = .ok (.ret (.bool true)) ∧ OldK s₁.heap s'.heap ∧ s'.os = s₁.os ∧ AllBare s'.gens) s₁ := by
  have rv := vals_ints hi
  have lenV := hi.length
  have core : ∀ H : Hp, SqL K H a (ns.map V.int) → HOk P w H s₁.heap → (∀ b, H b ≠ none → b = a ∨ ∃ q ∈ tabs, b = q.2) → (∀ b, H b ≠ none → K.lookup b = none) → (∀ q ∈ tabs, H q.2 = some (tabO q.2 #[])) → (∀ u, H a = some u → ∃ o xs, u = .frz o (.lst xs)) →
      codeAny (model P w) callerA (.call (.ref fa) ⟨[.ref a], []⟩) (fun r s' => r = .ok (.ret (.bool true)) ∧ OldK s₁.heap s'.heap ∧ s'.os = s₁.os ∧ AllBare s'.gens) s₁ := by
    intro H hS hok hA hK hT hF
    have base_of : ∀ {b : Addr} {o : Obj}, s₁.heap.get? b = some o → H b = none → (hidT s₁.heap H).get? b = some o := fun e n => hidT_get e n
    have kinds : ∀ {b : Addr} {o : Obj}, s₁.heap.get? b = some o → H b ≠ none → o = { cls := .type "list", data := .seq vs.toArray } ∨ o = PySem.W.tabObj #[] := fun {b o} e n => by
      rcases hA b n with rfl | ⟨q, hq, rfl⟩
      · rw [ha] at e; cases e; exact .inl rfl
      · rw [(htab q hq).2.1] at e; cases e; exact .inr rfl
    have noA : ∀ {b : Addr} {o : Obj}, s₁.heap.get? b = some o → o ≠ { cls := .type "list", data := .seq vs.toArray } → o ≠ PySem.W.tabObj #[] → H b = none := fun {b o} e d1 d2 => by
      cases q : H b with
      | none => rfl
      | some u => exact ((kinds e (by rw [q]; exact nofun)).elim d1 d2).elim
    have nsK : ∀ {b : Addr} {m : Str → Option Value}, s₁.heap.Ns b m → (hidT s₁.heap H).Ns b m := fun {b m} ⟨o, es, ep, e, d, r⟩ => ⟨o, es, ep, base_of e (noA e (fun z => by rw [z] at d; cases d) (fun z => by rw [z] at d; cases d)), d, r⟩
    have hKb : K.In (hidT s₁.heap H) := fun b o e => base_of (KX b o e) (by
      cases q : H b with
      | none => rfl
      | some u => rw [hK b (by rw [q]; exact nofun)] at e; cases e)
    have hM : Mod K mg (hidT s₁.heap H) := ⟨hKb, nsK hns, ⟨mb, nsK hb, hbb⟩, let ⟨mc, h1, h2⟩ := hlim; ⟨mc, nsK h1, h2⟩⟩
    have hB : Bm mg (hidT s₁.heap H) := let ⟨bm, ob, b1, b2, b3, b4, b5, b6⟩ := hbm; ⟨bm, ob, b1, b2, base_of b3 (noA b3 (fun z => by rw [z] at b4; exact absurd b4 (show ¬ Value.type "list" = Value.type "module" by decide)) (fun z => by rw [z] at b4; cases b4)), b4, b5, b6⟩
    have e0 : Env0 P w K mg (hidT s₁.heap H) callerA [] s₁ H := ⟨rfl, hM, fun b o e => of_hidT e, Nat.le_of_eq (hidT_size _ _), trivial, fun b hb => absurd (show b ∈ ([] : List Addr) from hb) (by simp), hok, .of_eq hg⟩
    refine codeAny_mono ((F _ hKb (nsK hns) hB).run callerA [] s₁ H ⟨[.ref a], []⟩ [.ref a] [.ref a] _ _ ⟨hr, fun _ => rfl, .inl rfl⟩ e0 (hbind s₁ (.ref a)) (.cons rfl .nil) (hsp H hS hT)) fun r s' h => ?_
    cases r with
    | error e => exact (hCX H e s' h).elim
    | ok fl =>
      cases fl with
      | next => exact False.elim h
      | brk => exact False.elim h
      | cont => exact False.elim h
      | ret u =>
        obtain ⟨v, H', os, bare, un, hok', r', q', qt⟩ := h
        subst q'
        obtain rfl : u = Value.bool true := r'
        have keep : ∀ b o, s₁.heap.get? b = some o → (∀ q ∈ tabs, b ≠ q.2) → s'.heap.get? b = some o := fun b o e nt => by
          cases q : H b with
          | none => exact un.keep b o e q (by intro z; exact absurd (show b ∈ ([] : List Addr) from z) (by simp)) (by simp)
          | some u =>
            rcases hA b (by rw [q]; exact nofun) with rfl | ⟨q2, hq2, z⟩
            · obtain ⟨ob, xs, rfl⟩ := hF u q
              have z2 := un.frzs _ ob _ q
              obtain ⟨e1, _⟩ := hok _ _ q
              obtain ⟨e2, _⟩ := hok' _ _ z2
              rw [e] at e1; cases e1
              exact e2
            · exact absurd z (nt q2 hq2)
        have grown : ∀ q ∈ tabs, ∃ ps, s'.heap.get? q.2 = some (PySem.W.tabObj ps) := fun q hq => let ⟨ps, e⟩ := qt q hq; ⟨ps, (hok' _ _ e).1⟩
        refine ⟨rfl, ⟨fun b o e => ?_, fun b o e => ?_⟩, os, bare⟩
        · by_cases z : ∃ q ∈ tabs, b = q.2
          · obtain ⟨q, hq, rfl⟩ := z
            obtain ⟨ps, hP⟩ := grown q hq
            have e2 := (htab q hq).2.1
            rw [e] at e2
            cases e2
            exact .inr (.inl ⟨((htab q hq).1.tab (htab q hq).2.1).isCodeTable, rfl, #[], ps, rfl, by rw [Array.empty_append]; exact hP⟩)
          · exact .inl (keep b o e fun q hq y => z ⟨q, hq, y⟩)
        · by_cases z : ∃ q ∈ tabs, b = q.2
          · obtain ⟨q, hq, rfl⟩ := z
            obtain ⟨ps, hP⟩ := grown q hq
            exact ⟨_, hP⟩
          · exact ⟨o, keep b o e fun q hq y => z ⟨q, hq, y⟩⟩
  have hat : ∀ q ∈ tabs, q.2 ≠ a := fun q hq z => by
    have := (htab q hq).2.1
    rw [z, ha] at this
    cases this
  have tok : ∀ q ∈ tabs, ∀ H : Hp, ObjOk P w H s₁.heap q.2 (tabO q.2 #[]) := fun q hq H => ⟨(htab q hq).2.1, ⟨_, (htab q hq).2.1⟩, fun h1 h2 g kk => kk _ g⟩
  open Classical in
  cases hk : K.lookup a with
  | some o =>
    have e := KX a o hk
    rw [ha] at e
    cases e
    have at_ : ∀ q ∈ tabs, (fun b : Addr => if ∃ q ∈ tabs, b = q.2 then some (tabO b #[]) else none) q.2 = some (tabO q.2 #[]) := fun q hq => if_pos ⟨q, hq, rfl⟩
    refine core (fun b => if ∃ q ∈ tabs, b = q.2 then some (tabO b #[]) else none) (.inr ⟨_, vs.toArray, _, hk, rfl, rfl, rfl, by rw [List.size_toArray, lenV]; exact hl, by simpa using rv⟩) (fun b u z => ?_) (fun b z => ?_) (fun b z => ?_) at_ (fun u z => ?_)
    · by_cases hb : ∃ q ∈ tabs, b = q.2
      · have z' := (if_pos hb).symm.trans z
        obtain ⟨q, hq, rfl⟩ := hb
        cases z'
        exact tok q hq _
      · have z' := (if_neg hb).symm.trans z
        cases z'
    · by_cases hb : ∃ q ∈ tabs, b = q.2
      · exact .inr hb
      · exact absurd (if_neg hb) z
    · by_cases hb : ∃ q ∈ tabs, b = q.2
      · obtain ⟨q, hq, rfl⟩ := hb
        exact (htab q hq).2.2
      · exact absurd (if_neg hb) z
    · have hb : ¬ ∃ q ∈ tabs, a = q.2 := fun ⟨q, hq, y⟩ => hat q hq y.symm
      have z' := (if_neg hb).symm.trans z
      cases z'
  | none =>
    have at_ : ∀ q ∈ tabs, (fun b : Addr => if b = a then some (HO.frz { cls := .type "list", data := .seq vs.toArray } (.lst (ns.map V.int))) else if ∃ q ∈ tabs, b = q.2 then some (tabO b #[]) else none) q.2 = some (tabO q.2 #[]) := fun q hq => by
      show (if q.2 = a then _ else _) = _
      rw [if_neg (hat q hq), if_pos ⟨q, hq, rfl⟩]
    refine core (fun b => if b = a then some (HO.frz { cls := .type "list", data := .seq vs.toArray } (.lst (ns.map V.int))) else if ∃ q ∈ tabs, b = q.2 then some (tabO b #[]) else none) (.inl (.inr ⟨{ cls := .type "list", data := .seq vs.toArray }, if_pos rfl⟩)) (fun b u z => ?_) (fun b z => ?_) (fun b z => ?_) at_ (fun u z => ?_)
    · by_cases hb : b = a
      · have z' := (if_pos hb).symm.trans z
        cases z'
        subst hb
        exact ⟨ha, by rw [List.length_map]; exact hl, vs, _, rv, ha⟩
      · have z1 := (if_neg hb).symm.trans z
        by_cases ht : ∃ q ∈ tabs, b = q.2
        · have z' := (if_pos ht).symm.trans z1
          obtain ⟨q, hq, rfl⟩ := ht
          cases z'
          exact tok q hq _
        · have z' := (if_neg ht).symm.trans z1
          cases z'
    · by_cases hb : b = a
      · exact .inl hb
      · by_cases ht : ∃ q ∈ tabs, b = q.2
        · exact .inr ht
        · exact absurd ((if_neg hb).trans (if_neg ht)) z
    · by_cases hb : b = a
      · rw [hb]; exact hk
      · by_cases ht : ∃ q ∈ tabs, b = q.2
        · obtain ⟨q, hq, rfl⟩ := ht
          exact (htab q hq).2.2
        · exact absurd ((if_neg hb).trans (if_neg ht)) z
    · have z' := (if_pos rfl).symm.trans z
      cases z'
      exact ⟨_, _, rfl⟩
theorem walk_ofT {l : PySem.W.OpenLaw} {n k : Nat} {q : Program} {loose : List Str} {XP : (Str → Option Value) → Heap → Prop} {YP : World → Heap → Prop} {d : DefRec} {K : Params → PySem.W.Frag} {CX : World → CXT} {sp : World → Sp} {x : Str} {tabs : Params → List (Addr × Addr)}
    (hn : l.most = some n) (hn2 : n ≤ sizeLine) (hdf : d.params.defaults = []) (hr : Room k callerA)
    (hY : ∀ (w : World) (h : Heap), YP w h → (K w.params).In h ∧ ∀ q ∈ tabs w.params, PySem.W.CodeHd h q.1 q.2 ∧ h.get? q.2 = some (PySem.W.tabObj #[]) ∧ (K w.params).lookup q.2 = none)
    (F : ∀ (w : World) (mg : Str → Option Value) (fa : Addr) (h : Heap), (K w.params).In h → h.Ns mainGlobals mg → mg d.name = some (.ref fa) →
      ∃ fd : FuncData, (∀ (s : Shared) (u : Value), BindsTo s fd ⟨[u], []⟩ [(x, u)]) ∧
        ∀ base : Heap, (K w.params).In base → base.Ns mainGlobals mg → Bm mg base → FnOk l.prog w (K w.params) mg base (CX w) k fa fd [x] (sp w))
    (hsp : ∀ (w : World) (H : Hp) (a : Addr) (ns : List Int), ns.length ≤ n → SqL (K w.params) H a (ns.map V.int) → (∀ q ∈ tabs w.params, H q.2 = some (tabO q.2 #[])) → sp w [.ref a] H (fun v H' => v = .bl true ∧ ∀ q ∈ tabs w.params, ∃ ps, H' q.2 = some (tabO q.2 ps)) fun _ _ _ => False)
    (hCX : ∀ (w : World) (H : Hp) (s : Shared) (e : Value) (s' : Shared), (CX w).f [] H s (fun _ _ _ => False) e s' → False) :
    PySem.W.WalkO q loose XP YP l.row.toRowW d [] (fun f vs => PySem.call f vs) := by
  refine Att.attach_call hn hdf fun w s₀ s₁ mg mb fa o pm cd doc a vs ns G Y ho hd hcd hmg hobj hints hlen hg => ?_
  obtain ⟨KX, ht⟩ := hY w _ Y
  obtain ⟨fd, hb, hF⟩ := F w mg fa _ KX G.T.g hmg
  exact law_callT KX G.T.g G.T.b G.T.builtins G.T.nolimit G.T.bmain hg hobj hints (Nat.le_trans hlen hn2) hr ht hF hb (fun H hS hT => hsp w H a ns hlen hS hT) fun H e s' => hCX w H s₁ e s'
end L2
namespace Bk
open PySem L2
def top (i : Nat) : Stmt := PySem.Challenge.pw_elderline_k09_rows_run.main.body.getD i (.Pass ⟨0, 0, 0, 0⟩)
abbrev sWhole : Stmt := top 7
abbrev sAmount : Stmt := top 8
abbrev sCheck : Stmt := top 9
abbrev sReck : Stmt := top 11
abbrev sChanged : Stmt := top 12
abbrev sFirst : Stmt := top 15
abbrev sRun : Stmt := top 17
abbrev sWRun : Stmt := top 20
abbrev sWRow : Stmt := top 21
abbrev sWStep : Stmt := top 22
abbrev sUna : Stmt := top 23
abbrev sWEi : Stmt := top 24
abbrev sCell : Stmt := top 26
abbrev sAmtBy : Stmt := top 27
abbrev sMixed : Stmt := top 28
abbrev sLead : Stmt := top 29
abbrev sStepBy : Stmt := top 30
abbrev sRowsBy : Stmt := top 31
abbrev sLBehind : Stmt := top 32
abbrev sDone : Stmt := top 33
abbrev sDue : Stmt := top 34
abbrev sRefusal : Stmt := top 35
abbrev sCalled : Stmt := top 36
abbrev sTold : Stmt := top 37
abbrev sCountBy : Stmt := top 38
abbrev sNumBy : Stmt := top 39
abbrev sBetw : Stmt := top 40
abbrev sAskd : Stmt := top 41
abbrev sTBack : Stmt := top 42
abbrev sLaw : Stmt := top 43
abbrev sInitT : Stmt := inClass (top 14) 0
abbrev sEnter : Stmt := inClass (top 14) 1
abbrev sBack : Stmt := inClass (top 14) 2
abbrev sInitR : Stmt := inClass (top 18) 0
abbrev sEntered : Stmt := inClass (top 18) 1
abbrev sBehind : Stmt := inClass (top 18) 2
abbrev sEithR : Stmt := inClass (top 18) 3
end Bk
namespace L2
def KeepT (H H' : Hp) : Prop := ∀ b xs, H b = some (.tup xs) → H' b = some (.tup xs)
theorem Same.keepT {H H' : Hp} (h : Same H H') : KeepT H H' := fun b xs e => h _ _ e
end L2
namespace Bk
open PySem L2 Ah
structure Txt (mg : Str → Option Value) : Prop where
  len : mg "len" = none
  range : mg "range" = none
  isi : mg "isinstance" = none
  list : mg "list" = none
  str : mg "str" = none
  all : mg "all" = none
  tup : mg "tuple" = none
  int : mg "int" = none
  bool : mg "bool" = none
theorem same_new {H : Hp} {p : Addr} (h : H p = none) (o : HO) : Same H (upd H p o) := fun b u q => by rw [upd_ne (ne_of_none q h)]; exact q
theorem kit_self (K : PySem.W.Frag) (n : String) : PySem.W.kitOne K (.type n) (.type n) = some true := by
  unfold PySem.W.kitOne
  exact if_pos (by simp)
theorem de_str {a b : Str} (h : decide (V.str a = V.str b) = true) : a = b := V.str.inj (of_decide_eq_true h)
theorem dn_str {a b : Str} (h : ¬ decide (V.str a = V.str b) = true) : ¬ a = b := fun e => h (by rw [e]; exact decide_eq_true rfl)
def LdAt (H : Hp) (v : V) : Ld → Prop
  | .none => ∃ a, v = .ref a ∧ H a = some (.tup [.str "none"])
  | .go p => ∃ a, v = .ref a ∧ H a = some (.tup [.str "go", .int (p : Nat)])
theorem LdAt.keep {H H' : Hp} (k : KeepT H H') {v : V} : ∀ {l : Ld}, LdAt H v l → LdAt H' v l
  | .none, ⟨a, e, h⟩ => ⟨a, e, k _ _ h⟩
  | .go _, ⟨a, e, h⟩ => ⟨a, e, k _ _ h⟩
theorem at0 (x : V) (r : List V) : atI (x :: r) 0 = some x := atI_nat (j := 0) rfl
theorem at1 (x y : V) (r : List V) : atI (x :: y :: r) 1 = some y := atI_nat (j := 1) rfl
theorem at2 (x y z : V) (r : List V) : atI (x :: y :: z :: r) 2 = some z := atI_nat (j := 2) rfl
def spCell (K : PySem.W.Frag) : Sp := fun vs H Q _ => ∃ (a : Addr) (ns : List Int) (k : Nat), vs = [.ref a, .int (k : Int)] ∧ SqL K H a (ns.map V.int) ∧ Q (.int (ns.getD k 0)) H
section
variable {P : Program} {w : World} {K : PySem.W.Frag} {mg : Str → Option Value} {base : Heap} {f : Addr} {fd : FuncData}
theorem scCell : FnScope ["_law_script", "_law_k"] ["_law_script", "_law_k"] (defScope sCell) := ⟨rfl, rfl, rfl, by decide +kernel, rfl, by decide +kernel, by decide +kernel⟩
theorem ok_cell (F : Fun K "_law_cell_at" "_law_cell_at" sCell f fd) (T : Txt mg) : FnOk P w K mg base CX0 1 f fd ["_law_script", "_law_k"] (spCell K) := by
  refine F.ok scCell (fun vs H Q E h => ?_) (fun cdv A outer s H vs Q E hr h => ?_)
  · obtain ⟨a, ns, k, rfl, _⟩ := h
    rfl
  obtain ⟨a, ns, k, rfl, S, q⟩ := h
  refine ⟨_, pss_cons (ps_if (pt_cmpR op_lt (pv 1) (pe_callB call_len_seq rfl T.len PySem.boot_len (pa_cons (pv 0) pa_nil)) (nomark _)) (pss_one (ps_ret (pe_ix ix_list (pv 0) (pv 1) (fun _ _ => rfl)))) pss_nil) (pss_one (ps_ret pe_int)), ?_⟩
  refine ⟨_, rfl, _, rfl, a, _, rfl, .inl S, _, _, rfl, rfl, _, rfl, ?_⟩
  refine ite2 (fun c => ?_) (fun c => ?_)
  · have c' : (k : Int) < ((ns.map V.int).length : Int) := of_decide_eq_true c
    rw [List.length_map] at c'
    have c2 : k < ns.length := by omega
    refine ⟨_, rfl, _, rfl, a, _, _, _, rfl, rfl, S, atI_nat (v := .int ns[k]) (by rw [List.getElem?_map, List.getElem?_eq_getElem c2] <;> rfl), ?_⟩
    have e : ns.getD k 0 = ns[k] := by rw [List.getD_eq_getElem?_getD, List.getElem?_eq_getElem c2]; rfl
    rw [e] at q
    exact q
  · have c' : ¬ (k : Int) < ((ns.map V.int).length : Int) := of_decide_eq_false (Bool.eq_false_iff.mpr c)
    rw [List.length_map] at c'
    have e : ns.getD k 0 = 0 := by rw [List.getD_eq_getElem?_getD, List.getElem?_eq_none (by omega)]; rfl
    rw [e] at q
    exact q
end
end Bk
namespace L2
open PySem PySem.Spec PyProof.Rows PySem.W
structure XCls (K : PySem.W.Frag) (C : Addr) : Prop where
  cs : (clsIn K C).isSome = true
  ga : findIn K (.ref C) "__getattribute__" = some (some (.builtin "BaseException.__getattribute__"))
  gn : findIn K (.ref C) "__getattr__" = some none
  be : mroIn K C (.type "BaseException") = some true
  ca : findIn K (.ref C) "__class__" = some (some (.builtin "object.__class__"))
  sp : specialIn K (.builtin "object.__class__") "__get__" = some (some (.builtin "getset_descriptor.__get__"))
  tk : takesIn K (.builtin "object.__class__") = some true
  ob : mroIn K C (.type "object") = some true
section
variable {prog : Program} {w : World} {A : Around} {E : Value → Shared → Prop} {s : Shared} {K : PySem.W.Frag} {C x : Addr} {ox : Obj} {odo : Option Obj}
theorem exc_find (F : XCls K C) : findObj K C odo "__class__" = some (.bind (.builtin "getset_descriptor.__get__") (.builtin "object.__class__")) := by
  obtain ⟨cd, hc⟩ := Option.isSome_iff_exists.mp F.cs
  unfold findObj
  rw [hc, Option.bind_some, F.ca, Option.bind_some]
  simp [F.sp, F.tk]
theorem exc_class {Q : Option Value → Shared → Prop} (X : K.In s.heap) (F : XCls K C) (I : InstAt s.heap x ox C odo) (h : Q (some (.ref C)) { s with toks := s.toks + 1 }) : wpAny (model prog w) A (getAttr? (.ref x) "__class__") Q E s := by
  obtain ⟨hp, g, d, t, os⟩ := s
  have L0 := I.type (M := model prog w)
  have L1 := looks_findIn (M := model prog w) X F.ga
  have L2 := looks_findIn (M := model prog w) X F.gn
  have FB := PySem.F.attr_ValueError
  have f3 := FB.ga.bind (.ref x)
  have L4 := looks_find (M := model prog w) X I (exc_find F)
  have sb : Looks (model prog w) hp (isInstance (.ref x) (.type "BaseException")) true := L0.andThen (looks_mroIn X F.be)
  have hx0 : ∀ expr : Bool, (expr && onTheHeap (Value.builtin "BaseException.__getattribute__")) = false := fun expr => by cases expr <;> rfl
  have hx2 : (Value.builtin "BaseException.__getattribute__" == Value.builtin "object.__getattribute__") = false := by decide +kernel
  have hx1 : (onTheHeap (Value.ref C) && Value.builtin "BaseException.__getattribute__" == Value.builtin "object.__getattribute__") = false := by rw [hx2]; rfl
  unfold getAttr? getAttrBy? getAttrBy
  refine wpAny_bind (wpAny_mkText (wpAny_bind (wpAny_attempt (wpAny_holding (wpAny_bind (L0.at (wpAny_bind (L1.at ?_))))))))
  dsimp only
  rw [hx1, if_neg (by decide)]
  unfold getAttrByItsOwn
  refine wpAny_bind (L2.at (wpAny_bind (wpAny_attempt (wpAny_holding ?_))))
  unfold callGetattribute
  rw [hx0, if_neg (by decide)]
  unfold boundAndCalled
  rw [f3]
  refine wpAny_bind (wpAny_pure (wpAny_call ?_))
  refine codeAny_call_builtin FB.ga.plain PySem.F.entry_bexc_ga (@check_slot (model prog w) _ _ ⟨hp, g, d, t + 1, os⟩ "BaseException.__getattribute__" "BaseException" "__getattribute__" (.ref x) [.str "__class__" t] [] _ (by decide +kernel) (by decide +kernel) sb (PySem.F.args_bexc_ga _ _) ?_)
  refine wpAny_bind (wpAny_pure (wpAny_bind (wpAny_pure (wpAny_bind (L0.at (wpAny_bind (L4.at ?_)))))))
  show wpAny _ _ (holding [Value.builtin "object.__class__"] (call (.builtin "getset_descriptor.__get__") [.builtin "object.__class__", .ref x, .ref C]) >>= ret) _ _ _
  refine wpAny_bind (wpAny_holding (wpAny_call (class_get (s := ⟨hp, g, d, t + 1, os⟩) (ox := ox) (od := odo) X I F.ob ?_)))
  refine wpAny_pure ?_
  show wpAny _ _ (handedOut (.ref C)) _ _ _
  rw [handedOut_of rfl]
  exact wpAny_pure (wpAny_pure h)
theorem exc_cls {cd : ClassData} (hc : clsIn K C = some cd) : ∃ o, K.lookup C = some o ∧ ∃ z, o.data = .cls z := by
  unfold clsIn at hc
  split at hc
  · rename_i c' d' cd' sl' ho
    exact ⟨_, ho, _, rfl⟩
  · cases hc
theorem kitx_exc (F : XCls K C) : KitX K (.ref x) (.ref C) (fun h => ∃ oe odo, InstAt h x oe C odo) where
  ty := fun _ _ _ ⟨_, _, I⟩ => I.type
  it := fun _ _ X _ => by
    obtain ⟨cd, hc⟩ := Option.isSome_iff_exists.mp F.cs
    obtain ⟨o, ho, z, hz⟩ := exc_cls hc
    intro A' Q' E' s' k q
    unfold isType loadHead
    refine wpAny_bind (wpAny_loadPart (k _ _ (X _ _ ho)) (wpAny_pure ?_))
    rw [hz]
    exact q
  ne := fun h tp dd its n sl X htp => by
    obtain ⟨cd, hc⟩ := Option.isSome_iff_exists.mp F.cs
    obtain ⟨o, ho, z, hz⟩ := exc_cls hc
    refine Bool.eq_false_iff.mpr fun q => ?_
    have e : C = tp := Value.ref.inj (beq_iff_eq.mp q)
    subst e
    have y := (X _ _ ho).symm.trans htp
    cases y
    cases hz
  ca := fun X ⟨_, _, I⟩ k => exc_class X F I k
end
def rIsiB (K : PySem.W.Frag) : List V → Hp → VK → Prop := fun xs H Q => ∃ x C dx c cv b, xs = [.ref x, cv] ∧ clsV c = some cv ∧ H x = some (ExO x C dx) ∧ (dx = none ∨ ∃ D fs, dx = some D ∧ H D = some (.xd fs)) ∧ XCls K C ∧ PySem.W.kitOne K (.ref C) c = some b ∧ Q (.bl b) H
theorem call_isiB {X : Cx} {K : PySem.W.Frag} (hK : X.K = K := by rfl) : CallR X (.builtin "isinstance") (rIsiB K) := by
  subst hK
  intro pins s σ H xs us Q I r h
  obtain ⟨x, C, dx, c, cv, b, rfl, hc, hx, hd, F, e, q⟩ := h
  obtain ⟨u, w', rfl, ru, rw'⟩ := vals2 r
  cases (show u = Value.ref x from ru)
  have hw : w' = c := by
    cases c <;> try cases hc
    · exact rw'
    · exact rw'
  subst hw
  obtain ⟨oe, vs, g, gc, gd, gf⟩ := exO_at I.hok hx
  have J : ∃ oe odo, InstAt s.heap x oe C odo := by
    rcases hd with rfl | ⟨D, fs, rfl, ed⟩
    · exact ⟨oe, none, ⟨g, gc, by unfold notCls; rw [gf], by rw [gd]; exact True.intro⟩⟩
    · obtain ⟨mA, n, r⟩ := (show ObjOk X.prog X.w H s.heap D (.xd fs) from I.hok D _ ed)
      obtain ⟨od, ho, hl⟩ := lookIn_ns n
      exact ⟨oe, some od, ⟨g, gc, by unfold notCls; rw [gf], by rw [gd]; exact ho⟩⟩
  exact PySem.W.kia_one (kitx_exc F) I.kIn J e (by intro z; cases z) fun tk => ⟨.bl b, H, I.tok _, rfl, q⟩
end L2
namespace L2
open PySem PySem.Spec PyProof.Rows
structure RoomN (k : Nat) (A : Around) : Prop where
  dp : A.depth + 3 * k + 5 < recursionLimit
  un : A.units + 16 * k + 200 < cLine
theorem Room.caught {k : Nat} {A : Around} (r : Room k A) (v : Option Value) : RoomN k (A.mark v) := ⟨r.dp, r.un⟩
theorem RoomN.calmed {k : Nat} {A : Around} (r : RoomN k A) : Room k { A with handled := none } := ⟨r.dp, r.un⟩
abbrev Cx.stirred (X : Cx) : Cx := { X with calm := false, sx := false }
structure FnOkN (P : Program) (w : World) (K : PySem.W.Frag) (mg : Str → Option Value) (base : Heap) (k : Nat) (f : Addr) (fd : FuncData) (ps : List Str) (sp : Sp) : Prop where
  len : ∀ vs H Q E, sp vs H Q E → vs.length = ps.length
  run : ∀ (A : Around) (outer : List Env) (s : Shared) (H : Hp) (args : Args) (us : List Value) (vs : List V) (Q : VK) (E : XK), RoomN k A → Env0 P w K mg base A outer s H → BindsTo s fd args (ps.zip us) → Vals vs us → sp vs H Q E →
    codeAny (model P w) A (.call (.ref f) args) (CR CX0 outer P w H s Q E) s
section
variable {X : Cx} {k : Nat} {f : Addr} {fd : FuncData} {ps : List Str} {sp : Sp} {dvs : List V} {ds : List Value} {E : XK} {x : Str} {p pos : Pos} {e : Expr} {es : List Expr} {t : TA}
theorem pe_callN (F : FnOkN X.prog X.w X.K X.mg X.base k f fd ps sp) (hr : RoomN k X.A) (hg : Gl X x) (hm : X.mg x = some (.ref f)) (hk : PySem.W.keepIn X.K (.ref f) = true) (hb : Binds X.K fd ps ds) (hd : Vals dvs ds)
    (ha : PA X (e :: es) t) (hdb : (x == ("__debug__" : Str)) = false := by decide) (he : starEach (e :: es) X.env = (false, eval e X.env) :: starEach es X.env := by rfl) (hpl : (backTo pos (starEach es X.env)).any (·.1) = false := by rfl) :
    PE X (.Call (.Name x p) (e :: es) [] pos) (tCall sp dvs E0 t) := by
  intro pins s σ H Q I h
  refine wpAny_Call_Name_kw (ld_glob I hg hm ?_ hdb)
  refine PySem.W.callWith_K (h₀ := X.base) I.ok.mod.kin hk (thn (ha pos pins s σ H _ I h) fun us s1 ⟨vs, H1, I1, r, q⟩ => ⟨I1.kIn, ?_⟩) he hpl
  have r2 : Vals (vs ++ dvs) (us ++ ds) := r.append hd
  have hl : (us ++ ds).length = ps.length := by rw [← r2.length]; exact F.len _ _ _ _ q
  refine wpAny_call (codeAny_mono (F.run X.A X.stack s1 H1 ⟨us, []⟩ (us ++ ds) (vs ++ dvs) Q E0 hr I1.env0 (hb s1 us I1.kIn hl) r2 q) fun r s' hq => ?_)
  cases r with
  | error e => exact False.elim hq
  | ok fl =>
    cases fl with
    | ret u => exact I1.after hq
    | next => exact False.elim hq
    | brk => exact False.elim hq
    | cont => exact False.elim hq
end
section
variable {P : Program} {w : World} {K : PySem.W.Frag} {mg : Str → Option Value} {base : Heap}
theorem Fun.okN {x qual : Str} {st : Stmt} {f : Addr} {fd : FuncData} {N ps : List Str} {k : Nat} {sp : Sp} (F : Fun K x qual st f fd) (S : FnScope N ps (defScope st)) (len : ∀ vs H Q E, sp vs H Q E → vs.length = ps.length)
    (hbody : ∀ (cdv : Value) (A : Around) (outer : List Env) (s : Shared) (H : Hp) (vs : List V) (Q : VK) (E : XK), RoomN k (A.deeper (envOfC qual (defScope st) s.heap.objs.size f cdv)) → sp vs H Q E →
      ∃ t, PSs (cxOf CX0 P w K mg base N qual (defScope st) f cdv A outer s H E).stirred.nox (defBody st) t ∧ t { nx := fun _ H' => Q .non H', rt := Q } (start N vs) H) : FnOkN P w K mg base (k + 1) f fd ps sp := by
  obtain ⟨oc, od, kV, doc, pm, an, cdv, ct, osl, rfl, lk, hcd⟩ := F.ex
  refine ⟨len, fun A outer s H args us vs Q E hr e0 hb r hsp => ?_⟩
  have hl := len _ _ _ _ hsp
  have KX : K.In s.heap := e0.mod.kin.keeps fun b o e => (e0.bs b o e).1
  have lim : s.heap.NoLimit := e0.mod.nolimit.keeps fun b o e => (e0.bs b o e).1
  have hkind : ∀ y ∈ ps.zip us, (defScope st).names.lookup y.1 = some .local ∨ ((defScope st).names.lookup y.1 = some .cell ∧ ((cellsFrom (s.heap.objs.size + 1) (defScope st).names []).lookup y.1).isSome = true) := fun ⟨n, v⟩ hy => by
    rcases S.par n (List.of_mem_zip hy).1 with q | q
    · exact .inl q
    · exact .inr ⟨q, PySem.W.cellsFrom_some _ _ _ (.inl q)⟩
  refine codeAny_call_function hr.calmed.depth (KX _ _ lk) rfl S.co S.gen rfl (PySem.W.codeRec_of KX hcd) (hb _ _ _ _ ?_)
  refine wpAny_newFunctionEnv_cells S.kind hkind fun env he s1 x => ?_
  subst he
  refine ⟨lim.keeps x.toInCall.keep, codeAny_func ?_⟩
  obtain ⟨t, ht, hq⟩ := hbody cdv A outer s H vs Q E ⟨(hr.calmed.deeper (envOfC qual (defScope st) s.heap.objs.size f cdv)).dp, (hr.calmed.deeper (envOfC qual (defScope st) s.heap.objs.size f cdv)).un⟩ hsp
  have J := inv_start (CX := CX0) (E := E) (A := { A with handled := none }) S (fun z => nomatch z) (.inl rfl) ⟨e0.frames, e0.mod, e0.bs, e0.bsz, e0.funs, e0.frf, e0.hok, e0.bare⟩ hl r x
  have I : Inv (cxOf CX0 P w K mg base N qual (defScope st) f cdv A outer s H E).stirred [] (start N vs) H s1 :=
    ⟨⟨J.ok.mod, J.ok.kind, J.ok.glob, J.ok.blt, J.ok.above, J.ok.inj, J.ok.has, J.ok.cab, fun z => absurd z Bool.false_ne_true, fun z => absurd z Bool.false_ne_true, J.ok.frames, J.ok.stk, J.ok.exf, J.ok.bs, J.ok.bsz, J.ok.noex, J.ok.exfs, J.ok.funs, J.ok.frf⟩, J.os, J.bare, J.base, J.loc, J.cell, J.free, J.freeC, J.pin, J.hok, J.len⟩
  refine wpAny_mono (ht.nox [] s1 (start N vs) H _ I hq) (fun fl s' hs => ?_) fun e s' hs => hs
  have fin : ∀ {σ' : St} {H' : Hp} {v : V} {u : Value}, Inv (cxOf CX0 P w K mg base N qual (defScope st) f cdv A outer s H E).stirred [] σ' H' s' → RelV v u → Q v H' → CE outer P w H s Q u s' :=
    fun {σ' H' v u} J rv q => ⟨v, H', J.os, J.bare, J.base, J.hok, rv, q⟩
  cases fl with
  | ret u =>
    obtain ⟨v, σ', H', J, rv, q⟩ := hs
    exact fin J rv q
  | next =>
    obtain ⟨σ', H', J, q⟩ := hs
    exact fin (v := V.non) (u := Value.none) J rfl q
  | brk =>
    obtain ⟨_, _, _, q⟩ := hs
    exact False.elim q
  | cont =>
    obtain ⟨_, _, _, q⟩ := hs
    exact False.elim q
end
end L2
namespace Bk
open PySem L2 Rk
def PV (v : V) : Prop := (∃ i, v = .int i) ∨ ∃ x, v = .str x ∧ x.length ≤ sizeLine
def big : Int := 10 ^ 30
def whV (lo hi : Int) : V → Bool
  | .int i => decide (lo ≤ i) && decide (i ≤ hi)
  | _ => false
def spWhole : Sp := fun vs H Q _ => ∃ (v : V) (lo hi : Int), vs = [v, .int lo, .int hi] ∧ PV v ∧ Q (.bl (whV lo hi v)) H
section
variable {P : Program} {w : World} {K : PySem.W.Frag} {mg : Str → Option Value} {base : Heap} {f fW : Addr} {fd dW : FuncData}
theorem scWhole : FnScope ["value", "least", "most"] ["value", "least", "most"] (defScope sWhole) := ⟨rfl, rfl, rfl, by decide +kernel, rfl, by decide +kernel, by decide +kernel⟩
theorem ok_whole (F : Fun K "is_whole" "is_whole" sWhole f fd) (T : Txt mg) : FnOk P w K mg base CX0 1 f fd ["value", "least", "most"] spWhole := by
  refine F.ok scWhole (fun vs H Q E h => ?_) (fun cdv A outer s H vs Q E hr h => ?_)
  · obtain ⟨v, lo, hi, rfl, _⟩ := h
    rfl
  obtain ⟨v, lo, hi, rfl, hv, q⟩ := h
  refine ⟨_, pss_one (ps_ret (pe_and (pe_callB call_isinst rfl T.isi PyProof.Rows.boot_isinstance (pa_cons (pv 0) (pa_cons (pe_bltn (v := .ty "int") rfl T.int PyProof.Rows.boot_int rfl) pa_nil)))
    (pe_and (pe_not (pe_callB call_isinst rfl T.isi PyProof.Rows.boot_isinstance (pa_cons (pv 0) (pa_cons (pe_bltn (v := .ty "bool") rfl T.bool PyProof.Rows.boot_bool rfl) pa_nil))))
    (pe_one (pe_chain op_le op_le (pv 1) (pv 0) (pv 2)))))), ?_⟩
  rcases hv with ⟨i, rfl⟩ | ⟨x, rfl, hx⟩
  · refine ⟨_, rfl, _, _, _, _, rfl, .int _, kit_self K "int", _, rfl, iteT ?_⟩
    refine ⟨_, rfl, _, _, _, _, rfl, .int _, (show PySem.W.kitOne K (.type "int") (.type "bool") = some false from rfl), _, rfl, _, rfl, iteT ?_⟩
    refine ⟨_, rfl, _, rfl, _, _, rfl, rfl, _, rfl, ite2 (fun c => ?_) (fun c => ?_)⟩
    · refine ⟨_, rfl, _, _, rfl, rfl, ?_⟩
      have e : whV lo hi (.int i) = decide (i ≤ hi) := by
        show (decide (lo ≤ i) && decide (i ≤ hi)) = _
        rw [c, Bool.true_and]
      rw [e] at q
      exact q
    · have e : whV lo hi (.int i) = false := by
        show (decide (lo ≤ i) && decide (i ≤ hi)) = _
        rw [Bool.eq_false_iff.mpr c, Bool.false_and]
      rw [e] at q
      exact q
  · exact ⟨_, rfl, _, _, _, _, rfl, .str _, (show PySem.W.kitOne K (.type "str") (.type "int") = some false from rfl), _, rfl, iteF q⟩
theorem scAmount : FnScope ["value"] ["value"] (defScope sAmount) := ⟨rfl, rfl, rfl, by decide +kernel, rfl, by decide +kernel, by decide +kernel⟩
end
inductive Sm
  | say
  | op (kd : Str) (a : Int)
def sorts1 : List Str := ["put", "plus", "times", "over", "both", "any", "odd", "up", "down", "part"]
structure OkA (kd : Str) (a : Int) : Prop where
  mem : kd ∈ sorts1
  lo : -big ≤ a
  hi : a ≤ big
  dv : kd = "over" ∨ kd = "part" → a ≠ 0
  sh : kd = "up" ∨ kd = "down" → 0 ≤ a ∧ a ≤ 64
def okS : Sm → Prop
  | .say => True
  | .op kd a => OkA kd a
def Sm.pr : Sm → Str × List V
  | .say => ("say", [])
  | .op kd a => (kd, [V.int a])
def chg (kd : Str) (a n : Int) : Int := if kd = "put" then a else if kd = "plus" then n + a else if kd = "times" then n * a else if kd = "over" then n.fdiv a else if kd = "both" then Builtin.bitAnd n a else if kd = "any" then Builtin.bitOr n a else if kd = "odd" then Builtin.bitXor n a else if kd = "up" then n * 2 ^ a.toNat else n / 2 ^ a.toNat
def Sm.out : Sm → Int → List Int
  | .say, n => [n]
  | .op kd a, n => if kd = "part" then [n.fmod a] else []
def Sm.nx : Sm → Int → Int
  | .say, n => n
  | .op kd a, n => if kd = "part" then n.fdiv a else chg kd a n
theorem OkA.ab {kd : Str} {a : Int} (h : OkA kd a) : Ab 100 a := ab_big h.lo h.hi
theorem chg_ab {kd : Str} {a n : Int} {b : Nat} (h : OkA kd a) (hk : kd ≠ "part") (hn : Ab b n) (hb : 100 ≤ b) : Ab (b + 101) (chg kd a n) := by
  have ha := h.ab.mono hb
  have m : b + 1 ≤ b + 101 := by omega
  unfold chg
  split
  · exact ha.mono (by omega)
  split
  · exact (hn.add ha).mono m
  split
  · exact (hn.mul h.ab).mono (by omega)
  split
  · exact hn.fdiv.mono m
  split
  · exact (hn.inn.and ha.inn).ab.mono m
  split
  · exact (hn.inn.or ha.inn).ab.mono m
  split
  · exact (hn.inn.xor ha.inn).mono (by omega)
  split
  · next hu => exact hn.up.mono (by have := h.sh (.inl hu); omega)
  · exact hn.ediv.mono (by omega)
theorem Sm.nx_ab {s : Sm} {n : Int} {b : Nat} (h : okS s) (hn : Ab b n) (hb : 100 ≤ b) : Ab (b + 101) (s.nx n) := by
  cases s with
  | say => exact hn.mono (by omega)
  | op kd a =>
    show Ab (b + 101) (if kd = "part" then n.fdiv a else chg kd a n)
    split
    · exact hn.fdiv.mono (by omega)
    · next hk => exact chg_ab h hk hn hb
theorem out_len (s : Sm) (n : Int) : (s.out n).length ≤ 1 := by
  cases s with
  | say => exact Nat.le_refl _
  | op kd a =>
    show (if kd = "part" then [n.fmod a] else []).length ≤ 1
    split
    · exact Nat.le_refl _
    · exact Nat.zero_le _
def nVs (ns : List Int) : List V := ns.map V.int
theorem nVs_len (ns : List Int) : (nVs ns).length = ns.length := List.length_map _
theorem nVs_app (a b : List Int) : nVs (a ++ b) = nVs a ++ nVs b := List.map_append
def spChanged : Sp := fun vs H Q _ => ∃ (n : Int) (kd : Str) (a : Int) (b : Nat), vs = [.int n, .str kd, .int a] ∧ OkA kd a ∧ kd ≠ "part" ∧ Ab b n ∧ b ≤ 900000 ∧ Q (.int (chg kd a n)) H
def spReck : Sp := fun vs H Q _ => ∃ (t sa : Addr) (n : Int) (s : Sm) (ns : List Int) (b : Nat), vs = [.ref t, .int n, .ref sa] ∧ H t = some (.tup (.str s.pr.1 :: s.pr.2)) ∧ okS s ∧ Ab b n ∧ b ≤ 900000 ∧ H sa = some (.lst (nVs ns)) ∧ ns.length ≤ 100000 ∧
  ∀ H', H' sa = some (.lst (nVs (ns ++ s.out n))) → (∀ c, c ≠ sa → H' c = H c) → Q (.int (s.nx n)) H'
section
variable {P : Program} {w : World} {K : PySem.W.Frag} {mg : Str → Option Value} {base : Heap} {f fC : Addr} {fd dC : FuncData}
theorem scChanged : FnScope ["number", "sort", "amount"] ["number", "sort", "amount"] (defScope sChanged) := ⟨rfl, rfl, rfl, by decide +kernel, rfl, by decide +kernel, by decide +kernel⟩
theorem ok_changed (F : Fun K "changed" "changed" sChanged f fd) (T : Txt mg) : FnOk P w K mg base CX0 1 f fd ["number", "sort", "amount"] spChanged := by
  refine F.ok scChanged (fun vs H Q E h => ?_) (fun cdv A outer s H vs Q E hr h => ?_)
  · obtain ⟨n, kd, a, b, rfl, _⟩ := h
    rfl
  obtain ⟨n, kd, a, b, rfl, ok, hk, hn, hb, q⟩ := h
  refine ⟨_, pss_cons (ps_if (pt_cmpR op_eq (pv 1) pe_str (nomark _)) (pss_one (ps_ret (pv 2))) pss_nil)
    (pss_cons (ps_if (pt_cmpR op_eq (pv 1) pe_str (nomark _)) (pss_one (ps_ret (pe_op op_add (pv 0) (pv 2)))) pss_nil)
    (pss_cons (ps_if (pt_cmpR op_eq (pv 1) pe_str (nomark _)) (pss_one (ps_ret (pe_op op_mulB (pv 0) (pv 2)))) pss_nil)
    (pss_cons (ps_if (pt_cmpR op_eq (pv 1) pe_str (nomark _)) (pss_one (ps_ret (pe_op op_fdivB (pv 0) (pv 2)))) pss_nil)
    (pss_cons (ps_if (pt_cmpR op_eq (pv 1) pe_str (nomark _)) (pss_one (ps_ret (pe_op op_and (pv 0) (pv 2)))) pss_nil)
    (pss_cons (ps_if (pt_cmpR op_eq (pv 1) pe_str (nomark _)) (pss_one (ps_ret (pe_op op_or (pv 0) (pv 2)))) pss_nil)
    (pss_cons (ps_if (pt_cmpR op_eq (pv 1) pe_str (nomark _)) (pss_one (ps_ret (pe_op op_xor (pv 0) (pv 2)))) pss_nil)
    (pss_cons (ps_if (pt_cmpR op_eq (pv 1) pe_str (nomark _)) (pss_one (ps_ret (pe_op op_shlB (pv 0) (pv 2)))) pss_nil)
    (pss_one (ps_ret (pe_op op_shr (pv 0) (pv 2))))))))))), ?_⟩
  unfold chg at q
  refine ⟨_, rfl, rfl, _, rfl, ite2 (fun c => ?_) (fun c => ?_)⟩
  · rw [if_pos (de_str c)] at q
    exact ⟨_, rfl, q⟩
  have c1 := dn_str c
  rw [if_neg c1] at q
  refine ⟨_, rfl, rfl, _, rfl, ite2 (fun c => ?_) (fun c => ?_)⟩
  · rw [if_pos (de_str c)] at q
    exact ⟨_, rfl, _, rfl, _, _, rfl, rfl, q⟩
  have c2 := dn_str c
  rw [if_neg c2] at q
  refine ⟨_, rfl, rfl, _, rfl, ite2 (fun c => ?_) (fun c => ?_)⟩
  · rw [if_pos (de_str c)] at q
    exact ⟨_, rfl, _, rfl, _, _, rfl, rfl, ⟨max b 100, hn.mono (Nat.le_max_left _ _), ok.ab.mono (Nat.le_max_right _ _), by omega⟩, q⟩
  have c3 := dn_str c
  rw [if_neg c3] at q
  refine ⟨_, rfl, rfl, _, rfl, ite2 (fun c => ?_) (fun c => ?_)⟩
  · have c' := de_str c
    rw [if_pos c'] at q
    exact ⟨_, rfl, _, rfl, _, _, rfl, rfl, ⟨ok.dv (.inl c'), ok.ab.mono (by decide)⟩, q⟩
  have c4 := dn_str c
  rw [if_neg c4] at q
  refine ⟨_, rfl, rfl, _, rfl, ite2 (fun c => ?_) (fun c => ?_)⟩
  · rw [if_pos (de_str c)] at q
    exact ⟨_, rfl, _, rfl, _, _, rfl, rfl, q⟩
  have c5 := dn_str c
  rw [if_neg c5] at q
  refine ⟨_, rfl, rfl, _, rfl, ite2 (fun c => ?_) (fun c => ?_)⟩
  · rw [if_pos (de_str c)] at q
    exact ⟨_, rfl, _, rfl, _, _, rfl, rfl, q⟩
  have c6 := dn_str c
  rw [if_neg c6] at q
  refine ⟨_, rfl, rfl, _, rfl, ite2 (fun c => ?_) (fun c => ?_)⟩
  · rw [if_pos (de_str c)] at q
    exact ⟨_, rfl, _, rfl, _, _, rfl, rfl, q⟩
  have c7 := dn_str c
  rw [if_neg c7] at q
  refine ⟨_, rfl, rfl, _, rfl, ite2 (fun c => ?_) (fun c => ?_)⟩
  · have c' := de_str c
    rw [if_pos c'] at q
    have z := ok.sh (.inl c')
    exact ⟨_, rfl, _, rfl, _, _, rfl, rfl, ⟨z.1, by omega, hn.mono (by omega)⟩, q⟩
  have c8 := dn_str c
  rw [if_neg c8] at q
  have hd : kd = "down" := by
    have m := ok.mem
    unfold sorts1 at m
    simp only [List.mem_cons, List.not_mem_nil, or_false] at m
    rcases m with h | h | h | h | h | h | h | h | h | h
    · exact absurd h c1
    · exact absurd h c2
    · exact absurd h c3
    · exact absurd h c4
    · exact absurd h c5
    · exact absurd h c6
    · exact absurd h c7
    · exact absurd h c8
    · exact h
    · exact absurd h hk
  exact ⟨_, rfl, _, rfl, _, _, rfl, rfl, (ok.sh (.inr hd)).1, q⟩
theorem scReck : FnScope ["step", "number", "said"] ["step", "number", "said"] (defScope sReck) := ⟨rfl, rfl, rfl, by decide +kernel, rfl, by decide +kernel, by decide +kernel⟩
theorem ok_reck (F : Fun K "reckoned" "reckoned" sReck f fd) (T : Txt mg) (GC : FnOk P w K mg base CX0 1 fC dC ["number", "sort", "amount"] spChanged) (kC : PySem.W.keepIn K (.ref fC) = true) (bC : Binds K dC ["number", "sort", "amount"] []) (mC : mg "changed" = some (.ref fC)) : FnOk P w K mg base CX0 2 f fd ["step", "number", "said"] spReck := by
  refine F.ok scReck (fun vs H Q E h => ?_) (fun cdv A outer s H vs Q E hr h => ?_)
  · obtain ⟨t, sa, n, s, ns, b, rfl, _⟩ := h
    rfl
  obtain ⟨t, sa, n, s, ns, b, rfl, ht, ok, hn, hb, hs, hl, q⟩ := h
  refine ⟨_, pss_cons (ps_if (pt_cmpR op_eq (pe_ix ix_tup (pv 0) pe_int (fun _ _ => rfl)) pe_str (nomark _))
      (pss_cons (ps_expr (pe_bm PySem.F.plainAttrs_list PySem.F.slot_list_append PySem.F.type_list_append mt_append (pv 2) (pa_cons (pv 1) pa_nil))) (pss_one (ps_ret (pv 1)))) pss_nil)
    (pss_cons (ps_if (pt_cmpR op_eq (pe_ix ix_tup (pv 0) pe_int (fun _ _ => rfl)) pe_str (nomark _))
      (pss_cons (ps_expr (pe_bm PySem.F.plainAttrs_list PySem.F.slot_list_append PySem.F.type_list_append mt_append (pv 2) (pa_cons (pe_op op_modN (pv 1) (pe_ix ix_tup (pv 0) pe_int (fun _ _ => rfl))) pa_nil)))
      (pss_one (ps_ret (pe_op op_fdivB (pv 1) (pe_ix ix_tup (pv 0) pe_int (fun _ _ => rfl)))))) pss_nil)
    (pss_one (ps_ret (pe_call GC hr rfl mC kC bC .nil pass0 (pa_cons (pv 1) (pa_cons (pe_ix ix_tup (pv 0) pe_int (fun _ _ => rfl)) (pa_cons (pe_ix ix_tup (pv 0) pe_int (fun _ _ => rfl)) pa_nil))))))), ?_⟩
  have hls : (nVs ns).length < sizeLine := by rw [nVs_len, sizeLine_eq]; omega
  cases s with
  | say =>
    have at0 : atI [V.str "say"] 0 = some (.str "say") := atI_nat (j := 0) rfl
    refine ⟨_, rfl, t, _, _, _, rfl, rfl, SqT.of ht, at0, rfl, _, rfl, iteT ?_⟩
    refine ⟨_, rfl, .inl ⟨rfl, _, SqL.of hs⟩, _, rfl, sa, _, _, rfl, rfl, hs, hls, ?_⟩
    refine ⟨_, rfl, q _ ?_ fun c hc => upd_ne hc⟩
    rw [upd_same, nVs_app]
    rfl
  | op kd a =>
    have at0 : atI [V.str kd, V.int a] 0 = some (.str kd) := atI_nat (j := 0) rfl
    have at1 : atI [V.str kd, V.int a] 1 = some (.int a) := atI_nat (j := 1) rfl
    have okA : OkA kd a := ok
    have ns_ : kd ≠ "say" := fun z => by
      have m := okA.mem
      rw [z] at m
      revert m
      decide +kernel
    refine ⟨_, rfl, t, _, _, _, rfl, rfl, SqT.of ht, at0, rfl, _, rfl, ite2 (fun c => absurd (de_str c) ns_) (fun _ => ?_)⟩
    refine ⟨_, rfl, t, _, _, _, rfl, rfl, SqT.of ht, at0, rfl, _, rfl, ite2 (fun c => ?_) (fun c => ?_)⟩
    · have c' := de_str c
      have a0 := okA.dv (.inr c')
      have e1 : (Sm.op kd a).out n = [n.fmod a] := if_pos c'
      have e2 : (Sm.op kd a).nx n = n.fdiv a := if_pos c'
      rw [e1, e2] at q
      refine ⟨_, rfl, .inl ⟨rfl, _, SqL.of hs⟩, _, rfl, _, rfl, t, _, _, _, rfl, rfl, SqT.of ht, at1, _, _, rfl, rfl, a0, sa, _, _, rfl, rfl, hs, hls, ?_⟩
      have nts : t ≠ sa := ne_of ht hs (by intro z; cases z)
      refine ⟨_, rfl, _, rfl, t, _, _, _, rfl, rfl, SqT.of (by rw [upd_ne nts]; exact ht), at1, _, _, rfl, rfl, ⟨a0, okA.ab.mono (by decide)⟩, ?_⟩
      refine q _ ?_ fun c hc => upd_ne hc
      rw [upd_same, nVs_app]
      rfl
    · have c' := dn_str c
      have e1 : (Sm.op kd a).out n = [] := if_neg c'
      have e2 : (Sm.op kd a).nx n = chg kd a n := if_neg c'
      rw [e1, e2] at q
      refine ⟨_, rfl, _, rfl, t, _, _, _, rfl, rfl, SqT.of ht, at0, _, rfl, t, _, _, _, rfl, rfl, SqT.of ht, at1, n, kd, a, b, rfl, okA, c', hn, hb, ?_⟩
      exact q H (by rw [List.append_nil]; exact hs) fun c _ => rfl
end
section
variable {P : Program} {w : World} {K : PySem.W.Frag} {mg : Str → Option Value} {base : Heap} {f fW fA : Addr} {fd dW dA : FuncData}
theorem scCheck : FnScope ["number", "count"] ["number", "count"] (defScope sCheck) := ⟨rfl, rfl, rfl, by decide +kernel, rfl, by decide +kernel, by decide +kernel⟩
end
end Bk
namespace L2
open PySem PySem.Spec PyProof.Rows
section
variable {X : Cx} {k : Nat} {f C : Addr} {fd : FuncData} {ps : List Str} {sp : Sp} {dvs : List V} {ds : List Value} {m : Str} {pos apos : Pos} {e o : Expr} {es : List Expr} {ta : TE} {t : TA}
theorem pe_methN {pl : Sem Bool} (he : PE X o ta) (c : Cls X.K C) (hm : Meth X.K C m f) (F : FnOkN X.prog X.w X.K X.mg X.base k f fd ps sp) (hr : RoomN k X.A) (hb : Binds X.K fd ps ds) (hd : Vals dvs ds) (ha : PA X (e :: es) t)
    (hst : starEach (e :: es) X.env = (false, eval e X.env) :: starEach es X.env := by rfl) (hpl : (backTo pos (starEach es X.env)).any (·.1) = false := by rfl)
    (ht : eval (.Call (.Attribute o m apos) (e :: es) [] pos) X.env = (do let ov ← eval o X.env; standAt apos.atName; let (f, first) ← holding [ov] (getMethod ov m pl); callWith pos f first (backTo pos (starEach (e :: es) X.env)) (backToKw pos (keywordEach [] X.env))) := by rfl) :
    PE X (.Call (.Attribute o m apos) (e :: es) [] pos) (tMeth C m sp dvs E0 ta t) := by
  intro pins s σ H Q I h
  refine PySem.W.methodCall_KW (pl := pl) (thn (he pins s σ H _ I h) fun u s1 ⟨x, H1, I1, rx, a, dx, fs, ex, ea, l, q⟩ => ?_) ht
  subst ex
  obtain rfl : u = Value.ref a := rx
  refine getmeth_ok I1 ea c hm l ?_
  refine PySem.W.callWith_K (first := [.ref a]) (h₀ := X.base) I.ok.mod.kin hm.kp (thn (ha pos pins s1 σ H1 _ I1 q) fun us s2 ⟨vs, H2, I2, r, q2⟩ => ⟨I2.kIn, ?_⟩) hst hpl
  have r2 : Vals ((.ref a :: vs) ++ dvs) ((.ref a :: us) ++ ds) := Vals.append (.cons rfl r) hd
  have hl : ((.ref a :: us) ++ ds).length = ps.length := by rw [← r2.length]; exact F.len _ _ _ _ q2
  refine wpAny_call (codeAny_mono (F.run X.A X.stack s2 H2 ⟨.ref a :: us, []⟩ ((.ref a :: us) ++ ds) ((.ref a :: vs) ++ dvs) Q E0 hr I2.env0 (hb s2 (.ref a :: us) I2.kIn hl) r2 q2) fun r s' hq => ?_)
  cases r with
  | error e => exact False.elim hq
  | ok fl =>
    cases fl with
    | ret u => exact I2.after hq
    | next => exact False.elim hq
    | brk => exact False.elim hq
    | cont => exact False.elim hq
end
end L2
namespace Bk
open PySem L2 Rk
inductive RS
  | ld (l : Ah.Ld)
  | ei (a b : Ah.Ld)
  | sm (s : Sm)
def okR : RS → Prop
  | .sm s => okS s
  | _ => True
inductive Res
  | ok (n : Int) (k : Nat) (sd : List Int)
  | una (k : Nat) (sd : List Int)
  | spent
abbrev RecR := Nat → Int → Nat → List Int → Res
def ldS (R : RecR) (n : Int) (k : Nat) (sd : List Int) : Ah.Ld → Res
  | .none => .una k sd
  | .go p => R p n k sd
def eiS (R : RecR) (a b : Ah.Ld) (n : Int) (k : Nat) (sd : List Int) : Res := match ldS R n k sd a with
  | .una k' _ => ldS R n k' sd b
  | .ok x y z => .ok x y z
  | .spent => .spent
def stepS (R : RecR) (n : Int) (k : Nat) (sd : List Int) : RS → Res
  | .sm s => .ok (s.nx n) k (sd ++ s.out n)
  | .ld l => ldS R n k sd l
  | .ei a b => eiS R a b n k sd
def stepsS (R : RecR) : List RS → Int → Nat → List Int → Res
  | [], n, k, sd => .ok n k sd
  | s :: ss, n, k, sd => match stepS R n k sd s with
    | .ok n' k' sd' => stepsS R ss n' k' sd'
    | .una k' sd' => .una k' sd'
    | .spent => .spent
def entS (R : RecR) (rows : List (List RS)) : RecR := fun p n k sd => match k with
  | 0 => .spent
  | k' + 1 => stepsS R (rows.getD p []) n k' sd
def recS (rows : List (List RS)) : Nat → RecR
  | 0 => fun _ _ _ _ => .spent
  | m + 1 => entS (recS rows m) rows
def Goes (b c k : Nat) (sd : List Int) : Res → Prop
  | .ok n k' sd' => k' ≤ k ∧ Ab (b + 3200 * (k - k')) n ∧ ∃ t, sd' = sd ++ t ∧ t.length ≤ c + 31 * (k - k')
  | .una k' sd' => k' ≤ k ∧ ∃ t, sd' = sd ++ t ∧ t.length ≤ c + 31 * (k - k')
  | .spent => True
def GoodR (R : RecR) : Prop := ∀ p n k sd b, Ab b n → 100 ≤ b → Goes b 0 k sd (R p n k sd)
theorem Goes.step {b c b' c' k k' : Nat} {sd t : List Int} {r : Res} (h : Goes b' c' k' (sd ++ t) r) (hk : k' ≤ k) (hb : b' ≤ b + 3200 * (k - k')) (hc : c' + t.length ≤ c + 31 * (k - k')) : Goes b c k sd r := by
  cases r with
  | ok n k2 sd2 =>
    obtain ⟨h1, h2, t2, h3, h4⟩ := h
    refine ⟨by omega, h2.mono (by omega), t ++ t2, by rw [h3, List.append_assoc], by rw [List.length_append]; omega⟩
  | una k2 sd2 =>
    obtain ⟨h1, t2, h3, h4⟩ := h
    exact ⟨by omega, t ++ t2, by rw [h3, List.append_assoc], by rw [List.length_append]; omega⟩
  | spent => trivial
theorem ld_good {R : RecR} (hR : GoodR R) {n : Int} {k : Nat} {sd : List Int} {b : Nat} (hn : Ab b n) (hb : 100 ≤ b) : ∀ l : Ah.Ld, Goes b 0 k sd (ldS R n k sd l)
  | .none => ⟨Nat.le_refl _, [], by rw [List.append_nil], by simp⟩
  | .go p => hR p n k sd b hn hb
theorem ei_good {R : RecR} (hR : GoodR R) {x y : Ah.Ld} {n : Int} {k : Nat} {sd : List Int} {b : Nat} (hn : Ab b n) (hb : 100 ≤ b) : Goes b 0 k sd (eiS R x y n k sd) := by
  have h := ld_good hR (k := k) (sd := sd) hn hb x
  unfold eiS
  cases e : ldS R n k sd x with
  | ok a c d => rw [e] at h; exact h
  | spent => trivial
  | una k' sd' =>
    rw [e] at h
    have h2 := ld_good hR (k := k') (sd := sd) hn hb y
    refine Goes.step (t := []) (b' := b) (c' := 0) (by rw [List.append_nil]; exact h2) h.1 (by omega) (by simp)
theorem step_good {R : RecR} (hR : GoodR R) {n : Int} {k : Nat} {sd : List Int} {b : Nat} {s : RS} (hs : okR s) (hn : Ab b n) (hb : 100 ≤ b) : Goes (b + 101) 1 k sd (stepS R n k sd s) := by
  have up : ∀ {r : Res}, Goes b 0 k sd r → Goes (b + 101) 1 k sd r := fun {r} h => Goes.step (t := []) (b' := b) (c' := 0) (k' := k) (by rw [List.append_nil]; exact h) (Nat.le_refl _) (by omega) (by simp)
  cases s with
  | sm s => exact ⟨Nat.le_refl _, by rw [Nat.sub_self]; exact Sm.nx_ab hs hn hb, _, rfl, by have := out_len s n; omega⟩
  | ld l => exact up (ld_good hR hn hb l)
  | ei x y => exact up (ei_good hR hn hb)
theorem steps_good {R : RecR} (hR : GoodR R) : ∀ {ss : List RS} {n : Int} {k : Nat} {sd : List Int} {b : Nat}, (∀ s ∈ ss, okR s) → Ab b n → 100 ≤ b → Goes (b + 101 * ss.length) ss.length k sd (stepsS R ss n k sd)
  | [], n, k, sd, b, _, hn, _ => ⟨Nat.le_refl _, by rw [Nat.sub_self]; exact hn, [], by rw [List.append_nil], Nat.zero_le _⟩
  | s :: ss, n, k, sd, b, hs, hn, hb => by
    have h := step_good hR (k := k) (sd := sd) (hs s List.mem_cons_self) hn hb
    show Goes (b + 101 * (ss.length + 1)) (ss.length + 1) k sd (match stepS R n k sd s with
      | .ok n' k' sd' => stepsS R ss n' k' sd'
      | .una k' sd' => .una k' sd'
      | .spent => .spent)
    cases e : stepS R n k sd s with
    | ok n' k' sd' =>
      rw [e] at h
      obtain ⟨h1, h2, t, rfl, h4⟩ := h
      have ih := steps_good hR (k := k') (sd := sd ++ t) (fun s hs' => hs s (List.mem_cons_of_mem _ hs')) h2 (by omega)
      exact ih.step h1 (by omega) (by omega)
    | una k' sd' =>
      rw [e] at h
      obtain ⟨h1, t, h3, h4⟩ := h
      exact ⟨h1, t, h3, by omega⟩
    | spent => trivial
def OkB (rows : List (List RS)) : Prop := ∀ r ∈ rows, (∀ s ∈ r, okR s) ∧ r.length ≤ 30
theorem OkB.at {rows : List (List RS)} (h : OkB rows) (p : Nat) : (∀ s ∈ rows.getD p [], okR s) ∧ (rows.getD p []).length ≤ 30 := by
  rw [List.getD_eq_getElem?_getD]
  cases e : rows[p]? with
  | none => exact ⟨(fun s hs => nomatch hs), Nat.zero_le _⟩
  | some r => exact h r (List.mem_of_getElem? e)
theorem rec_good {rows : List (List RS)} (hB : OkB rows) : ∀ m, GoodR (recS rows m)
  | 0 => fun _ _ _ _ _ _ _ => trivial
  | m + 1 => fun p n k sd b hn hb => by
    obtain ⟨o1, o2⟩ := hB.at p
    cases k with
    | zero => trivial
    | succ k =>
      have h := steps_good (rec_good hB m) (k := k) (sd := sd) o1 hn hb
      exact Goes.step (t := []) (b' := b + 101 * (rows.getD p []).length) (c' := (rows.getD p []).length) (k' := k) (by rw [List.append_nil]; exact h) (by omega) (by omega) (by rw [List.length_nil]; omega)
def tF (k : Int) (sa : Addr) : List (Str × V) := [("left", .int k), ("said", .ref sa)]
def rF (ra tq : Addr) : List (Str × V) := [("rows", .ref ra), ("tally", .ref tq)]
theorem tF_left (k : Int) (sa : Addr) : (tF k sa).lookup ("left" : Str) = some (.int k) := by
  unfold tF
  rw [List.lookup_cons, beq_self_eq_true]
theorem tF_said (k : Int) (sa : Addr) : (tF k sa).lookup ("said" : Str) = some (.ref sa) := by
  unfold tF
  rw [List.lookup_cons, show (("said" : Str) == "left") = false by decide +kernel, List.lookup_cons, beq_self_eq_true]
theorem tF_no {k : Int} {sa : Addr} {m : Str} (h : ∀ x ∈ (["left", "said"] : List Str), m ≠ x) : (tF k sa).lookup m = none := by
  unfold tF
  rw [List.lookup_cons, beq_false_of_ne (h _ (by simp)), List.lookup_cons, beq_false_of_ne (h _ (by simp))]
  rfl
theorem tF_put (k : Int) (sa : Addr) : putF "said" (.ref sa) (putF "left" (.int k) []) = tF k sa := by
  show (if ("left" : Str) = "said" then _ else (("left" : Str), V.int k) :: [(("said" : Str), V.ref sa)]) = _
  rw [if_neg (by decide +kernel)]
  rfl
theorem tF_setLeft (k j : Int) (sa : Addr) : putF "left" (.int j) (tF k sa) = tF j sa := by
  show (if ("left" : Str) = "left" then (("left" : Str), V.int j) :: [(("said" : Str), V.ref sa)] else _) = _
  rw [if_pos rfl]
  rfl
theorem tF_setSaid (k : Int) (sa sb : Addr) : putF "said" (.ref sb) (tF k sa) = tF k sb := by
  show (if ("left" : Str) = "said" then _ else (("left" : Str), V.int k) :: (if ("said" : Str) = "said" then [(("said" : Str), V.ref sb)] else _)) = _
  rw [if_neg (by decide +kernel), if_pos rfl]
  rfl
theorem rF_rows (ra tq : Addr) : (rF ra tq).lookup ("rows" : Str) = some (.ref ra) := by
  unfold rF
  rw [List.lookup_cons, beq_self_eq_true]
theorem rF_tally (ra tq : Addr) : (rF ra tq).lookup ("tally" : Str) = some (.ref tq) := by
  unfold rF
  rw [List.lookup_cons, show (("tally" : Str) == "rows") = false by decide +kernel, List.lookup_cons, beq_self_eq_true]
theorem rF_no {ra tq : Addr} {m : Str} (h : ∀ x ∈ (["rows", "tally"] : List Str), m ≠ x) : (rF ra tq).lookup m = none := by
  unfold rF
  rw [List.lookup_cons, beq_false_of_ne (h _ (by simp)), List.lookup_cons, beq_false_of_ne (h _ (by simp))]
  rfl
theorem rF_put (ra tq : Addr) : putF "tally" (.ref tq) (putF "rows" (.ref ra) []) = rF ra tq := by
  show (if ("rows" : Str) = "tally" then _ else (("rows" : Str), V.ref ra) :: [(("tally" : Str), V.ref tq)]) = _
  rw [if_neg (by decide +kernel)]
  rfl
structure ClsT (K : PySem.W.Frag) (mg : Str → Option Value) (CT : Addr) : Prop where
  cl : Cls K CT
  nLeft : NoAttr K CT "left"
  nSaid : NoAttr K CT "said"
  mgT : mg "Tally" = some (.ref CT)
structure ClsR (K : PySem.W.Frag) (mg : Str → Option Value) (CR : Addr) : Prop where
  cl : Cls K CR
  nRows : NoAttr K CR "rows"
  nTally : NoAttr K CR "tally"
  mgR : mg "Running" = some (.ref CR)
structure ClsX (K : PySem.W.Frag) (mg : Str → Option Value) (CU CS : Addr) (bU bS : List Value) : Prop where
  exU : ExcC K CU bU
  baU : bU.contains (.type "BaseException") = true
  inU : PySem.W.findIn K (.ref CU) "__init__" = some (some (.builtin "ValueError.__init__"))
  mgU : mg "Unanswered" = some (.ref CU)
  exS : ExcC K CS bS
  baS : bS.contains (.type "BaseException") = true
  inS : PySem.W.findIn K (.ref CS) "__init__" = some (some (.builtin "ValueError.__init__"))
  mgS : mg "Spent" = some (.ref CS)
  uu : PySem.W.exmOne K (.ref CU) (.ref CU) = some true
  su : PySem.W.exmOne K (.ref CS) (.ref CU) = some false
structure Cur (M H : Hp) (CT tq dt sa : Addr) (k : Nat) (sd : List Int) : Prop where
  same : Same M H
  mq : M tq = none
  ms : M sa = none
  hq : H tq = some (.ins CT dt (tF (k : Int) sa))
  hs : H sa = some (.lst (nVs sd))
theorem Cur.upd {M H H' : Hp} {CT tq dt sa : Addr} {k : Nat} {sd sd' : List Int} (C : Cur M H CT tq dt sa k sd) (h1 : H' sa = some (.lst (nVs sd'))) (h2 : ∀ c, c ≠ sa → H' c = H c) : Cur M H' CT tq dt sa k sd' := by
  have nqs : tq ≠ sa := ne_of C.hq C.hs (by intro z; cases z)
  refine ⟨fun b o e => ?_, C.mq, C.ms, by rw [h2 tq nqs]; exact C.hq, h1⟩
  have : b ≠ sa := fun z => by rw [z, C.ms] at e; cases e
  rw [h2 b this]
  exact C.same b o e
def RAt (H : Hp) (v : V) : RS → Prop
  | .ld l => LdAt H v l
  | .ei x y => ∃ a b c, v = .ref a ∧ H a = some (.tup [.str "either", b, c]) ∧ LdAt H b x ∧ LdAt H c y
  | .sm s => ∃ a, v = .ref a ∧ H a = some (.tup (.str s.pr.1 :: s.pr.2))
theorem RAt.keep {H H' : Hp} (k : KeepT H H') {v : V} : ∀ {s : RS}, RAt H v s → RAt H' v s
  | .ld _, h => LdAt.keep k h
  | .ei _ _, ⟨a, b, c, e, h, h1, h2⟩ => ⟨a, b, c, e, k _ _ h, h1.keep k, h2.keep k⟩
  | .sm _, ⟨a, e, h⟩ => ⟨a, e, k _ _ h⟩
structure Rws (CR : Addr) (M : Hp) (q dx ra tq : Addr) (as : List Addr) (rows : List (List RS)) : Prop where
  ob : M q = some (.ins CR dx (rF ra tq))
  lst : M ra = some (.lst (as.map V.ref))
  len : as.length = rows.length
  row : ∀ (p : Nat) (a : Addr) (r : List RS), as[p]? = some a → rows[p]? = some r → ∃ us, M a = some (.lst us) ∧ Paired (RAt M) us r
  ok : OkB rows
  lds : ∀ r ∈ rows, ∀ s ∈ r, (∀ l, s = .ld l → ∀ p ∈ Ah.ldsL l, p < rows.length) ∧ ∀ x y, s = .ei x y → (∀ p ∈ Ah.ldsL x, p < rows.length) ∧ ∀ p ∈ Ah.ldsL y, p < rows.length
def Outc (M : Hp) (CT CU CS tq dt : Addr) (Q : VK) (E : XK) : Res → Prop
  | .ok n k sd => ∀ (H' : Hp) (sa : Addr), Cur M H' CT tq dt sa k sd → Q (.int n) H'
  | .una k sd => ∀ (H' : Hp) (sa : Addr), Cur M H' CT tq dt sa k sd → E (.ref CU) none H'
  | .spent => ∀ H' : Hp, Same M H' → E (.ref CS) none H'
structure Fits (b : Nat) (n : Int) (k : Nat) (sd : List Int) : Prop where
  ab : Ab b n
  lo : 100 ≤ b
  hi : b + 3200 * (k + 1) ≤ 800000
  len : sd.length + 31 * (k + 1) ≤ 90000
section
variable (CT CR CU CS : Addr)
def spInitT : Sp := fun vs H Q _ => ∃ (q dx : Addr) (k : Int), vs = [.ref q, .int k] ∧ H q = some (.ins CT dx []) ∧ ∀ (sa : Addr) (H' : Hp), H sa = none → H' q = some (.ins CT dx (tF k sa)) → H' sa = some (.lst []) → (∀ c o, H c = some o → c ≠ q → H' c = some o) → Q .non H'
def spInitR : Sp := fun vs H Q _ => ∃ (q dx ra tq : Addr), vs = [.ref q, .ref ra, .ref tq] ∧ H q = some (.ins CR dx []) ∧ ∀ H' : Hp, H' q = some (.ins CR dx (rF ra tq)) → (∀ c o, H c = some o → c ≠ q → H' c = some o) → Q .non H'
def spEnter : Sp := fun vs H Q E => ∃ (M : Hp) (tq dt sa : Addr) (k : Nat) (sd : List Int), vs = [.ref tq] ∧ Cur M H CT tq dt sa k sd ∧ (k = 0 → ∀ H' : Hp, Same M H' → E (.ref CS) none H') ∧ ∀ k', k = k' + 1 → ∀ H' : Hp, Cur M H' CT tq dt sa k' sd → Q .non H'
def spBack : Sp := fun vs H Q _ => ∃ (M : Hp) (tq dt sa : Addr) (k : Nat) (sd t : List Int), vs = [.ref tq, .int (sd.length : Int)] ∧ Cur M H CT tq dt sa k (sd ++ t) ∧ ∀ (H' : Hp) (sb : Addr), Cur M H' CT tq dt sb k sd → Q .non H'
def spEnt (m : Nat) : Sp := fun vs H Q E => ∃ (M : Hp) (q dx ra tq dt sa : Addr) (as : List Addr) (rows : List (List RS)) (p : Nat) (n : Int) (k : Nat) (sd : List Int) (b : Nat),
  vs = [.ref q, .int (p : Int), .int n] ∧ Rws CR M q dx ra tq as rows ∧ Cur M H CT tq dt sa k sd ∧ p < rows.length ∧ k < m ∧ Fits b n k sd ∧ Outc M CT CU CS tq dt Q E (recS rows m p n k sd)
def spLdR (m : Nat) : Sp := fun vs H Q E => ∃ (M : Hp) (q dx ra tq dt sa : Addr) (as : List Addr) (rows : List (List RS)) (v : V) (l : Ah.Ld) (n : Int) (k : Nat) (sd : List Int) (b : Nat),
  vs = [.ref q, v, .int n] ∧ Rws CR M q dx ra tq as rows ∧ Cur M H CT tq dt sa k sd ∧ LdAt M v l ∧ (∀ p ∈ Ah.ldsL l, p < rows.length) ∧ k < m ∧ Fits b n k sd ∧ Outc M CT CU CS tq dt Q E (ldS (recS rows m) n k sd l)
def spEiR (m : Nat) : Sp := fun vs H Q E => ∃ (M : Hp) (q dx ra tq dt sa : Addr) (as : List Addr) (rows : List (List RS)) (v u : V) (x y : Ah.Ld) (n : Int) (k : Nat) (sd : List Int) (b : Nat),
  vs = [.ref q, v, u, .int n] ∧ Rws CR M q dx ra tq as rows ∧ Cur M H CT tq dt sa k sd ∧ LdAt M v x ∧ LdAt M u y ∧ (∀ p ∈ Ah.ldsL x, p < rows.length) ∧ (∀ p ∈ Ah.ldsL y, p < rows.length) ∧ k < m ∧ Fits b n k sd ∧ Outc M CT CU CS tq dt Q E (eiS (recS rows m) x y n k sd)
def spBehR (m : Nat) : Sp := fun vs H Q E => ∃ (M : Hp) (q dx ra tq dt sa : Addr) (as : List Addr) (rows : List (List RS)) (v : V) (s : RS) (n : Int) (k : Nat) (sd : List Int) (b : Nat),
  vs = [.ref q, v, .int n] ∧ Rws CR M q dx ra tq as rows ∧ Cur M H CT tq dt sa k sd ∧ RAt M v s ∧ okR s ∧ (∀ l, s = .ld l → ∀ p ∈ Ah.ldsL l, p < rows.length) ∧ (∀ x y, s = .ei x y → (∀ p ∈ Ah.ldsL x, p < rows.length) ∧ ∀ p ∈ Ah.ldsL y, p < rows.length) ∧ k < m ∧ Fits b n k sd ∧ Outc M CT CU CS tq dt Q E (stepS (recS rows m) n k sd s)
end
theorem sm_ne {s : Sm} (h : okS s) {x : Str} (hx : x ∉ (("say" : Str) :: sorts1)) : ¬ s.pr.1 = x := fun z => hx (z ▸ (by
  cases s with
  | say => exact List.mem_cons_self
  | op kd a => exact List.mem_cons_of_mem _ (OkA.mem h)))
theorem skipS {x y : Str} {A B : Prop} (hn : ¬ x = y) (hB : B) : if decide (V.str x = V.str y) = true then A else B := by
  rw [if_neg (fun z => hn (de_str z))]
  exact hB
theorem takeS {x : Str} {A B : Prop} (hA : A) : if decide (V.str x = V.str x) = true then A else B := by
  rw [if_pos (decide_eq_true rfl)]
  exact hA
section
variable {P : Program} {w : World} {K : PySem.W.Frag} {mg : Str → Option Value} {base : Heap} {f fR fB fE fT fI CT CR CU CS : Addr} {fd dR dB dE dT dI : FuncData} {bU bS : List Value}
theorem scInitT : FnScope ["self", "left"] ["self", "left"] (defScope sInitT) := ⟨rfl, rfl, rfl, by decide +kernel, rfl, by decide +kernel, by decide +kernel⟩
theorem ok_initT (F : Fun K "__init__" "Tally.__init__" sInitT f fd) (T : ClsT K mg CT) : FnOk P w K mg base CX0 1 f fd ["self", "left"] (spInitT CT) := by
  refine F.ok scInitT (fun vs H Q E h => ?_) (fun cdv A outer s H vs Q E hr h => ?_)
  · obtain ⟨q, dx, k, rfl, _⟩ := h
    rfl
  obtain ⟨q, dx, k, rfl, hq, g⟩ := h
  refine ⟨_, pss_cons (ps_fld (pv 0) (pv 1) rfl) (pss_one (ps_fld (pv 0) (pe_lst pa_nil) rfl)), ?_⟩
  refine ⟨_, rfl, _, rfl, q, CT, dx, [], rfl, hq, T.cl, T.nLeft, (by show 0 < 1000; decide), ?_⟩
  refine ⟨by show 0 ≤ sizeLine; decide, fun sa hsa => ?_⟩
  have nq : q ≠ sa := fun z => by rw [← z, upd_same] at hsa; cases hsa
  have hsa' : H sa = none := by rw [upd_ne (Ne.symm nq)] at hsa; exact hsa
  refine ⟨_, rfl, q, CT, dx, _, rfl, (by rw [upd_ne nq]; exact upd_same), T.cl, T.nSaid, Nat.lt_of_le_of_lt (length_putF _ _ _) (by show 1 < 1000; decide), ?_⟩
  refine g sa _ hsa' (by rw [upd_same, tF_put]) (by rw [upd_ne (Ne.symm nq), upd_same]) fun c o e hc => ?_
  rw [upd_ne hc, upd_ne (ne_of_none e hsa'), upd_ne hc]
  exact e
theorem scInitR : FnScope ["self", "rows", "tally"] ["self", "rows", "tally"] (defScope sInitR) := ⟨rfl, rfl, rfl, by decide +kernel, rfl, by decide +kernel, by decide +kernel⟩
theorem ok_initR (F : Fun K "__init__" "Running.__init__" sInitR f fd) (T : ClsR K mg CR) : FnOk P w K mg base CX0 1 f fd ["self", "rows", "tally"] (spInitR CR) := by
  refine F.ok scInitR (fun vs H Q E h => ?_) (fun cdv A outer s H vs Q E hr h => ?_)
  · obtain ⟨q, dx, ra, tq, rfl, _⟩ := h
    rfl
  obtain ⟨q, dx, ra, tq, rfl, hq, g⟩ := h
  refine ⟨_, pss_cons (ps_fld (pv 0) (pv 1) rfl) (pss_one (ps_fld (pv 0) (pv 2) rfl)), ?_⟩
  refine ⟨_, rfl, _, rfl, q, CR, dx, [], rfl, hq, T.cl, T.nRows, (by show 0 < 1000; decide), ?_⟩
  refine ⟨_, rfl, _, rfl, q, CR, dx, _, rfl, upd_same, T.cl, T.nTally, Nat.lt_of_le_of_lt (length_putF _ _ _) (by show 1 < 1000; decide), ?_⟩
  refine g _ (by rw [upd_same, rF_put]) fun c o e hc => ?_
  rw [upd_ne hc, upd_ne hc]
  exact e
theorem scEnter : FnScope ["self"] ["self"] (defScope sEnter) := ⟨rfl, rfl, rfl, by decide +kernel, rfl, by decide +kernel, by decide +kernel⟩
theorem ok_enter (F : Fun K "enter" "Tally.enter" sEnter f fd) (T : ClsT K mg CT) (X : ClsX K mg CU CS bU bS) : FnOk P w K mg base (CXE P w) 1 f fd ["self"] (spEnter CT CS) := by
  refine F.okX scEnter (fun vs H Q E h => ?_) (fun cdv A outer s H vs Q E hr h => ?_)
  · obtain ⟨M, tq, dt, sa, k, sd, rfl, _⟩ := h
    rfl
  obtain ⟨M, tq, dt, sa, k, sd, rfl, C, g0, g1⟩ := h
  refine ⟨_, pss_cons (ps_if (pt_cmpR op_eq (pe_fld (pv 0) rfl) pe_int (nomark _)) (pss_one (ps_raise rfl X.exS X.baS X.inS rfl X.mgS (pa_cons pe_str pa_nil))) pss_nil)
    (pss_one (ps_fld (pv 0) (pe_op op_sub (pe_fld (pv 0) rfl) pe_int) rfl)), ?_⟩
  refine ⟨_, rfl, tq, CT, dt, _, _, rfl, C.hq, T.cl, T.nLeft, tF_left _ _, rfl, _, rfl, ite2 (fun c => ?_) (fun c => ?_)⟩
  · have hk0 : (k : Int) = 0 := V.int.inj (of_decide_eq_true c)
    exact ⟨by show 1 ≤ sizeLine; decide, g0 (by omega) H C.same⟩
  obtain ⟨k', rfl⟩ : ∃ k', k = k' + 1 := by
    cases k with
    | zero => exact absurd (decide_eq_true rfl) c
    | succ k' => exact ⟨k', rfl⟩
  refine ⟨_, rfl, tq, CT, dt, _, _, rfl, C.hq, T.cl, T.nLeft, tF_left _ _, _, _, rfl, rfl, _, rfl, tq, CT, dt, _, rfl, C.hq, T.cl, T.nLeft, (by show 2 < 1000; decide), ?_⟩
  rw [tF_setLeft]
  have ek : ((k' + 1 : Nat) : Int) - 1 = (k' : Int) := by omega
  rw [ek]
  have nsq : sa ≠ tq := ne_of C.hs C.hq (by intro z; cases z)
  refine g1 k' rfl _ ⟨fun b' o hb => ?_, C.mq, C.ms, upd_same, by rw [upd_ne nsq]; exact C.hs⟩
  rw [upd_ne (fun z => by rw [z, C.mq] at hb; cases hb)]
  exact C.same _ _ hb
theorem scBack : FnScope ["self", "length"] ["self", "length"] (defScope sBack) := ⟨rfl, rfl, rfl, by decide +kernel, rfl, by decide +kernel, by decide +kernel⟩
theorem ok_back (F : Fun K "take_back" "Tally.take_back" sBack f fd) (T : ClsT K mg CT) : FnOkN P w K mg base 1 f fd ["self", "length"] (spBack CT) := by
  refine F.okN scBack (fun vs H Q E h => ?_) (fun cdv A outer s H vs Q E hr h => ?_)
  · obtain ⟨M, tq, dt, sa, k, sd, t, rfl, _⟩ := h
    rfl
  obtain ⟨M, tq, dt, sa, k, sd, t, rfl, C, g⟩ := h
  refine ⟨_, pss_one (ps_fld (pv 0) (pe_slice sl_list (pe_fld (pv 0) rfl) po_none (po_some (pv 1))) rfl), ?_⟩
  refine ⟨_, rfl, tq, CT, dt, _, _, rfl, C.hq, T.cl, T.nSaid, tF_said _ _, _, rfl, _, rfl, sa, _, rfl, SqL.of C.hs, fun sb hsb => ?_⟩
  have hcut : cutV (nVs (sd ++ t)) none (some (sd.length : Int)) = nVs sd := by
    unfold cutV
    rw [show HT.sIx (nVs (sd ++ t)).length (nVs (sd ++ t)).length (some (sd.length : Int)) = min sd.length (nVs (sd ++ t)).length from HT.sIx_nat _ _ _]
    show ((nVs (sd ++ t)).drop 0).take (min sd.length (nVs (sd ++ t)).length - 0) = nVs sd
    rw [List.drop_zero, Nat.sub_zero, nVs_app, List.length_append, nVs_len, Nat.min_eq_left (Nat.le_add_right _ _), List.take_left']
    exact nVs_len sd
  rw [hcut]
  have nqb : tq ≠ sb := ne_of_none C.hq hsb
  refine ⟨_, rfl, tq, CT, dt, _, rfl, by rw [upd_ne nqb]; exact C.hq, T.cl, T.nSaid, (by show 2 < 1000; decide), ?_⟩
  rw [tF_setSaid]
  refine g _ sb ⟨fun b' o hb => ?_, C.mq, C.same.free hsb, upd_same, by rw [upd_ne (Ne.symm nqb)]; exact upd_same⟩
  have h1 : b' ≠ tq := fun z => by rw [z, C.mq] at hb; cases hb
  rw [upd_ne h1, upd_ne (ne_of_none (C.same _ _ hb) hsb)]
  exact C.same _ _ hb
theorem scBehR : FnScope ["self", "step", "number"] ["self", "step", "number"] (defScope sBehind) := ⟨rfl, rfl, rfl, by decide +kernel, rfl, by decide +kernel, by decide +kernel⟩
theorem ok_ldR {m : Nat} (F : Fun K "behind" "Running.behind" sBehind f fd) (T : ClsR K mg CR) (X : ClsX K mg CU CS bU bS)
    (GE : FnOk P w K mg base (CXE P w) (4 * m + 3) fE dE ["self", "place", "number"] (spEnt CT CR CU CS m)) (bE : Binds K dE ["self", "place", "number"] []) (mE : Meth K CR "entered" fE) : FnOk P w K mg base (CXE P w) (4 * m + 4) f fd ["self", "step", "number"] (spLdR CT CR CU CS m) := by
  refine F.okX scBehR (fun vs H Q E h => ?_) (fun cdv A outer s H vs Q E hr h => ?_)
  · obtain ⟨M, q, dx, ra, tq, dt, sa, as, rows, v, l, n, k, sd, b, rfl, _⟩ := h
    rfl
  obtain ⟨M, q, dx, ra, tq, dt, sa, as, rows, v, l, n, k, sd, b, rfl, U, C, hl, hlt, hk, ft, g⟩ := h
  have hr3 := hr.mono (j := 4 * m + 3) (by omega)
  refine ⟨_, pss_cons (ps_if (pt_cmpR op_eq (pe_ix ix_tup (pv 1) pe_int (fun _ _ => rfl)) pe_str (nomark _)) (pss_one (ps_ret (pe_methE (pv 0) T.cl mE GE hr3 bE .nil (pa_cons (pe_ix ix_tup (pv 1) pe_int (fun _ _ => rfl)) (pa_cons (pv 2) pa_nil))))) pss_nil)
    (pss_cons (ps_if (pt_cmpR op_eq (pe_ix ix_tup (pv 1) pe_int (fun _ _ => rfl)) pe_str (nomark _)) (pss_one (ps_raise rfl X.exU X.baU X.inU rfl X.mgU (pa_cons pe_str pa_nil))) pss_nil) pss_never), ?_⟩
  cases l with
  | none =>
    obtain ⟨a, rfl, ha⟩ := hl
    have haH := C.same _ _ ha
    refine ⟨_, rfl, a, _, _, _, rfl, rfl, SqT.of haH, at0 _ _, rfl, _, rfl, skipS (by decide +kernel) ?_⟩
    refine ⟨_, rfl, a, _, _, _, rfl, rfl, SqT.of haH, at0 _ _, rfl, _, rfl, takeS ?_⟩
    exact ⟨by show 1 ≤ sizeLine; decide, g H sa C⟩
  | go p =>
    obtain ⟨a, rfl, ha⟩ := hl
    have haH := C.same _ _ ha
    refine ⟨_, rfl, a, _, _, _, rfl, rfl, SqT.of haH, at0 _ _, rfl, _, rfl, takeS ?_⟩
    refine ⟨_, rfl, q, dx, _, rfl, C.same _ _ U.ob, rF_no (by decide +kernel), _, rfl, a, _, _, _, rfl, rfl, SqT.of haH, at1 _ _ _, _, rfl, ?_⟩
    exact ⟨M, q, dx, ra, tq, dt, sa, as, rows, p, n, k, sd, b, rfl, U, C, hlt p (List.mem_singleton.mpr rfl), hk, ft, g⟩
theorem scEiR : FnScope ["self", "one", "other", "number", "said_before"] ["self", "one", "other", "number"] (defScope sEithR) := ⟨rfl, rfl, rfl, by decide +kernel, rfl, by decide +kernel, by decide +kernel⟩
theorem ok_eiR {m : Nat} (F : Fun K "either" "Running.either" sEithR f fd) (T : ClsR K mg CR) (TT : ClsT K mg CT) (Tx : Txt mg) (X : ClsX K mg CU CS bU bS)
    (GB : FnOk P w K mg base (CXE P w) (4 * m + 4) fB dB ["self", "step", "number"] (spLdR CT CR CU CS m)) (bB : Binds K dB ["self", "step", "number"] []) (mB : Meth K CR "behind" fB)
    (GT : FnOkN P w K mg base 1 fT dT ["self", "length"] (spBack CT)) (bT : Binds K dT ["self", "length"] []) (mT : Meth K CT "take_back" fT) : FnOk P w K mg base (CXE P w) (4 * m + 5) f fd ["self", "one", "other", "number"] (spEiR CT CR CU CS m) := by
  refine F.okX scEiR (fun vs H Q E h => ?_) (fun cdv A outer s H vs Q E hr h => ?_)
  · obtain ⟨M, q, dx, ra, tq, dt, sa, as, rows, v, u, x, y, n, k, sd, b, rfl, _⟩ := h
    rfl
  obtain ⟨M, q, dx, ra, tq, dt, sa, as, rows, v, u, x, y, n, k, sd, b, rfl, U, C, hx, hy, hxl, hyl, hk, ft, g⟩ := h
  have hr1 := hr.mono (j := 1) (by omega)
  refine ⟨_, pss_cons (ps_set (i := 4) scEiR.nd rfl (Or.inl rfl) (pe_callB call_len_seq rfl Tx.len PySem.boot_len (pa_cons (pe_fld (pe_fld (pv 0) rfl) rfl) pa_nil)))
    (pss_cons (ps_try (X := cxOf (CXE P w) P w K mg base ["self", "one", "other", "number", "said_before"] "Running.either" (defScope sEithR) f cdv A outer s H E) (EX := fun _ => E) own_cx (fun _ _ h => h) (fun pn EX1 => pss_one (ps_ret (pe_methE (pv 0) T.cl mB GB hr bB .nil (pa_cons (pv 1) (pa_cons (pv 3) pa_nil)))))
      (fun pn => ph_consK (K := K) rfl X.mgU (fun x oe => pss_one (ps_expr (pe_methN (pe_fldK (K := K) (pv 0) rfl) TT.cl mT GT (hr1.caught _) bT .nil (pa_cons (pv 4) pa_nil)))) (ph_nil ⟨rfl, rfl, rfl⟩)))
    (pss_one (ps_ret (pe_methE (pv 0) T.cl mB GB hr bB .nil (pa_cons (pv 2) (pa_cons (pv 3) pa_nil)))))), ?_⟩
  have hgo := ld_good (rec_good U.ok m) (k := k) (sd := sd) ft.ab ft.lo x
  unfold eiS at g
  refine ⟨_, rfl, q, CR, dx, _, _, rfl, C.same _ _ U.ob, T.cl, T.nTally, rF_tally _ _, tq, CT, dt, _, _, rfl, C.hq, TT.cl, TT.nSaid, tF_said _ _, sa, _, rfl, .inl (SqL.of C.hs), ?_⟩
  refine ⟨_, rfl, q, dx, _, rfl, C.same _ _ U.ob, rF_no (by decide +kernel), _, rfl, _, rfl, ?_⟩
  refine ⟨M, q, dx, ra, tq, dt, sa, as, rows, v, x, n, k, sd, b, rfl, U, C, hx, hxl, hk, ft, ?_⟩
  cases e : ldS (recS rows m) n k sd x with
  | ok a c t =>
    rw [e] at g
    exact g
  | spent =>
    rw [e] at g
    exact fun H' hs => ⟨false, X.su, iteF (g H' hs)⟩
  | una k' sd' =>
    rw [e] at g hgo
    obtain ⟨hk', t, rfl, _⟩ := hgo
    intro H' sa' C'
    refine ⟨true, X.uu, iteT ?_⟩
    refine ⟨_, rfl, q, CR, dx, _, _, rfl, C'.same _ _ U.ob, T.cl, T.nTally, rF_tally _ _, tq, dt, _, rfl, C'.hq, tF_no (by decide +kernel), _, rfl, ?_⟩
    refine ⟨M, tq, dt, sa', k', sd, t, by rw [nVs_len]; rfl, C', fun H2 sb C2 => ?_⟩
    refine ⟨_, rfl, q, dx, _, rfl, C2.same _ _ U.ob, rF_no (by decide +kernel), _, rfl, _, rfl, ?_⟩
    have f1 := ft.hi
    have f2 := ft.len
    exact ⟨M, q, dx, ra, tq, dt, sb, as, rows, u, y, n, k', sd, b, rfl, U, C2, hy, hyl, by omega, ⟨ft.ab, ft.lo, by omega, by omega⟩, g⟩
theorem ok_behR {m : Nat} (F : Fun K "behind" "Running.behind" sBehind f fd) (T : ClsR K mg CR) (TT : ClsT K mg CT) (X : ClsX K mg CU CS bU bS)
    (GE : FnOk P w K mg base (CXE P w) (4 * m + 3) fE dE ["self", "place", "number"] (spEnt CT CR CU CS m)) (bE : Binds K dE ["self", "place", "number"] []) (mE : Meth K CR "entered" fE)
    (GI : FnOk P w K mg base (CXE P w) (4 * m + 5) fI dI ["self", "one", "other", "number"] (spEiR CT CR CU CS m)) (bI : Binds K dI ["self", "one", "other", "number"] []) (mI : Meth K CR "either" fI)
    (GR : FnOk P w K mg base CX0 2 fR dR ["step", "number", "said"] spReck) (kR : PySem.W.keepIn K (.ref fR) = true) (bR : Binds K dR ["step", "number", "said"] []) (mR : mg "reckoned" = some (.ref fR)) : FnOk P w K mg base (CXE P w) (4 * m + 6) f fd ["self", "step", "number"] (spBehR CT CR CU CS m) := by
  refine F.okX scBehR (fun vs H Q E h => ?_) (fun cdv A outer s H vs Q E hr h => ?_)
  · obtain ⟨M, q, dx, ra, tq, dt, sa, as, rows, v, s, n, k, sd, b, rfl, _⟩ := h
    rfl
  obtain ⟨M, q, dx, ra, tq, dt, sa, as, rows, v, s, n, k, sd, b, rfl, U, C, hs, ok, hl1, hl2, hk, ft, g⟩ := h
  have hr2 := hr.mono (j := 2) (by omega)
  have hr3 := hr.mono (j := 4 * m + 3) (by omega)
  refine ⟨_, pss_cons (ps_if (pt_cmpR op_eq (pe_ix ix_tup (pv 1) pe_int (fun _ _ => rfl)) pe_str (nomark _)) (pss_one (ps_ret (pe_methE (pv 0) T.cl mE GE hr3 bE .nil (pa_cons (pe_ix ix_tup (pv 1) pe_int (fun _ _ => rfl)) (pa_cons (pv 2) pa_nil))))) pss_nil)
    (pss_cons (ps_if (pt_cmpR op_eq (pe_ix ix_tup (pv 1) pe_int (fun _ _ => rfl)) pe_str (nomark _)) (pss_one (ps_raise rfl X.exU X.baU X.inU rfl X.mgU (pa_cons pe_str pa_nil))) pss_nil)
    (pss_cons (ps_if (pt_cmpR op_eq (pe_ix ix_tup (pv 1) pe_int (fun _ _ => rfl)) pe_str (nomark _)) (pss_one (ps_ret (pe_methE (pv 0) T.cl mI GI hr bI .nil (pa_cons (pe_ix ix_tup (pv 1) pe_int (fun _ _ => rfl)) (pa_cons (pe_ix ix_tup (pv 1) pe_int (fun _ _ => rfl)) (pa_cons (pv 2) pa_nil)))))) pss_nil)
    (pss_one (ps_ret (pe_call GR hr2 rfl mR kR bR .nil pass0 (pa_cons (pv 1) (pa_cons (pv 2) (pa_cons (pe_fld (pe_fld (pv 0) rfl) rfl) pa_nil)))))))), ?_⟩
  cases s with
  | ld l =>
    cases l with
    | none =>
      obtain ⟨a, rfl, ha⟩ := hs
      have haH := C.same _ _ ha
      refine ⟨_, rfl, a, _, _, _, rfl, rfl, SqT.of haH, at0 _ _, rfl, _, rfl, skipS (by decide +kernel) ?_⟩
      refine ⟨_, rfl, a, _, _, _, rfl, rfl, SqT.of haH, at0 _ _, rfl, _, rfl, takeS ?_⟩
      exact ⟨by show 1 ≤ sizeLine; decide, g H sa C⟩
    | go p =>
      obtain ⟨a, rfl, ha⟩ := hs
      have haH := C.same _ _ ha
      refine ⟨_, rfl, a, _, _, _, rfl, rfl, SqT.of haH, at0 _ _, rfl, _, rfl, takeS ?_⟩
      refine ⟨_, rfl, q, dx, _, rfl, C.same _ _ U.ob, rF_no (by decide +kernel), _, rfl, a, _, _, _, rfl, rfl, SqT.of haH, at1 _ _ _, _, rfl, ?_⟩
      exact ⟨M, q, dx, ra, tq, dt, sa, as, rows, p, n, k, sd, b, rfl, U, C, hl1 _ rfl p (List.mem_singleton.mpr rfl), hk, ft, g⟩
  | ei x y =>
    obtain ⟨a, c, d, rfl, ha, hx, hy⟩ := hs
    have haH := C.same _ _ ha
    refine ⟨_, rfl, a, _, _, _, rfl, rfl, SqT.of haH, at0 _ _, rfl, _, rfl, skipS (by decide +kernel) ?_⟩
    refine ⟨_, rfl, a, _, _, _, rfl, rfl, SqT.of haH, at0 _ _, rfl, _, rfl, skipS (by decide +kernel) ?_⟩
    refine ⟨_, rfl, a, _, _, _, rfl, rfl, SqT.of haH, at0 _ _, rfl, _, rfl, takeS ?_⟩
    refine ⟨_, rfl, q, dx, _, rfl, C.same _ _ U.ob, rF_no (by decide +kernel), _, rfl, a, _, _, _, rfl, rfl, SqT.of haH, at1 _ _ _, _, rfl, a, _, _, _, rfl, rfl, SqT.of haH, at2 _ _ _ _, _, rfl, ?_⟩
    obtain ⟨l1, l2⟩ := hl2 x y rfl
    exact ⟨M, q, dx, ra, tq, dt, sa, as, rows, c, d, x, y, n, k, sd, b, rfl, U, C, hx, hy, l1, l2, hk, ft, g⟩
  | sm s =>
    obtain ⟨a, rfl, ha⟩ := hs
    have haH := C.same _ _ ha
    have f2 := ft.hi
    have f3 := ft.len
    refine ⟨_, rfl, a, _, _, _, rfl, rfl, SqT.of haH, at0 _ _, rfl, _, rfl, skipS (sm_ne ok (by decide +kernel)) ?_⟩
    refine ⟨_, rfl, a, _, _, _, rfl, rfl, SqT.of haH, at0 _ _, rfl, _, rfl, skipS (sm_ne ok (by decide +kernel)) ?_⟩
    refine ⟨_, rfl, a, _, _, _, rfl, rfl, SqT.of haH, at0 _ _, rfl, _, rfl, skipS (sm_ne ok (by decide +kernel)) ?_⟩
    refine ⟨_, rfl, _, rfl, _, rfl, q, CR, dx, _, _, rfl, C.same _ _ U.ob, T.cl, T.nTally, rF_tally _ _, tq, CT, dt, _, _, rfl, C.hq, TT.cl, TT.nSaid, tF_said _ _, a, sa, n, s, sd, b, rfl, haH, ok, ft.ab, by omega, C.hs, by omega, fun H' h1 h2 => ?_⟩
    exact g H' sa (C.upd h1 h2)
theorem scEntR : FnScope ["self", "place", "number", "step"] ["self", "place", "number"] (defScope sEntered) := ⟨rfl, rfl, rfl, by decide +kernel, rfl, by decide +kernel, by decide +kernel⟩
theorem ok_entR {m : Nat} (F : Fun K "entered" "Running.entered" sEntered f fd) (T : ClsR K mg CR) (TT : ClsT K mg CT) (X : ClsX K mg CU CS bU bS)
    (GB : FnOk P w K mg base (CXE P w) (4 * m + 6) fB dB ["self", "step", "number"] (spBehR CT CR CU CS m)) (bB : Binds K dB ["self", "step", "number"] []) (mB : Meth K CR "behind" fB)
    (GT : FnOk P w K mg base (CXE P w) 1 fT dT ["self"] (spEnter CT CS)) (bT : Binds K dT ["self"] []) (mT : Meth K CT "enter" fT) : FnOk P w K mg base (CXE P w) (4 * (m + 1) + 3) f fd ["self", "place", "number"] (spEnt CT CR CU CS (m + 1)) := by
  refine F.okX scEntR (fun vs H Q E h => ?_) (fun cdv A outer s H vs Q E hr h => ?_)
  · obtain ⟨M, q, dx, ra, tq, dt, sa, as, rows, p, n, k, sd, b, rfl, _⟩ := h
    rfl
  obtain ⟨M, q, dx, ra, tq, dt, sa, as, rows, p, n, k, sd, b, rfl, U, C, hp, hk, ft, g⟩ := h
  have hr1 := hr.mono (j := 1) (by omega)
  have hp1 : p < as.length := by rw [U.len]; exact hp
  have ha := List.getElem?_eq_getElem hp1
  have hrw := List.getElem?_eq_getElem hp
  obtain ⟨us, hus, hst⟩ := U.row p _ _ ha hrw
  obtain ⟨hok, h30⟩ := U.ok _ (List.getElem_mem hp)
  have hld := U.lds _ (List.getElem_mem hp)
  have hgd : rows.getD p [] = rows[p] := by rw [List.getD_eq_getElem?_getD, hrw]; rfl
  refine ⟨_, pss_cons (ps_expr (pe_meth0E (pe_fld (pv 0) rfl) TT.cl mT GT hr1 bT .nil))
    (pss_cons (ps_for (Wx.passesOwn own_cx) rfl (pi_list (pe_ix ix_list (pe_fld (pv 0) rfl) (pv 1) (fun _ _ => rfl))) (pg_name (i := 3) scEntR.nd rfl (Or.inl rfl))
      (pss_one (ps_set (i := 2) scEntR.nd rfl (Or.inl rfl) (pe_methE (pv 0) T.cl mB GB hr bB .nil (pa_cons (pv 3) (pa_cons (pv 2) pa_nil))))))
    (pss_one (ps_ret (pv 2)))), ?_⟩
  refine ⟨_, rfl, q, CR, dx, _, _, rfl, C.same _ _ U.ob, T.cl, T.nTally, rF_tally _ _, tq, dt, _, rfl, C.hq, tF_no (by decide +kernel), ?_⟩
  refine ⟨M, tq, dt, sa, k, sd, rfl, C, fun hk0 => ?_, fun k' hk' H1 C1 => ?_⟩
  · subst hk0
    exact g
  subst hk'
  have g : Outc M CT CU CS tq dt Q E (stepsS (recS rows m) (rows.getD p []) n k' sd) := g
  rw [hgd] at g
  generalize rows[p] = ss at *
  generalize as[p] = l at *
  have f1 := ft.hi
  have f2 := ft.len
  have f3 := ft.lo
  have hul := Paired.length hst
  refine ⟨_, rfl, q, CR, dx, _, _, rfl, C1.same _ _ U.ob, T.cl, T.nRows, rF_rows _ _, _, rfl, ra, _, _, _, rfl, rfl, SqL.of (C1.same _ _ U.lst), atI_nat (v := .ref l) (by rw [List.getElem?_map, ha]; rfl), l, rfl, ⟨_, SqL.of (C1.same _ _ hus)⟩, for_list (K := K) (a := l) (xs := us) (fun i σ H2 => ∃ (v3 : Option V) (n1 : Int) (k1 : Nat) (sd1 : List Int) (sa1 : Addr), σ = [some (.ref q), some (.int (p : Int)), some (.int n1), v3] ∧ Cur M H2 CT tq dt sa1 k1 sd1 ∧ k1 ≤ k' ∧ Ab (b + 101 * i + 3200 * (k' - k1)) n1 ∧ sd1.length ≤ sd.length + i + 31 * (k' - k1) ∧ stepsS (recS rows m) (ss.drop i) n1 k1 sd1 = stepsS (recS rows m) ss n k' sd)
    ⟨none, n, k', sd, sa, rfl, C1, Nat.le_refl _, ft.ab.mono (by omega), by omega, rfl⟩ (fun i σ H2 _ ⟨_, _, _, _, _, _, C2, _⟩ => SqL.of (C2.same _ _ hus)) ?_ ?_⟩
  · rintro i v σ H2 hi ⟨v3, n1, k1, sd1, sa1, rfl, C2, hk1, hab, hsl, hdr⟩
    obtain ⟨s, hs, hsa⟩ := paired_get hst hi
    have hil : i < ss.length := (List.getElem?_eq_some_iff.mp hs).1
    have hmem : s ∈ ss := List.mem_of_getElem? hs
    have ok := hok s hmem
    obtain ⟨l1, l2⟩ := hld s hmem
    have edr : ss.drop i = s :: ss.drop (i + 1) := by
      obtain ⟨hi', rfl⟩ := List.getElem?_eq_some_iff.mp hs
      exact List.drop_eq_getElem_cons hi'
    rw [edr] at hdr
    have hsg := step_good (rec_good U.ok m) (k := k1) (sd := sd1) ok hab (by omega)
    have hdr2 : (match stepS (recS rows m) n1 k1 sd1 s with
      | .ok n' k' sd' => stepsS (recS rows m) (ss.drop (i + 1)) n' k' sd'
      | .una k' sd' => .una k' sd'
      | .spent => .spent) = stepsS (recS rows m) ss n k' sd := hdr
    refine ⟨_, rfl, q, dx, _, rfl, C2.same _ _ U.ob, rF_no (by decide +kernel), _, rfl, _, rfl, ?_⟩
    refine ⟨M, q, dx, ra, tq, dt, sa1, as, rows, v, s, n1, k1, sd1, _, rfl, U, C2, hsa, ok, l1, l2, by omega, ⟨hab, by omega, by omega, by omega⟩, ?_⟩
    cases e : stepS (recS rows m) n1 k1 sd1 s with
    | ok n2 k2 sd2 =>
      rw [e] at hsg hdr2
      obtain ⟨g1, g2, t2, rfl, g4⟩ := hsg
      intro H3 sa3 C3
      exact ⟨_, n2, k2, _, sa3, rfl, C3, by omega, g2.mono (by omega), by rw [List.length_append]; omega, hdr2⟩
    | una k2 sd2 =>
      rw [e] at hdr2
      rw [← hdr2] at g
      exact g
    | spent =>
      rw [e] at hdr2
      rw [← hdr2] at g
      exact g
  · rintro σ H2 ⟨v3, n1, k1, sd1, sa1, rfl, C2, hk1, hab, hsl, hdr⟩
    rw [hul, List.drop_length] at hdr
    rw [← hdr] at g
    exact ⟨_, rfl, g H2 sa1 C2⟩
theorem ok_ent0 (F : Fun K "entered" "Running.entered" sEntered f fd) : FnOk P w K mg base (CXE P w) 3 f fd ["self", "place", "number"] (spEnt CT CR CU CS 0) := by
  refine F.okX (k := 2) scEntR (fun vs H Q E h => ?_) (fun cdv A outer s H vs Q E hr h => ?_)
  · obtain ⟨M, q, dx, ra, tq, dt, sa, as, rows, p, n, k, sd, b, rfl, _⟩ := h
    rfl
  obtain ⟨M, q, dx, ra, tq, dt, sa, as, rows, p, n, k, sd, b, rfl, U, C, hp, hk, _⟩ := h
  omega
theorem ok_ents (FE : Fun K "entered" "Running.entered" sEntered fE dE) (bE : Binds K dE ["self", "place", "number"] []) (mE : Meth K CR "entered" fE)
    (FB : Fun K "behind" "Running.behind" sBehind fB dB) (bB : Binds K dB ["self", "step", "number"] []) (mB : Meth K CR "behind" fB)
    (FI : Fun K "either" "Running.either" sEithR fI dI) (bI : Binds K dI ["self", "one", "other", "number"] []) (mI : Meth K CR "either" fI)
    {fN : Addr} {dN : FuncData} (GN : FnOkN P w K mg base 1 fN dN ["self", "length"] (spBack CT)) (bN : Binds K dN ["self", "length"] []) (mN : Meth K CT "take_back" fN)
    (GT : FnOk P w K mg base (CXE P w) 1 fT dT ["self"] (spEnter CT CS)) (bT : Binds K dT ["self"] []) (mT : Meth K CT "enter" fT)
    (T : ClsR K mg CR) (TT : ClsT K mg CT) (Tx : Txt mg) (X : ClsX K mg CU CS bU bS)
    (GR : FnOk P w K mg base CX0 2 fR dR ["step", "number", "said"] spReck) (kR : PySem.W.keepIn K (.ref fR) = true) (bR : Binds K dR ["step", "number", "said"] []) (mR : mg "reckoned" = some (.ref fR)) : ∀ m, FnOk P w K mg base (CXE P w) (4 * m + 3) fE dE ["self", "place", "number"] (spEnt CT CR CU CS m)
  | 0 => ok_ent0 FE
  | m + 1 => by
    have GE := ok_ents FE bE mE FB bB mB FI bI mI GN bN mN GT bT mT T TT Tx X GR kR bR mR m
    have GL := ok_ldR FB T X GE bE mE
    have GI := ok_eiR FI T TT Tx X GL bB mB GN bN mN
    have GB := ok_behR FB T TT X GE bE mE GI bI mI GR kR bR mR
    exact ok_entR FE T TT X GB bB mB GT bT mT
end
def mask (H : Hp) (q sa : Addr) : Hp := fun b => if b = q ∨ b = sa then none else H b
theorem mask_sub {H : Hp} {q sa : Addr} : Same (mask H q sa) H := fun b o e => by
  unfold mask at e
  split at e
  · cases e
  · exact e
theorem mask_at {H : Hp} {q sa b : Addr} {o : HO} (e : H b = some o) (h1 : b ≠ q) (h2 : b ≠ sa) : mask H q sa b = some o := by
  unfold mask
  rw [if_neg (fun z => z.elim h1 h2)]
  exact e
structure Rw0 (H : Hp) (ra : Addr) (as : List Addr) (rows : List (List RS)) : Prop where
  lst : H ra = some (.lst (as.map V.ref))
  len : as.length = rows.length
  row : ∀ (p : Nat) (a : Addr) (r : List RS), as[p]? = some a → rows[p]? = some r → ∃ us, H a = some (.lst us) ∧ Paired (RAt H) us r
  ok : OkB rows
  lds : ∀ r ∈ rows, ∀ s ∈ r, (∀ l, s = .ld l → ∀ p ∈ Ah.ldsL l, p < rows.length) ∧ ∀ x y, s = .ei x y → (∀ p ∈ Ah.ldsL x, p < rows.length) ∧ ∀ p ∈ Ah.ldsL y, p < rows.length
theorem Rw0.same {H H' : Hp} {ra : Addr} {as : List Addr} {rows : List (List RS)} (R : Rw0 H ra as rows) (s : Same H H') : Rw0 H' ra as rows :=
  ⟨s _ _ R.lst, R.len, fun p a r h1 h2 => let ⟨us, e, h⟩ := R.row p a r h1 h2; ⟨us, s _ _ e, Paired.mapP h fun _ _ z => z.keep s.keepT⟩, R.ok, R.lds⟩
def OutR (H : Hp) (CU CS : Addr) (Q : VK) (E : XK) : Res → Prop
  | .ok _ _ sd => ∀ (H' : Hp) (l : Addr), Same H H' → H l = none → H' l = some (.lst (nVs sd)) → Q (.ref l) H'
  | .una _ _ => ∀ H' : Hp, Same H H' → E (.ref CU) none H'
  | .spent => ∀ H' : Hp, Same H H' → E (.ref CS) none H'
section
variable {P : Program} {w : World} {K : PySem.W.Frag} {mg : Str → Option Value} {base : Heap}
theorem FunD.okX {x qual : Str} {st : Stmt} {f T : Addr} {fd : FuncData} {N ps : List Str} {k : Nat} {sp : Sp} (F : FunD K x qual st f fd T) (S : FnScope N ps (defScope st)) (len : ∀ vs H Q E, sp vs H Q E → vs.length = ps.length)
    (hbody : ∀ (cdv : Value) (A : Around) (outer : List Env) (s : Shared) (H : Hp) (vs : List V) (Q : VK) (E : XK), Room k (A.deeper (PyProof.Rows.envOfC qual (defScope st) s.heap.objs.size f cdv)) → sp vs H Q E →
      ∃ t, PSs ((cxOf (CXE P w) P w K mg base N qual (defScope st) f cdv A outer s H E).thrown fun _ => E) (defBody st) t ∧ t { nx := fun _ H' => Q .non H', rt := Q } (start N vs) H) :
    FnOk P w K mg base (CXE P w) (k + 1) f fd ps sp := by
  obtain ⟨oc, od, kV, doc, pm, an, cdv, ct, osl, rfl, lk, hcd⟩ := F.ex
  refine fn_of lk hcd S len fun A outer s H vs Q E hr hsp => ?_
  obtain ⟨t, h, q⟩ := hbody cdv A outer s H vs Q E hr hsp
  refine ⟨t, fun pins s' σ' H' D I hw => ?_, q⟩
  exact wpAny_mono (h pins s' σ' H' D (I.wish _) hw) (fun _ _ z => z.unwish) fun e s2 z => z.leaves
variable {f fC fF fE fIR fIT T0 CT CR CU CS : Addr} {fd dC dF dE dIR dIT : FuncData} {bU bS : List Value}
theorem scFirst : FnScope ["starts", "word"] ["starts", "word"] (defScope sFirst) := ⟨rfl, rfl, rfl, by decide +kernel, rfl, by decide +kernel, by decide +kernel⟩
theorem scRun : FnScope ["starts", "rows", "word", "number", "count", "running"] ["starts", "rows", "word", "number", "count"] (defScope sRun) := ⟨rfl, rfl, rfl, by decide +kernel, rfl, by decide +kernel, by decide +kernel⟩
end
end Bk
namespace L2
open PySem PySem.Spec PyProof.Rows
section
variable {P : Program} {w : World} {K : PySem.W.Frag} {mg : Str → Option Value} {base : Heap} {N : List Str} {qual : Str} {scope : Scope} {f : Addr} {cd : Value} {cl : List (Str × Addr)} {A : Around} {outer : List Env} {s₀ : Shared} {H₀ : Hp} {E : XK}
theorem own_cxC {CX : CXT} : Own (cxC CX P w K mg base N qual scope f cd cl A outer s₀ H₀ E) := ⟨rfl, rfl, rfl⟩
theorem Wx.leavesC {e : Value} {s : Shared} (h : Wx (cxC (CXE P w) P w K mg base N qual scope f cd cl A outer s₀ H₀ E) (fun _ => E) e s) : (cxC (CXE P w) P w K mg base N qual scope f cd cl A outer s₀ H₀ E).xe e s := by
  obtain ⟨x, cls, dx, H, σ, he, I, fx, fly, hE⟩ := h
  subst he
  have ow : Own (cxC (CXE P w) P w K mg base N qual scope f cd cl A outer s₀ H₀ E) := own_cxC
  show wpAny _ _ (leaving _ _) _ _ _
  unfold leaving
  refine wpAny_bind (noteX ow I.ok.frames I fx fly fun h1 T oe oT vs ts I1 fT a1 => ?_)
  refine flightD (s := { s with heap := h1 }) a1 (frs (cxC (CXE P w) P w K mg base N qual scope f cd cl A outer s₀ H₀ E).stack) fun h2 oT' ts' flw a2 => ?_
  have hch : ∀ b ∈ [T], FpOk (cxC (CXE P w) P w K mg base N qual scope f cd cl A outer s₀ H₀ E) [] H b := fun b hb => by rw [List.mem_singleton.mp hb]; exact fT
  refine ⟨x, cls, dx, H, rfl, ⟨I1.os, I1.bare, I1.unFlew rfl rfl rfl flw (fun b hb => (hch b hb).old rfl), I1.flew (g := s.gens) flw (fun b hb => (hch b hb).1), fx.1, fx.old rfl, T, oe, oT', vs, ts', fT.1, fT.old rfl, a2⟩, hE⟩
end
section
variable {P : Program} {w : World} {K : PySem.W.Frag} {mg : Str → Option Value} {base : Heap} {k : Nat} {f : Addr} {o : Obj} {name qual : Str} {params : Arguments} {scope : Scope} {cl : List (Str × Addr)} {dV kV doc pm cdv ct : Value} {an : Option Addr} {N ps : List Str} {rest : List (Option V)} {sp : Sp}
theorem clo_ofX {body : List Stmt} (ho : base.get? f = some o) (hd : o.data = .func (PySem.W.fnX name qual params body scope cl dV kV doc pm an cdv ct)) (hcd : base.CodeRec cdv qual) (S : CloScope N ps scope) (C : Closed base N ps scope cl rest)
    (len : ∀ vs H Q E, sp vs H Q E → vs.length = ps.length)
    (hbody : ∀ (A : Around) (outer : List Env) (s : Shared) (H : Hp) (vs : List V) (Q : VK) (E : XK), Room k (A.deeper (PySem.W.envX qual scope s.heap.objs.size f cdv cl)) → sp vs H Q E →
      ∃ t, PSs ((cxC (CXE P w) P w K mg base N qual scope f cdv cl A outer s H E).thrown fun _ => E) body t ∧ t { nx := fun _ H' => Q .non H', rt := Q } (vs.map some ++ rest) H) :
    FnOk P w K mg base (CXE P w) (k + 1) f (PySem.W.fnX name qual params body scope cl dV kV doc pm an cdv ct) ps sp := by
  refine clo_of ho hd hcd S C len fun A outer s H vs Q E hr hsp => ?_
  obtain ⟨t, h, q⟩ := hbody A outer s H vs Q E hr hsp
  refine ⟨t, fun pins s' σ' H' D I hw => ?_, q⟩
  exact wpAny_mono (h pins s' σ' H' D (I.wish _) hw) (fun _ _ z => z.unwish) fun e s2 z => z.leavesC
theorem lam_ofX {body : Expr} (ho : base.get? f = some o) (hd : o.data = .func (PySem.W.kla_fn name qual params body scope cl pm cdv ct)) (hcd : base.CodeRec cdv qual) (S : CloScope N ps scope) (C : Closed base N ps scope cl rest)
    (len : ∀ vs H Q E, sp vs H Q E → vs.length = ps.length)
    (hbody : ∀ (A : Around) (outer : List Env) (s : Shared) (H : Hp) (vs : List V) (Q : VK) (E : XK), Room k (A.deeper (PySem.W.envX qual scope s.heap.objs.size f cdv cl)) → sp vs H Q E →
      ∃ t, PE ((cxC (CXE P w) P w K mg base N qual scope f cdv cl A outer s H E).thrown fun _ => E) body t ∧ t (vs.map some ++ rest) H Q) :
    FnOk P w K mg base (CXE P w) (k + 1) f (PySem.W.kla_fn name qual params body scope cl pm cdv ct) ps sp := by
  refine lam_of ho hd hcd S C len fun A outer s H vs Q E hr hsp => ?_
  obtain ⟨t, h, q⟩ := hbody A outer s H vs Q E hr hsp
  refine ⟨t, fun pins s' σ' H' Q' I hw => ?_, q⟩
  refine wpAny_mono (h pins s' σ' H' Q' (I.wish _) hw) (fun u s2 z => ?_) fun e s2 z => z.leavesC
  obtain ⟨v, H2, I2, rv, q2⟩ := z
  exact ⟨v, H2, I2.unwish, rv, q2⟩
end
def tCallVE (R : Addr → Sp → Prop) (EX : XS) (tf : TE) (t : TA) : TE := fun σ H Q => tf σ H fun x H1 => ∃ f sp, x = .ref f ∧ R f sp ∧ t σ H1 fun vs H2 => sp vs H2 Q (EX σ)
section
variable {X : Cx} {EX : XS} {k : Nat} {ps : List Str} {R : Addr → Sp → Prop} {c e : Expr} {es : List Expr} {pos : Pos} {tf : TE} {t : TA}
theorem pe_callVE (hR : ∀ f sp, R f sp → FnV X.prog X.w X.K X.mg X.base (CXE X.prog X.w) k ps f sp) (hr : Room k X.A) (hc : PE (X.thrown EX) c tf) (ha : PA (X.thrown EX) (e :: es) t)
    (he : eval (.Call c (e :: es) [] pos) X.env = (do callWith pos (← eval c X.env) [] (backTo pos (starEach (e :: es) X.env)) []) := by rfl)
    (hs : starEach (e :: es) X.env = (false, eval e X.env) :: starEach es X.env := by rfl) (hpl : (backTo pos (starEach es X.env)).any (·.1) = false := by rfl) (hcs : X.calm = true ∧ X.sx = true := by exact ⟨rfl, rfl⟩) :
    PE (X.thrown EX) (.Call c (e :: es) [] pos) (tCallVE R EX tf t) := by
  intro pins s σ H Q I h
  show wpAny _ _ (eval (.Call c (e :: es) [] pos) X.env) _ _ _
  rw [he]
  refine wpAny_bind (thn (hc pins s σ H _ I h) fun u s1 ⟨x, H1, I1, rx, f, sp, ex, hf, q⟩ => ?_)
  subst ex
  obtain rfl : u = Value.ref f := rx
  obtain ⟨fd, o, ho, hd, F, hb⟩ := hR f sp hf
  obtain ⟨oc, od, dat, sl⟩ := o
  obtain rfl : dat = .func fd := hd
  have args := ha pos pins s1 σ H1 _ I1 q
  have hs' : starEach (e :: es) (X.thrown EX).env = (false, eval e X.env) :: starEach es X.env := hs
  rw [hs'] at args
  rw [hs]
  refine PySem.W.callWith_of (P := fun h => h.get? f = some ⟨oc, od, .func fd, sl⟩) (by show ((false || (backTo pos (starEach es X.env)).any (·.1)) || false) = false; rw [hpl]; rfl)
    (fun h hh => ⟨.frame, .inl rfl, (PySem.W.Looks.ld (part := none) hh).andThen .now⟩) (PySem.Calls.evalArgs_plain (thn args fun us s2 ⟨vs, H2, I2, r, q2⟩ => ⟨I2.bk _ _ ho, ?_⟩))
  exact run_fnE F hr hb .nil hcs I2 r (by rw [List.append_nil]; exact q2)
def tCallGE (X : Cx) (k : Nat) (ps : List Str) (EX : XS) (tf : TE) (t : TA) : TE := fun σ H Q => tf σ H fun x H1 => ∃ f, x = .ref f ∧ (∃ φ, H1 f = some (.ext φ) ∧ ∀ h, φ h → ∃ o fd, h.get? f = some o ∧ o.data = .func fd) ∧ t σ H1 fun vs H2 => ∃ fz sp, Fz H2 fz ∧
  (∀ base' : Heap, X.K.In base' → base'.Ns mainGlobals X.mg → (∀ b o, X.base.get? b = some o → base'.get? b = some o) → (∀ a ∈ fz, ∀ φ, H2 a = some (.ext φ) → φ base') → FnV X.prog X.w X.K X.mg base' (CXE X.prog X.w) k ps f sp) ∧
  (∃ φ, H2 f = some (.ext φ) ∧ ∀ h, φ h → ∃ o fd, h.get? f = some o ∧ o.data = .func fd) ∧
  sp vs (offF H2 fz) (fun v H' => (∀ a ∈ fz, H' a = none) → Q v (onF H2 H' fz)) (fun c d H' => EX σ c d (onF H2 H' fz))
theorem pe_callGE {k : Nat} {ps : List Str} {EX : XS} {c e : Expr} {es : List Expr} {pos : Pos} {tf : TE} {t : TA} (hr : Room k X.A) (hc : PE (X.thrown EX) c tf) (ha : PA (X.thrown EX) (e :: es) t)
    (he : eval (.Call c (e :: es) [] pos) X.env = (do callWith pos (← eval c X.env) [] (backTo pos (starEach (e :: es) X.env)) []) := by rfl)
    (hs : starEach (e :: es) X.env = (false, eval e X.env) :: starEach es X.env := by rfl) (hpl : (backTo pos (starEach es X.env)).any (·.1) = false := by rfl) (hcs : X.calm = true ∧ X.sx = true := by exact ⟨rfl, rfl⟩) :
    PE (X.thrown EX) (.Call c (e :: es) [] pos) (tCallGE X k ps EX tf t) := by
  intro pins s σ H Q I h
  show wpAny _ _ (eval (.Call c (e :: es) [] pos) X.env) _ _ _
  rw [he]
  refine wpAny_bind (thn (hc pins s σ H _ I h) fun u s1 ⟨x, H1, I1, rx, f, ex, _, q⟩ => ?_)
  subst ex
  obtain rfl : u = Value.ref f := rx
  have args := ha pos pins s1 σ H1 _ I1 q
  have hs' : starEach (e :: es) (X.thrown EX).env = (false, eval e X.env) :: starEach es X.env := hs
  rw [hs'] at args
  rw [hs]
  refine PySem.W.callWith_of (P := fun h => ∃ o fd, h.get? f = some o ∧ o.data = .func fd) (by show ((false || (backTo pos (starEach es X.env)).any (·.1)) || false) = false; rw [hpl]; rfl)
    (fun h hh => ?_) (PySem.Calls.evalArgs_plain (thn args fun us s2 ⟨vs, H2, I2, r, fz, sp, F, G, ⟨φ, e2, hφ⟩, q2⟩ => ⟨hφ _ (I2.hok f _ e2).1, ?_⟩))
  · obtain ⟨⟨oc, od, dat, sl⟩, fd, hh, hd⟩ := hh
    obtain rfl : dat = .func fd := hd
    exact ⟨.frame, .inl rfl, (PySem.W.Looks.ld (part := none) hh).andThen .now⟩
  · obtain ⟨base', e0, up, at_⟩ := I2.env0G F
    have hφ' : ∀ a ∈ fz, ∀ φ, H2 a = some (.ext φ) → φ base' := fun a ha φ ea => by
      obtain ⟨g1, _, g3⟩ := I2.hok a _ ea
      exact g3 _ _ g1 fun o q => by rw [at_ a ha]; exact q
    obtain ⟨fd, o, ho, hd, Fn, hb⟩ := G base' e0.mod.kin e0.mod.glob up hφ'
    have hl : us.length = ps.length := by rw [← r.length]; exact Fn.len _ _ _ _ q2
    have hbs : BindsTo s2 fd ⟨us, []⟩ (ps.zip us) := by
      have := hb s2 us I2.kIn (by rw [List.append_nil]; exact hl)
      rwa [List.append_nil] at this
    have rc : RoomC (CXE X.prog X.w) base' k X.A := ⟨hr, fun _ => I2.ok.st hcs.2, .inl (I2.ok.st hcs.2)⟩
    refine wpAny_call (codeAny_mono (Fn.run X.A X.stack s2 (offF H2 fz) ⟨us, []⟩ us vs _ _ rc e0 hbs r q2) fun rr s' hq => ?_)
    cases rr with
    | error ee =>
      obtain ⟨x, cls, dx, H', ex, O, qe⟩ := hq
      obtain ⟨u1, u2⟩ := Un.on F I2.hok I2.stkFree O.un O.hok
      refine Wx.passes I2.unwish (show (CXE X.prog X.w).f X.stack H2 s2 (EX σ) ee s' from ⟨x, cls, dx, onF H2 H' fz, ex, ⟨O.os, O.bare, u1, u2, ?_, O.nx, ?_⟩, qe⟩)
      · rw [on_out fun z => by
          obtain ⟨φ, y⟩ := F x z
          obtain ⟨_, ⟨o1, g1⟩, _⟩ := I2.hok x _ y
          exact absurd (Nat.lt_of_lt_of_le (Heap.lt_size g1) O.nx) (Nat.lt_irrefl _)]
        exact O.hx
      · obtain ⟨T, oe, oT, vs', ts, t1, t2, t3⟩ := O.fly
        refine ⟨T, oe, oT, vs', ts, ?_, t2, t3⟩
        rw [on_out fun z => by
          obtain ⟨φ, y⟩ := F T z
          obtain ⟨_, ⟨o1, g1⟩, _⟩ := I2.hok T _ y
          exact absurd (Nat.lt_of_lt_of_le (Heap.lt_size g1) t2) (Nat.lt_irrefl _)]
        exact t1
    | ok fl =>
      cases fl with
      | ret u =>
        obtain ⟨v, H', os, bare, un, hok, rv, qv⟩ := hq
        obtain ⟨u1, u2⟩ := Un.on F I2.hok I2.stkFree un hok
        exact I2.after ⟨v, onF H2 H' fz, os, bare, u1, u2, rv, qv fun a ha => by
          obtain ⟨φ, y⟩ := F a ha
          obtain ⟨_, ⟨o1, g1⟩, _⟩ := I2.hok a _ y
          exact un.free a o1 g1 (off_in ha) (by simp)⟩
      | next => exact False.elim hq
      | brk => exact False.elim hq
      | cont => exact False.elim hq
end
end L2
namespace Bk
open PySem L2 Rk
def ifThen : Stmt → List Stmt
  | .If _ a _ _ => a
  | _ => []
def retE : Stmt → Expr
  | .Return (some e) _ => e
  | _ => .Name "" ⟨0, 0, 0, 0⟩
def lamArgs : Expr → Arguments
  | .Lambda a _ _ _ => a
  | _ => defArgs (.Pass ⟨0, 0, 0, 0⟩)
def lamBody : Expr → Expr
  | .Lambda _ b _ _ => b
  | e => e
def lamScope : Expr → Scope
  | .Lambda _ _ sc _ => sc
  | _ => defScope (.Pass ⟨0, 0, 0, 0⟩)
abbrev eGo : Expr := retE ((ifThen ((defBody sWStep).getD 0 (.Pass ⟨0, 0, 0, 0⟩))).getD 0 (.Pass ⟨0, 0, 0, 0⟩))
abbrev eSm : Expr := retE ((defBody sWStep).getD 3 (.Pass ⟨0, 0, 0, 0⟩))
abbrev sRDone : Stmt := (defBody sWRow).getD 1 (.Pass ⟨0, 0, 0, 0⟩)
abbrev sEDone : Stmt := (defBody sWEi).getD 0 (.Pass ⟨0, 0, 0, 0⟩)
structure LamB (base : Heap) (e : Expr) (f : Addr) (cl : List (Str × Addr)) : Prop where
  ex : ∃ (qual : Str) (pm cdv ct : Value) (o : Obj), base.get? f = some o ∧ o.data = .func (PySem.W.kla_fn "<lambda>" qual (lamArgs e) (lamBody e) (lamScope e) cl pm cdv ct) ∧ base.CodeRec cdv qual
structure DefB (base : Heap) (st : Stmt) (f : Addr) (cl : List (Str × Addr)) : Prop where
  ex : ∃ (name qual : Str) (doc pm cdv ct : Value) (o : Obj), base.get? f = some o ∧ o.data = .func (PySem.W.fnX name qual (defArgs st) (defBody st) (defScope st) cl .none .none doc pm none cdv ct) ∧ base.CodeRec cdv qual
structure CellsB (base : Heap) (sc : Scope) (cl : List (Str × Addr)) : Prop where
  inj : ∀ x y c, cl.lookup x = some c → cl.lookup y = some c → x = y
  has : ∀ x, sc.names.lookup x = some .free → ∃ c, cl.lookup x = some c
  cell : ∀ x c, cl.lookup x = some c → ∃ v, base.IsCell c v
def VarB (base : Heap) (cl : List (Str × Addr)) (x : Str) (v : V) : Prop := ∃ c u, cl.lookup x = some c ∧ base.IsCell c (some u) ∧ RelV v u
def RestB (base : Heap) (sc : Scope) (cl : List (Str × Addr)) : List Str → List (Option V) → Prop
  | [], [] => True
  | _ :: N, none :: r => RestB base sc cl N r
  | x :: N, some v :: r => sc.names.lookup x = some .free ∧ VarB base cl x v ∧ RestB base sc cl N r
  | _, _ => False
theorem RestB.at {base : Heap} {sc : Scope} {cl : List (Str × Addr)} : ∀ {N : List Str} {r : List (Option V)}, RestB base sc cl N r → r.length = N.length ∧ ∀ (j : Nat) (v : V), r[j]? = some (some v) → ∃ x c u, N[j]? = some x ∧ sc.names.lookup x = some .free ∧ cl.lookup x = some c ∧ base.IsCell c (some u) ∧ RelV v u
  | [], [], _ => ⟨rfl, fun j v e => by cases e⟩
  | x :: N, none :: r, h => by
    obtain ⟨h1, h2⟩ := RestB.at (N := N) (r := r) h
    refine ⟨by rw [List.length_cons, List.length_cons, h1], fun j v e => ?_⟩
    cases j with
    | zero => cases e
    | succ j => exact h2 j v e
  | x :: N, some u :: r, ⟨g1, ⟨c, w, g2, g3, g4⟩, h⟩ => by
    obtain ⟨h1, h2⟩ := RestB.at (N := N) (r := r) h
    refine ⟨by rw [List.length_cons, List.length_cons, h1], fun j v e => ?_⟩
    cases j with
    | zero =>
      cases e
      exact ⟨x, c, w, rfl, g1, g2, g3, g4⟩
    | succ j => exact h2 j v e
theorem closed_of {base : Heap} {sc : Scope} {cl : List (Str × Addr)} {ps N : List Str} {r : List (Option V)} (C : CellsB base sc cl) (h : RestB base sc cl N r) : Closed base (ps ++ N) ps sc cl r := by
  obtain ⟨h1, h2⟩ := h.at
  refine ⟨C.inj, C.has, C.cell, by rw [List.length_append, h1], fun j v e => ?_⟩
  obtain ⟨x, c, u, g1, g⟩ := h2 j v e
  refine ⟨x, c, u, ?_, g⟩
  rw [List.getElem?_append_right (Nat.le_add_right _ _), Nat.add_sub_cancel_left]
  exact g1
section
variable (base : Heap) (M : Hp) (fU wv tq : Addr)
def LdB (f : Addr) : Ah.Ld → Prop
  | .none => f = fU
  | .go p => ∃ cl t, LamB base eGo f cl ∧ CellsB base (lamScope eGo) cl ∧ VarB base cl "step" (.ref t) ∧ M t = some (.tup [.str "go", .int (p : Int)]) ∧ VarB base cl "woven" (.ref wv)
def StB (f : Addr) : RS → Prop
  | .ld l => LdB base M fU wv f l
  | .ei x y => ∃ cl fa fb, DefB base sEDone f cl ∧ CellsB base (defScope sEDone) cl ∧ VarB base cl "one" (.ref fa) ∧ LdB base M fU wv fa x ∧ VarB base cl "other" (.ref fb) ∧ LdB base M fU wv fb y ∧ VarB base cl "tally" (.ref tq)
  | .sm s => ∃ cl t, LamB base eSm f cl ∧ CellsB base (lamScope eSm) cl ∧ VarB base cl "step" (.ref t) ∧ M t = some (.tup (.str s.pr.1 :: s.pr.2)) ∧ VarB base cl "tally" (.ref tq)
def RwB (f : Addr) (ss : List RS) : Prop := ∃ (cl : List (Str × Addr)) (pa : Addr) (us : List V), DefB base sRDone f cl ∧ CellsB base (defScope sRDone) cl ∧ VarB base cl "parts" (.ref pa) ∧ M pa = some (.lst us) ∧ Paired (fun (v : V) s => ∃ g, v = .ref g ∧ StB base M fU wv tq g s) us ss ∧ VarB base cl "tally" (.ref tq)
structure WvB (as : List Addr) (rows : List (List RS)) : Prop where
  lst : M wv = some (.lst (as.map V.ref))
  len : as.length = rows.length
  row : ∀ (p : Nat) (a : Addr) (r : List RS), as[p]? = some a → rows[p]? = some r → RwB base M fU wv tq a r
  ok : OkB rows
  lds : ∀ r ∈ rows, ∀ s ∈ r, (∀ l, s = .ld l → ∀ p ∈ Ah.ldsL l, p < rows.length) ∧ ∀ x y, s = .ei x y → (∀ p ∈ Ah.ldsL x, p < rows.length) ∧ ∀ p ∈ Ah.ldsL y, p < rows.length
end
def vRes (M : Hp) (CT CU CS tq dt : Addr) (m : Nat) (r : Int → Nat → List Int → Res) : Sp := fun vs H Q E => ∃ (sa : Addr) (n : Int) (k : Nat) (sd : List Int) (b : Nat), vs = [.int n] ∧ Cur M H CT tq dt sa k sd ∧ k < m ∧ Fits b n k sd ∧ Outc M CT CU CS tq dt Q E (r n k sd)
section
variable {P : Program} {w : World} {K : PySem.W.Frag} {mg : Str → Option Value} {base : Heap} {M : Hp} {fU wv tq dt CT CU CS fN fT fR : Addr} {dU dN dT dR : FuncData} {bU bS : List Value} {as : List Addr} {rows : List (List RS)} {f : Addr} {fd : FuncData} {m j : Nat}
theorem scGo : CloScope ["number", "step", "woven"] ["number"] (lamScope eGo) := ⟨rfl, rfl, rfl, by decide +kernel, rfl, by decide +kernel, by decide +kernel⟩
theorem scSm : CloScope ["number", "step", "tally"] ["number"] (lamScope eSm) := ⟨rfl, rfl, rfl, by decide +kernel, rfl, by decide +kernel, by decide +kernel⟩
theorem scRD : CloScope ["number", "part", "parts", "tally"] ["number"] (defScope sRDone) := ⟨rfl, rfl, rfl, by decide +kernel, rfl, by decide +kernel, by decide +kernel⟩
theorem scED : CloScope ["number", "said_before", "one", "other", "tally"] ["number"] (defScope sEDone) := ⟨rfl, rfl, rfl, by decide +kernel, rfl, by decide +kernel, by decide +kernel⟩
theorem scUna : FnScope ["number"] ["number"] (defScope sUna) := ⟨rfl, rfl, rfl, by decide +kernel, rfl, by decide +kernel, by decide +kernel⟩
theorem vUna (F : Fun K "unanswered" "unanswered" sUna f fd) (X : ClsX K mg CU CS bU bS) (hK : K.In base) (bn : Binds K fd ["number"] []) {R : RecR} : FnV P w K mg base (CXE P w) (j + 1) ["number"] f (vRes M CT CU CS tq dt m fun n k sd => ldS R n k sd .none) := by
  have G : FnOk P w K mg base (CXE P w) (j + 1) f fd ["number"] (vRes M CT CU CS tq dt m fun n k sd => ldS R n k sd .none) := by
    refine F.okX scUna (fun vs H Q E h => ?_) (fun cdv A outer s H vs Q E hr h => ?_)
    · obtain ⟨sa, n, k, sd, b, rfl, _⟩ := h
      rfl
    obtain ⟨sa, n, k, sd, b, rfl, C, hk, ft, g⟩ := h
    refine ⟨_, pss_one (ps_raise rfl X.exU X.baU X.inU rfl X.mgU (pa_cons pe_str pa_nil)), ?_⟩
    exact ⟨by show 1 ≤ sizeLine; decide, g H sa C⟩
  obtain ⟨oc, od, kV, doc, pm, an, cdv, ct, osl, e, lk, hcd⟩ := F.ex
  exact ⟨fd, _, hK _ _ lk, rfl, G, bn⟩
def EntV (P : Program) (w : World) (K : PySem.W.Frag) (mg : Str → Option Value) (base : Heap) (M : Hp) (CT CU CS tq dt : Addr) (as : List Addr) (rows : List (List RS)) (m : Nat) : Prop := ∀ (p : Nat) (f : Addr), as[p]? = some f → FnV P w K mg base (CXE P w) (4 * m + 3) ["number"] f (vRes M CT CU CS tq dt m fun n k sd => recS rows m p n k sd)
theorem vGo {p : Nat} {t : Addr} {cl : List (Str × Addr)} (L : LamB base eGo f cl) (C : CellsB base (lamScope eGo) cl) (v1 : VarB base cl "step" (.ref t)) (ht : M t = some (.tup [.str "go", .int (p : Int)])) (v2 : VarB base cl "woven" (.ref wv)) (hw : M wv = some (.lst (as.map V.ref))) (hp : p < as.length)
    (GE : EntV P w K mg base M CT CU CS tq dt as rows m) (hj : 4 * m + 3 ≤ j) : FnV P w K mg base (CXE P w) (j + 1) ["number"] f (vRes M CT CU CS tq dt m fun n k sd => ldS (recS rows m) n k sd (.go p)) := by
  obtain ⟨qual, pm, cdv, ct, o, ho, hd, hcd⟩ := L.ex
  refine ⟨_, o, ho, hd, ?_, (.all fun us hl => match us, hl with | [_], _ => rfl)⟩
  refine lam_ofX ho hd hcd scGo (closed_of (ps := ["number"]) (N := ["step", "woven"]) (r := [some (.ref t), some (.ref wv)]) C ⟨rfl, v1, rfl, v2, True.intro⟩) (fun vs H Q E h => ?_) (fun A outer s H vs Q E hr h => ?_)
  · obtain ⟨sa, n, k, sd, b, rfl, _⟩ := h
    rfl
  obtain ⟨sa, n, k, sd, b, rfl, Cu, hk, ft, g⟩ := h
  have hr3 := hr.mono (j := 4 * m + 3) hj
  refine ⟨_, pe_callVE (R := fun f sp => ∃ p, as[p]? = some f ∧ sp = vRes M CT CU CS tq dt m fun n k sd => recS rows m p n k sd) (fun f sp ⟨p, h1, h2⟩ => h2 ▸ GE p f h1) hr3 (pe_ix ix_list (pv 2) (pe_ix ix_tup (pv 1) pe_int (fun _ _ => rfl)) (fun _ _ => rfl)) (pa_cons (pv 0) pa_nil), ?_⟩
  refine ⟨_, rfl, _, rfl, t, _, _, _, rfl, rfl, SqT.of (Cu.same _ _ ht), at1 _ _ _, wv, _, _, _, rfl, rfl, SqL.of (Cu.same _ _ hw), atI_nat (v := .ref as[p]) (by rw [List.getElem?_map, List.getElem?_eq_getElem hp]; rfl), as[p], _, rfl, ⟨p, List.getElem?_eq_getElem hp, rfl⟩, _, rfl, ?_⟩
  exact ⟨sa, n, k, sd, b, rfl, Cu, hk, ft, g⟩
theorem vLd (FU : Fun K "unanswered" "unanswered" sUna fU dU) (bnU : Binds K dU ["number"] []) (X : ClsX K mg CU CS bU bS) (hK : K.In base) (hw : M wv = some (.lst (as.map V.ref))) (GE : EntV P w K mg base M CT CU CS tq dt as rows m) (hj : 4 * m + 3 ≤ j) {l : Ah.Ld} (h : LdB base M fU wv f l) (hl : ∀ p ∈ Ah.ldsL l, p < as.length) :
    FnV P w K mg base (CXE P w) (j + 1) ["number"] f (vRes M CT CU CS tq dt m fun n k sd => ldS (recS rows m) n k sd l) := by
  cases l with
  | none =>
    obtain rfl : f = fU := h
    exact vUna FU X hK bnU
  | go p =>
    obtain ⟨cl, t, L, C, v1, ht, v2⟩ := h
    exact vGo L C v1 ht v2 hw (hl p (List.mem_singleton.mpr rfl)) GE hj
theorem vSm {t : Addr} {cl : List (Str × Addr)} {s : Sm} (L : LamB base eSm f cl) (C : CellsB base (lamScope eSm) cl) (v1 : VarB base cl "step" (.ref t)) (ht : M t = some (.tup (.str s.pr.1 :: s.pr.2))) (v2 : VarB base cl "tally" (.ref tq)) (TT : ClsT K mg CT) (ok : okS s)
    (GR : FnOk P w K mg base CX0 2 fR dR ["step", "number", "said"] spReck) (kR : PySem.W.keepIn K (.ref fR) = true) (bR : Binds K dR ["step", "number", "said"] []) (mR : mg "reckoned" = some (.ref fR)) {R : RecR} (hj : 2 ≤ j) :
    FnV P w K mg base (CXE P w) (j + 1) ["number"] f (vRes M CT CU CS tq dt m fun n k sd => stepS R n k sd (.sm s)) := by
  obtain ⟨qual, pm, cdv, ct, o, ho, hd, hcd⟩ := L.ex
  refine ⟨_, o, ho, hd, ?_, (.all fun us hl => match us, hl with | [_], _ => rfl)⟩
  refine lam_ofX ho hd hcd scSm (closed_of (ps := ["number"]) (N := ["step", "tally"]) (r := [some (.ref t), some (.ref tq)]) C ⟨rfl, v1, rfl, v2, True.intro⟩) (fun vs H Q E h => ?_) (fun A outer sh H vs Q E hr h => ?_)
  · obtain ⟨sa, n, k, sd, b, rfl, _⟩ := h
    rfl
  obtain ⟨sa, n, k, sd, b, rfl, Cu, hk, ft, g⟩ := h
  have hr2 := hr.mono (j := 2) hj
  have f2 := ft.hi
  have f3 := ft.len
  refine ⟨_, pe_call GR hr2 rfl mR kR bR .nil pass0 (pa_cons (pv 1) (pa_cons (pv 0) (pa_cons (pe_fld (pv 2) rfl) pa_nil))), ?_⟩
  refine ⟨_, rfl, _, rfl, _, rfl, tq, CT, dt, _, _, rfl, Cu.hq, TT.cl, TT.nSaid, tF_said _ _, t, sa, n, s, sd, b, rfl, Cu.same _ _ ht, ok, ft.ab, by omega, Cu.hs, by omega, fun H' h1 h2 => ?_⟩
  exact g H' sa (Cu.upd h1 h2)
theorem vEi {fa fb : Addr} {cl : List (Str × Addr)} {x y : Ah.Ld} (L : DefB base sEDone f cl) (C : CellsB base (defScope sEDone) cl) (v1 : VarB base cl "one" (.ref fa)) (v2 : VarB base cl "other" (.ref fb)) (v3 : VarB base cl "tally" (.ref tq)) (TT : ClsT K mg CT) (Tx : Txt mg) (X : ClsX K mg CU CS bU bS) (hB : OkB rows)
    (G1 : FnV P w K mg base (CXE P w) j ["number"] fa (vRes M CT CU CS tq dt m fun n k sd => ldS (recS rows m) n k sd x)) (G2 : FnV P w K mg base (CXE P w) j ["number"] fb (vRes M CT CU CS tq dt m fun n k sd => ldS (recS rows m) n k sd y))
    (GN : FnOkN P w K mg base 1 fN dN ["self", "length"] (spBack CT)) (bN : Binds K dN ["self", "length"] []) (mN : Meth K CT "take_back" fN) (hj : 1 ≤ j) :
    FnV P w K mg base (CXE P w) (j + 1) ["number"] f (vRes M CT CU CS tq dt m fun n k sd => stepS (recS rows m) n k sd (.ei x y)) := by
  obtain ⟨name, qual, doc, pm, cdv, ct, o, ho, hd, hcd⟩ := L.ex
  refine ⟨_, o, ho, hd, ?_, (.all fun us hl => match us, hl with | [_], _ => rfl)⟩
  refine clo_ofX ho hd hcd scED (closed_of (ps := ["number"]) (N := ["said_before", "one", "other", "tally"]) (r := [none, some (.ref fa), some (.ref fb), some (.ref tq)]) C ⟨rfl, v1, rfl, v2, rfl, v3, True.intro⟩) (fun vs H Q E h => ?_) (fun A outer s H vs Q E hr h => ?_)
  · obtain ⟨sa, n, k, sd, b, rfl, _⟩ := h
    rfl
  obtain ⟨sa, n, k, sd, b, rfl, Cu, hk, ft, g⟩ := h
  have hr1 := hr.mono (j := 1) hj
  refine ⟨_, pss_cons (ps_set (i := 1) scED.nd rfl (Or.inl rfl) (pe_callB call_len_seq rfl Tx.len PySem.boot_len (pa_cons (pe_fld (pv 4) rfl) pa_nil)))
    (pss_cons (ps_try (X := cxC (CXE P w) P w K mg base ["number", "said_before", "one", "other", "tally"] qual (defScope sEDone) f cdv cl A outer s H E) (EX := fun _ => E) own_cxC (fun _ _ h => h) (fun pn EX1 => pss_one (ps_ret (pe_callVE (R := fun g sp => g = fa ∧ sp = vRes M CT CU CS tq dt m fun n k sd => ldS (recS rows m) n k sd x) (fun g sp h => by obtain ⟨rfl, rfl⟩ := h; exact G1) hr (pv 2) (pa_cons (pv 0) pa_nil))))
      (fun pn => ph_consK (K := K) rfl X.mgU (fun x oe => pss_one (ps_expr (pe_methN (pv 4) TT.cl mN GN (hr1.caught _) bN .nil (pa_cons (pv 1) pa_nil)))) (ph_nil ⟨rfl, rfl, rfl⟩)))
    (pss_one (ps_ret (pe_callVE (R := fun g sp => g = fb ∧ sp = vRes M CT CU CS tq dt m fun n k sd => ldS (recS rows m) n k sd y) (fun g sp h => by obtain ⟨rfl, rfl⟩ := h; exact G2) hr (pv 3) (pa_cons (pv 0) pa_nil))))), ?_⟩
  have hgo := ld_good (rec_good hB m) (k := k) (sd := sd) ft.ab ft.lo x
  have g : Outc M CT CU CS tq dt Q E (eiS (recS rows m) x y n k sd) := g
  unfold eiS at g
  refine ⟨_, rfl, tq, CT, dt, _, _, rfl, Cu.hq, TT.cl, TT.nSaid, tF_said _ _, sa, _, rfl, .inl (SqL.of Cu.hs), ?_⟩
  refine ⟨_, rfl, fa, _, rfl, ⟨rfl, rfl⟩, _, rfl, sa, n, k, sd, b, rfl, Cu, hk, ft, ?_⟩
  dsimp only
  cases e : ldS (recS rows m) n k sd x with
  | ok a c t =>
    rw [e] at g
    exact g
  | spent =>
    rw [e] at g
    exact fun H' hs => ⟨false, X.su, iteF (g H' hs)⟩
  | una k' sd' =>
    rw [e] at g hgo
    obtain ⟨hk', t, rfl, _⟩ := hgo
    intro H' sa' C'
    refine ⟨true, X.uu, iteT ?_⟩
    refine ⟨_, rfl, tq, dt, _, rfl, C'.hq, tF_no (by decide +kernel), _, rfl, ?_⟩
    refine ⟨M, tq, dt, sa', k', sd, t, by rw [nVs_len]; rfl, C', fun H2 sb C2 => ?_⟩
    have f1 := ft.hi
    have f2 := ft.len
    refine ⟨_, rfl, fb, _, rfl, ⟨rfl, rfl⟩, _, rfl, sb, n, k', sd, b, rfl, C2, by omega, ⟨ft.ab, ft.lo, by omega, by omega⟩, g⟩
theorem vSt (FU : Fun K "unanswered" "unanswered" sUna fU dU) (bnU : Binds K dU ["number"] []) (TT : ClsT K mg CT) (Tx : Txt mg) (X : ClsX K mg CU CS bU bS) (hK : K.In base) (W : WvB base M fU wv tq as rows) (GE : EntV P w K mg base M CT CU CS tq dt as rows m)
    (GN : FnOkN P w K mg base 1 fN dN ["self", "length"] (spBack CT)) (bN : Binds K dN ["self", "length"] []) (mN : Meth K CT "take_back" fN)
    (GR : FnOk P w K mg base CX0 2 fR dR ["step", "number", "said"] spReck) (kR : PySem.W.keepIn K (.ref fR) = true) (bR : Binds K dR ["step", "number", "said"] []) (mR : mg "reckoned" = some (.ref fR))
    {s : RS} (h : StB base M fU wv tq f s) (ok : okR s) (hl1 : ∀ l, s = .ld l → ∀ p ∈ Ah.ldsL l, p < rows.length) (hl2 : ∀ x y, s = .ei x y → (∀ p ∈ Ah.ldsL x, p < rows.length) ∧ ∀ p ∈ Ah.ldsL y, p < rows.length) :
    FnV P w K mg base (CXE P w) (4 * m + 5) ["number"] f (vRes M CT CU CS tq dt m fun n k sd => stepS (recS rows m) n k sd s) := by
  cases s with
  | ld l => exact vLd (j := 4 * m + 4) FU bnU X hK W.lst GE (by omega) h (fun p hp => by rw [W.len]; exact hl1 l rfl p hp)
  | ei x y =>
    obtain ⟨cl, fa, fb, L, C, v1, h1, v2, h2, v3⟩ := h
    obtain ⟨l1, l2⟩ := hl2 x y rfl
    exact vEi L C v1 v2 v3 TT Tx X W.ok (vLd (j := 4 * m + 3) FU bnU X hK W.lst GE (by omega) h1 (fun p hp => by rw [W.len]; exact l1 p hp)) (vLd (j := 4 * m + 3) FU bnU X hK W.lst GE (by omega) h2 (fun p hp => by rw [W.len]; exact l2 p hp)) GN bN mN (by omega)
  | sm s =>
    obtain ⟨cl, t, L, C, v1, ht, v2⟩ := h
    exact vSm (j := 4 * m + 4) L C v1 ht v2 TT ok GR kR bR mR (by omega)
theorem vRow (FU : Fun K "unanswered" "unanswered" sUna fU dU) (bnU : Binds K dU ["number"] []) (TT : ClsT K mg CT) (Tx : Txt mg) (X : ClsX K mg CU CS bU bS) (hK : K.In base) (W : WvB base M fU wv tq as rows) (GE : EntV P w K mg base M CT CU CS tq dt as rows m)
    (GN : FnOkN P w K mg base 1 fN dN ["self", "length"] (spBack CT)) (bN : Binds K dN ["self", "length"] []) (mN : Meth K CT "take_back" fN)
    (GT : FnOk P w K mg base (CXE P w) 1 fT dT ["self"] (spEnter CT CS)) (bT : Binds K dT ["self"] []) (mT : Meth K CT "enter" fT)
    (GR : FnOk P w K mg base CX0 2 fR dR ["step", "number", "said"] spReck) (kR : PySem.W.keepIn K (.ref fR) = true) (bR : Binds K dR ["step", "number", "said"] []) (mR : mg "reckoned" = some (.ref fR)) : EntV P w K mg base M CT CU CS tq dt as rows (m + 1) := fun p f hf => by
  have hpa : p < as.length := (List.getElem?_eq_some_iff.mp hf).1
  have hp : p < rows.length := by rw [← W.len]; exact hpa
  have hrw := List.getElem?_eq_getElem hp
  obtain ⟨cl, pa, us, L, C, v1, hus, hst, v2⟩ := W.row p f _ hf hrw
  obtain ⟨hok, h30⟩ := W.ok _ (List.getElem_mem hp)
  have hld := W.lds _ (List.getElem_mem hp)
  have hgd : rows.getD p [] = rows[p] := by rw [List.getD_eq_getElem?_getD, hrw]; rfl
  obtain ⟨name, qual, doc, pm, cdv, ct, o, ho, hd, hcd⟩ := L.ex
  refine ⟨_, o, ho, hd, ?_, (.all fun us hl => match us, hl with | [_], _ => rfl)⟩
  refine clo_ofX (k := 4 * m + 6) ho hd hcd scRD (closed_of (ps := ["number"]) (N := ["part", "parts", "tally"]) (r := [none, some (.ref pa), some (.ref tq)]) C ⟨rfl, v1, rfl, v2, True.intro⟩) (fun vs H Q E h => ?_) (fun A outer s H vs Q E hr h => ?_)
  · obtain ⟨sa, n, k, sd, b, rfl, _⟩ := h
    rfl
  obtain ⟨sa, n, k, sd, b, rfl, Cu, hk, ft, g⟩ := h
  have hr1 := hr.mono (j := 1) (by omega)
  have hr5 := hr.mono (j := 4 * m + 5) (by omega)
  refine ⟨_, pss_cons (ps_expr (pe_meth0E (pv 3) TT.cl mT GT hr1 bT .nil))
    (pss_cons (ps_for (Wx.passesOwn own_cxC) rfl (pi_list (pv 2)) (pg_name (i := 1) scRD.nd rfl (Or.inl rfl))
      (pss_one (ps_set (i := 0) scRD.nd rfl (Or.inl rfl) (pe_callVE (R := fun g sp => ∃ s, s ∈ rows[p] ∧ StB base M fU wv tq g s ∧ sp = vRes M CT CU CS tq dt m fun n k sd => stepS (recS rows m) n k sd s) (fun g sp h => by
        obtain ⟨s, hs, hg, rfl⟩ := h
        obtain ⟨l1, l2⟩ := hld s hs
        exact vSt FU bnU TT Tx X hK W GE GN bN mN GR kR bR mR hg (hok s hs) l1 l2) hr5 (pv 1) (pa_cons (pv 0) pa_nil)))))
    (pss_one (ps_ret (pv 0)))), ?_⟩
  refine ⟨_, rfl, tq, dt, _, rfl, Cu.hq, tF_no (by decide +kernel), ?_⟩
  refine ⟨M, tq, dt, sa, k, sd, rfl, Cu, fun hk0 => ?_, fun k' hk' H1 C1 => ?_⟩
  · subst hk0
    exact g
  subst hk'
  have g : Outc M CT CU CS tq dt Q E (stepsS (recS rows m) (rows.getD p []) n k' sd) := g
  rw [hgd] at g
  generalize rows[p] = ss at *
  have f1 := ft.hi
  have f2 := ft.len
  have f3 := ft.lo
  have hul := Paired.length hst
  refine ⟨_, rfl, pa, rfl, ⟨_, SqL.of (C1.same _ _ hus)⟩, for_list (K := K) (a := pa) (xs := us) (fun i σ H2 => ∃ (v3 : Option V) (n1 : Int) (k1 : Nat) (sd1 : List Int) (sa1 : Addr), σ = [some (.int n1), v3, some (.ref pa), some (.ref tq)] ∧ Cur M H2 CT tq dt sa1 k1 sd1 ∧ k1 ≤ k' ∧ Ab (b + 101 * i + 3200 * (k' - k1)) n1 ∧ sd1.length ≤ sd.length + i + 31 * (k' - k1) ∧ stepsS (recS rows m) (ss.drop i) n1 k1 sd1 = stepsS (recS rows m) ss n k' sd)
    ⟨none, n, k', sd, sa, rfl, C1, Nat.le_refl _, ft.ab.mono (by omega), by omega, rfl⟩ (fun i σ H2 _ ⟨_, _, _, _, _, _, C2, _⟩ => SqL.of (C2.same _ _ hus)) ?_ ?_⟩
  · rintro i v σ H2 hi ⟨v3, n1, k1, sd1, sa1, rfl, C2, hk1, hab, hsl, hdr⟩
    obtain ⟨s, hs, g1, rfl, hsa⟩ := paired_get hst hi
    have hil : i < ss.length := (List.getElem?_eq_some_iff.mp hs).1
    have hmem : s ∈ ss := List.mem_of_getElem? hs
    have ok := hok s hmem
    have edr : ss.drop i = s :: ss.drop (i + 1) := by
      obtain ⟨hi', rfl⟩ := List.getElem?_eq_some_iff.mp hs
      exact List.drop_eq_getElem_cons hi'
    rw [edr] at hdr
    have hsg := step_good (rec_good W.ok m) (k := k1) (sd := sd1) ok hab (by omega)
    have hdr2 : (match stepS (recS rows m) n1 k1 sd1 s with
      | .ok n' k' sd' => stepsS (recS rows m) (ss.drop (i + 1)) n' k' sd'
      | .una k' sd' => .una k' sd'
      | .spent => .spent) = stepsS (recS rows m) ss n k' sd := hdr
    refine ⟨_, rfl, g1, _, rfl, ⟨s, hmem, hsa, rfl⟩, _, rfl, sa1, n1, k1, sd1, _, rfl, C2, by omega, ⟨hab, by omega, by omega, by omega⟩, ?_⟩
    dsimp only
    cases e : stepS (recS rows m) n1 k1 sd1 s with
    | ok n2 k2 sd2 =>
      rw [e] at hsg hdr2
      obtain ⟨g1, g2, t2, rfl, g4⟩ := hsg
      intro H3 sa3 C3
      exact ⟨_, n2, k2, _, sa3, rfl, C3, by omega, g2.mono (by omega), by rw [List.length_append]; omega, hdr2⟩
    | una k2 sd2 =>
      rw [e] at hdr2
      rw [← hdr2] at g
      exact g
    | spent =>
      rw [e] at hdr2
      rw [← hdr2] at g
      exact g
  · rintro σ H2 ⟨v3, n1, k1, sd1, sa1, rfl, C2, hk1, hab, hsl, hdr⟩
    rw [hul, List.drop_length] at hdr
    rw [← hdr] at g
    exact ⟨_, rfl, g H2 sa1 C2⟩
theorem vEnt0 (W : WvB base M fU wv tq as rows) : EntV P w K mg base M CT CU CS tq dt as rows 0 := fun p f hf => by
  have hpa : p < as.length := (List.getElem?_eq_some_iff.mp hf).1
  have hp : p < rows.length := by rw [← W.len]; exact hpa
  obtain ⟨cl, pa, us, L, C, v1, hus, hst, v2⟩ := W.row p f _ hf (List.getElem?_eq_getElem hp)
  obtain ⟨name, qual, doc, pm, cdv, ct, o, ho, hd, hcd⟩ := L.ex
  refine ⟨_, o, ho, hd, ?_, (.all fun us hl => match us, hl with | [_], _ => rfl)⟩
  refine clo_ofX (k := 2) ho hd hcd scRD (closed_of (ps := ["number"]) (N := ["part", "parts", "tally"]) (r := [none, some (.ref pa), some (.ref tq)]) C ⟨rfl, v1, rfl, v2, True.intro⟩) (fun vs H Q E h => ?_) (fun A outer s H vs Q E hr h => ?_)
  · obtain ⟨sa, n, k, sd, b, rfl, _⟩ := h
    rfl
  obtain ⟨sa, n, k, sd, b, rfl, Cu, hk, _⟩ := h
  omega
theorem vEnts (FU : Fun K "unanswered" "unanswered" sUna fU dU) (bnU : Binds K dU ["number"] []) (TT : ClsT K mg CT) (Tx : Txt mg) (X : ClsX K mg CU CS bU bS) (hK : K.In base) (W : WvB base M fU wv tq as rows)
    (GN : FnOkN P w K mg base 1 fN dN ["self", "length"] (spBack CT)) (bN : Binds K dN ["self", "length"] []) (mN : Meth K CT "take_back" fN)
    (GT : FnOk P w K mg base (CXE P w) 1 fT dT ["self"] (spEnter CT CS)) (bT : Binds K dT ["self"] []) (mT : Meth K CT "enter" fT)
    (GR : FnOk P w K mg base CX0 2 fR dR ["step", "number", "said"] spReck) (kR : PySem.W.keepIn K (.ref fR) = true) (bR : Binds K dR ["step", "number", "said"] []) (mR : mg "reckoned" = some (.ref fR)) : ∀ m, EntV P w K mg base M CT CU CS tq dt as rows m
  | 0 => vEnt0 W
  | m + 1 => vRow FU bnU TT Tx X hK W (vEnts FU bnU TT Tx X hK W GN bN mN GT bT mT GR kR bR mR m) GN bN mN GT bT mT GR kR bR mR
end
end Bk
namespace L2
open PySem PySem.Spec PyProof.Rows
theorem PR.nox {X : Cx} {st : List Stmt} {t : TR} (h : PR X.nox st t) : PR X st t := fun pins s σ H D I hw =>
  wpAny_mono (h pins s σ H D (I.wish _) hw) (fun f s' q => by
    cases f with
    | next => obtain ⟨σ', H', I', q⟩ := q; exact ⟨σ', H', I'.unwish, q⟩
    | ret u => obtain ⟨v, σ', H', I', r, q⟩ := q; exact ⟨v, σ', H', I'.unwish, r, q⟩
    | brk => exact q
    | cont => exact q) fun _ _ z => False.elim z
theorem pr_never {X : Cx} {st : List Stmt} : PR X st (fun _ _ _ => False) := fun _ _ _ _ _ _ h => h.elim
structure FunC (K : PySem.W.Frag) (x qual : Str) (st : Stmt) (f : Addr) (fd : FuncData) (c T : Addr) : Prop where
  ex : ∃ (oc : Value) (od : Option Addr) (kV doc pm : Value) (an : Option Addr) (ct : Value) (osl : Array (Option Value)),
    fd = PySem.W.fnOf x qual (defArgs st) (defBody st) (defScope st) .none kV doc pm an (.ref c) ct ∧ K.lookup f = some ⟨oc, od, .func fd, osl⟩ ∧ PySem.W.codeIn K (.ref c) qual = true
  kp : PySem.W.keepIn K (.ref f) = true
  hd : PySem.W.codeHdIn K c T = true
section
variable {P : Program} {w : World} {K : PySem.W.Frag} {mg : Str → Option Value} {base : Heap} {x qual : Str} {st : Stmt} {f c T : Addr} {fd : FuncData} {N ps : List Str} {k : Nat} {sp : Sp}
theorem FunC.okR (F : FunC K x qual st f fd c T) (S : FnScope N ps (defScope st)) (len : ∀ vs H Q E, sp vs H Q E → vs.length = ps.length)
    (hbody : ∀ (A : Around) (outer : List Env) (s : Shared) (H : Hp) (vs : List V) (Q : VK) (E : XK), Room k (A.deeper (envOfC qual (defScope st) s.heap.objs.size f (.ref c))) → sp vs H Q E →
      ∃ t, PR (cxOf CX0 P w K mg base N qual (defScope st) f (.ref c) A outer s H E).nox (defBody st) t ∧ t { nx := fun _ H' => Q .non H', rt := fun σ' v H' => ∃ cv, CellsOf (cxOf CX0 P w K mg base N qual (defScope st) f (.ref c) A outer s H E) σ' cv ∧ ((∀ p ∈ cv, H' p.1 = none) → Q v (updC H' cv)) } (start N vs) H) : FnOk P w K mg base CX0 (k + 1) f fd ps sp := by
  obtain ⟨oc, od, kV, doc, pm, an, ct, osl, rfl, lk, hcd⟩ := F.ex
  refine fn_ofR lk hcd S len fun A outer s H vs Q E hr hsp => ?_
  obtain ⟨t, h, q⟩ := hbody A outer s H vs Q E hr hsp
  exact ⟨t, h.nox, q⟩
end
def NT (a : Addr) (o : HO) : Prop := ∀ ps : Array Value, TriplesOk ps.toList → o ≠ tabO a ps
theorem tab_heap (a : Addr) (ps : Array Value) : ∃ h : Heap, h.get? a = some (PySem.W.tabObj ps) := by
  refine ⟨{ objs := Array.replicate (a + 1) (PySem.W.tabObj ps) }, ?_⟩
  unfold Heap.get?
  rw [Array.getElem?_replicate, if_pos (Nat.lt_succ_self a)]
theorem nt_ext {a : Addr} {φ : Heap → Prop} (h : ∀ (ps : Array Value) (h : Heap), TriplesOk ps.toList → h.get? a = some (PySem.W.tabObj ps) → ¬ φ h) : NT a (.ext φ) := fun ps tri e => by
  obtain ⟨hp, hh⟩ := tab_heap a ps
  have e' : φ = fun h => h.get? a = some (PySem.W.tabObj ps) := HO.ext.inj e
  exact h ps hp tri hh (by rw [e']; exact hh)
theorem nt_ne {a : Addr} {o : HO} (h : ∀ φ, o ≠ .ext φ) : NT a o := fun _ _ => h _
theorem nt_tup {a : Addr} {xs : List V} : NT a (.tup xs) := nt_ne fun _ z => nomatch z
theorem nt_lst {a : Addr} {xs : List V} : NT a (.lst xs) := nt_ne fun _ z => nomatch z
theorem nt_fun {a : Addr} {fd : FuncData} : NT a (funO a fd) := nt_ext fun ps h _ g ⟨o, e, d⟩ => by
  rw [g] at e
  cases e
  cases d
theorem nt_code {a : Addr} {q : Str} : NT a (codeO a q) := nt_ext fun ps h tri g ⟨c, o, vs, t, z, e, d, v⟩ => by
  cases z
  rw [g] at e
  cases e
  have d' : Data.fields ps = Data.fields vs := d
  cases d'
  obtain ⟨i, u, y⟩ := tri_at tri (by rw [Array.getElem?_toList]; exact v)
  cases y
theorem nt_cell {a : Addr} {v : V} : NT a (cellO a v) := nt_ext fun ps h _ g ⟨u, _, o, e, d⟩ => by
  rw [g] at e
  cases e
  cases d
def SameT (H H' : Hp) : Prop := ∀ b o, H b = some o → NT b o → H' b = some o
theorem SameT.refl (H : Hp) : SameT H H := fun _ _ h _ => h
theorem SameT.trans {H H1 H2 : Hp} (a : SameT H H1) (b : SameT H1 H2) : SameT H H2 := fun c o h n => b c o (a c o h n) n
theorem Same.toT {H H' : Hp} (a : Same H H') : SameT H H' := fun b o h _ => a b o h
def SameE (H H' : Hp) : Prop := ∀ b o, H b = some o → NT b o → (∀ xs, o ≠ .lst xs) → H' b = some o
theorem SameT.toE {H H' : Hp} (a : SameT H H') : SameE H H' := fun b o h n _ => a b o h n
theorem TabA.ne {H : Hp} {T b : Addr} {ps : Array Value} {ent : List (Pos × Str)} {o : HO} (A : TabA H T ps ent) (h : H b = some o) (n : NT b o) : b ≠ T := fun z => by
  subst z
  rw [A.tab] at h
  cases h
  exact n ps A.tri rfl
theorem Made.sameT {H H' : Hp} {T f c' : Addr} {fd : FuncData} {qual : Str} {ent : List (Pos × Str)} {ps : Array Value} (M : Made H H' T f c' fd qual ent) (A : TabA H T ps ent) : SameT H H' := fun b o h n => M.keep b o h (A.ne h n)
def TB (L : List (Addr × List (Pos × Str))) (H : Hp) : Prop := ∀ q ∈ L, ∃ ps, TabA H q.1 ps q.2
theorem TB.keep {L : List (Addr × List (Pos × Str))} {H H' : Hp} (B : TB L H) (s : Same H H') : TB L H' := fun q hq => let ⟨ps, A⟩ := B q hq; ⟨ps, s _ _ A.tab, A.tri, fun r hr => (A.ent r hr).imp id fun ⟨c, a, b⟩ => ⟨c, a, s _ _ b⟩⟩
theorem TB.made {L : List (Addr × List (Pos × Str))} {H H' : Hp} {T f c' : Addr} {fd : FuncData} {qual : Str} {ent : List (Pos × Str)} (B : TB L H) (hin : (T, ent) ∈ L) (nd : (L.map (·.1)).Nodup) (M : Made H H' T f c' fd qual ent) : TB L H' := fun q hq => by
  obtain ⟨ps0, A0⟩ := B _ hin
  by_cases z : q.1 = T
  · have : q = (T, ent) := by
      have inj : ∀ {l : List (Addr × List (Pos × Str))}, (l.map (·.1)).Nodup → ∀ {a b}, a ∈ l → b ∈ l → a.1 = b.1 → a = b := fun {l} => by
        induction l with
        | nil => intro _ a b ha; cases ha
        | cons p r ih =>
          intro nd a b ha hb e
          rw [List.map_cons, List.nodup_cons] at nd
          rcases List.mem_cons.mp ha with ea | ha' <;> rcases List.mem_cons.mp hb with eb | hb'
          · rw [ea, eb]
          · exact (nd.1 (List.mem_map.mpr ⟨b, hb', by rw [← e, ea]⟩)).elim
          · exact (nd.1 (List.mem_map.mpr ⟨a, ha', by rw [e, eb]⟩)).elim
          · exact ih nd.2 ha' hb' e
      exact inj nd hq hin z
    rw [this]
    exact M.tab
  · obtain ⟨ps, A⟩ := B q hq
    exact ⟨ps, M.keep _ _ A.tab z, A.tri, fun r hr => (A.ent r hr).imp id fun ⟨c, a, b⟩ => ⟨c, a, M.keep _ _ b (A0.ne b nt_code)⟩⟩
theorem same_updC {H : Hp} {cv : List (Addr × V)} (h : ∀ p ∈ cv, H p.1 = none) : Same H (updC H cv) := fun b o e => by
  rw [updC_ne fun p hp y => by rw [y, h p hp] at e; cases e]
  exact e
structure CellsH (H : Hp) (fz : List Addr) (sc : Scope) (cl : List (Str × Addr)) : Prop where
  inj : ∀ x y c, cl.lookup x = some c → cl.lookup y = some c → x = y
  has : ∀ x, sc.names.lookup x = some .free → ∃ c, cl.lookup x = some c
  cell : ∀ x c, cl.lookup x = some c → c ∈ fz ∧ ∃ v, H c = some (cellO c v)
def VarH (H : Hp) (fz : List Addr) (cl : List (Str × Addr)) (x : Str) (v : V) : Prop := ∃ c, cl.lookup x = some c ∧ c ∈ fz ∧ H c = some (cellO c v)
theorem CellsH.upE {H H' : Hp} {fz fz' : List Addr} {sc : Scope} {cl : List (Str × Addr)} (C : CellsH H fz sc cl) (s : SameE H H') (h : ∀ a ∈ fz, a ∈ fz') : CellsH H' fz' sc cl := ⟨C.inj, C.has, fun x c e => let ⟨a, v, b⟩ := C.cell x c e; ⟨h _ a, v, s _ _ b nt_cell (fun _ z => nomatch z)⟩⟩
theorem VarH.upE {H H' : Hp} {fz fz' : List Addr} {cl : List (Str × Addr)} {x : Str} {v : V} (C : VarH H fz cl x v) (s : SameE H H') (h : ∀ a ∈ fz, a ∈ fz') : VarH H' fz' cl x v := let ⟨c, a, b, e⟩ := C; ⟨c, a, h _ b, s _ _ e nt_cell (fun _ z => nomatch z)⟩
theorem CellsH.up {H H' : Hp} {fz fz' : List Addr} {sc : Scope} {cl : List (Str × Addr)} (C : CellsH H fz sc cl) (s : SameT H H') (h : ∀ a ∈ fz, a ∈ fz') : CellsH H' fz' sc cl := C.upE s.toE h
theorem VarH.up {H H' : Hp} {fz fz' : List Addr} {cl : List (Str × Addr)} {x : Str} {v : V} (C : VarH H fz cl x v) (s : SameT H H') (h : ∀ a ∈ fz, a ∈ fz') : VarH H' fz' cl x v := C.upE s.toE h
theorem look_inj {l : List (Str × Addr)} (nd : (l.map (·.2)).Nodup) {x y : Str} {c : Addr} (h1 : l.lookup x = some c) (h2 : l.lookup y = some c) : x = y := by
  have m1 := PySem.mem_of_lookup h1
  have m2 := PySem.mem_of_lookup h2
  have inj : ∀ {l : List (Str × Addr)}, (l.map (·.2)).Nodup → ∀ {a b : Str × Addr}, a ∈ l → b ∈ l → a.2 = b.2 → a = b := fun {l} => by
    induction l with
    | nil => intro _ a b ha; cases ha
    | cons p r ih =>
      intro nd a b ha hb e
      rw [List.map_cons, List.nodup_cons] at nd
      rcases List.mem_cons.mp ha with ea | ha' <;> rcases List.mem_cons.mp hb with eb | hb'
      · rw [ea, eb]
      · exact (nd.1 (List.mem_map.mpr ⟨b, hb', by rw [← e, ea]⟩)).elim
      · exact (nd.1 (List.mem_map.mpr ⟨a, ha', by rw [e, eb]⟩)).elim
      · exact ih nd.2 ha' hb' e
  exact congrArg Prod.fst (inj nd m1 m2 rfl)
section
variable {X : Cx} {sc : Scope} {cl cs : List (Str × Addr)} {H : Hp} {cv : List (Addr × V)}
theorem ClosOf.cellsH (C : ClosOf X sc cl) (hcs : X.env.cells = cs) (hcv : cv.map (·.1) = cs.map (·.2)) (nd : (cs.map (·.2)).Nodup) : CellsH (updC H cv) (cs.map (·.2)) sc cl := by
  refine ⟨fun x y c h1 h2 => look_inj nd (hcs ▸ C.sub x c h1) (hcs ▸ C.sub y c h2), fun x h => C.has x (PySem.mem_of_lookup h), fun x c h => ?_⟩
  have h1 := PySem.mem_of_lookup (hcs ▸ C.sub x c h)
  have h2 : c ∈ cs.map (·.2) := List.mem_map.mpr ⟨_, h1, rfl⟩
  have h3 : c ∈ cv.map (·.1) := by rw [hcv]; exact h2
  obtain ⟨p, hp, rfl⟩ := List.mem_map.mp h3
  exact ⟨h2, p.2, updC_at hp (by rw [hcv]; exact nd)⟩
theorem ClosOf.varH (C : ClosOf X sc cl) (hcs : X.env.cells = cs) (hcv : cv.map (·.1) = cs.map (·.2)) (nd : (cs.map (·.2)).Nodup) {x : Str} {c : Addr} {v : V} (hf : (x, NameKind.free) ∈ sc.names) (hx : cs.lookup x = some c) (hm : (c, v) ∈ cv) : VarH (updC H cv) (cs.map (·.2)) cl x v := by
  obtain ⟨c', h⟩ := C.has x hf
  have h1 : cs.lookup x = some c' := hcs ▸ C.sub x c' h
  rw [hx] at h1
  cases h1
  exact ⟨c, h, List.mem_map.mpr ⟨_, PySem.mem_of_lookup hx, rfl⟩, updC_at hm (by rw [hcv]; exact nd)⟩
end
end L2
namespace L2
open PySem
theorem SameT.keepT {H H' : Hp} (a : SameT H H') : KeepT H H' := fun b xs h => a b _ h nt_tup
def FzN (H : Hp) (fz : List Addr) : Prop := ∀ a ∈ fz, ∃ φ, H a = some (.ext φ) ∧ NT a (.ext φ)
theorem FzN.upE {H H' : Hp} {fz : List Addr} (F : FzN H fz) (s : SameE H H') : FzN H' fz := fun a ha => let ⟨φ, e, n⟩ := F a ha; ⟨φ, s _ _ e n (fun _ z => nomatch z), n⟩
theorem FzN.up {H H' : Hp} {fz : List Addr} (F : FzN H fz) (s : SameT H H') : FzN H' fz := F.upE s.toE
theorem FzN.app {H : Hp} {fz fz' : List Addr} (F : FzN H fz) (G : FzN H fz') : FzN H (fz ++ fz') := fun a ha => (List.mem_append.mp ha).elim (F a) (G a)
theorem FzN.nil {H : Hp} : FzN H [] := fun a ha => nomatch ha
theorem made_cells {H H' : Hp} {L : List (Addr × List (Pos × Str))} {T f c' : Addr} {fd : FuncData} {qual : Str} {ent : List (Pos × Str)} {cv : List (Addr × V)} {as : List Addr} (M : Made H H' T f c' fd qual ent) (B : TB L H) (hin : (T, ent) ∈ L) (nd : (L.map (·.1)).Nodup) (fr : ∀ p ∈ cv, H' p.1 = none) (hcv : cv.map (·.1) = as) (ndc : as.Nodup) :
    SameT H (updC H' cv) ∧ TB L (updC H' cv) ∧ FzN (updC H' cv) (f :: c' :: as) ∧ updC H' cv f = some (funO f fd) ∧ updC H' cv c' = some (codeO c' qual) := by
  have s2 := same_updC fr
  obtain ⟨ps, A⟩ := B _ hin
  refine ⟨(M.sameT A).trans s2.toT, (B.made hin nd M).keep s2, fun a ha => ?_, s2 _ _ M.fn, s2 _ _ M.code⟩
  rcases List.mem_cons.mp ha with rfl | ha
  · exact ⟨_, s2 _ _ M.fn, nt_fun⟩
  rcases List.mem_cons.mp ha with rfl | ha
  · exact ⟨_, s2 _ _ M.code, nt_code⟩
  · rw [← hcv] at ha ndc
    obtain ⟨p, hp, rfl⟩ := List.mem_map.mp ha
    exact ⟨_, updC_at hp ndc, nt_cell⟩
def CellAt (X : Cx) (σ : St) (a : Addr) (v : V) : Prop := ∃ (i : Nat) (x : Str), X.N[i]? = some x ∧ σ[i]? = some (some v) ∧ X.env.scope.names.lookup x = some .cell ∧ X.env.kindOf x = some .cell ∧ X.env.cells.lookup x = some a ∧ X.fn x = true
theorem nd3 (n : Nat) : ([n + 1 + 1 + 1, n + 1 + 1, n + 1] : List Nat).Nodup := by
  simp only [List.nodup_cons, List.mem_cons, List.not_mem_nil, or_false, not_or, not_false_eq_true, List.nodup_nil, and_true]
  omega
theorem cells3 {X : Cx} {σ : St} {n : Nat} {u v w : V} (h1 : CellAt X σ (n + 1 + 1 + 1) u) (h2 : CellAt X σ (n + 1 + 1) v) (h3 : CellAt X σ (n + 1) w) : CellsOf X σ [(n + 1 + 1 + 1, u), (n + 1 + 1, v), (n + 1, w)] := by
  refine ⟨nd3 n, fun p hp => ?_⟩
  rcases List.mem_cons.mp hp with rfl | hp
  · exact h1
  rcases List.mem_cons.mp hp with rfl | hp
  · exact h2
  · rw [List.mem_singleton.mp hp]
    exact h3
theorem free_ok {env : Env} (sc osc : Scope) (h : ∀ y ∈ sc.names, y.2 = .free → osc.names.lookup y.1 = some .cell) (e : env.scope = osc) : ∀ n, (n, NameKind.free) ∈ sc.names → env.kindOf n = some .cell ∨ env.kindOf n = some .free := fun n hn => .inl (by unfold Env.kindOf; rw [e]; exact h _ hn rfl)
theorem cells0 {X : Cx} {σ : St} : CellsOf X σ [] := ⟨List.nodup_nil, fun p hp => nomatch hp⟩
end L2
namespace Bk
open PySem L2 Rk
def lamPos : Expr → Pos
  | .Lambda _ _ _ p => p
  | _ => ⟨0, 0, 0, 0⟩
def defPos : Stmt → Pos
  | .FunctionDef _ _ _ _ _ _ _ _ _ p => p
  | _ => ⟨0, 0, 0, 0⟩
def entE : List (Pos × Str) := [(defPos sEDone, ("woven_either" : Str) ++ ".<locals>." ++ "done")]
def entR : List (Pos × Str) := [(defPos sRDone, ("woven_row" : Str) ++ ".<locals>." ++ "done")]
def entT : List (Pos × Str) := [(lamPos eGo, ("woven_step" : Str) ++ ".<locals>." ++ "<lambda>"), (lamPos eSm, ("woven_step" : Str) ++ ".<locals>." ++ "<lambda>")]
section
variable (H : Hp) (fz : List Addr)
structure LamH (e : Expr) (f : Addr) (cl : List (Str × Addr)) : Prop where
  ex : ∃ (qual : Str) (pm ct : Value) (c : Addr), f ∈ fz ∧ H f = some (funO f (PySem.W.kla_fn "<lambda>" qual (lamArgs e) (lamBody e) (lamScope e) cl pm (.ref c) ct)) ∧ c ∈ fz ∧ H c = some (codeO c qual)
structure DefH (st : Stmt) (f : Addr) (cl : List (Str × Addr)) : Prop where
  ex : ∃ (name qual : Str) (doc pm ct : Value) (c : Addr), f ∈ fz ∧ H f = some (funO f (PySem.W.fnX name qual (defArgs st) (defBody st) (defScope st) cl .none .none doc pm none (.ref c) ct)) ∧ c ∈ fz ∧ H c = some (codeO c qual)
def EiH (f fa fb tq : Addr) : Prop := ∃ cl, DefH H fz sEDone f cl ∧ CellsH H fz (defScope sEDone) cl ∧ VarH H fz cl "one" (.ref fa) ∧ VarH H fz cl "other" (.ref fb) ∧ VarH H fz cl "tally" (.ref tq)
def LdH (fU wv f : Addr) : Ah.Ld → Prop
  | .none => f = fU
  | .go p => ∃ cl t, LamH H fz eGo f cl ∧ CellsH H fz (lamScope eGo) cl ∧ VarH H fz cl "step" (.ref t) ∧ H t = some (.tup [.str "go", .int (p : Int)]) ∧ VarH H fz cl "woven" (.ref wv)
def StH (fU wv tq f : Addr) : RS → Prop
  | .ld l => LdH H fz fU wv f l
  | .ei x y => ∃ fa fb, EiH H fz f fa fb tq ∧ LdH H fz fU wv fa x ∧ LdH H fz fU wv fb y
  | .sm s => ∃ cl t, LamH H fz eSm f cl ∧ CellsH H fz (lamScope eSm) cl ∧ VarH H fz cl "step" (.ref t) ∧ H t = some (.tup (.str s.pr.1 :: s.pr.2)) ∧ VarH H fz cl "tally" (.ref tq)
def RwH (fU wv tq f pa : Addr) (ss : List RS) : Prop := ∃ (cl : List (Str × Addr)) (us : List V), DefH H fz sRDone f cl ∧ CellsH H fz (defScope sRDone) cl ∧ VarH H fz cl "parts" (.ref pa) ∧ H pa = some (.lst us) ∧ Paired (fun (v : V) s => ∃ g, v = .ref g ∧ StH H fz fU wv tq g s) us ss ∧ VarH H fz cl "tally" (.ref tq)
end
section
variable {H H' : Hp} {fz fz' : List Addr} {fU wv tq f : Addr}
theorem LamH.upE {e : Expr} {cl : List (Str × Addr)} (h : LamH H fz e f cl) (s : SameE H H') (m : ∀ a ∈ fz, a ∈ fz') : LamH H' fz' e f cl := let ⟨q, pm, ct, c, h1, h2, h3, h4⟩ := h.ex; ⟨q, pm, ct, c, m _ h1, s _ _ h2 nt_fun (fun _ z => nomatch z), m _ h3, s _ _ h4 nt_code (fun _ z => nomatch z)⟩
theorem DefH.upE {st : Stmt} {cl : List (Str × Addr)} (h : DefH H fz st f cl) (s : SameE H H') (m : ∀ a ∈ fz, a ∈ fz') : DefH H' fz' st f cl := let ⟨n, q, d, pm, ct, c, h1, h2, h3, h4⟩ := h.ex; ⟨n, q, d, pm, ct, c, m _ h1, s _ _ h2 nt_fun (fun _ z => nomatch z), m _ h3, s _ _ h4 nt_code (fun _ z => nomatch z)⟩
theorem EiH.upE {fa fb : Addr} (h : EiH H fz f fa fb tq) (s : SameE H H') (m : ∀ a ∈ fz, a ∈ fz') : EiH H' fz' f fa fb tq := let ⟨cl, a, b, c, d, e⟩ := h; ⟨cl, a.upE s m, b.upE s m, c.upE s m, d.upE s m, e.upE s m⟩
theorem EiH.up {fa fb : Addr} (h : EiH H fz f fa fb tq) (s : SameT H H') (m : ∀ a ∈ fz, a ∈ fz') : EiH H' fz' f fa fb tq := h.upE s.toE m
theorem LdH.upE (s : SameE H H') (m : ∀ a ∈ fz, a ∈ fz') : ∀ {l : Ah.Ld}, LdH H fz fU wv f l → LdH H' fz' fU wv f l
  | .none, h => h
  | .go _, ⟨cl, t, a, b, c, d, e⟩ => ⟨cl, t, a.upE s m, b.upE s m, c.upE s m, s _ _ d nt_tup (fun _ z => nomatch z), e.upE s m⟩
theorem LdH.up (s : SameT H H') (m : ∀ a ∈ fz, a ∈ fz') {l : Ah.Ld} (h : LdH H fz fU wv f l) : LdH H' fz' fU wv f l := LdH.upE s.toE m h
theorem StH.upE (s : SameE H H') (m : ∀ a ∈ fz, a ∈ fz') : ∀ {r : RS}, StH H fz fU wv tq f r → StH H' fz' fU wv tq f r
  | .ld _, h => LdH.upE s m h
  | .ei _ _, ⟨fa, fb, a, b, c⟩ => ⟨fa, fb, a.upE s m, LdH.upE s m b, LdH.upE s m c⟩
  | .sm _, ⟨cl, t, a, b, c, d, e⟩ => ⟨cl, t, a.upE s m, b.upE s m, c.upE s m, s _ _ d nt_tup (fun _ z => nomatch z), e.upE s m⟩
theorem StH.up (s : SameT H H') (m : ∀ a ∈ fz, a ∈ fz') {r : RS} (h : StH H fz fU wv tq f r) : StH H' fz' fU wv tq f r := StH.upE s.toE m h
theorem RwH.upE {pa : Addr} {ss : List RS} (h : RwH H fz fU wv tq f pa ss) (s : SameE H H') (hp : H' pa = H pa) (m : ∀ a ∈ fz, a ∈ fz') : RwH H' fz' fU wv tq f pa ss := let ⟨cl, us, a, b, c, d, e, g⟩ := h; ⟨cl, us, a.upE s m, b.upE s m, c.upE s m, hp.trans d, Paired.mapP e fun _ _ ⟨x, y, z⟩ => ⟨x, y, StH.upE s m z⟩, g.upE s m⟩
end
def spWEi (L : List (Addr × List (Pos × Str))) : Sp := fun vs H Q _ => ∃ fa fb tq : Addr, vs = [.ref fa, .ref fb, .ref tq] ∧ TB L H ∧ ∀ (H' : Hp) (f : Addr) (fz : List Addr), SameT H H' → TB L H' → FzN H' fz → EiH H' fz f fa fb tq → Q (.ref f) H'
def spWLd (L : List (Addr × List (Pos × Str))) (fU : Addr) : Sp := fun vs H Q _ => ∃ (v : V) (wv tq : Addr) (l : Ah.Ld), vs = [v, .ref wv, .ref tq] ∧ TB L H ∧ LdAt H v l ∧ ∀ (H' : Hp) (f : Addr) (fz : List Addr), SameT H H' → TB L H' → FzN H' fz → LdH H' fz fU wv f l → Q (.ref f) H'
def spWSt (L : List (Addr × List (Pos × Str))) (fU : Addr) : Sp := fun vs H Q _ => ∃ (v : V) (wv tq : Addr) (r : RS), vs = [v, .ref wv, .ref tq] ∧ TB L H ∧ RAt H v r ∧ okR r ∧ ∀ (H' : Hp) (f : Addr) (fz : List Addr), SameT H H' → TB L H' → FzN H' fz → StH H' fz fU wv tq f r → Q (.ref f) H'
section
variable {P : Program} {w : World} {K : PySem.W.Frag} {mg : Str → Option Value} {base : Heap} {L : List (Addr × List (Pos × Str))} {f c T fU fL fI : Addr} {fd dL dI : FuncData}
theorem scWEi : FnScope ["one", "other", "tally", "done"] ["one", "other", "tally"] (defScope sWEi) := ⟨rfl, rfl, rfl, by decide +kernel, rfl, by decide +kernel, by decide +kernel⟩
theorem ok_wei (F : FunC K "woven_either" "woven_either" sWEi f fd c T) (hK : K.In base) (hB : Bm mg base) (hin : (T, entE) ∈ L) (nd : (L.map (·.1)).Nodup) : FnOk P w K mg base CX0 1 f fd ["one", "other", "tally"] (spWEi L) := by
  refine F.okR scWEi (fun vs H Q E h => ?_) (fun A outer s H vs Q E hr h => ?_)
  · obtain ⟨fa, fb, tq, rfl, _⟩ := h
    rfl
  obtain ⟨fa, fb, tq, rfl, B, q⟩ := h
  refine ⟨_, pr_cons (ps_def (i := 3) (c := c) (P := T) (ent := entE) rfl (PySem.W.codeHd_of_K hK F.hd) hB (free_ok (defScope sEDone) (defScope sWEi) (by decide +kernel) rfl) (List.mem_singleton.mpr rfl) (fun q hq _ => by rw [List.mem_singleton.mp hq]; rfl) scWEi.nd rfl (Or.inl rfl)) (pr_ret (pv 3)), ?_⟩
  refine ⟨B _ hin, fun g c' ct doc cl H' CL M => ⟨_, rfl, [(s.heap.objs.size + 1 + 1 + 1, .ref tq), (s.heap.objs.size + 1 + 1, .ref fb), (s.heap.objs.size + 1, .ref fa)], cells3 ⟨2, "tally", rfl, rfl, rfl, rfl, rfl, rfl⟩ ⟨1, "other", rfl, rfl, rfl, rfl, rfl, rfl⟩ ⟨0, "one", rfl, rfl, rfl, rfl, rfl, rfl⟩, fun fr => ?_⟩⟩
  obtain ⟨m1, m2, m3, m4, m5⟩ := made_cells M B hin nd fr rfl (nd3 s.heap.objs.size)
  refine q _ g _ m1 m2 m3 ⟨cl, ⟨_, _, _, _, _, c', List.mem_cons_self, m4, List.mem_cons_of_mem _ List.mem_cons_self, m5⟩, ?_, ?_, ?_, ?_⟩
  · exact (CL.cellsH (cs := [("tally", s.heap.objs.size + 1 + 1 + 1), ("other", s.heap.objs.size + 1 + 1), ("one", s.heap.objs.size + 1)]) rfl rfl (nd3 _)).up (.refl _) fun a ha => List.mem_cons_of_mem _ (List.mem_cons_of_mem _ ha)
  all_goals refine (CL.varH (cs := [("tally", s.heap.objs.size + 1 + 1 + 1), ("other", s.heap.objs.size + 1 + 1), ("one", s.heap.objs.size + 1)]) rfl rfl (nd3 _) (by decide +kernel) rfl ?_).up (.refl _) fun a ha => List.mem_cons_of_mem _ (List.mem_cons_of_mem _ ha)
  all_goals simp
theorem scWSt : FnScope ["step", "woven", "tally", "one", "other"] ["step", "woven", "tally"] (defScope sWStep) := ⟨rfl, rfl, rfl, by decide +kernel, rfl, by decide +kernel, by decide +kernel⟩
theorem entT_all {q : Pos × Str} (h : q ∈ entT) : q.2 = ("woven_step" : Str) ++ ".<locals>." ++ "<lambda>" := by
  rcases List.mem_cons.mp h with rfl | h
  · rfl
  · rw [List.mem_singleton.mp h]
theorem ok_wld (F : FunC K "woven_step" "woven_step" sWStep f fd c T) (hK : K.In base) (hB : Bm mg base) (hin : (T, entT) ∈ L) (nd : (L.map (·.1)).Nodup) (mU : mg "unanswered" = some (.ref fU)) : FnOk P w K mg base CX0 1 f fd ["step", "woven", "tally"] (spWLd L fU) := by
  refine F.okR scWSt (fun vs H Q E h => ?_) (fun A outer s H vs Q E hr h => ?_)
  · obtain ⟨v, wv, tq, l, rfl, _⟩ := h
    rfl
  obtain ⟨v, wv, tq, l, rfl, B, hl, q⟩ := h
  refine ⟨_, pr_if (pt_cmpR op_eq (pe_ix ix_tup (pv 0) pe_int (fun _ _ => rfl)) pe_str (nomark _)) (pr_ret (pe_lam (c := c) (P := T) (ent := entT) rfl (PySem.W.codeHd_of_K hK F.hd) hB (free_ok (lamScope eGo) (defScope sWStep) (by decide +kernel) rfl) List.mem_cons_self (fun q hq _ => entT_all hq)))
    (pr_if (pt_cmpR op_eq (pe_ix ix_tup (pv 0) pe_int (fun _ _ => rfl)) pe_str (nomark _)) (pr_ret (pe_glob rfl mU (v := .ref fU) rfl)) pr_never), ?_⟩
  cases l with
  | none =>
    obtain ⟨a, rfl, ha⟩ := hl
    refine ⟨_, rfl, a, _, _, _, rfl, rfl, SqT.of ha, at0 _ _, rfl, _, rfl, skipS (by decide +kernel) ?_⟩
    refine ⟨_, rfl, a, _, _, _, rfl, rfl, SqT.of ha, at0 _ _, rfl, _, rfl, takeS ?_⟩
    exact ⟨[], cells0, fun _ => q H fU [] (.refl _) B .nil rfl⟩
  | go p =>
    obtain ⟨a, rfl, ha⟩ := hl
    refine ⟨_, rfl, a, _, _, _, rfl, rfl, SqT.of ha, at0 _ _, rfl, _, rfl, takeS ?_⟩
    refine ⟨B _ hin, fun g c' ct cl H' CL M => ⟨[(s.heap.objs.size + 1 + 1 + 1, .ref tq), (s.heap.objs.size + 1 + 1, .ref wv), (s.heap.objs.size + 1, .ref a)], cells3 ⟨2, "tally", rfl, rfl, rfl, rfl, rfl, rfl⟩ ⟨1, "woven", rfl, rfl, rfl, rfl, rfl, rfl⟩ ⟨0, "step", rfl, rfl, rfl, rfl, rfl, rfl⟩, fun fr => ?_⟩⟩
    obtain ⟨m1, m2, m3, m4, m5⟩ := made_cells M B hin nd fr rfl (nd3 s.heap.objs.size)
    refine q _ g _ m1 m2 m3 ⟨cl, a, ⟨_, _, _, c', List.mem_cons_self, m4, List.mem_cons_of_mem _ List.mem_cons_self, m5⟩, ?_, ?_, m1 _ _ ha nt_tup, ?_⟩
    · exact (CL.cellsH (cs := [("tally", s.heap.objs.size + 1 + 1 + 1), ("woven", s.heap.objs.size + 1 + 1), ("step", s.heap.objs.size + 1)]) rfl rfl (nd3 _)).up (.refl _) fun a ha => List.mem_cons_of_mem _ (List.mem_cons_of_mem _ ha)
    all_goals refine (CL.varH (cs := [("tally", s.heap.objs.size + 1 + 1 + 1), ("woven", s.heap.objs.size + 1 + 1), ("step", s.heap.objs.size + 1)]) rfl rfl (nd3 _) (by decide +kernel) rfl ?_).up (.refl _) fun a ha => List.mem_cons_of_mem _ (List.mem_cons_of_mem _ ha)
    all_goals simp
theorem ok_wst (F : FunC K "woven_step" "woven_step" sWStep f fd c T) (bF : Binds K fd ["step", "woven", "tally"] []) (mF : mg "woven_step" = some (.ref f)) (hK : K.In base) (hB : Bm mg base) (hin : (T, entT) ∈ L) (nd : (L.map (·.1)).Nodup) (mU : mg "unanswered" = some (.ref fU))
    (GI : FnOk P w K mg base CX0 1 fI dI ["one", "other", "tally"] (spWEi L)) (kI : PySem.W.keepIn K (.ref fI) = true) (bI : Binds K dI ["one", "other", "tally"] []) (mI : mg "woven_either" = some (.ref fI)) : FnOk P w K mg base CX0 2 f fd ["step", "woven", "tally"] (spWSt L fU) := by
  have GL : FnOk P w K mg base CX0 1 f fd ["step", "woven", "tally"] (spWLd L fU) := ok_wld F hK hB hin nd mU
  refine F.okR scWSt (fun vs H Q E h => ?_) (fun A outer s H vs Q E hr h => ?_)
  · obtain ⟨v, wv, tq, l, rfl, _⟩ := h
    rfl
  obtain ⟨v, wv, tq, r, rfl, B, hl, ok, q⟩ := h
  refine ⟨_, pr_if (pt_cmpR op_eq (pe_ix ix_tup (pv 0) pe_int (fun _ _ => rfl)) pe_str (nomark _)) (pr_ret (pe_lam (c := c) (P := T) (ent := entT) rfl (PySem.W.codeHd_of_K hK F.hd) hB (free_ok (lamScope eGo) (defScope sWStep) (by decide +kernel) rfl) List.mem_cons_self (fun q hq _ => entT_all hq)))
    (pr_if (pt_cmpR op_eq (pe_ix ix_tup (pv 0) pe_int (fun _ _ => rfl)) pe_str (nomark _)) (pr_ret (pe_glob rfl mU (v := .ref fU) rfl))
    (pr_if (pt_cmpR op_eq (pe_ix ix_tup (pv 0) pe_int (fun _ _ => rfl)) pe_str (nomark _)) (pr_cons (ps_set (i := 3) scWSt.nd rfl (Or.inl rfl) (pe_call GL hr rfl mF F.kp bF .nil pass0 (pa_cons (pe_ix ix_tup (pv 0) pe_int (fun _ _ => rfl)) (pa_cons (pv 1) (pa_cons (pv 2) pa_nil)))))
      (pr_cons (ps_set (i := 4) scWSt.nd rfl (Or.inl rfl) (pe_call GL hr rfl mF F.kp bF .nil pass0 (pa_cons (pe_ix ix_tup (pv 0) pe_int (fun _ _ => rfl)) (pa_cons (pv 1) (pa_cons (pv 2) pa_nil)))))
      (pr_ret (pe_call GI hr rfl mI kI bI .nil pass0 (pa_cons (pv 3) (pa_cons (pv 4) (pa_cons (pv 2) pa_nil)))))))
    (pr_ret (pe_lam (c := c) (P := T) (ent := entT) rfl (PySem.W.codeHd_of_K hK F.hd) hB (free_ok (lamScope eSm) (defScope sWStep) (by decide +kernel) rfl) (List.mem_cons_of_mem _ List.mem_cons_self) (fun q hq _ => entT_all hq))))), ?_⟩
  cases r with
  | ld l =>
    cases l with
    | none =>
      obtain ⟨a, rfl, ha⟩ := hl
      refine ⟨_, rfl, a, _, _, _, rfl, rfl, SqT.of ha, at0 _ _, rfl, _, rfl, skipS (by decide +kernel) ?_⟩
      refine ⟨_, rfl, a, _, _, _, rfl, rfl, SqT.of ha, at0 _ _, rfl, _, rfl, takeS ?_⟩
      exact ⟨[], cells0, fun _ => q H fU [] (.refl _) B .nil rfl⟩
    | go p =>
      obtain ⟨a, rfl, ha⟩ := hl
      refine ⟨_, rfl, a, _, _, _, rfl, rfl, SqT.of ha, at0 _ _, rfl, _, rfl, takeS ?_⟩
      refine ⟨B _ hin, fun g c' ct cl H' CL M => ⟨[(s.heap.objs.size + 1 + 1 + 1, .ref tq), (s.heap.objs.size + 1 + 1, .ref wv), (s.heap.objs.size + 1, .ref a)], cells3 ⟨2, "tally", rfl, rfl, rfl, rfl, rfl, rfl⟩ ⟨1, "woven", rfl, rfl, rfl, rfl, rfl, rfl⟩ ⟨0, "step", rfl, rfl, rfl, rfl, rfl, rfl⟩, fun fr => ?_⟩⟩
      obtain ⟨m1, m2, m3, m4, m5⟩ := made_cells M B hin nd fr rfl (nd3 s.heap.objs.size)
      refine q _ g _ m1 m2 m3 ⟨cl, a, ⟨_, _, _, c', List.mem_cons_self, m4, List.mem_cons_of_mem _ List.mem_cons_self, m5⟩, ?_, ?_, m1 _ _ ha nt_tup, ?_⟩
      · exact (CL.cellsH (cs := [("tally", s.heap.objs.size + 1 + 1 + 1), ("woven", s.heap.objs.size + 1 + 1), ("step", s.heap.objs.size + 1)]) rfl rfl (nd3 _)).up (.refl _) fun a ha => List.mem_cons_of_mem _ (List.mem_cons_of_mem _ ha)
      all_goals refine (CL.varH (cs := [("tally", s.heap.objs.size + 1 + 1 + 1), ("woven", s.heap.objs.size + 1 + 1), ("step", s.heap.objs.size + 1)]) rfl rfl (nd3 _) (by decide +kernel) rfl ?_).up (.refl _) fun a ha => List.mem_cons_of_mem _ (List.mem_cons_of_mem _ ha)
      all_goals simp
  | ei x y =>
    obtain ⟨a, v1, v2, rfl, ha, hx, hy⟩ := hl
    refine ⟨_, rfl, a, _, _, _, rfl, rfl, SqT.of ha, at0 _ _, rfl, _, rfl, skipS (by decide +kernel) ?_⟩
    refine ⟨_, rfl, a, _, _, _, rfl, rfl, SqT.of ha, at0 _ _, rfl, _, rfl, skipS (by decide +kernel) ?_⟩
    refine ⟨_, rfl, a, _, _, _, rfl, rfl, SqT.of ha, at0 _ _, rfl, _, rfl, takeS ?_⟩
    refine ⟨_, rfl, a, _, _, _, rfl, rfl, SqT.of ha, at1 _ _ _, _, rfl, _, rfl, v1, wv, tq, x, rfl, B, hx, fun H1 fa z1 s1 B1 F1 l1 => ?_⟩
    have ha1 := s1 _ _ ha nt_tup
    refine ⟨_, rfl, a, _, _, _, rfl, rfl, SqT.of ha1, at2 _ _ _ _, _, rfl, _, rfl, v2, wv, tq, y, rfl, B1, hy.keep s1.keepT, fun H2 fb z2 s2 B2 F2 l2 => ?_⟩
    refine ⟨_, rfl, _, rfl, _, rfl, fa, fb, tq, rfl, B2, fun H3 g z3 s3 B3 F3 e3 => ⟨[], cells0, fun _ => ?_⟩⟩
    refine q H3 g (z1 ++ (z2 ++ z3)) (s1.trans (s2.trans s3)) B3 ((F1.up (s2.trans s3)).app ((F2.up s3).app F3)) ⟨fa, fb, e3.up (.refl _) (fun b hb => List.mem_append_right _ (List.mem_append_right _ hb)), l1.up (s2.trans s3) (fun b hb => List.mem_append_left _ hb), l2.up s3 (fun b hb => List.mem_append_right _ (List.mem_append_left _ hb))⟩
  | sm r =>
    obtain ⟨a, rfl, ha⟩ := hl
    refine ⟨_, rfl, a, _, _, _, rfl, rfl, SqT.of ha, at0 _ _, rfl, _, rfl, skipS (sm_ne ok (by decide +kernel)) ?_⟩
    refine ⟨_, rfl, a, _, _, _, rfl, rfl, SqT.of ha, at0 _ _, rfl, _, rfl, skipS (sm_ne ok (by decide +kernel)) ?_⟩
    refine ⟨_, rfl, a, _, _, _, rfl, rfl, SqT.of ha, at0 _ _, rfl, _, rfl, skipS (sm_ne ok (by decide +kernel)) ?_⟩
    refine ⟨B _ hin, fun g c' ct cl H' CL M => ⟨[(s.heap.objs.size + 1 + 1 + 1, .ref tq), (s.heap.objs.size + 1 + 1, .ref wv), (s.heap.objs.size + 1, .ref a)], cells3 ⟨2, "tally", rfl, rfl, rfl, rfl, rfl, rfl⟩ ⟨1, "woven", rfl, rfl, rfl, rfl, rfl, rfl⟩ ⟨0, "step", rfl, rfl, rfl, rfl, rfl, rfl⟩, fun fr => ?_⟩⟩
    obtain ⟨m1, m2, m3, m4, m5⟩ := made_cells M B hin nd fr rfl (nd3 s.heap.objs.size)
    refine q _ g _ m1 m2 m3 ⟨cl, a, ⟨_, _, _, c', List.mem_cons_self, m4, List.mem_cons_of_mem _ List.mem_cons_self, m5⟩, ?_, ?_, m1 _ _ ha nt_tup, ?_⟩
    · exact (CL.cellsH (cs := [("tally", s.heap.objs.size + 1 + 1 + 1), ("woven", s.heap.objs.size + 1 + 1), ("step", s.heap.objs.size + 1)]) rfl rfl (nd3 _)).up (.refl _) fun a ha => List.mem_cons_of_mem _ (List.mem_cons_of_mem _ ha)
    all_goals refine (CL.varH (cs := [("tally", s.heap.objs.size + 1 + 1 + 1), ("woven", s.heap.objs.size + 1 + 1), ("step", s.heap.objs.size + 1)]) rfl rfl (nd3 _) (by decide +kernel) rfl ?_).up (.refl _) fun a ha => List.mem_cons_of_mem _ (List.mem_cons_of_mem _ ha)
    all_goals simp
end
structure ExK (K : PySem.W.Frag) (mg : Str → Option Value) (nm : Str) (C : Addr) (bm : List Value) : Prop where
  ex : ExcC K C bm
  ba : bm.contains (.type "BaseException") = true
  ini : PySem.W.findIn K (.ref C) "__init__" = some (some (.builtin "ValueError.__init__"))
  at_ : mg nm = some (.ref C)
section
variable {P : Program} {w : World} {K : PySem.W.Frag} {mg : Str → Option Value} {base : Heap} {f : Addr} {fd : FuncData}
theorem fnok_or {CX : CXT} {k : Nat} {ps : List Str} {sp sp' : Sp} (a : FnOk P w K mg base CX k f fd ps sp) (b : FnOk P w K mg base CX k f fd ps sp') : FnOk P w K mg base CX k f fd ps (fun vs H Q E => sp vs H Q E ∨ sp' vs H Q E) :=
  ⟨fun vs H Q E h => h.elim (a.len vs H Q E) (b.len vs H Q E), fun A outer s H args us vs Q E hr he hb r h => h.elim (a.run A outer s H args us vs Q E hr he hb r) (b.run A outer s H args us vs Q E hr he hb r)⟩
end
def PG (v : V) : Prop := PV v ∨ (∃ b, v = .bl b) ∨ v = .non
def spWholeG : Sp := fun vs H Q _ => ∃ (v : V) (lo hi : Int), vs = [v, .int lo, .int hi] ∧ PG v ∧ Q (.bl (whV lo hi v)) H
def spAmountG : Sp := fun vs H Q _ => ∃ v : V, vs = [v] ∧ PG v ∧ Q (.bl (whV (-big) big v)) H
def spCheckX (CM CC : Addr) : Sp := fun vs H Q E => ∃ n c : V, vs = [n, c] ∧ PG n ∧ PG c ∧ (whV (-big) big n = false → E (.ref CM) none H) ∧ (whV (-big) big n = true → (whV 0 40 c = false → E (.ref CC) none H) ∧ (whV 0 40 c = true → Q .non H))
def spFirstX (CU : Addr) : Sp := fun vs H Q E => ∃ (st : Addr) (w : Str) (kvs : List (Key × V)), vs = [.ref st, .str w] ∧ H st = some (.dK kvs) ∧ (valV kvs (Sum.inr w : Key) = none → E (.ref CU) none H) ∧ ∀ v, valV kvs (Sum.inr w : Key) = some v → Q v H
def OutX (H : Hp) (CM CC CU CS : Addr) (Q : VK) (E : XK) (kvs : List (Key × V)) (w : Str) (rows : List (List RS)) (nv cv : V) : Prop :=
  (whV (-big) big nv = false → E (.ref CM) none H) ∧ (whV (-big) big nv = true → (whV 0 40 cv = false → E (.ref CC) none H) ∧ (whV 0 40 cv = true → (valV kvs (Sum.inr w : Key) = none → ∀ H', Same H H' → E (.ref CU) none H') ∧
    ∀ (n : Int) (c p : Nat), nv = .int n → cv = .int (c : Int) → valV kvs (Sum.inr w : Key) = some (.int (p : Int)) → OutR H CU CS Q E (recS rows 41 p n c [])))
def spRunX (CM CC CU CS : Addr) : Sp := fun vs H Q E => ∃ (st ra : Addr) (w : Str) (kvs : List (Key × V)) (as : List Addr) (rows : List (List RS)) (nv cv : V), vs = [.ref st, .ref ra, .str w, nv, cv] ∧ PG nv ∧ PG cv ∧ H st = some (.dK kvs) ∧ Rw0 H ra as rows ∧ (∀ v, valV kvs (Sum.inr w : Key) = some v → ∃ p : Nat, v = .int (p : Int) ∧ p < rows.length) ∧ OutX H CM CC CU CS Q E kvs w rows nv cv
theorem wh_int {lo hi : Int} {v : V} (h : whV lo hi v = true) : ∃ n, v = .int n ∧ lo ≤ n ∧ n ≤ hi := by
  cases v <;> first | (cases h; done) | skip
  rename_i n
  have h : (decide (lo ≤ n) && decide (n ≤ hi)) = true := h
  rw [Bool.and_eq_true] at h
  exact ⟨n, rfl, of_decide_eq_true h.1, of_decide_eq_true h.2⟩
section
variable {P : Program} {w : World} {K : PySem.W.Frag} {mg : Str → Option Value} {base : Heap} {f fW fA fC fF fE fIR fIT T0 CM CC CT CR CU CS : Addr} {fd dW dA dC dF dE dIR dIT : FuncData} {bM bC bU bS : List Value}
theorem ok_wholeG (F : Fun K "is_whole" "is_whole" sWhole f fd) (T : Txt mg) : FnOk P w K mg base CX0 1 f fd ["value", "least", "most"] spWholeG := by
  have G1 : FnOk P w K mg base CX0 1 f fd ["value", "least", "most"] spWhole := ok_whole F T
  have G2 : FnOk P w K mg base CX0 1 f fd ["value", "least", "most"] (fun vs H Q _ => ∃ (v : V) (lo hi : Int), vs = [v, .int lo, .int hi] ∧ ((∃ b, v = .bl b) ∨ v = .non) ∧ Q (.bl false) H) := by
    refine F.ok scWhole (fun vs H Q E h => ?_) (fun cdv A outer s H vs Q E hr h => ?_)
    · obtain ⟨v, lo, hi, rfl, _⟩ := h
      rfl
    obtain ⟨v, lo, hi, rfl, hv, q⟩ := h
    refine ⟨_, pss_one (ps_ret (pe_and (pe_callB call_isinst rfl T.isi PyProof.Rows.boot_isinstance (pa_cons (pv 0) (pa_cons (pe_bltn (v := .ty "int") rfl T.int PyProof.Rows.boot_int rfl) pa_nil)))
      (pe_and (pe_not (pe_callB call_isinst rfl T.isi PyProof.Rows.boot_isinstance (pa_cons (pv 0) (pa_cons (pe_bltn (v := .ty "bool") rfl T.bool PyProof.Rows.boot_bool rfl) pa_nil))))
      (pe_one (pe_chain op_le op_le (pv 1) (pv 0) (pv 2)))))), ?_⟩
    rcases hv with ⟨b, rfl⟩ | rfl
    · refine ⟨_, rfl, _, _, _, _, rfl, .bl _, (show PySem.W.kitOne K (.type "bool") (.type "int") = some true from rfl), _, rfl, iteT ?_⟩
      exact ⟨_, rfl, _, _, _, _, rfl, .bl _, kit_self K "bool", _, rfl, _, rfl, iteF q⟩
    · exact ⟨_, rfl, _, _, _, _, rfl, .non, (show PySem.W.kitOne K (.type "NoneType") (.type "int") = some false from rfl), _, rfl, iteF q⟩
  refine (fnok_or G1 G2).imp fun vs H Q E ⟨v, lo, hi, e, hv, q⟩ => ?_
  rcases hv with hv | hv
  · exact .inl ⟨v, lo, hi, e, hv, q⟩
  · refine .inr ⟨v, lo, hi, e, hv, ?_⟩
    rcases hv with ⟨b, rfl⟩ | rfl <;> exact q
theorem ok_amountG (F : Fun K "is_amount" "is_amount" sAmount f fd) (GW : FnOk P w K mg base CX0 1 fW dW ["value", "least", "most"] spWholeG) (kW : PySem.W.keepIn K (.ref fW) = true) (bW : Binds K dW ["value", "least", "most"] []) (mW : mg "is_whole" = some (.ref fW)) : FnOk P w K mg base CX0 2 f fd ["value"] spAmountG := by
  refine F.ok scAmount (fun vs H Q E h => ?_) (fun cdv A outer s H vs Q E hr h => ?_)
  · obtain ⟨v, rfl, _⟩ := h
    rfl
  obtain ⟨v, rfl, hv, q⟩ := h
  refine ⟨_, pss_one (ps_ret (pe_call GW hr rfl mW kW bW .nil pass0 (pa_cons (pv 0) (pa_cons (pe_un un_neg (pe_op op_pow pe_int pe_int)) (pa_cons (pe_op op_pow pe_int pe_int) pa_nil))))), ?_⟩
  exact ⟨_, rfl, _, _, rfl, rfl, ⟨by decide, by decide, by decide⟩, _, rfl, _, _, rfl, rfl, ⟨by decide, by decide, by decide⟩, v, -big, big, rfl, hv, q⟩
theorem ok_checkX (F : Fun K "check_question" "check_question" sCheck f fd) (GW : FnOk P w K mg base CX0 1 fW dW ["value", "least", "most"] spWholeG) (kW : PySem.W.keepIn K (.ref fW) = true) (bW : Binds K dW ["value", "least", "most"] []) (mW : mg "is_whole" = some (.ref fW))
    (GA : FnOk P w K mg base CX0 2 fA dA ["value"] spAmountG) (kA : PySem.W.keepIn K (.ref fA) = true) (bA : Binds K dA ["value"] []) (mA : mg "is_amount" = some (.ref fA)) (XM : ExK K mg "BadNumber" CM bM) (XC : ExK K mg "BadCount" CC bC) : FnOk P w K mg base (CXE P w) 3 f fd ["number", "count"] (spCheckX CM CC) := by
  refine F.okX scCheck (fun vs H Q E h => ?_) (fun cdv A outer s H vs Q E hr h => ?_)
  · obtain ⟨n, c, rfl, _⟩ := h
    rfl
  obtain ⟨n, c, rfl, hn, hc, q1, q2⟩ := h
  have hr1 := hr.mono (j := 1) (by decide)
  refine ⟨_, pss_cons (ps_if (pt_not (pt_val (pe_call GA hr rfl mA kA bA .nil pass0 (pa_cons (pv 0) pa_nil)))) (pss_one (ps_raise rfl XM.ex XM.ba XM.ini rfl XM.at_ (pa_cons pe_str pa_nil))) pss_nil)
    (pss_one (ps_if (pt_not (pt_val (pe_call GW hr1 rfl mW kW bW .nil pass0 (pa_cons (pv 1) (pa_cons pe_int (pa_cons pe_int pa_nil)))))) (pss_one (ps_raise rfl XC.ex XC.ba XC.ini rfl XC.at_ (pa_cons pe_str pa_nil))) pss_nil)), ?_⟩
  refine ⟨_, rfl, n, rfl, hn, ?_⟩
  cases e1 : whV (-big) big n with
  | false => exact ⟨_, rfl, iteT ⟨by show 1 ≤ sizeLine; decide, q1 e1⟩⟩
  | true =>
  obtain ⟨q3, q4⟩ := q2 e1
  refine ⟨_, rfl, iteF ?_⟩
  refine ⟨_, rfl, c, 0, 40, rfl, hc, ?_⟩
  cases e2 : whV 0 40 c with
  | false => exact ⟨_, rfl, iteT ⟨by show 1 ≤ sizeLine; decide, q3 e2⟩⟩
  | true => exact ⟨_, rfl, iteF (q4 e2)⟩
theorem ok_firstX (F : Fun K "first_place" "first_place" sFirst f fd) (X : ClsX K mg CU CS bU bS) : FnOk P w K mg base (CXE P w) 1 f fd ["starts", "word"] (spFirstX CU) := by
  refine F.okX scFirst (fun vs H Q E h => ?_) (fun cdv A outer s H vs Q E hr h => ?_)
  · obtain ⟨st, w, kvs, rfl, _⟩ := h
    rfl
  obtain ⟨st, w, kvs, rfl, hd, q1, q2⟩ := h
  have hu := hu_of hr
  refine ⟨_, pss_cons (ps_if (pt_cmp (pc_dnotin hu (pv 1) (pv 0))) (pss_one (ps_raise rfl X.exU X.baU X.inU rfl X.mgU (pa_cons pe_str pa_nil))) pss_nil) (pss_one (ps_ret (pe_dget hu (pv 0) (pv 1) (fun _ _ => rfl)))), ?_⟩
  refine ⟨_, rfl, _, rfl, st, _, rfl, DGet.k (k := Sum.inr w) hd, _, rfl, ?_⟩
  cases hv : valV kvs (Sum.inr w : Key) with
  | none => exact iteT ⟨by show 1 ≤ sizeLine; decide, q1 hv⟩
  | some v =>
    refine iteF ?_
    exact ⟨_, rfl, _, rfl, st, v, rfl, by rw [← hv]; exact DGet.k (k := Sum.inr w) hd, q2 v hv⟩
theorem ok_runX (F : FunD K "run" "run" sRun f fd T0) (T : ClsR K mg CR) (TT : ClsT K mg CT)
    (GC : FnOk P w K mg base (CXE P w) 3 fC dC ["number", "count"] (spCheckX CM CC)) (kC : PySem.W.keepIn K (.ref fC) = true) (bC' : Binds K dC ["number", "count"] []) (mC : mg "check_question" = some (.ref fC))
    (GF : FnOk P w K mg base (CXE P w) 1 fF dF ["starts", "word"] (spFirstX CU)) (kF : PySem.W.keepIn K (.ref fF) = true) (bF : Binds K dF ["starts", "word"] []) (mF : mg "first_place" = some (.ref fF))
    (GIR : FnOk P w K mg base CX0 1 fIR dIR ["self", "rows", "tally"] (spInitR CR)) (bIR : Binds K dIR ["self", "rows", "tally"] []) (MR : Mk K CR fIR)
    (GIT : FnOk P w K mg base CX0 1 fIT dIT ["self", "left"] (spInitT CT)) (bIT : Binds K dIT ["self", "left"] []) (MT : Mk K CT fIT)
    (GE : FnOk P w K mg base (CXE P w) (4 * 41 + 3) fE dE ["self", "place", "number"] (spEnt CT CR CU CS 41)) (bE : Binds K dE ["self", "place", "number"] []) (mE : Meth K CR "entered" fE) : FnOk P w K mg base (CXE P w) 168 f fd ["starts", "rows", "word", "number", "count"] (spRunX CM CC CU CS) := by
  refine FunD.okX F scRun (fun vs H Q E h => ?_) (fun cdv A outer s H vs Q E hr h => ?_)
  · obtain ⟨st, ra, w, kvs, as, rows, nv, cv, rfl, _⟩ := h
    rfl
  obtain ⟨st, ra, w, kvs, as, rows, nv, cv, rfl, pn, pc, hst, R, hp, g1, g2⟩ := h
  have hr1 := hr.mono (j := 1) (by decide)
  have hr2 := hr.mono (j := 2) (by decide)
  have hr3 := hr.mono (j := 3) (by decide)
  have hrE := hr.mono (j := 4 * 41 + 3) (by decide)
  refine ⟨_, pss_cons (ps_expr (pe_callE GC hr3 rfl mC kC bC' .nil (pa_cons (pv 3) (pa_cons (pv 4) pa_nil))))
    (pss_cons (ps_set (i := 5) scRun.nd rfl (Or.inl rfl) (pe_make MR GIR hr2 rfl T.mgR bIR .nil pass0 (pa_cons (pv 1) (pa_cons (pe_make MT GIT hr2 rfl TT.mgT bIT .nil pass0 (pa_cons (pv 4) pa_nil)) pa_nil))))
    (pss_cons (ps_expr (pe_methE (pv 5) T.cl mE GE hrE bE .nil (pa_cons (pe_callE GF hr1 rfl mF kF bF .nil (pa_cons (pv 0) (pa_cons (pv 2) pa_nil))) (pa_cons (pv 3) pa_nil))))
    (pss_one (ps_ret (pe_fld (pe_fld (pv 5) rfl) rfl))))), ?_⟩
  refine ⟨_, rfl, _, rfl, nv, cv, rfl, pn, pc, g1, fun e1 => ?_⟩
  obtain ⟨g4, g5⟩ := g2 e1
  refine ⟨g4, fun e2 => ?_⟩
  obtain ⟨g6, g⟩ := g5 e2
  obtain ⟨n, rfl, n0, n1⟩ := wh_int e1
  obtain ⟨ci, rfl, c0, c1⟩ := wh_int e2
  obtain ⟨c, rfl⟩ := Int.eq_ofNat_of_zero_le c0
  refine ⟨_, rfl, _, rfl, fun tq dt htq hdt hne => ⟨tq, dt, (c : Int), rfl, upd_same, fun sa H1 hsa e1 e2 k1 => ⟨rfl, fun q dx hq hdx hne2 => ⟨q, dx, ra, tq, rfl, upd_same, fun H2 e3 k2 => ⟨rfl, ?_⟩⟩⟩⟩⟩
  have hsa0 : H sa = none := by
    cases z : H sa with
    | none => rfl
    | some o =>
      rw [upd_ne (ne_of_none z htq), upd_ne (ne_of_none z hdt), z] at hsa
      cases hsa
  have keep1 : ∀ b o, H b = some o → H1 b = some o := fun b o hb => k1 b o (by rw [upd_ne (ne_of_none hb htq), upd_ne (ne_of_none hb hdt)]; exact hb) (ne_of_none hb htq)
  have keep2 : ∀ b o, H1 b = some o → H2 b = some o := fun b o hb => k2 b o (by rw [upd_ne (ne_of_none hb hq), upd_ne (ne_of_none hb hdx)]; exact hb) (ne_of_none hb hq)
  have t2 := keep2 _ _ e1
  have s2 := keep2 _ _ e2
  have nqt : q ≠ tq := Ne.symm (ne_of_none e1 hq)
  have nqs : q ≠ sa := Ne.symm (ne_of_none e2 hq)
  have SM : Same H (mask H2 tq sa) := fun b o hb => mask_at (keep2 _ _ (keep1 b o hb)) (ne_of_none hb htq) (ne_of_none hb hsa0)
  have C : Cur (mask H2 tq sa) H2 CT tq dt sa c [] := by
    refine ⟨mask_sub, ?_, ?_, t2, s2⟩
    · unfold mask
      rw [if_pos (.inl rfl)]
    · unfold mask
      rw [if_pos (.inr rfl)]
  have R2 := R.same SM
  have U : Rws CR (mask H2 tq sa) q dx ra tq as rows := ⟨mask_at e3 nqt nqs, R2.lst, R2.len, R2.row, R2.ok, R2.lds⟩
  generalize mask H2 tq sa = M at *
  refine ⟨_, rfl, q, dx, _, rfl, e3, rF_no (by decide +kernel), _, rfl, _, rfl, st, w, kvs, rfl, C.same _ _ (SM _ _ hst), fun hv => g6 hv _ (SM.trans C.same), fun v hv => ?_⟩
  obtain ⟨p, rfl, hp⟩ := hp v hv
  have g := g n c p rfl rfl hv
  refine ⟨_, rfl, ?_⟩
  refine ⟨M, q, dx, ra, tq, dt, sa, as, rows, p, n, c, [], 100, rfl, U, C, hp, by omega, ⟨ab_big n0 n1, Nat.le_refl _, by omega, by rw [List.length_nil]; omega⟩, ?_⟩
  cases e : recS rows 41 p n c [] with
  | ok a k' sd =>
    rw [e] at g
    intro H' sa' C'
    refine ⟨_, rfl, q, CR, dx, _, _, rfl, C'.same _ _ U.ob, T.cl, T.nTally, rF_tally _ _, tq, CT, dt, _, _, rfl, C'.hq, TT.cl, TT.nSaid, tF_said _ _, ?_⟩
    exact g H' sa' (SM.trans C'.same) (SM.free C'.ms) C'.hs
  | una k' sd =>
    rw [e] at g
    exact fun H' sa' C' => g H' (SM.trans C'.same)
  | spent =>
    rw [e] at g
    exact fun H' hs => g H' (SM.trans hs)
end
def spWRow (L : List (Addr × List (Pos × Str))) (fU : Addr) : Sp := fun vs H Q _ => ∃ (ra wv tq : Addr) (us : List V) (r : List RS), vs = [.ref ra, .ref wv, .ref tq] ∧ TB L H ∧ H ra = some (.lst us) ∧ Paired (RAt H) us r ∧ (∀ s ∈ r, okR s) ∧ r.length ≤ 30 ∧
  ∀ (H' : Hp) (f pa : Addr) (fz : List Addr), SameT H H' → TB L H' → FzN H' fz → RwH H' fz fU wv tq f pa r → (∀ b xs, H b = some (.lst xs) → b ≠ pa) → Q (.ref f) H'
section
variable {P : Program} {w : World} {K : PySem.W.Frag} {mg : Str → Option Value} {base : Heap} {L : List (Addr × List (Pos × Str))} {f c T fU fW : Addr} {fd dW : FuncData}
theorem ndC3 : (["step", "tally", "woven"] : List Str).Nodup := by decide +kernel
theorem scWRow : FnScope ["row", "woven", "tally", "done", "parts"] ["row", "woven", "tally"] (defScope sWRow) := ⟨rfl, rfl, rfl, by decide +kernel, rfl, by decide +kernel, by decide +kernel⟩
theorem ok_wrow (F : FunC K "woven_row" "woven_row" sWRow f fd c T) (hK : K.In base) (hB : Bm mg base) (hin : (T, entR) ∈ L) (nd : (L.map (·.1)).Nodup)
    (GW : FnOk P w K mg base CX0 2 fW dW ["step", "woven", "tally"] (spWSt L fU)) (kW : PySem.W.keepIn K (.ref fW) = true) (bW : Binds K dW ["step", "woven", "tally"] []) (mW : mg "woven_step" = some (.ref fW)) : FnOk P w K mg base CX0 3 f fd ["row", "woven", "tally"] (spWRow L fU) := by
  refine F.okR scWRow (fun vs H Q E h => ?_) (fun A outer s H vs Q E hr h => ?_)
  · obtain ⟨ra, wv, tq, us, r, rfl, _⟩ := h
    rfl
  obtain ⟨ra, wv, tq, us, r, rfl, B, hra, hus, hok, h30, q⟩ := h
  refine ⟨_, pr_cons (ps_set (i := 4) scWRow.nd rfl (Or.inr rfl) (pe_comp (defScope sWRow) ["row", "woven", "tally", "done", "parts"] ["step"] [("tally", 2), ("woven", 1)] rfl (pi_list (pv 0)) (own_name (i := 0) (by decide))
      (fun _ _ _ _ _ _ => ⟨pg_name (i := 0) ndC3 rfl (Or.inl rfl), pts_nil, pe_call GW hr rfl mW kW bW .nil pass0 (pa_cons (pv 0) (pa_cons (pv 2) (pa_cons (pv 1) pa_nil)))⟩)))
    (pr_cons (ps_def (i := 3) (c := c) (P := T) (ent := entR) rfl (PySem.W.codeHd_of_K hK F.hd) hB (free_ok (defScope sRDone) (defScope sWRow) (by decide +kernel) rfl) (List.mem_singleton.mpr rfl) (fun q hq _ => by rw [List.mem_singleton.mp hq]; rfl) scWRow.nd rfl (Or.inl rfl)) (pr_ret (pv 3))), ?_⟩
  have hul := Paired.length hus
  refine ⟨_, rfl, ra, rfl, ⟨_, SqL.of hra⟩, turns_list0 (K := K) (a := ra) (xs := us) (fun i ys H2 => SameT H H2 ∧ TB L H2 ∧ ys.length = i ∧ ∃ fz, FzN H2 fz ∧ Paired (fun (v : V) s => ∃ g, v = .ref g ∧ StH H2 fz fU wv tq g s) ys (r.take i)) ⟨.refl _, B, rfl, [], .nil, .nil⟩ (fun i ys H2 _ h => SqL.of (h.1 _ _ hra nt_lst)) ?_ ?_⟩
  · rintro i v ys H2 hi ⟨s2, B2, hl, fz, F2, hp⟩
    obtain ⟨x, hx, hv⟩ := paired_get hus hi
    have hil : i < us.length := (List.getElem?_eq_some_iff.mp hi).1
    refine ⟨_, rfl, _, rfl, _, rfl, v, wv, tq, x, rfl, B2, hv.keep s2.keepT, hok x (List.mem_of_getElem? hx), fun H3 g z s3 B3 F3 h3 => ⟨by rw [hl, sizeLine_eq]; omega, s2.trans s3, B3, by rw [List.length_append, hl]; rfl, fz ++ z, (F2.up s3).app F3, ?_⟩⟩
    rw [List.take_add_one, hx]
    exact Paired.snoc (Paired.mapP hp fun _ _ ⟨a, b, d⟩ => ⟨a, b, d.up s3 fun e he => List.mem_append_left _ he⟩) ⟨g, rfl, h3.up (.refl _) fun e he => List.mem_append_right _ he⟩
  · rintro ys H2 ⟨s2, B2, hl, fz, F2, hp⟩ pa hpa
    rw [hul, List.take_length] at hp
    have s3 := same_new hpa (.lst ys)
    have B3 := B2.keep s3
    have hpy : upd H2 pa (.lst ys) pa = some (.lst ys) := upd_same
    have hp3 : Paired (fun (v : V) x => ∃ g, v = .ref g ∧ StH (upd H2 pa (.lst ys)) fz fU wv tq g x) ys r := Paired.mapP hp fun _ _ ⟨a, b, d⟩ => ⟨a, b, d.up s3.toT fun e he => he⟩
    have F3 := F2.up s3.toT
    have hne : ∀ b xs, H b = some (.lst xs) → b ≠ pa := fun b xs e => ne_of_none (s2 _ _ e nt_lst) hpa
    have s13 := s2.trans s3.toT
    generalize upd H2 pa (.lst ys) = H3 at *
    refine ⟨B3 _ hin, fun g c' ct doc cl H' CL M => ⟨_, rfl, [(s.heap.objs.size + 1 + 1 + 1, .ref pa), (s.heap.objs.size + 1 + 1, .ref tq), (s.heap.objs.size + 1, .ref wv)], cells3 ⟨4, "parts", rfl, rfl, rfl, rfl, rfl, rfl⟩ ⟨2, "tally", rfl, rfl, rfl, rfl, rfl, rfl⟩ ⟨1, "woven", rfl, rfl, rfl, rfl, rfl, rfl⟩, fun fr => ?_⟩⟩
    obtain ⟨m1, m2, m3, m4, m5⟩ := made_cells M B3 hin nd fr rfl (nd3 s.heap.objs.size)
    refine q _ g pa (fz ++ _) (s13.trans m1) m2 ((F3.up m1).app m3) ⟨cl, ys, ⟨_, _, _, _, _, c', List.mem_append_right _ List.mem_cons_self, m4, List.mem_append_right _ (List.mem_cons_of_mem _ List.mem_cons_self), m5⟩, ?_, ?_, m1 _ _ hpy nt_lst, Paired.mapP hp3 fun _ _ ⟨a, b, d⟩ => ⟨a, b, d.up m1 fun e he => List.mem_append_left _ he⟩, ?_⟩ hne
    · exact (CL.cellsH (cs := [("parts", s.heap.objs.size + 1 + 1 + 1), ("tally", s.heap.objs.size + 1 + 1), ("woven", s.heap.objs.size + 1)]) rfl rfl (nd3 _)).up (.refl _) fun a ha => List.mem_append_right _ (List.mem_cons_of_mem _ (List.mem_cons_of_mem _ ha))
    all_goals refine (CL.varH (cs := [("parts", s.heap.objs.size + 1 + 1 + 1), ("tally", s.heap.objs.size + 1 + 1), ("woven", s.heap.objs.size + 1)]) rfl rfl (nd3 _) (by decide +kernel) rfl ?_).up (.refl _) fun a ha => List.mem_append_right _ (List.mem_cons_of_mem _ (List.mem_cons_of_mem _ ha))
    all_goals simp
end
end Bk
namespace L2
open PySem
theorem TB.updL {L : List (Addr × List (Pos × Str))} {H : Hp} {a : Addr} {xs ys : List V} (B : TB L H) (h : H a = some (.lst xs)) : TB L (upd H a (.lst ys)) := fun q hq => by
  obtain ⟨ps, A⟩ := B q hq
  have ne : ∀ {b : Addr} {φ : Heap → Prop}, H b = some (.ext φ) → b ≠ a := fun {b φ} e z => by rw [z, h] at e; cases e
  exact ⟨ps, by rw [upd_ne (ne A.tab)]; exact A.tab, A.tri, fun r hr => (A.ent r hr).imp id fun ⟨c, y, z⟩ => ⟨c, y, by rw [upd_ne (ne z)]; exact z⟩⟩
theorem sameE_updL {H : Hp} {a : Addr} {xs ys : List V} (h : H a = some (.lst xs)) : SameE H (upd H a (.lst ys)) := fun b o e _ n => by
  rw [upd_ne fun z => by rw [z, h] at e; exact n xs (Option.some.inj e).symm]
  exact e
end L2
namespace Bk
open PySem L2 Rk
section
variable {H : Hp} {fz : List Addr} {base : Heap} {M : Hp} {fU wv tq f : Addr}
def Laid (H : Hp) (fz : List Addr) (base : Heap) : Prop := ∀ a ∈ fz, ∀ φ, H a = some (.ext φ) → φ base
theorem LamH.toB {e : Expr} {cl : List (Str × Addr)} (h : LamH H fz e f cl) (F : Laid H fz base) : LamB base e f cl := by
  obtain ⟨q, pm, ct, c, h1, h2, h3, h4⟩ := h.ex
  obtain ⟨o, a, b⟩ := F _ h1 _ h2
  exact ⟨q, pm, .ref c, ct, o, a, b, F _ h3 _ h4⟩
theorem DefH.toB {st : Stmt} {cl : List (Str × Addr)} (h : DefH H fz st f cl) (F : Laid H fz base) : DefB base st f cl := by
  obtain ⟨n, q, d, pm, ct, c, h1, h2, h3, h4⟩ := h.ex
  obtain ⟨o, a, b⟩ := F _ h1 _ h2
  exact ⟨n, q, d, pm, .ref c, ct, o, a, b, F _ h3 _ h4⟩
theorem cellsB_of {sc : Scope} {cl : List (Str × Addr)} (h : CellsH H fz sc cl) (F : Laid H fz base) : CellsB base sc cl := ⟨h.inj, h.has, fun x c e => by
  obtain ⟨a, v, b⟩ := h.cell x c e
  obtain ⟨u, _, z⟩ := F _ a _ b
  exact ⟨_, z⟩⟩
theorem varB_of {cl : List (Str × Addr)} {x : Str} {v : V} (h : VarH H fz cl x v) (F : Laid H fz base) : VarB base cl x v := by
  obtain ⟨c, a, b, e⟩ := h
  obtain ⟨u, r, z⟩ := F _ b _ e
  exact ⟨c, u, a, z, r⟩
theorem ldB_of (F : Laid H fz base) (k : KeepT H M) : ∀ {l : Ah.Ld}, LdH H fz fU wv f l → LdB base M fU wv f l
  | .none, h => h
  | .go _, ⟨cl, t, a, b, c, d, e⟩ => ⟨cl, t, a.toB F, cellsB_of b F, varB_of c F, k _ _ d, varB_of e F⟩
theorem stB_of (F : Laid H fz base) (k : KeepT H M) : ∀ {r : RS}, StH H fz fU wv tq f r → StB base M fU wv tq f r
  | .ld _, h => ldB_of F k h
  | .ei _ _, ⟨fa, fb, ⟨cl, a, b, c, d, e⟩, g, h⟩ => ⟨cl, fa, fb, a.toB F, cellsB_of b F, varB_of c F, ldB_of F k g, varB_of d F, ldB_of F k h, varB_of e F⟩
  | .sm _, ⟨cl, t, a, b, c, d, e⟩ => ⟨cl, t, a.toB F, cellsB_of b F, varB_of c F, k _ _ d, varB_of e F⟩
theorem rwB_of {pa : Addr} {ss : List RS} (F : Laid H fz base) (k : KeepT H M) (kp : ∀ xs, H pa = some (.lst xs) → M pa = some (.lst xs)) (h : RwH H fz fU wv tq f pa ss) : RwB base M fU wv tq f ss := by
  obtain ⟨cl, us, a, b, c, d, e, g⟩ := h
  exact ⟨cl, pa, us, a.toB F, cellsB_of b F, varB_of c F, kp _ d, Paired.mapP e fun _ _ ⟨x, y, z⟩ => ⟨x, y, stB_of F k z⟩, varB_of g F⟩
end
def OutWR (L : List (Addr × List (Pos × Str))) (H : Hp) (CU CS : Addr) (Q : VK) (E : XK) : Res → Prop
  | .ok _ _ sd => ∀ (H' : Hp) (l : Addr), SameT H H' → TB L H' → H' l = some (.lst (nVs sd)) → Q (.ref l) H'
  | .una _ _ => ∀ H' : Hp, SameT H H' → TB L H' → E (.ref CU) none H'
  | .spent => ∀ H' : Hp, SameT H H' → TB L H' → E (.ref CS) none H'
def OutW (L : List (Addr × List (Pos × Str))) (H : Hp) (CM CC CU CS : Addr) (Q : VK) (E : XK) (kvs : List (Key × V)) (w : Str) (rows : List (List RS)) (nv cv : V) : Prop :=
  (whV (-big) big nv = false → E (.ref CM) none H) ∧ (whV (-big) big nv = true → (whV 0 40 cv = false → E (.ref CC) none H) ∧ (whV 0 40 cv = true → (valV kvs (Sum.inr w : Key) = none → ∀ H', SameT H H' → TB L H' → E (.ref CU) none H') ∧
    ∀ (n : Int) (c p : Nat), nv = .int n → cv = .int (c : Int) → valV kvs (Sum.inr w : Key) = some (.int (p : Int)) → OutWR L H CU CS Q E (recS rows 41 p n c [])))
def spWRun (L : List (Addr × List (Pos × Str))) (CM CC CU CS : Addr) : Sp := fun vs H Q E => ∃ (st ra : Addr) (w : Str) (kvs : List (Key × V)) (as : List Addr) (rows : List (List RS)) (nv cv : V), vs = [.ref st, .ref ra, .str w, nv, cv] ∧ TB L H ∧ PG nv ∧ PG cv ∧ H st = some (.dK kvs) ∧ Rw0 H ra as rows ∧ rows.length ≤ 1000 ∧ (∀ v, valV kvs (Sum.inr w : Key) = some v → ∃ p : Nat, v = .int (p : Int) ∧ p < rows.length) ∧ OutW L H CM CC CU CS Q E kvs w rows nv cv
section
variable {P : Program} {w : World} {K : PySem.W.Frag} {mg : Str → Option Value} {base : Heap} {L : List (Addr × List (Pos × Str))} {f fW fC fF fIT fN fT fR fU T0 CM CC CT CU CS : Addr} {fd dW dC dF dIT dN dT dR dU : FuncData} {bU bS : List Value}
theorem scWRun : FnScope ["starts", "rows", "word", "number", "count", "place", "tally", "woven", "row"] ["starts", "rows", "word", "number", "count"] (defScope sWRun) := ⟨rfl, rfl, rfl, by decide +kernel, rfl, by decide +kernel, by decide +kernel⟩
theorem ok_wrun (F : FunD K "woven_run" "woven_run" sWRun f fd T0) (TT : ClsT K mg CT) (Tx : Txt mg) (X : ClsX K mg CU CS bU bS)
    (GC : FnOk P w K mg base (CXE P w) 3 fC dC ["number", "count"] (spCheckX CM CC)) (kC : PySem.W.keepIn K (.ref fC) = true) (bC' : Binds K dC ["number", "count"] []) (mC : mg "check_question" = some (.ref fC))
    (GF : FnOk P w K mg base (CXE P w) 1 fF dF ["starts", "word"] (spFirstX CU)) (kF : PySem.W.keepIn K (.ref fF) = true) (bF : Binds K dF ["starts", "word"] []) (mF : mg "first_place" = some (.ref fF))
    (GIT : FnOk P w K mg base CX0 1 fIT dIT ["self", "left"] (spInitT CT)) (bIT : Binds K dIT ["self", "left"] []) (MT : Mk K CT fIT)
    (GW : FnOk P w K mg base CX0 3 fW dW ["row", "woven", "tally"] (spWRow L fU)) (kW : PySem.W.keepIn K (.ref fW) = true) (bW : Binds K dW ["row", "woven", "tally"] []) (mW : mg "woven_row" = some (.ref fW))
    (FU : Fun K "unanswered" "unanswered" sUna fU dU) (bnU : Binds K dU ["number"] [])
    (GN : ∀ base : Heap, FnOkN P w K mg base 1 fN dN ["self", "length"] (spBack CT)) (bN : Binds K dN ["self", "length"] []) (mN : Meth K CT "take_back" fN)
    (GT : ∀ base : Heap, FnOk P w K mg base (CXE P w) 1 fT dT ["self"] (spEnter CT CS)) (bT : Binds K dT ["self"] []) (mT : Meth K CT "enter" fT)
    (GR : ∀ base : Heap, FnOk P w K mg base CX0 2 fR dR ["step", "number", "said"] spReck) (kR : PySem.W.keepIn K (.ref fR) = true) (bR : Binds K dR ["step", "number", "said"] []) (mR : mg "reckoned" = some (.ref fR)) : FnOk P w K mg base (CXE P w) 168 f fd ["starts", "rows", "word", "number", "count"] (spWRun L CM CC CU CS) := by
  refine FunD.okX F scWRun (fun vs H Q E h => ?_) (fun cdv A outer s H vs Q E hr h => ?_)
  · obtain ⟨st, ra, w, kvs, as, rows, nv, cv, rfl, _⟩ := h
    rfl
  obtain ⟨st, ra, w, kvs, as, rows, nv, cv, rfl, B, pn, pc, hst, R, hrl, hp, g1, g2⟩ := h
  have hr1 := hr.mono (j := 1) (by decide)
  have hr2 := hr.mono (j := 2) (by decide)
  have hr3 := hr.mono (j := 3) (by decide)
  have hrE := hr.mono (j := 4 * 41 + 3) (by decide)
  refine ⟨_, pss_cons (ps_expr (pe_callE GC hr3 rfl mC kC bC' .nil (pa_cons (pv 3) (pa_cons (pv 4) pa_nil))))
    (pss_cons (ps_set (i := 5) scWRun.nd rfl (Or.inl rfl) (pe_callE GF hr1 rfl mF kF bF .nil (pa_cons (pv 0) (pa_cons (pv 2) pa_nil))))
    (pss_cons (ps_set (i := 6) scWRun.nd rfl (Or.inl rfl) (pe_make MT GIT hr2 rfl TT.mgT bIT .nil pass0 (pa_cons (pv 4) pa_nil)))
    (pss_cons (ps_set (i := 7) scWRun.nd rfl (Or.inl rfl) (pe_lst pa_nil))
    (pss_cons (ps_for (Wx.passesOwn own_cx) rfl (pi_list (pv 1)) (pg_name (i := 8) scWRun.nd rfl (Or.inl rfl))
      (pss_one (ps_expr (pe_bm PySem.F.plainAttrs_list PySem.F.slot_list_append PySem.F.type_list_append mt_append (pv 7) (pa_cons (pe_call GW hr3 rfl mW kW bW .nil pass0 (pa_cons (pv 8) (pa_cons (pv 7) (pa_cons (pv 6) pa_nil)))) pa_nil)))))
    (pss_cons (ps_expr (pe_callGE (k := 4 * 41 + 3) (ps := ["number"]) hrE (pe_ix ix_list (pv 7) (pv 5) (fun _ _ => rfl)) (pa_cons (pv 3) pa_nil)))
    (pss_one (ps_ret (pe_fld (pv 6) rfl)))))))), ?_⟩
  refine ⟨_, rfl, _, rfl, nv, cv, rfl, pn, pc, g1, fun e1 => ?_⟩
  obtain ⟨g4, g5⟩ := g2 e1
  refine ⟨g4, fun e2 => ?_⟩
  obtain ⟨g6, g⟩ := g5 e2
  obtain ⟨n, rfl, n0, n1⟩ := wh_int e1
  obtain ⟨ci, rfl, c0, c1⟩ := wh_int e2
  obtain ⟨c, rfl⟩ := Int.eq_ofNat_of_zero_le c0
  refine ⟨_, rfl, _, rfl, st, w, kvs, rfl, hst, fun hv => g6 hv _ (.refl _) B, fun v hv => ?_⟩
  obtain ⟨p, rfl, hp⟩ := hp v hv
  have g := g n c p rfl rfl hv
  refine ⟨_, rfl, fun tq dt htq hdt hne => ⟨tq, dt, (c : Int), rfl, upd_same, fun sa H1 hsa e1 e2 k1 => ⟨rfl, ?_⟩⟩⟩
  have hsa0 : H sa = none := by
    cases z : H sa with
    | none => rfl
    | some o =>
      rw [upd_ne (ne_of_none z htq), upd_ne (ne_of_none z hdt), z] at hsa
      cases hsa
  have keep1 : Same H H1 := fun b o hb => k1 b o (by rw [upd_ne (ne_of_none hb htq), upd_ne (ne_of_none hb hdt)]; exact hb) (ne_of_none hb htq)
  refine ⟨by show 0 ≤ sizeLine; decide, fun wv hwv => ?_⟩
  have s2 : Same H1 (upd H1 wv (.lst [])) := same_new hwv _
  have ewv : upd H1 wv (.lst []) wv = some (.lst ([] : List V)) := upd_same
  have keep2 := keep1.trans s2
  have t2 := s2 _ _ e1
  have a2 := s2 _ _ e2
  have nwv : ∀ b, H1 b ≠ none → b ≠ wv := fun b h z => h (z ▸ hwv)
  have hwv0 : H wv = none := keep1.free hwv
  have B2 := B.keep keep2
  have R2 := R.same keep2
  have ntw : tq ≠ wv := ne_of_none e1 hwv
  have nsw : sa ≠ wv := ne_of_none e2 hwv
  have nts : tq ≠ sa := ne_of t2 a2 (by intro z; cases z)
  generalize upd H1 wv (.lst []) = H2 at *
  refine ⟨_, rfl, ra, rfl, ⟨_, SqL.of R2.lst⟩, for_list (K := K) (a := ra) (xs := as.map V.ref) (fun i σ H3 => ∃ (v8 : Option V) (fs fz : List Addr), σ = [some (.ref st), some (.ref ra), some (.str w), some (.int n), some (.int (c : Int)), some (.int (p : Int)), some (.ref tq), some (.ref wv), v8] ∧ fs.length = i ∧ H3 wv = some (.lst (fs.map V.ref)) ∧ (∀ b o, H2 b = some o → NT b o → b ≠ wv → H3 b = some o) ∧ TB L H3 ∧ FzN H3 fz ∧ ∀ (j : Nat) (a : Addr) (r : List RS), fs[j]? = some a → rows[j]? = some r → ∃ pa, RwH H3 fz fU wv tq a pa r ∧ pa ≠ wv ∧ pa ≠ sa)
    ⟨none, [], [], rfl, rfl, ewv, fun b o h _ _ => h, B2, .nil, fun j a r z => nomatch z⟩ (fun i σ H3 _ ⟨_, _, _, _, _, _, k3, _⟩ => SqL.of (k3 _ _ R2.lst nt_lst (fun z => by have := R.lst; rw [z, hwv0] at this; cases this))) ?_ ?_⟩
  · rintro i v σ H3 hi ⟨v8, fs, fz, rfl, hfl, hw3, k3, B3, F3, h3⟩
    obtain ⟨a, ha, rfl⟩ : ∃ a, as[i]? = some a ∧ v = .ref a := by
      rw [List.getElem?_map] at hi
      cases e : as[i]? with
      | none => rw [e] at hi; cases hi
      | some a => rw [e] at hi; cases hi; exact ⟨a, rfl, rfl⟩
    have hia : i < as.length := (List.getElem?_eq_some_iff.mp ha).1
    have hir : i < rows.length := by rw [← R.len]; exact hia
    have hri := List.getElem?_eq_getElem hir
    obtain ⟨us, hus, hpr⟩ := R.row i a _ ha hri
    obtain ⟨ok, h30⟩ := R.ok _ (List.getElem_mem hir)
    have kT : KeepT H H3 := fun b xs e => k3 _ _ (keep2 _ _ e) nt_tup (fun z => by rw [z, hwv0] at e; cases e)
    have hus3 := k3 _ _ (keep2 _ _ hus) nt_lst (fun z => by rw [z, hwv0] at hus; cases hus)
    have hsa3 := k3 _ _ a2 nt_lst nsw
    refine ⟨_, rfl, .inl ⟨rfl, _, SqL.of hw3⟩, _, rfl, _, rfl, _, rfl, a, wv, tq, us, rows[i], rfl, B3, hus3, Paired.mapP hpr fun _ _ z => z.keep kT, ok, h30, fun H4 g pa z s4 B4 F4 h4 hne => ?_⟩
    have hw4 := s4 _ _ hw3 nt_lst
    refine ⟨wv, fs.map V.ref, _, rfl, rfl, hw4, by rw [List.length_map, sizeLine_eq]; omega, ?_⟩
    have sE := sameE_updL (ys := fs.map V.ref ++ [.ref g]) hw4
    have npw : pa ≠ wv := fun z => hne _ _ hw3 z.symm
    refine ⟨_, fs ++ [g], fz ++ z, rfl, by rw [List.length_append, hfl]; rfl, by rw [upd_same, List.map_append]; rfl, fun b o e nt nw => ?_, B4.updL hw4, ((F3.up s4).app F4).upE sE, fun j b r hj hr' => ?_⟩
    · rw [upd_ne nw]
      exact s4 _ _ (k3 b o e nt nw) nt
    · by_cases hji : j < fs.length
      · rw [List.getElem?_append_left hji] at hj
        obtain ⟨pb, h5, n1, n2⟩ := h3 j b r hj hr'
        obtain ⟨cl, us', _, _, _, d, _⟩ := id h5
        exact ⟨pb, (h5.upE s4.toE (by rw [s4 _ _ d nt_lst, d]) (fun e he => he)).upE sE (upd_ne n1) (fun e he => List.mem_append_left _ he), n1, n2⟩
      · have hj2 : j = i := by
          have := (List.getElem?_eq_some_iff.mp hj).1
          rw [List.length_append] at this
          have h1 : [g].length = 1 := rfl
          omega
        subst hj2
        rw [List.getElem?_append_right (by omega), hfl, Nat.sub_self] at hj
        cases hj
        rw [hri] at hr'
        cases hr'
        exact ⟨pa, h4.upE sE (upd_ne npw) (fun e he => List.mem_append_right _ he), npw, fun z => hne _ _ hsa3 z.symm⟩
  · rintro σ H3 ⟨v8, fs, fz, rfl, hfl, hw3, k3, B3, F3, h3⟩
    have hfl : fs.length = rows.length := by rw [hfl, List.length_map, R.len]
    have hpf : p < fs.length := by rw [hfl]; exact hp
    have hf := List.getElem?_eq_getElem hpf
    have hrp := List.getElem?_eq_getElem hp
    obtain ⟨pa0, h5, _⟩ := h3 p _ _ hf hrp
    obtain ⟨cl, us', hdef, _⟩ := id h5
    obtain ⟨_, _, _, _, _, cc, _, hfun, _⟩ := hdef.ex
    have t3 := k3 _ _ t2 (nt_ne fun _ z => nomatch z) ntw
    have a3 := k3 _ _ a2 nt_lst nsw
    have nz : ∀ {b : Addr} {o : HO}, H3 b = some o → (∀ φ, o ≠ .ext φ) → b ∉ fz := fun {b o} e n z => by
      obtain ⟨φ, y, _⟩ := F3 b z
      rw [e] at y
      exact n φ (Option.some.inj y)
    have ztq := nz t3 (fun _ z => nomatch z)
    have zsa := nz a3 (fun _ z => nomatch z)
    have zwv := nz hw3 (fun _ z => nomatch z)
    have at_ : ∀ {b : Addr} {o : HO}, H3 b = some o → b ∉ fz → b ≠ tq → b ≠ sa → mask (offF H3 fz) tq sa b = some o := fun e z h1 h2 => mask_at (by rw [off_out z]; exact e) h1 h2
    have C : Cur (mask (offF H3 fz) tq sa) (offF H3 fz) CT tq dt sa c [] := by
      refine ⟨mask_sub, ?_, ?_, by rw [off_out ztq]; exact t3, by rw [off_out zsa]; exact a3⟩
      · unfold mask
        rw [if_pos (.inl rfl)]
      · unfold mask
        rw [if_pos (.inr rfl)]
    have kM : KeepT H3 (mask (offF H3 fz) tq sa) := fun b xs e => at_ e (nz e (fun _ z => nomatch z)) (ne_of e t3 (by intro z; cases z)) (ne_of e a3 (by intro z; cases z))
    have hM : mask (offF H3 fz) tq sa wv = some (.lst (fs.map V.ref)) := at_ hw3 zwv (Ne.symm ntw) (Ne.symm nsw)
    have onM : ∀ {H' : Hp}, Same (mask (offF H3 fz) tq sa) H' → ∀ {b : Addr} {o : HO}, H3 b = some o → b ≠ tq → b ≠ sa → onF H3 H' fz b = some o := fun {H'} sm {b o} e h1 h2 => by
      by_cases z : b ∈ fz
      · rw [on_in z]
        exact e
      · rw [on_out z]
        exact sm _ _ (at_ e z h1 h2)
    have sT : ∀ {H' : Hp}, Same (mask (offF H3 fz) tq sa) H' → SameT H (onF H3 H' fz) := fun {H'} sm b o e nt => onM sm (k3 _ _ (keep2 _ _ e) nt (ne_of_none e hwv0)) (ne_of_none e htq) (ne_of_none e hsa0)
    have sB : ∀ {H' : Hp}, Same (mask (offF H3 fz) tq sa) H' → TB L (onF H3 H' fz) := fun {H'} sm q hq => by
      obtain ⟨ps, A⟩ := B3 q hq
      have ne : ∀ {b : Addr} {φ : Heap → Prop}, H3 b = some (.ext φ) → onF H3 H' fz b = some (.ext φ) := fun {b φ} e => onM sm e (ne_of e t3 (by intro z; cases z)) (ne_of e a3 (by intro z; cases z))
      exact ⟨ps, ne A.tab, A.tri, fun r hr => (A.ent r hr).imp id fun ⟨c, y, z⟩ => ⟨c, y, ne z⟩⟩
    have W : ∀ base' : Heap, Laid H3 fz base' → WvB base' (mask (offF H3 fz) tq sa) fU wv tq fs rows := fun base' F' => ⟨hM, hfl, fun j a r hj hr' => by
      obtain ⟨pa, h6, n1, n2⟩ := h3 j a r hj hr'
      exact rwB_of F' kM (fun xs e => at_ e (nz e (fun _ z => nomatch z)) (ne_of e t3 (by intro z; cases z)) n2) h6, R.ok, R.lds⟩
    have hφ : ∃ φ, H3 fs[p] = some (.ext φ) ∧ ∀ h : Heap, φ h → ∃ o fd, h.get? fs[p] = some o ∧ o.data = .func fd := ⟨_, hfun, fun h ⟨o, x, y⟩ => ⟨o, _, x, y⟩⟩
    refine ⟨_, rfl, _, rfl, wv, _, _, _, rfl, rfl, SqL.of hw3, atI_nat (v := .ref fs[p]) (by rw [List.getElem?_map, hf]; rfl), fs[p], rfl, hφ, _, rfl, fz, vRes (mask (offF H3 fz) tq sa) CT CU CS tq dt 41 (fun n k sd => recS rows 41 p n k sd), fun a ha => let ⟨φ, y, _⟩ := F3 a ha; ⟨φ, y⟩, fun base' hK hns hup hl => vEnts FU bnU TT Tx X hK (W base' hl) (GN base') bN mN (GT base') bT mT (GR base') kR bR mR 41 p _ hf, hφ, sa, n, c, [], 100, rfl, C, by omega, ⟨ab_big n0 n1, Nat.le_refl _, by omega, by rw [List.length_nil]; omega⟩, ?_⟩
    dsimp only
    cases e : recS rows 41 p n c [] with
    | ok a k' sd =>
      rw [e] at g
      intro H' sa' C' hz
      have zs : sa' ∉ fz := fun z => by have := C'.hs; rw [hz _ z] at this; cases this
      refine ⟨_, rfl, tq, CT, dt, _, _, rfl, (on_out ztq).trans C'.hq, TT.cl, TT.nSaid, tF_said _ _, ?_⟩
      exact g _ sa' (sT C'.same) (sB C'.same) ((on_out zs).trans C'.hs)
    | una k' sd =>
      rw [e] at g
      exact fun H' sa' C' => g _ (sT C'.same) (sB C'.same)
    | spent =>
      rw [e] at g
      exact fun H' hs => g _ (sT hs) (sB hs)
end
def mxB : Int := 2147483629
def spMixed : Sp := fun vs H Q _ => ∃ c k : Int, vs = [.int c, .int k] ∧ ∀ m : Int, 0 ≤ m → m < mxB → Q (.int m) H
def spAmtBy : Sp := fun vs H Q _ => ∃ m : Int, vs = [.int m] ∧ 0 ≤ m ∧ m < mxB ∧ ∀ a : Int, -big ≤ a → a ≤ big → Q (.int a) H
def spLeadBy : Sp := fun vs H Q _ => ∃ (x : Int) (a n : Nat), vs = [.int x, .int (a : Int), .int (n : Int)] ∧ ∀ v H' l, Same H H' → LdAt H' v l → (∀ p ∈ Ah.ldsL l, p < n) → Q v H'
section
variable {P : Program} {w : World} {K : PySem.W.Frag} {mg : Str → Option Value} {base : Heap} {f fM fS : Addr} {fd dM dS : FuncData}
theorem scMixed : FnScope ["_law_cell", "_law_k", "_law_found"] ["_law_cell", "_law_k"] (defScope sMixed) := ⟨rfl, rfl, rfl, by decide +kernel, rfl, by decide +kernel, by decide +kernel⟩
theorem ok_mixed (F : Fun K "_law_mixed" "_law_mixed" sMixed f fd) : FnOk P w K mg base CX0 1 f fd ["_law_cell", "_law_k"] spMixed := by
  refine F.ok scMixed (fun vs H Q E h => ?_) (fun cdv A outer s H vs Q E hr h => ?_)
  · obtain ⟨c, k, rfl, _⟩ := h
    rfl
  obtain ⟨c, k, rfl, q⟩ := h
  refine ⟨_, pss_cons (ps_set (i := 2) scMixed.nd rfl (Or.inl rfl) (pe_op op_mod (pe_op op_mul (pe_op op_add (pe_op op_add (pv 0) (pe_op op_mul pe_int (pv 1))) pe_int) pe_int) pe_int))
    (pss_one (ps_ret (pe_op op_mod (pe_op op_mul (pv 2) (pv 2)) pe_int))), ?_⟩
  refine ⟨_, rfl, _, rfl, _, _, rfl, rfl, .inl ⟨by decide, by decide⟩, _, _, rfl, rfl, _, _, rfl, rfl, _, _, rfl, rfl, .inr ⟨by decide, by decide⟩, _, _, rfl, rfl, (by show (0 : Int) < 2147483647; decide), ?_⟩
  have b0 : 0 ≤ (c + 977 * k + 31) * 48271 % 2147483647 := Int.emod_nonneg _ (by decide)
  have b1 : (c + 977 * k + 31) * 48271 % 2147483647 < 2147483647 := Int.emod_lt_of_pos _ (by decide)
  generalize (c + 977 * k + 31) * 48271 % 2147483647 = y at *
  refine ⟨_, rfl, _, rfl, _, _, rfl, rfl, .inl ⟨by omega, by omega⟩, _, _, rfl, rfl, (by show (0 : Int) < 2147483629; decide), ?_⟩
  exact q _ (Int.emod_nonneg _ (by decide)) (Int.emod_lt_of_pos _ (by decide))
theorem scAmtBy : FnScope ["_law_mixed_here"] ["_law_mixed_here"] (defScope sAmtBy) := ⟨rfl, rfl, rfl, by decide +kernel, rfl, by decide +kernel, by decide +kernel⟩
theorem big_eq : big = 1000000000000000000000000000000 := by decide
theorem ok_amtBy (F : Fun K "_law_amount_by" "_law_amount_by" sAmtBy f fd) : FnOk P w K mg base CX0 1 f fd ["_law_mixed_here"] spAmtBy := by
  refine F.ok scAmtBy (fun vs H Q E h => ?_) (fun cdv A outer s H vs Q E hr h => ?_)
  · obtain ⟨m, rfl, _⟩ := h
    rfl
  obtain ⟨m, rfl, m0, m1, q⟩ := h
  have m1 : m < 2147483629 := m1
  refine ⟨_, pss_cons (ps_if (pt_cmpR op_eq (pe_op op_mod (pv 0) pe_int) pe_int (nomark _)) (pss_one (ps_ret (pe_op op_sub (pe_op op_mod (pe_op op_mul (pv 0) (pe_op op_pow pe_int pe_int)) (pe_op op_add (pe_op op_mul pe_int (pe_op op_pow pe_int pe_int)) pe_int)) (pe_op op_pow pe_int pe_int)))) pss_nil)
    (pss_one (ps_ret (pe_op op_sub (pe_op op_mod (pe_op op_fdiv (pv 0) pe_int) pe_int) pe_int))), ?_⟩
  refine ⟨_, rfl, _, _, rfl, rfl, (by show (0 : Int) < 4; decide), rfl, _, rfl, ite2 (fun e => ?_) (fun e => ?_)⟩
  · refine ⟨_, rfl, _, _, rfl, rfl, ⟨by decide, by decide, by decide⟩, _, _, rfl, rfl, .inl ⟨by omega, by omega⟩, _, _, rfl, rfl, ⟨by decide, by decide, by decide⟩, _, _, rfl, rfl, .inl ⟨by decide, by decide⟩, _, _, rfl, rfl, _, _, rfl, rfl, (by show (0 : Int) < 2 * 10 ^ (30 : Int).toNat + 1; decide), _, _, rfl, rfl, ⟨by decide, by decide, by decide⟩, _, _, rfl, rfl, ?_⟩
    have e30 : (10 : Int) ^ (30 : Int).toNat = 1000000000000000000000000000000 := by decide
    refine q _ ?_ ?_ <;> rw [e30, big_eq] <;> generalize m * 10 ^ (23 : Int).toNat = z <;> omega
  · refine ⟨_, rfl, _, _, rfl, rfl, ⟨by decide, by decide⟩, _, _, rfl, rfl, (by show (0 : Int) < 19; decide), _, _, rfl, rfl, q _ ?_ ?_⟩ <;> rw [big_eq] <;> omega
theorem scLeadBy : FnScope ["_law_mixed_here", "_law_first", "_law_many"] ["_law_mixed_here", "_law_first", "_law_many"] (defScope sLead) := ⟨rfl, rfl, rfl, by decide +kernel, rfl, by decide +kernel, by decide +kernel⟩
theorem ok_leadBy (F : Fun K "_law_lead_by" "_law_lead_by" sLead f fd) : FnOk P w K mg base CX0 1 f fd ["_law_mixed_here", "_law_first", "_law_many"] spLeadBy := by
  refine F.ok scLeadBy (fun vs H Q E h => ?_) (fun cdv A outer s H vs Q E hr h => ?_)
  · obtain ⟨x, a, n, rfl, _⟩ := h
    rfl
  obtain ⟨x, a, n, rfl, q⟩ := h
  refine ⟨_, pss_cons (ps_if (PW.pt (pw_or (pt_cmpR op_eq (pe_op op_mod (pv 0) pe_int) pe_int (nomark _)) (pw_or1 (pt_cmpR op_ge (pv 1) (pv 2) (nomark _))))) (pss_one (ps_ret (pe_tup (pa_cons pe_str pa_nil)))) pss_nil)
    (pss_one (ps_ret (pe_tup (pa_cons pe_str (pa_cons (pe_op op_add (pv 1) (pe_op op_mod (pe_op op_fdiv (pv 0) pe_int) (pe_op op_sub (pv 2) (pv 1)))) pa_nil))))), ?_⟩
  have no : ∀ t, H t = none → Q (.ref t) (upd H t (.tup [.str "none"])) := fun t ht => q _ _ .none (same_new ht _) ⟨t, rfl, upd_same⟩ fun p hp => nomatch hp
  refine ⟨_, rfl, _, _, rfl, rfl, (by show (0 : Int) < 4; decide), rfl, _, rfl, ite2 (fun c => ?_) (fun c => ?_)⟩
  · exact ⟨by show 1 ≤ sizeLine; decide, fun t ht => no t ht⟩
  refine ⟨_, rfl, _, rfl, _, _, rfl, rfl, _, rfl, ite2 (fun c2 => ?_) (fun c2 => ?_)⟩
  · exact ⟨by show 1 ≤ sizeLine; decide, fun t ht => no t ht⟩
  have c3 : ¬ (n : Int) ≤ (a : Int) := fun z => c2 (decide_eq_true z)
  refine ⟨_, rfl, _, rfl, _, _, rfl, rfl, ⟨by decide, by decide⟩, _, rfl, _, rfl, _, _, rfl, rfl, _, _, rfl, rfl, (by show (0 : Int) < (n : Int) - (a : Int); omega), _, _, rfl, rfl, by show 2 ≤ sizeLine; decide, fun t ht => ?_⟩
  have b0 : 0 ≤ x / 4 % ((n : Int) - (a : Int)) := Int.emod_nonneg _ (by omega)
  have b1 : x / 4 % ((n : Int) - (a : Int)) < (n : Int) - (a : Int) := Int.emod_lt_of_pos _ (by omega)
  obtain ⟨k, hk⟩ := Int.eq_ofNat_of_zero_le b0
  rw [hk] at b1
  refine q _ _ (.go (a + k)) (same_new ht _) ⟨t, rfl, ?_⟩ fun p hp => ?_
  · rw [upd_same, hk]
    show some (HO.tup [V.str "go", V.int ((a : Int) + (k : Int))]) = some (HO.tup [V.str "go", V.int ((a + k : Nat) : Int)])
    rw [Int.natCast_add]
  · have hp : p = a + k := List.mem_singleton.mp hp
    omega
end
def rdLt (n : Nat) : RS → Prop
  | .ld l => ∀ p ∈ Ah.ldsL l, p < n
  | .ei x y => (∀ p ∈ Ah.ldsL x, p < n) ∧ ∀ p ∈ Ah.ldsL y, p < n
  | .sm _ => True
def spStepBy : Sp := fun vs H Q _ => ∃ (m : Int) (a n : Nat), vs = [.int m, .int (a : Int), .int (n : Int)] ∧ 0 ≤ m ∧ m < mxB ∧ ∀ (v : V) (H' : Hp) (r : RS), Same H H' → RAt H' v r → okR r → rdLt n r → Q v H'
def srtP : List Str := ["say", "say", "say", "go", "go", "go", "either", "either", "either", "either", "either", "none"]
def srtQ : List Str := ["part", "plus", "plus", "times", "put", "both", "any", "odd", "over", "up", "down"]
def kdAt (c : Int) : Str := (srtP ++ srtQ).getD (c % 23).toNat "say"
theorem kdAt_at (c : Int) : atI (srtP.map V.str ++ srtQ.map V.str) (c % 23) = some (.str (kdAt c)) := by
  have h : (c % 23).toNat < (srtP ++ srtQ).length := by
    show (c % 23).toNat < 23
    omega
  obtain ⟨n, hn⟩ := Int.eq_ofNat_of_zero_le (Int.emod_nonneg c (show (23 : Int) ≠ 0 by decide))
  unfold kdAt
  rw [hn] at h ⊢
  rw [show ((n : Int)).toNat = n from Int.toNat_natCast n] at h ⊢
  refine atI_nat ?_
  rw [← List.map_append, List.getElem?_map, List.getElem?_eq_getElem h, List.getD_eq_getElem?_getD, List.getElem?_eq_getElem h]
  rfl
theorem kdAt_mem (c : Int) : kdAt c ∈ srtP ++ srtQ := by
  unfold kdAt
  have h : (c % 23).toNat < (srtP ++ srtQ).length := by
    show (c % 23).toNat < 23
    omega
  rw [List.getD_eq_getElem?_getD, List.getElem?_eq_getElem h]
  exact List.getElem_mem h
theorem kds_op : ∀ x ∈ srtP ++ srtQ, ¬ x = "say" → ¬ x = "go" → ¬ x = "none" → ¬ x = "either" → x ∈ sorts1 := by decide +kernel
theorem inS2 {kd p q : Str} : inV (V.str kd) [V.str p, V.str q] = true ↔ kd = p ∨ kd = q := by
  show ((p == kd) || ((q == kd) || false)) = true ↔ _
  rw [Bool.or_false, Bool.or_eq_true, beq_iff_eq, beq_iff_eq]
  exact ⟨fun h => h.imp Eq.symm Eq.symm, fun h => h.imp Eq.symm Eq.symm⟩
abbrev nSB : List Str := ["_law_mixed_here", "_law_first", "_law_many", "_law_sorts", "_law_sort", "_law_amount"]
def sA : Stmt := (defBody sStepBy).getD 0 (.Pass ⟨0, 0, 0, 0⟩)
def sB : Stmt := (defBody sStepBy).getD 1 (.Pass ⟨0, 0, 0, 0⟩)
theorem psw_cat {X : Cx} {i : Nat} {x y : Str} {es : List Expr} {t : TA} {tn : TE} {pos pos' p1 p2 p3 : Pos} (hN : X.N.Nodup) (hi : X.N[i]? = some x) (hx : Loc X.env.scope x) (hv : PE X (.Name y p1) tn) (h : PAw X es t) (hf : X.fn x = true ∨ X.env.scope.names.lookup x = some .local)
    (hs : swapsWith (.BinOp (.Name y p1) .Add (.List es p2) p3) (some (.Name x pos')) pos.line X.env = pure false) : PSw X (.Assign [.Name x pos'] (.BinOp (.Name y p1) .Add (.List es p2) p3) pos) (tAsg (tOp rCat tn (tLst t)) (gName i)) := ⟨ps_set hN hi hx (pe_op op_cat hv (pe_lst h.ok)) hs hf⟩
theorem sA_st {X : Cx} {tail : List Stmt} {t : TS} (_ : PSs X tail t) (hN : X.N = (["_law_mixed_here", "_law_first", "_law_many", "_law_sorts", "_law_sort", "_law_amount"] : List Str)) (hs : X.env.scope = defScope sStepBy) : PSw X sA (tAsg (tLst (tVals (srtP.map V.str))) (gName 3)) := by
  refine psw_lst (x := "_law_sorts") ?_ ?_ ?_ (paw_strs (xs := srtP) (by rfl)) ?_
  · rw [hN]; decide +kernel
  · rw [hN]; rfl
  · rw [hs]; exact Or.inl rfl
  · rw [hs]; exact Or.inr rfl
theorem sB_st {X : Cx} {tail : List Stmt} {t : TS} {tn : TE} (_ : PSs X tail t) (hN : X.N = (["_law_mixed_here", "_law_first", "_law_many", "_law_sorts", "_law_sort", "_law_amount"] : List Str)) (hs : X.env.scope = defScope sStepBy) (hv : ∀ p1, PE X (.Name "_law_sorts" p1) tn) : PSw X sB (tAsg (tOp rCat tn (tLst (tVals (srtQ.map V.str)))) (gName 3)) := by
  refine psw_cat (x := "_law_sorts") (y := "_law_sorts") ?_ ?_ ?_ (hv _) (paw_strs (xs := srtQ) (by rfl)) ?_ ?_
  · rw [hN]; decide +kernel
  · rw [hN]; rfl
  · rw [hs]; exact Or.inl rfl
  · rw [hs]; exact Or.inr rfl
  · rfl
section
variable {P : Program} {w : World} {K : PySem.W.Frag} {mg : Str → Option Value} {base : Heap} {f fA fL : Addr} {fd dA dL : FuncData}
theorem scSB : FnScope nSB ["_law_mixed_here", "_law_first", "_law_many"] (defScope sStepBy) := ⟨rfl, rfl, rfl, by decide +kernel, rfl, by decide +kernel, by decide +kernel⟩
theorem ok_sb (F : Fun K "_law_step_by" "_law_step_by" sStepBy f fd) (T : Txt mg) (GA : FnOk P w K mg base CX0 1 fA dA ["_law_mixed_here"] spAmtBy) (kA : PySem.W.keepIn K (.ref fA) = true) (bA : Binds K dA ["_law_mixed_here"] []) (mA : mg "_law_amount_by" = some (.ref fA))
    (GL : FnOk P w K mg base CX0 1 fL dL ["_law_mixed_here", "_law_first", "_law_many"] spLeadBy) (kL : PySem.W.keepIn K (.ref fL) = true) (bL : Binds K dL ["_law_mixed_here", "_law_first", "_law_many"] []) (mL : mg "_law_lead_by" = some (.ref fL)) : FnOk P w K mg base CX0 2 f fd ["_law_mixed_here", "_law_first", "_law_many"] spStepBy := by
  refine F.ok scSB (fun vs H Q E h => ?_) (fun cdv A outer s H vs Q E hr h => ?_)
  · obtain ⟨m, a, n, rfl, _⟩ := h
    rfl
  obtain ⟨m, a, n, rfl, m0, m1, q⟩ := h
  have m1 : m < 2147483629 := m1
  -- what stands behind the two rows of texts
  refine with_tail (tail := (defBody sStepBy).drop 2) (fun tt => ∀ (D : L2.Ends) (H1 : Hp) (l : Addr), D.rt = Q → Same H H1 → H1 l = some (.lst (srtP.map V.str ++ srtQ.map V.str)) → tt D [some (.int m), some (.int (a : Int)), some (.int (n : Int)), some (.ref l), none, none] H1) ?_ ?_
  · refine ⟨_, pss_cons (ps_set (i := 4) scSB.nd rfl (Or.inl rfl) (pe_ix ix_list (pv 3) (pe_op op_mod (pv 0) pe_int) (fun _ _ => rfl)))
      (pss_cons (ps_set (i := 5) scSB.nd rfl (Or.inl rfl) (pe_call GA hr rfl mA kA bA .nil pass0 (pa_cons (pe_op op_fdiv (pv 0) pe_int) pa_nil)))
      (pss_cons (ps_if (pt_cmpR op_eq (pv 4) pe_str (nomark _)) (pss_one (ps_ret (pe_tup (pa_cons (pv 4) pa_nil)))) pss_nil)
      (pss_cons (ps_if (pt_cmpR op_in_seq (pv 4) (pe_tup (pa_strs (xs := ["go", "none"]) (by rfl))) rfl) (pss_one (ps_ret (pe_call GL hr rfl mL kL bL .nil pass0 (pa_cons (pe_op op_fdiv (pv 0) pe_int) (pa_cons (pv 1) (pa_cons (pv 2) pa_nil)))))) pss_nil)
      (pss_cons (ps_if (pt_cmpR op_eq (pv 4) pe_str (nomark _)) (pss_one (ps_ret (pe_tup (pa_cons (pv 4) (pa_cons (pe_call GL hr rfl mL kL bL .nil pass0 (pa_cons (pe_op op_fdiv (pv 0) pe_int) (pa_cons (pv 1) (pa_cons (pv 2) pa_nil)))) (pa_cons (pe_call GL hr rfl mL kL bL .nil pass0 (pa_cons (pe_op op_fdiv (pv 0) pe_int) (pa_cons (pv 1) (pa_cons (pv 2) pa_nil)))) pa_nil)))))) pss_nil)
      (pss_cons (ps_if (PW.pt (pw_and (pt_cmpR op_in_seq (pv 4) (pe_tup (pa_strs (xs := ["part", "over"]) (by rfl))) rfl) (pw_and1 (pt_cmpR op_eq (pv 5) pe_int (nomark _))))) (pss_one (ps_ret (pe_tup (pa_cons (pv 4) (pa_cons (pe_un un_neg pe_int) pa_nil))))) pss_nil)
      (pss_cons (ps_if (pt_cmpR op_in_seq (pv 4) (pe_tup (pa_strs (xs := ["up", "down"]) (by rfl))) rfl) (pss_one (ps_ret (pe_tup (pa_cons (pv 4) (pa_cons (pe_op op_mod (pv 5) pe_int) pa_nil))))) pss_nil)
      (pss_one (ps_ret (pe_tup (pa_cons (pv 4) (pa_cons (pv 5) pa_nil))))))))))), fun D H1 l hD s1 el => ?_⟩
    refine ⟨_, rfl, _, rfl, _, _, rfl, rfl, (by show (0 : Int) < 23; decide), l, _, _, _, rfl, rfl, SqL.of el, kdAt_at m, ?_⟩
    have kop := kds_op _ (kdAt_mem m)
    generalize kdAt m = kd at *
    have d0 : 0 ≤ m / 23 := by omega
    have d1 : m / 23 < mxB := by show m / 23 < 2147483629; omega
    refine ⟨_, rfl, _, _, rfl, rfl, ⟨by decide, by decide⟩, m / 23, rfl, d0, d1, fun am a0 a1 => ?_⟩
    have z2 : 2 ≤ sizeLine := by rw [sizeLine_eq]; decide
    have z1 : 1 ≤ sizeLine := by rw [sizeLine_eq]; decide
    refine ⟨_, rfl, rfl, _, rfl, ite2 (fun c => ?_) (fun c => ?_)⟩
    · refine ⟨_, rfl, by show 1 ≤ sizeLine; exact z1, fun t ht => ?_⟩
      rw [hD]
      obtain rfl := de_str c
      exact q _ _ (.sm .say) (s1.trans (same_new ht _)) ⟨t, rfl, upd_same⟩ trivial trivial
    have c1 : ¬ kd = "say" := dn_str c
    refine ⟨_, rfl, by show 2 ≤ sizeLine; exact z2, fun tp htp => ⟨tp, _, rfl, .inr (SqT.of upd_same), rfl, rfl, _, rfl, ?_⟩⟩
    have sB' := s1.trans (same_new htp (.tup ((["go", "none"] : List Str).map V.str)))
    generalize upd H1 tp (.tup ((["go", "none"] : List Str).map V.str)) = H3 at *
    refine ite2 (fun c => ?_) (fun c => ?_)
    · refine ⟨_, rfl, _, _, rfl, rfl, ⟨by decide, by decide⟩, _, rfl, _, rfl, _, a, n, rfl, fun v H4 lx s4 hv hl => ?_⟩
      rw [hD]
      exact q v H4 (.ld lx) (sB'.trans s4) hv trivial hl
    have c2 : ¬ kd = "go" := fun z => c (inS2.mpr (.inl z))
    have c3 : ¬ kd = "none" := fun z => c (inS2.mpr (.inr z))
    refine ⟨_, rfl, rfl, _, rfl, ite2 (fun c4 => ?_) (fun c4 => ?_)⟩
    · refine ⟨_, rfl, _, rfl, _, _, rfl, rfl, ⟨by decide, by decide⟩, _, rfl, _, rfl, _, a, n, rfl, fun v H4 lx s4 hv hl => ?_⟩
      refine ⟨_, rfl, _, _, rfl, rfl, ⟨by decide, by decide⟩, _, rfl, _, rfl, _, a, n, rfl, fun u H5 ly s5 hu hl2 => ?_⟩
      refine ⟨by rw [sizeLine_eq]; show 3 ≤ _; decide, fun t ht => ?_⟩
      rw [hD]
      obtain rfl := de_str c4
      have s6 := same_new ht (.tup [.str "either", v, u])
      exact q _ _ (.ei lx ly) (sB'.trans (s4.trans (s5.trans s6))) ⟨t, v, u, rfl, upd_same, hv.keep (s5.trans s6).keepT, hu.keep s6.keepT⟩ trivial ⟨hl, hl2⟩
    have hm := kop c1 c2 c3 (dn_str c4)
    have eb := big_eq
    have fin : ∀ (b : Int) (t : Addr) (H4 : Hp), Same H3 H4 → H4 t = none → -big ≤ b → b ≤ big → (kd = "over" ∨ kd = "part" → b ≠ 0) → (kd = "up" ∨ kd = "down" → 0 ≤ b ∧ b ≤ 64) → Q (.ref t) (upd H4 t (.tup [.str kd, .int b])) := fun b t H4 s4 ht b0 b1 b2 b3 =>
      q _ _ (.sm (.op kd b)) (sB'.trans (s4.trans (same_new ht _))) ⟨t, rfl, upd_same⟩ ⟨hm, b0, b1, b2, b3⟩ trivial
    refine ⟨_, rfl, by show 2 ≤ sizeLine; exact z2, fun tp2 htp2 => ⟨tp2, _, rfl, .inr (SqT.of upd_same), rfl, rfl, _, rfl, ?_⟩⟩
    have s4 := same_new htp2 (.tup ((["part", "over"] : List Str).map V.str))
    generalize upd H3 tp2 (.tup ((["part", "over"] : List Str).map V.str)) = H4 at *
    refine ite2 (fun c5 => ?_) (fun c5 => iteF ?_)
    · have k5 := inS2.mp c5
      refine ⟨_, rfl, rfl, _, rfl, ite2 (fun c6 => ?_) (fun c6 => ?_)⟩
      · refine ⟨_, rfl, _, rfl, by show 2 ≤ sizeLine; exact z2, fun t ht => ?_⟩
        rw [hD]
        refine fin (-4) t H4 s4 ht (by rw [eb]; decide) (by rw [eb]; decide) (fun _ => by decide) (fun z => ?_)
        rcases k5 with h | h <;> rcases z with z | z <;> rw [h] at z <;> revert z <;> decide +kernel
      · have c7 : am ≠ 0 := fun h => c6 (decide_eq_true (congrArg V.int h))
        refine ⟨_, rfl, by show 2 ≤ sizeLine; exact z2, fun tp3 htp3 => ⟨tp3, _, rfl, .inr (SqT.of upd_same), rfl, rfl, _, rfl, ?_⟩⟩
        have s5 := s4.trans (same_new htp3 (.tup ((["up", "down"] : List Str).map V.str)))
        refine ite2 (fun c8 => ?_) (fun c8 => ?_)
        · exfalso
          rcases inS2.mp c8 with z | z <;> rcases k5 with h | h <;> rw [h] at z <;> revert z <;> decide +kernel
        · refine ⟨_, rfl, _, rfl, by show 2 ≤ sizeLine; exact z2, fun t ht => ?_⟩
          rw [hD]
          exact fin _ t _ s5 ht a0 a1 (fun _ => c7) (fun z => absurd (inS2.mpr z) c8)
    · have k5 : ¬ (kd = "part" ∨ kd = "over") := fun z => c5 (inS2.mpr z)
      refine ⟨_, rfl, by show 2 ≤ sizeLine; exact z2, fun tp3 htp3 => ⟨tp3, _, rfl, .inr (SqT.of upd_same), rfl, rfl, _, rfl, ?_⟩⟩
      have s5 := s4.trans (same_new htp3 (.tup ((["up", "down"] : List Str).map V.str)))
      refine ite2 (fun c8 => ?_) (fun c8 => ?_)
      · refine ⟨_, rfl, _, rfl, _, _, rfl, rfl, (by show (0 : Int) < 65; decide), by show 2 ≤ sizeLine; exact z2, fun t ht => ?_⟩
        rw [hD]
        exact fin _ t _ s5 ht (by rw [eb]; omega) (by rw [eb]; omega) (fun z => absurd z.symm k5) (fun _ => by omega)
      · refine ⟨_, rfl, _, rfl, by show 2 ≤ sizeLine; exact z2, fun t ht => ?_⟩
        rw [hD]
        exact fin _ t _ s5 ht a0 a1 (fun z => absurd z.symm k5) (fun z => absurd (inS2.mpr z) c8)
  intro t4 h4 p4
  have hA := sA_st h4 rfl rfl
  have hB := sB_st h4 rfl rfl (fun _ => pv 3)
  refine wt_cons hA ?_
  refine wt_cons hB ?_
  refine ⟨_, h4, ?_⟩
  refine ⟨by show 12 ≤ sizeLine; decide, fun l1 hl1 => ?_⟩
  refine ⟨_, rfl, by show 11 ≤ sizeLine; decide, fun l2 hl2 => ?_⟩
  have n12 : l1 ≠ l2 := fun z => by rw [← z, upd_same] at hl2; cases hl2
  have s1 := same_new hl1 (.lst (srtP.map V.str))
  have s2 := same_new hl2 (.lst (srtQ.map V.str))
  refine ⟨l1, l2, _, _, rfl, rfl, by rw [upd_ne n12]; exact upd_same, upd_same, by show 23 ≤ sizeLine; decide, fun l3 hl3 => ?_⟩
  exact p4 _ _ l3 rfl ((s1.trans s2).trans (same_new hl3 _)) upd_same
end
structure RwX (H : Hp) (l : Addr) (as : List Addr) (rows : List (List RS)) : Prop where
  lst : H l = some (.lst (as.map V.ref))
  len : as.length = rows.length
  row : ∀ (p : Nat) (a : Addr) (r : List RS), as[p]? = some a → rows[p]? = some r → ∃ us, H a = some (.lst us) ∧ Paired (RAt H) us r
theorem keepRs {H H' : Hp} {us : List V} {r : List RS} (h : Paired (RAt H) us r) (k : KeepT H H') : Paired (RAt H') us r := Paired.mapP h fun _ _ z => z.keep k
def RowOk (n : Nat) (r : List RS) : Prop := (∀ s ∈ r, okR s ∧ rdLt n s) ∧ r.length ≤ 30
def spRowsBy (K : PySem.W.Frag) : Sp := fun vs H Q _ => ∃ (a : Addr) (ns : List Int) (n : Nat) (b : Bool), vs = [.ref a, .int (n : Int), .bl b] ∧ SqL K H a (ns.map V.int) ∧ ns.length ≤ 63 ∧ n ≤ 1000 ∧
  ∀ (ra : Addr) (as : List Addr) (rows : List (List RS)) (H' : Hp), Same H H' → RwX H' ra as rows → rows.length = n → (∀ r ∈ rows, RowOk n r) → Q (.ref ra) H'
theorem cut_ints (ns : List Int) (lo hi : Option Int) : ∃ ms : List Int, cutV (ns.map V.int) lo hi = ms.map V.int ∧ ms.length ≤ ns.length := by
  refine ⟨(ns.drop (HT.sIx (ns.map V.int).length 0 lo)).take (HT.sIx (ns.map V.int).length (ns.map V.int).length hi - HT.sIx (ns.map V.int).length 0 lo), ?_, ?_⟩
  · unfold cutV
    rw [List.map_take, List.map_drop]
  · rw [List.length_take, List.length_drop]
    omega
theorem RwX.snoc {H H' : Hp} {l r : Addr} {as : List Addr} {rows : List (List RS)} {vs : List V} {st : List RS} (R : RwX H l as rows) (k : ∀ b o, H b = some o → b ≠ l → H' b = some o) (hn : ∀ a ∈ as, a ≠ l) (el : H' l = some (.lst (as.map V.ref ++ [.ref r]))) (er : H' r = some (.lst vs)) (hs : Paired (RAt H') vs st) : RwX H' l (as ++ [r]) (rows ++ [st]) := by
  refine ⟨by rw [el, List.map_append]; rfl, by rw [List.length_append, List.length_append, R.len]; rfl, fun i a q h1 h2 => ?_⟩
  by_cases hi : i < as.length
  · rw [List.getElem?_append_left hi] at h1
    rw [List.getElem?_append_left (by rw [← R.len]; exact hi)] at h2
    obtain ⟨us, e, h⟩ := R.row i a q h1 h2
    exact ⟨us, k _ _ e (hn a (List.mem_of_getElem? h1)), keepRs h fun b xs e => k _ _ e (ne_of e R.lst (by intro z; cases z))⟩
  · have hl : i < (as ++ [r]).length := (List.getElem?_eq_some_iff.mp h1).1
    rw [List.length_append, List.length_singleton] at hl
    obtain rfl : i = as.length := by omega
    rw [List.getElem?_concat_length] at h1
    cases h1
    rw [R.len, List.getElem?_concat_length] at h2
    cases h2
    exact ⟨vs, er, hs⟩
section
variable {P : Program} {w : World} {K : PySem.W.Frag} {mg : Str → Option Value} {base : Heap} {f fS fM : Addr} {fd dS dM : FuncData}
abbrev nRB : List Str := ["_law_script", "_law_many", "_law_later", "_law_cells", "_law_rows", "_law_k", "_law_cell", "_law_first"]
theorem ndj4 : (["_law_j", "_law_cell", "_law_first", "_law_many"] : List Str).Nodup := by decide +kernel
theorem scRB : FnScope ["_law_script", "_law_many", "_law_later", "_law_cells", "_law_rows", "_law_k", "_law_cell", "_law_first"] ["_law_script", "_law_many", "_law_later"] (defScope sRowsBy) := ⟨rfl, rfl, rfl, by decide +kernel, rfl, by decide +kernel, by decide +kernel⟩
theorem ok_rb (F : Fun K "_law_rows_by" "_law_rows_by" sRowsBy f fd) (T : Txt mg) (GS : FnOk P w K mg base CX0 2 fS dS ["_law_mixed_here", "_law_first", "_law_many"] spStepBy) (kS : PySem.W.keepIn K (.ref fS) = true) (bS : Binds K dS ["_law_mixed_here", "_law_first", "_law_many"] []) (mS : mg "_law_step_by" = some (.ref fS)) (GM : FnOk P w K mg base CX0 1 fM dM ["_law_cell", "_law_k"] spMixed) (kM : PySem.W.keepIn K (.ref fM) = true) (bM : Binds K dM ["_law_cell", "_law_k"] []) (mM : mg "_law_mixed" = some (.ref fM)) : FnOk P w K mg base CX0 3 f fd ["_law_script", "_law_many", "_law_later"] (spRowsBy K) := by
  refine F.ok scRB (fun vs H Q E h => ?_) (fun cdv A outer s H vs Q E hr h => ?_)
  · obtain ⟨a, ns, n, b, rfl, _⟩ := h
    rfl
  obtain ⟨a, ns, n, b, rfl, S, h63, hn, q⟩ := h
  have hr1 := hr.mono (j := 1) (by decide)
  -- the loop's last deed, one row more
  refine with_tail (tail := (fBody ((defBody sRowsBy).getD 2 (.Pass ⟨0, 0, 0, 0⟩))).drop 3) (fun tt => ∀ (D : L2.Ends) (H2 : Hp) (vs0 vc vb : V) (l : Addr) (xs : List V) (k at_ : Nat) (c : Int), H2 l = some (.lst xs) → xs.length ≤ 1000 →
      (∀ (r : Addr) (vs : List V) (st : List RS) (H3 : Hp), Same H2 H3 → H2 r = none → H3 r = some (.lst vs) → Paired (RAt H3) vs st → (∀ s ∈ st, okR s ∧ rdLt n s) → st.length ≤ 30 → H3 l = some (.lst xs) → D.nx [some vs0, some (.int (n : Int)), some vb, some vc, some (.ref l), some (.int (k : Int)), some (.int c), some (.int (at_ : Int))] (upd H3 l (.lst (xs ++ [.ref r])))) →
      tt D [some vs0, some (.int (n : Int)), some vb, some vc, some (.ref l), some (.int (k : Int)), some (.int c), some (.int (at_ : Int))] H2) ?_ ?_
  · refine ⟨_, pss_one (ps_expr (pe_bm PySem.F.plainAttrs_list PySem.F.slot_list_append PySem.F.type_list_append mt_append (pv 4) (pa_cons (pe_comp (defScope sRowsBy) nRB ["_law_j"] [("_law_cell", 6), ("_law_first", 7), ("_law_many", 1)] rfl (pi_range1 rfl T.range (pa_cons (pe_op op_mod (pv 6) pe_int) pa_nil)) (own_name (i := 0) (by decide))
      (fun _ _ _ _ _ _ => ⟨pg_name (i := 0) ndj4 rfl (Or.inl rfl), pts_nil, pe_call GS hr rfl mS kS bS .nil pass0 (pa_cons (pe_call GM hr1 rfl mM kM bM .nil pass0 (pa_cons (pe_op op_fdiv (pv 1) pe_int) (pa_cons (pv 0) pa_nil))) (pa_cons (pv 2) (pa_cons (pv 3) pa_nil)))⟩)) pa_nil))), fun D H2 vs0 vc vb l xs k at_ c el hx hD => ?_⟩
    have b0 : 0 ≤ c % 5 := Int.emod_nonneg _ (by decide)
    have b1 : c % 5 < 5 := Int.emod_lt_of_pos _ (by decide)
    refine ⟨_, rfl, .inl ⟨rfl, _, SqL.of el⟩, _, rfl, _, _, rfl, rfl, (by show (0 : Int) < 5; decide), _, rfl, by omega, by omega, turns_range0 (k := (c % 5).toNat) (fun i ys H3 => Same H2 H3 ∧ ys.length = i ∧ ∃ st, Paired (RAt H3) ys st ∧ ∀ s ∈ st, okR s ∧ rdLt n s) ⟨Same.refl _, rfl, [], .nil, fun s hs => nomatch hs⟩ ?_ ?_⟩
    · rintro i ys H3 hi ⟨s3, hy, st, hst, hlt⟩
      refine ⟨_, rfl, _, _, rfl, rfl, ⟨by decide, by decide⟩, _, rfl, _, _, rfl, fun m m0 m1 => ⟨_, rfl, _, rfl, m, at_, n, rfl, m0, m1, fun v H4 s1 s4 h4 h5 h6 => ⟨by rw [hy, sizeLine_eq]; omega, s3.trans s4, by rw [List.length_append, hy]; rfl, st ++ [s1], Paired.snoc (Paired.mapP hst fun _ _ z => z.keep s4.keepT) h4, fun s hs => ?_⟩⟩⟩
      rcases List.mem_append.mp hs with z | z
      · exact hlt s z
      · rw [List.mem_singleton.mp z]; exact ⟨h5, h6⟩
    · rintro ys H3 ⟨s3, hy, st, hst, hlt⟩ r hr0
      have s4 := same_new hr0 (.lst ys)
      have el4 := s4 _ _ (s3 _ _ el)
      refine ⟨l, xs, _, rfl, rfl, el4, by rw [sizeLine_eq]; omega, ?_⟩
      have hsl := Paired.length hst
      exact hD r ys st _ (s3.trans s4) (s3.free hr0) upd_same (keepRs hst s4.keepT) hlt (by omega) el4
  intro tt htt ptt
  refine ⟨_, pss_cons (ps_set (i := 3) scRB.nd rfl (Or.inl rfl) (pe_op op_cat (pe_slice sl_list (pv 0) (po_some pe_int) (po_some pe_int)) (pe_lst (pa_cons pe_int (pa_cons pe_int pa_nil)))))
    (pss_cons (ps_set (i := 4) scRB.nd rfl (Or.inl rfl) (pe_lst pa_nil))
    (pss_cons (ps_for PassesOwn.never rfl (pi_range1 rfl T.range (pa_cons (pv 1) pa_nil)) (pg_name (i := 5) scRB.nd rfl (Or.inl rfl))
      (pss_cons (ps_set (i := 6) scRB.nd rfl (Or.inr rfl) (pe_op op_add (pe_ix ix_list (pv 3) (pe_op op_mod (pv 5) (pe_callB call_len_seq rfl T.len PySem.boot_len (pa_cons (pv 3) pa_nil))) (fun _ _ => rfl)) (pe_op op_mul pe_int (pv 5))))
      (pss_cons (ps_set (i := 7) scRB.nd rfl (Or.inr rfl) pe_int)
      (pss_cons (ps_if (pt_val (pv 2)) (pss_one (ps_set (i := 7) scRB.nd rfl (Or.inr rfl) (pe_op op_add (pv 5) pe_int))) pss_nil) htt))))
    (pss_one (ps_ret (pv 4))))), ?_⟩
  refine ⟨_, rfl, _, rfl, _, rfl, a, _, rfl, S, fun p1 hp1 => ?_⟩
  obtain ⟨ms, ems, hms⟩ := cut_ints ns (some _) (some _)
  rw [ems]
  refine ⟨by show 2 ≤ sizeLine; decide, fun p2 hp2 => ?_⟩
  have n12 : p1 ≠ p2 := fun z => by rw [← z, upd_same] at hp2; cases hp2
  refine ⟨p1, p2, _, _, rfl, rfl, by rw [upd_ne n12]; exact upd_same, upd_same, by rw [List.length_map, sizeLine_eq]; show ms.length + 2 ≤ _; omega, fun p3 hp3 => ?_⟩
  have s1 := ((same_new hp1 (.lst (ms.map V.int))).trans (same_new hp2 (.lst [.int 11, .int 3]))).trans (same_new hp3 (.lst (ms.map V.int ++ [.int 11, .int 3])))
  have ec : (upd (upd (upd H p1 (.lst (ms.map V.int))) p2 (.lst [.int 11, .int 3])) p3 (.lst (ms.map V.int ++ [.int 11, .int 3]))) p3 = some (.lst ((ms ++ [11, 3]).map V.int)) := by rw [upd_same, List.map_append]; rfl
  generalize upd (upd (upd H p1 (.lst (ms.map V.int))) p2 (.lst [.int 11, .int 3])) p3 (.lst (ms.map V.int ++ [.int 11, .int 3])) = H1 at *
  have hcl : 0 < (ms ++ [11, 3]).length := by rw [List.length_append]; show 0 < _ + 2; omega
  generalize ms ++ [11, 3] = cs at *
  refine ⟨by show 0 ≤ sizeLine; decide, fun l hl => ?_⟩
  have s2 := same_new hl (.lst [])
  have hcl3 : l ≠ p3 := fun z => by rw [z, ec] at hl; cases hl
  refine ⟨_, rfl, _, rfl, by omega, by omega, for_range (n := (n : Int).toNat) (fun i σ H2 => ∃ (v5 v6 v7 : Option V) (as : List Addr) (rows : List (List RS)), σ = [some (.ref a), some (.int (n : Int)), some (.bl b), some (.ref p3), some (.ref l), v5, v6, v7] ∧ RwX H2 l as rows ∧ rows.length = i ∧ (∀ r ∈ rows, ∀ s ∈ r, okR s ∧ rdLt n s) ∧ (∀ r ∈ rows, r.length ≤ 30) ∧ (∀ b ∈ as, b ≠ l) ∧ (∀ b o, H1 b = some o → H2 b = some o))
    ⟨none, none, none, [], [], rfl, ⟨upd_same, rfl, fun i a r h => by simp at h⟩, rfl, (fun r hr => nomatch hr), (fun r hr => nomatch hr), (fun b hb => nomatch hb), s2⟩ ?_ ?_⟩
  · rintro i σ H2 hi ⟨v5, v6, v7, as, rows, rfl, R, hl2, hlt, h30, hne, k2⟩
    rw [Int.toNat_natCast] at hi
    have e0 : (0 : Int) + (i : Int) = (i : Int) := by omega
    rw [e0]
    have ec2 := k2 _ _ ec
    have hcl' : (0 : Int) < ((cs.map V.int).length : Int) := by rw [List.length_map]; omega
    have hi0 : 0 ≤ (i : Int) % ((cs.map V.int).length : Int) := Int.emod_nonneg _ (by omega)
    have hi1 : (i : Int) % ((cs.map V.int).length : Int) < ((cs.map V.int).length : Int) := Int.emod_lt_of_pos _ hcl'
    obtain ⟨j, hj⟩ := Int.eq_ofNat_of_zero_le hi0
    have hjl : j < cs.length := by rw [hj, List.length_map] at hi1; omega
    refine ⟨_, rfl, _, rfl, _, rfl, p3, _, rfl, .inl (SqL.of ec2), _, _, rfl, rfl, hcl', p3, _, _, .int cs[j], rfl, rfl, SqL.of ec2, (by rw [hj]; exact atI_nat (by rw [List.getElem?_map, List.getElem?_eq_getElem hjl]; rfl)), ?_⟩
    refine ⟨_, rfl, _, _, rfl, rfl, .inl ⟨by decide, by decide⟩, _, _, rfl, rfl, ?_⟩
    have hxl : (as.map V.ref).length ≤ 1000 := by rw [List.length_map, R.len, hl2]; omega
    have fin : ∀ (at_ : Nat) (D : L2.Ends), (∀ σ H', (∃ (v5 v6 v7 : Option V) (as : List Addr) (rows : List (List RS)), σ = [some (V.ref a), some (V.int (n : Int)), some (V.bl b), some (V.ref p3), some (V.ref l), v5, v6, v7] ∧ RwX H' l as rows ∧ rows.length = i + 1 ∧ (∀ r ∈ rows, ∀ s ∈ r, okR s ∧ rdLt n s) ∧ (∀ r ∈ rows, r.length ≤ 30) ∧ (∀ b ∈ as, b ≠ l) ∧ (∀ b o, H1 b = some o → H' b = some o)) → D.nx σ H') →
        tt D [some (V.ref a), some (V.int (n : Int)), some (V.bl b), some (V.ref p3), some (V.ref l), some (V.int (i : Int)), some (V.int (cs[j] + 31 * (i : Int))), some (V.int (at_ : Int))] H2 := by
      intro at_ D hD
      refine ptt D H2 _ _ _ l _ i at_ _ R.lst hxl fun r vs st H3 s3 hr0 er hs hlt3 h3l el3 => hD _ _ ⟨_, _, _, as ++ [r], rows ++ [st], rfl, ?_, ?_, ?_, ?_, ?_, ?_⟩
      · have hrl : r ≠ l := fun z => by rw [z, R.lst] at hr0; cases hr0
        refine R.snoc (fun b o hb hn => by rw [upd_ne hn]; exact s3 _ _ hb) hne upd_same (by rw [upd_ne hrl]; exact er) (keepRs hs fun b xs e => ?_)
        rw [upd_ne (ne_of e el3 (by intro z; cases z))]
        exact e
      · rw [List.length_append, hl2]; rfl
      · intro x hx
        rcases List.mem_append.mp hx with z | z
        · exact hlt x z
        · rw [List.mem_singleton.mp z]; exact hlt3
      · intro x hx
        rcases List.mem_append.mp hx with z | z
        · exact h30 x z
        · rw [List.mem_singleton.mp z]; exact h3l
      · intro x hx
        rcases List.mem_append.mp hx with z | z
        · exact hne x z
        · rw [List.mem_singleton.mp z]
          exact fun z => by rw [z, R.lst] at hr0; cases hr0
      · intro x o hx
        have hxl : x ≠ l := ne_of_none hx hl
        rw [upd_ne hxl]
        exact s3 _ _ (k2 _ _ hx)
    refine ⟨_, rfl, _, rfl, ?_⟩
    cases b with
    | false => exact iteF (fin 0 _ fun σ H' h => h)
    | true =>
      refine iteT ⟨_, rfl, _, _, rfl, rfl, ?_⟩
      exact fin (i + 1) _ fun σ H' h => h
  · rintro σ H2 ⟨v5, v6, v7, as, rows, rfl, R, hl2, hlt, h30, hne, k2⟩
    rw [Int.toNat_natCast] at hl2
    exact ⟨_, rfl, q l as rows H2 (s1.trans k2) R hl2 (fun r hr => ⟨hlt r hr, h30 r hr⟩)⟩
end
def LeK (k : Nat) : Res → Prop
  | .ok _ k' _ => k' ≤ k
  | .una k' _ => k' ≤ k
  | .spent => True
theorem LeK.mono {k k' : Nat} (h : k ≤ k') : ∀ {r : Res}, LeK k r → LeK k' r
  | .ok _ _ _, z => Nat.le_trans z h
  | .una _ _, z => Nat.le_trans z h
  | .spent, _ => trivial
def LeR (R : RecR) : Prop := ∀ p n k sd, LeK k (R p n k sd)
theorem ld_le {R : RecR} (h : LeR R) {n : Int} {k : Nat} {sd : List Int} : ∀ l, LeK k (ldS R n k sd l)
  | .none => Nat.le_refl _
  | .go _ => h _ _ _ _
theorem ei_le {R : RecR} (h : LeR R) {x y : Ah.Ld} {n : Int} {k : Nat} {sd : List Int} : LeK k (eiS R x y n k sd) := by
  have h1 := ld_le h (n := n) (k := k) (sd := sd) x
  unfold eiS
  cases e : ldS R n k sd x with
  | ok a b c => rw [e] at h1; exact h1
  | una k' s' => rw [e] at h1; exact (ld_le h y).mono h1
  | spent => trivial
theorem step_le {R : RecR} (h : LeR R) {n : Int} {k : Nat} {sd : List Int} : ∀ s, LeK k (stepS R n k sd s)
  | .sm _ => Nat.le_refl _
  | .ld l => ld_le h l
  | .ei _ _ => ei_le h
theorem steps_le {R : RecR} (h : LeR R) : ∀ {ss : List RS} {n : Int} {k : Nat} {sd : List Int}, LeK k (stepsS R ss n k sd)
  | [], _, _, _ => Nat.le_refl _
  | s :: ss, n, k, sd => by
    have h1 := step_le h (n := n) (k := k) (sd := sd) s
    unfold stepsS
    cases e : stepS R n k sd s with
    | ok a k' c => rw [e] at h1; exact (steps_le h).mono h1
    | una k' c => rw [e] at h1; exact h1
    | spent => trivial
theorem rec_le (rows : List (List RS)) : ∀ m, LeR (recS rows m)
  | 0 => fun _ _ _ _ => trivial
  | m + 1 => fun p n k sd => by
    cases k with
    | zero => trivial
    | succ k => exact (steps_le (rec_le rows m)).mono (Nat.le_succ k)
def Agree (k : Nat) (R R' : RecR) : Prop := ∀ p n j sd, j ≤ k → R p n j sd = R' p n j sd
theorem Agree.le {k k' : Nat} {R R' : RecR} (h : Agree k R R') (hk : k' ≤ k) : Agree k' R R' := fun p n j sd hj => h p n j sd (Nat.le_trans hj hk)
theorem ld_ag {R R' : RecR} {k : Nat} (h : Agree k R R') {n : Int} {j : Nat} {sd : List Int} (hj : j ≤ k) : ∀ l, ldS R n j sd l = ldS R' n j sd l
  | .none => rfl
  | .go _ => h _ _ _ _ hj
theorem ei_ag {R R' : RecR} {k : Nat} (h : Agree k R R') (hl : LeR R) {x y : Ah.Ld} {n : Int} {sd : List Int} : eiS R x y n k sd = eiS R' x y n k sd := by
  unfold eiS
  rw [← ld_ag h (Nat.le_refl _) x]
  have h1 := ld_le hl (n := n) (k := k) (sd := sd) x
  cases e : ldS R n k sd x with
  | ok a b c => rfl
  | una k' s' => rw [e] at h1; exact ld_ag h h1 y
  | spent => rfl
theorem step_ag {R R' : RecR} {k : Nat} (h : Agree k R R') (hl : LeR R) {n : Int} {sd : List Int} : ∀ s, stepS R n k sd s = stepS R' n k sd s
  | .sm _ => rfl
  | .ld l => ld_ag h (Nat.le_refl _) l
  | .ei _ _ => ei_ag h hl
theorem steps_ag {R R' : RecR} (hl : LeR R) : ∀ {ss : List RS} {n : Int} {k : Nat} {sd : List Int}, Agree k R R' → stepsS R ss n k sd = stepsS R' ss n k sd
  | [], _, _, _, _ => rfl
  | s :: ss, n, k, sd, h => by
    unfold stepsS
    rw [← step_ag h hl s]
    have h1 := step_le hl (n := n) (k := k) (sd := sd) s
    cases e : stepS R n k sd s with
    | ok a k' c => rw [e] at h1; exact steps_ag hl (h.le h1)
    | una k' c => rfl
    | spent => rfl
theorem rec_ag (rows : List (List RS)) : ∀ (k m m' : Nat), k < m → k < m' → Agree k (recS rows m) (recS rows m')
  | k, 0, _, h, _ => absurd h (Nat.not_lt_zero _)
  | k, _, 0, _, h => absurd h (Nat.not_lt_zero _)
  | k, m + 1, m' + 1, h, h' => fun p n j sd hj => by
    cases j with
    | zero => rfl
    | succ j => exact steps_ag (rec_le rows m) (rec_ag rows j m m' (by omega) (by omega))
termination_by k m m' => m
def rS (rows : List (List RS)) : RecR := fun p n k sd => recS rows (k + 1) p n k sd
theorem rS_rec (rows : List (List RS)) {m k p : Nat} {n : Int} {sd : List Int} (h : k < m) : recS rows m p n k sd = rS rows p n k sd := rec_ag rows k m (k + 1) h (Nat.lt_succ_self k) p n k sd (Nat.le_refl _)
theorem rS_succ (rows : List (List RS)) (p : Nat) (n : Int) (k : Nat) (sd : List Int) : rS rows p n (k + 1) sd = stepsS (rS rows) (rows.getD p []) n k sd := by
  show stepsS (recS rows (k + 1)) (rows.getD p []) n k sd = _
  exact steps_ag (rec_le rows _) fun p n j sd hj => rS_rec rows (by omega)
inductive Tk where
  | st (s : RS)
  | back (n : Int) (sd : List Int) (l : Ah.Ld)
inductive Ou where
  | said (sd : List Int) | una | spent
def ouR : Res → Ou
  | .ok _ _ sd => .said sd
  | .una _ _ => .una
  | .spent => .spent
def unw (R : RecR) : List Tk → Res → Res
  | [], r => r
  | .st s :: t, r => unw R t (match r with
    | .ok n k sd => stepS R n k sd s
    | .una k sd => .una k sd
    | .spent => .spent)
  | .back n sd l :: t, r => unw R t (match r with
    | .ok n' k' sd' => .ok n' k' sd'
    | .una k _ => ldS R n k sd l
    | .spent => .spent)
theorem unw_spent (R : RecR) : ∀ t, unw R t .spent = .spent
  | [] => rfl
  | .st _ :: t => unw_spent R t
  | .back _ _ _ :: t => unw_spent R t
theorem unw_una (R : RecR) (t : List Tk) (k : Nat) (sd : List Int) : ∀ ss : List RS, unw R (ss.map Tk.st ++ t) (.una k sd) = unw R t (.una k sd)
  | [] => rfl
  | _ :: ss => unw_una R t k sd ss
theorem unw_app (R : RecR) (t : List Tk) : ∀ (ss : List RS) (n : Int) (k : Nat) (sd : List Int), unw R (ss.map Tk.st ++ t) (.ok n k sd) = unw R t (stepsS R ss n k sd)
  | [], _, _, _ => rfl
  | s :: ss, n, k, sd => by
    show unw R (ss.map Tk.st ++ t) (stepS R n k sd s) = unw R t (match stepS R n k sd s with
      | .ok n' k' sd' => stepsS R ss n' k' sd'
      | .una k' sd' => .una k' sd'
      | .spent => .spent)
    cases stepS R n k sd s with
    | ok n' k' sd' => exact unw_app R t ss n' k' sd'
    | una k' sd' => exact unw_una R t k' sd' ss
    | spent =>
      rw [unw_spent, unw_spent]
theorem unw_go0 (rows : List (List RS)) (p : Nat) (t : List Tk) (n : Int) (sd : List Int) : unw (rS rows) (.st (.ld (.go p)) :: t) (.ok n 0 sd) = .spent := unw_spent _ t
theorem unw_go (rows : List (List RS)) (p : Nat) (t : List Tk) (n : Int) (k : Nat) (sd : List Int) : unw (rS rows) (.st (.ld (.go p)) :: t) (.ok n (k + 1) sd) = unw (rS rows) ((rows.getD p []).map Tk.st ++ t) (.ok n k sd) := by
  rw [unw_app]
  show unw (rS rows) t (rS rows p n (k + 1) sd) = _
  rw [rS_succ]
theorem unw_ei (R : RecR) (x y : Ah.Ld) (t : List Tk) (n : Int) (k : Nat) (sd : List Int) : unw R (.st (.ei x y) :: t) (.ok n k sd) = unw R (.st (.ld x) :: .back n sd y :: t) (.ok n k sd) := by
  show unw R t (eiS R x y n k sd) = unw R t (match ldS R n k sd x with
    | .ok n' k' sd' => .ok n' k' sd'
    | .una k _ => ldS R n k sd y
    | .spent => .spent)
  unfold eiS
  cases ldS R n k sd x <;> rfl
def w1 : Tk → Nat
  | .st (.ei _ _) => 4
  | .st _ => 1
  | .back _ _ _ => 2
def wt : List Tk → Nat
  | [] => 0
  | i :: t => w1 i + wt t
theorem w1_pos (i : Tk) : 1 ≤ w1 i ∧ w1 i ≤ 4 := by
  unfold w1
  split <;> exact ⟨by decide, by decide⟩
theorem wt_app : ∀ a b : List Tk, wt (a ++ b) = wt a + wt b
  | [], b => by rw [List.nil_append]; show _ = 0 + _; omega
  | i :: a, b => by
    show w1 i + wt (a ++ b) = w1 i + wt a + wt b
    rw [wt_app a b]
    omega
theorem len_wt : ∀ t : List Tk, t.length ≤ wt t
  | [] => Nat.le_refl _
  | i :: t => by
    have := len_wt t
    have := w1_pos i
    show t.length + 1 ≤ w1 i + wt t
    omega
theorem wt_row : ∀ ss : List RS, wt (ss.map Tk.st) ≤ 4 * ss.length
  | [] => Nat.le_refl _
  | s :: ss => by
    have := wt_row ss
    have := w1_pos (.st s)
    show w1 (.st s) + wt (ss.map Tk.st) ≤ 4 * (ss.length + 1)
    omega
theorem nx_put (a n : Int) : (Sm.op "put" a).nx n = a := by
  show (if ("put" : Str) = "part" then n.fdiv a else chg "put" a n) = _
  rw [if_neg (by decide +kernel)]
  unfold chg
  rw [if_pos rfl]
theorem nx_plus (a n : Int) : (Sm.op "plus" a).nx n = n + a := by
  show (if ("plus" : Str) = "part" then n.fdiv a else chg "plus" a n) = _
  rw [if_neg (by decide +kernel)]
  unfold chg
  rw [if_neg (by decide +kernel), if_pos rfl]
theorem nx_times (a n : Int) : (Sm.op "times" a).nx n = n * a := by
  show (if ("times" : Str) = "part" then n.fdiv a else chg "times" a n) = _
  rw [if_neg (by decide +kernel)]
  unfold chg
  rw [if_neg (by decide +kernel), if_neg (by decide +kernel), if_pos rfl]
theorem nx_over (a n : Int) : (Sm.op "over" a).nx n = n.fdiv a := by
  show (if ("over" : Str) = "part" then n.fdiv a else chg "over" a n) = _
  rw [if_neg (by decide +kernel)]
  unfold chg
  rw [if_neg (by decide +kernel), if_neg (by decide +kernel), if_neg (by decide +kernel), if_pos rfl]
theorem nx_both (a n : Int) : (Sm.op "both" a).nx n = Builtin.bitAnd n a := by
  show (if ("both" : Str) = "part" then n.fdiv a else chg "both" a n) = _
  rw [if_neg (by decide +kernel)]
  unfold chg
  rw [if_neg (by decide +kernel), if_neg (by decide +kernel), if_neg (by decide +kernel), if_neg (by decide +kernel), if_pos rfl]
theorem nx_any (a n : Int) : (Sm.op "any" a).nx n = Builtin.bitOr n a := by
  show (if ("any" : Str) = "part" then n.fdiv a else chg "any" a n) = _
  rw [if_neg (by decide +kernel)]
  unfold chg
  rw [if_neg (by decide +kernel), if_neg (by decide +kernel), if_neg (by decide +kernel), if_neg (by decide +kernel), if_neg (by decide +kernel), if_pos rfl]
theorem nx_odd (a n : Int) : (Sm.op "odd" a).nx n = Builtin.bitXor n a := by
  show (if ("odd" : Str) = "part" then n.fdiv a else chg "odd" a n) = _
  rw [if_neg (by decide +kernel)]
  unfold chg
  rw [if_neg (by decide +kernel), if_neg (by decide +kernel), if_neg (by decide +kernel), if_neg (by decide +kernel), if_neg (by decide +kernel), if_neg (by decide +kernel), if_pos rfl]
theorem nx_up (a n : Int) : (Sm.op "up" a).nx n = n * 2 ^ a.toNat := by
  show (if ("up" : Str) = "part" then n.fdiv a else chg "up" a n) = _
  rw [if_neg (by decide +kernel)]
  unfold chg
  rw [if_neg (by decide +kernel), if_neg (by decide +kernel), if_neg (by decide +kernel), if_neg (by decide +kernel), if_neg (by decide +kernel), if_neg (by decide +kernel), if_neg (by decide +kernel), if_pos rfl]
theorem nx_down (a n : Int) : (Sm.op "down" a).nx n = n / 2 ^ a.toNat := by
  show (if ("down" : Str) = "part" then n.fdiv a else chg "down" a n) = _
  rw [if_neg (by decide +kernel)]
  unfold chg
  rw [if_neg (by decide +kernel), if_neg (by decide +kernel), if_neg (by decide +kernel), if_neg (by decide +kernel), if_neg (by decide +kernel), if_neg (by decide +kernel), if_neg (by decide +kernel), if_neg (by decide +kernel)]
theorem out_part (a n : Int) : (Sm.op "part" a).out n = [n.fmod a] := by
  show (if ("part" : Str) = "part" then [n.fmod a] else []) = _
  rw [if_pos rfl]
theorem nx_part (a n : Int) : (Sm.op "part" a).nx n = n.fdiv a := by
  show (if ("part" : Str) = "part" then n.fdiv a else chg "part" a n) = _
  rw [if_pos rfl]
theorem fmod_sub (n a : Int) : n - n.fdiv a * a = n.fmod a := by
  rw [Int.fmod_def, Int.mul_comm]
def spLBeh : Sp := fun vs H Q _ => ∃ (t : Addr) (n a : Int) (kd : Str) (b : Nat), vs = [.ref t, .int n] ∧ H t = some (.tup [.str kd, .int a]) ∧ OkA kd a ∧ kd ≠ "part" ∧ Ab b n ∧ b ≤ 900000 ∧ Q (.int ((Sm.op kd a).nx n)) H
section
variable {P : Program} {w : World} {K : PySem.W.Frag} {mg : Str → Option Value} {base : Heap} {f fB : Addr} {fd dB : FuncData}
theorem scLBeh : FnScope ["_law_step", "_law_number"] ["_law_step", "_law_number"] (defScope sLBehind) := ⟨rfl, rfl, rfl, by decide +kernel, rfl, by decide +kernel, by decide +kernel⟩
theorem at3 (x y z u : V) (xs : List V) : atI (x :: y :: z :: u :: xs) 3 = some u := atI_nat (j := 3) rfl
theorem ok_lbeh (F : Fun K "_law_behind" "_law_behind" sLBehind f fd) : FnOk P w K mg base CX0 1 f fd ["_law_step", "_law_number"] spLBeh := by
  refine F.ok scLBeh (fun vs H Q E h => ?_) (fun cdv A outer s H vs Q E hr h => ?_)
  · obtain ⟨t, n, a, kd, b, rfl, _⟩ := h
    rfl
  obtain ⟨t, n, a, kd, b, rfl, ht, ok, hk, hn, hb, q⟩ := h
  refine ⟨_, pss_cons (ps_if (pt_cmpR op_eq (pe_ix ix_tup (pv 0) pe_int (fun _ _ => rfl)) pe_str (nomark _)) (pss_one (ps_ret (pe_ix ix_tup (pv 0) pe_int (fun _ _ => rfl)))) pss_nil)
    (pss_cons (ps_if (pt_cmpR op_eq (pe_ix ix_tup (pv 0) pe_int (fun _ _ => rfl)) pe_str (nomark _)) (pss_one (ps_ret (pe_op op_add (pv 1) (pe_ix ix_tup (pv 0) pe_int (fun _ _ => rfl))))) pss_nil)
    (pss_cons (ps_if (pt_cmpR op_eq (pe_ix ix_tup (pv 0) pe_int (fun _ _ => rfl)) pe_str (nomark _)) (pss_one (ps_ret (pe_op op_mulB (pv 1) (pe_ix ix_tup (pv 0) pe_int (fun _ _ => rfl))))) pss_nil)
    (pss_cons (ps_if (pt_cmpR op_eq (pe_ix ix_tup (pv 0) pe_int (fun _ _ => rfl)) pe_str (nomark _)) (pss_one (ps_ret (pe_op op_and (pv 1) (pe_ix ix_tup (pv 0) pe_int (fun _ _ => rfl))))) pss_nil)
    (pss_cons (ps_if (pt_cmpR op_eq (pe_ix ix_tup (pv 0) pe_int (fun _ _ => rfl)) pe_str (nomark _)) (pss_one (ps_ret (pe_op op_or (pv 1) (pe_ix ix_tup (pv 0) pe_int (fun _ _ => rfl))))) pss_nil)
    (pss_cons (ps_if (pt_cmpR op_eq (pe_ix ix_tup (pv 0) pe_int (fun _ _ => rfl)) pe_str (nomark _)) (pss_one (ps_ret (pe_op op_xor (pv 1) (pe_ix ix_tup (pv 0) pe_int (fun _ _ => rfl))))) pss_nil)
    (pss_cons (ps_if (pt_cmpR op_eq (pe_ix ix_tup (pv 0) pe_int (fun _ _ => rfl)) pe_str (nomark _)) (pss_one (ps_ret (pe_op op_fdivB (pv 1) (pe_ix ix_tup (pv 0) pe_int (fun _ _ => rfl))))) pss_nil)
    (pss_cons (ps_if (pt_cmpR op_eq (pe_ix ix_tup (pv 0) pe_int (fun _ _ => rfl)) pe_str (nomark _)) (pss_one (ps_ret (pe_op op_shlB (pv 1) (pe_ix ix_tup (pv 0) pe_int (fun _ _ => rfl))))) pss_nil)
    (pss_one (ps_ret (pe_op op_shr (pv 1) (pe_ix ix_tup (pv 0) pe_int (fun _ _ => rfl)))))))))))), ?_⟩
  refine ⟨_, rfl, t, _, _, _, rfl, rfl, SqT.of ht, at0 _ _, rfl, _, rfl, ite2 (fun c => ?_) (fun c1 => ?_)⟩
  · obtain rfl := de_str c
    rw [nx_put] at q
    exact ⟨_, rfl, t, _, _, _, rfl, rfl, SqT.of ht, at1 _ _ _, q⟩
  refine ⟨_, rfl, t, _, _, _, rfl, rfl, SqT.of ht, at0 _ _, rfl, _, rfl, ite2 (fun c => ?_) (fun c2 => ?_)⟩
  · obtain rfl := de_str c
    rw [nx_plus] at q
    exact ⟨_, rfl, _, rfl, t, _, _, _, rfl, rfl, SqT.of ht, at1 _ _ _, _, _, rfl, rfl, q⟩
  refine ⟨_, rfl, t, _, _, _, rfl, rfl, SqT.of ht, at0 _ _, rfl, _, rfl, ite2 (fun c => ?_) (fun c3 => ?_)⟩
  · obtain rfl := de_str c
    rw [nx_times] at q
    exact ⟨_, rfl, _, rfl, t, _, _, _, rfl, rfl, SqT.of ht, at1 _ _ _, _, _, rfl, rfl, ⟨max b 100, hn.mono (Nat.le_max_left _ _), ok.ab.mono (Nat.le_max_right _ _), by omega⟩, q⟩
  refine ⟨_, rfl, t, _, _, _, rfl, rfl, SqT.of ht, at0 _ _, rfl, _, rfl, ite2 (fun c => ?_) (fun c4 => ?_)⟩
  · obtain rfl := de_str c
    rw [nx_both] at q
    exact ⟨_, rfl, _, rfl, t, _, _, _, rfl, rfl, SqT.of ht, at1 _ _ _, _, _, rfl, rfl, q⟩
  refine ⟨_, rfl, t, _, _, _, rfl, rfl, SqT.of ht, at0 _ _, rfl, _, rfl, ite2 (fun c => ?_) (fun c5 => ?_)⟩
  · obtain rfl := de_str c
    rw [nx_any] at q
    exact ⟨_, rfl, _, rfl, t, _, _, _, rfl, rfl, SqT.of ht, at1 _ _ _, _, _, rfl, rfl, q⟩
  refine ⟨_, rfl, t, _, _, _, rfl, rfl, SqT.of ht, at0 _ _, rfl, _, rfl, ite2 (fun c => ?_) (fun c6 => ?_)⟩
  · obtain rfl := de_str c
    rw [nx_odd] at q
    exact ⟨_, rfl, _, rfl, t, _, _, _, rfl, rfl, SqT.of ht, at1 _ _ _, _, _, rfl, rfl, q⟩
  refine ⟨_, rfl, t, _, _, _, rfl, rfl, SqT.of ht, at0 _ _, rfl, _, rfl, ite2 (fun c => ?_) (fun c7 => ?_)⟩
  · obtain rfl := de_str c
    rw [nx_over] at q
    exact ⟨_, rfl, _, rfl, t, _, _, _, rfl, rfl, SqT.of ht, at1 _ _ _, _, _, rfl, rfl, ⟨ok.dv (.inl rfl), ok.ab.mono (by decide)⟩, q⟩
  refine ⟨_, rfl, t, _, _, _, rfl, rfl, SqT.of ht, at0 _ _, rfl, _, rfl, ite2 (fun c => ?_) (fun c8 => ?_)⟩
  · obtain rfl := de_str c
    rw [nx_up] at q
    have z := ok.sh (.inl rfl)
    exact ⟨_, rfl, _, rfl, t, _, _, _, rfl, rfl, SqT.of ht, at1 _ _ _, _, _, rfl, rfl, ⟨z.1, by omega, hn.mono (by omega)⟩, q⟩
  have hd : kd = "down" := by
    have m := ok.mem
    unfold sorts1 at m
    simp only [List.mem_cons, List.not_mem_nil, or_false] at m
    rcases m with h | h | h | h | h | h | h | h | h | h
    · exact absurd h (dn_str c1)
    · exact absurd h (dn_str c2)
    · exact absurd h (dn_str c3)
    · exact absurd h (dn_str c7)
    · exact absurd h (dn_str c4)
    · exact absurd h (dn_str c5)
    · exact absurd h (dn_str c6)
    · exact absurd h (dn_str c8)
    · exact h
    · exact absurd h hk
  subst hd
  rw [nx_down] at q
  exact ⟨_, rfl, _, rfl, t, _, _, _, rfl, rfl, SqT.of ht, at1 _ _ _, _, _, rfl, rfl, (ok.sh (.inr rfl)).1, q⟩
end
def ItA (H : Hp) (v : V) : Tk → Prop
  | .st s => RAt H v s ∧ okR s
  | .back n sd l => ∃ a sl b, v = .ref a ∧ H a = some (.tup [.str "back", .int n, .ref sl, b]) ∧ H sl = some (.lst (nVs sd)) ∧ LdAt H b l
theorem ItA.same {H H' : Hp} (s : Same H H') {v : V} : ∀ {i : Tk}, ItA H v i → ItA H' v i
  | .st _, ⟨h, o⟩ => ⟨h.keep s.keepT, o⟩
  | .back _ _ _, ⟨a, sl, b, e, h, h2, h3⟩ => ⟨a, sl, b, e, s _ _ h, s _ _ h2, h3.keep s.keepT⟩
theorem its_same {H H' : Hp} (s : Same H H') {vs : List V} {st : List Tk} (h : Paired (ItA H) vs st) : Paired (ItA H') vs st := Paired.mapP h fun _ _ z => z.same s
def mask1 (H : Hp) (l : Addr) : Hp := fun b => if b = l then none else H b
theorem mask1_at {H : Hp} {l b : Addr} {o : HO} (e : H b = some o) (h : b ≠ l) : mask1 H l b = some o := by
  unfold mask1
  rw [if_neg h]
  exact e
theorem mask1_none (H : Hp) (l : Addr) : mask1 H l l = none := by
  unfold mask1
  rw [if_pos rfl]
theorem mask1_sub {H : Hp} {l : Addr} : Same (mask1 H l) H := fun b o e => by
  unfold mask1 at e
  split at e
  · cases e
  · exact e
theorem Same.mask1 {M H : Hp} {l : Addr} (s : Same M H) (h : M l = none) : Same M (mask1 H l) := fun b o e => mask1_at (s _ _ e) (ne_of_none e h)
def pushS (n : Int) (sd : List Int) : RS → List Tk
  | .ei x y => [.st (.ld x), .back n sd y]
  | _ => []
def nxS (n : Int) : RS → Int
  | .sm s => s.nx n
  | _ => n
def sdS (n : Int) (sd : List Int) : RS → List Int
  | .sm s => sd ++ s.out n
  | _ => sd
theorem unw_done (R : RecR) (t : List Tk) (n : Int) (k : Nat) (sd : List Int) : ∀ s, (∀ l, s ≠ .ld l) → unw R (.st s :: t) (.ok n k sd) = unw R (pushS n sd s ++ t) (.ok (nxS n s) k (sdS n sd s))
  | .sm _, _ => rfl
  | .ei x y, _ => unw_ei R x y t n k sd
  | .ld l, h => absurd rfl (h l)
def spDone : Sp := fun vs H Q _ => ∃ (t sl l : Addr) (s : RS) (n : Int) (sd : List Int) (xs : List V) (b : Nat), vs = [.ref t, .int n, .ref sl, .ref l] ∧ RAt H (.ref t) s ∧ okR s ∧ (∀ l, s ≠ .ld l) ∧ H sl = some (.lst (nVs sd)) ∧ H l = some (.lst xs) ∧ Ab b n ∧ b ≤ 890000 ∧ sd.length ≤ 50000 ∧ xs.length ≤ 50000 ∧ sl ≠ l ∧
  ∀ (r sl' l' : Addr) (vs' : List V) (H' : Hp), Same H H' → H' sl' = some (.lst (nVs (sdS n sd s))) → H' r = some (.tup [.int (nxS n s), .ref sl', .ref l']) → (l' = l ∧ vs' = [] ∨ H l' = none ∧ H' l' = some (.lst (xs ++ vs'.reverse))) → sl' ≠ l' → Paired (ItA (mask1 H' l')) vs' (pushS n sd s) → Q (.ref r) H'
theorem OkA.ne {kd : Str} {a : Int} (h : OkA kd a) {x : Str} (hx : x ∉ sorts1) : ¬ kd = x := fun z => hx (z ▸ h.mem)
theorem out_none {kd : Str} {a n : Int} (h : ¬ kd = "part") : (Sm.op kd a).out n = [] := by
  show (if kd = "part" then [n.fmod a] else []) = []
  rw [if_neg h]
section
variable {P : Program} {w : World} {K : PySem.W.Frag} {mg : Str → Option Value} {base : Heap} {f fB : Addr} {fd dB : FuncData}
theorem scDone : FnScope ["_law_step", "_law_number", "_law_said", "_law_todo", "_law_share"] ["_law_step", "_law_number", "_law_said", "_law_todo"] (defScope sDone) := ⟨rfl, rfl, rfl, by decide +kernel, rfl, by decide +kernel, by decide +kernel⟩
theorem ok_done (F : Fun K "_law_done" "_law_done" sDone f fd) (GB : FnOk P w K mg base CX0 1 fB dB ["_law_step", "_law_number"] spLBeh) (kB : PySem.W.keepIn K (.ref fB) = true) (bB : Binds K dB ["_law_step", "_law_number"] []) (mB : mg "_law_behind" = some (.ref fB)) :
    FnOk P w K mg base CX0 2 f fd ["_law_step", "_law_number", "_law_said", "_law_todo"] spDone := by
  refine F.ok scDone (fun vs H Q E h => ?_) (fun cdv A outer s H vs Q E hr h => ?_)
  · obtain ⟨t, sl, l, s, n, sd, xs, b, rfl, _⟩ := h
    rfl
  obtain ⟨t, sl, l, s, n, sd, xs, b, rfl, ht, ok, hnl, hsl, hl, hn, hb, hsd, hxs, hne, g⟩ := h
  refine ⟨_, pss_cons (ps_if (pt_cmpR op_eq (pe_ix ix_tup (pv 0) pe_int (fun _ _ => rfl)) pe_str (nomark _)) (pss_one (ps_ret (pe_tup (pa_cons (pv 1) (pa_cons (pe_op op_cat (pv 2) (pe_lst (pa_cons (pv 1) pa_nil))) (pa_cons (pv 3) pa_nil)))))) pss_nil)
    (pss_cons (ps_if (pt_cmpR op_eq (pe_ix ix_tup (pv 0) pe_int (fun _ _ => rfl)) pe_str (nomark _)) (pss_one (ps_ret (pe_tup (pa_cons (pv 1) (pa_cons (pv 2) (pa_cons (pe_op op_cat (pv 3) (pe_lst (pa_cons (pe_tup (pa_cons pe_str (pa_cons (pv 1) (pa_cons (pv 2) (pa_cons (pe_ix ix_tup (pv 0) pe_int (fun _ _ => rfl)) pa_nil))))) (pa_cons (pe_ix ix_tup (pv 0) pe_int (fun _ _ => rfl)) pa_nil)))) pa_nil)))))) pss_nil)
    (pss_cons (ps_if (pt_cmpR op_eq (pe_ix ix_tup (pv 0) pe_int (fun _ _ => rfl)) pe_str (nomark _)) (pss_cons (ps_set (i := 4) scDone.nd rfl (Or.inl rfl) (pe_op op_fdivB (pv 1) (pe_ix ix_tup (pv 0) pe_int (fun _ _ => rfl)))) (pss_one (ps_ret (pe_tup (pa_cons (pv 4) (pa_cons (pe_op op_cat (pv 2) (pe_lst (pa_cons (pe_op op_sub (pv 1) (pe_op op_mulB (pv 4) (pe_ix ix_tup (pv 0) pe_int (fun _ _ => rfl)))) pa_nil))) (pa_cons (pv 3) pa_nil))))))) pss_nil)
    (pss_one (ps_ret (pe_tup (pa_cons (pe_call GB hr rfl mB kB bB .nil pass0 (pa_cons (pv 0) (pa_cons (pv 1) pa_nil))) (pa_cons (pv 2) (pa_cons (pv 3) pa_nil)))))))), ?_⟩
  have z3 : 3 ≤ sizeLine := by rw [sizeLine_eq]; decide
  have z1 : 1 ≤ sizeLine := by rw [sizeLine_eq]; decide
  cases s with
  | ld l => exact absurd rfl (hnl l)
  | ei x y =>
    obtain ⟨t', v1, v2, e, ht, hx, hy⟩ := ht
    cases e
    refine ⟨_, rfl, t, _, _, _, rfl, rfl, SqT.of ht, at0 _ _, rfl, _, rfl, skipS (by decide +kernel) ?_⟩
    refine ⟨_, rfl, t, _, _, _, rfl, rfl, SqT.of ht, at0 _ _, rfl, _, rfl, takeS ?_⟩
    refine ⟨_, rfl, _, rfl, _, rfl, _, rfl, _, rfl, _, rfl, t, _, _, _, rfl, rfl, SqT.of ht, at2 _ _ _ _, by rw [sizeLine_eq]; show 4 ≤ _; decide, fun a0 h0 => ?_⟩
    have s0 := same_new h0 (.tup [.str "back", .int n, .ref sl, v2])
    refine ⟨_, rfl, t, _, _, _, rfl, rfl, SqT.of (s0 _ _ ht), at1 _ _ _, by rw [sizeLine_eq]; show 2 ≤ _; decide, fun l1 h2 => ?_⟩
    have s2 := same_new h2 (.lst [.ref a0, v1])
    refine ⟨l, l1, _, _, rfl, rfl, s2 _ _ (s0 _ _ hl), upd_same, by rw [sizeLine_eq]; show xs.length + 2 ≤ _; omega, fun l2 h3 => ⟨by show 3 ≤ sizeLine; exact z3, fun r h4 => ?_⟩⟩
    have s3 := same_new h3 (.lst (xs ++ [.ref a0, v1]))
    have s4 := same_new h4 (.tup [.int n, .ref sl, .ref l2])
    have s12 := s0.trans s2
    have s34 := s3.trans s4
    have sA := s12.trans s34
    have e0 := s2 _ _ (upd_same (H := H) (a := a0) (o := .tup [.str "back", .int n, .ref sl, v2]))
    have hl2 := s12.free h3
    have sM := Same.mask1 sA hl2
    refine g r sl l2 [v1, .ref a0] _ sA (sA _ _ hsl) upd_same (.inr ⟨hl2, s4 _ _ upd_same⟩) (ne_of_none hsl hl2) (.cons ⟨LdAt.keep sM.keepT hx, trivial⟩ (.cons ⟨a0, sl, v2, rfl, mask1_at (s34 _ _ e0) (ne_of_none e0 h3), sM _ _ hsl, LdAt.keep sM.keepT hy⟩ .nil))
  | sm s =>
  obtain ⟨t', e, ht⟩ := ht
  cases e
  cases s with
  | say =>
    refine ⟨_, rfl, t, _, _, _, rfl, rfl, SqT.of ht, at0 _ _, rfl, _, rfl, takeS ?_⟩
    refine ⟨_, rfl, _, rfl, _, rfl, by show 1 ≤ sizeLine; exact z1, fun l1 h1 => ?_⟩
    have s1 := same_new h1 (.lst [.int n])
    refine ⟨sl, l1, _, _, rfl, rfl, s1 _ _ hsl, upd_same, by rw [nVs_len, sizeLine_eq]; show sd.length + 1 ≤ _; omega, fun l2 h2 => ⟨_, rfl, by show 3 ≤ sizeLine; exact z3, fun r h3 => ?_⟩⟩
    have s2 := same_new h2 (.lst (nVs sd ++ [.int n]))
    have s3 := same_new h3 (.tup [.int n, .ref l2, .ref l])
    refine g r l2 l [] _ (s1.trans (s2.trans s3)) (s3 _ _ (by rw [upd_same]; show _ = some (HO.lst (nVs (sd ++ [n]))); rw [nVs_app]; rfl)) upd_same (.inl ⟨rfl, rfl⟩) (Ne.symm (ne_of_none (s1 _ _ hl) h2)) .nil
  | op kd a =>
    have oa : OkA kd a := ok
    have n1 := oa.ne (x := "say") (by decide +kernel)
    have n4 := oa.ne (x := "either") (by decide +kernel)
    refine ⟨_, rfl, t, _, _, _, rfl, rfl, SqT.of ht, at0 _ _, rfl, _, rfl, skipS n1 ?_⟩
    refine ⟨_, rfl, t, _, _, _, rfl, rfl, SqT.of ht, at0 _ _, rfl, _, rfl, skipS n4 ?_⟩
    refine ⟨_, rfl, t, _, _, _, rfl, rfl, SqT.of ht, at0 _ _, rfl, _, rfl, ite2 (fun c => ?_) (fun c => ?_)⟩
    · obtain rfl : kd = "part" := de_str c
      have hab : Ab (max b 100 + 101) (n.fdiv a) := by
        have := Sm.nx_ab (s := .op "part" a) ok (hn.mono (Nat.le_max_left b 100)) (Nat.le_max_right b 100)
        rw [nx_part] at this
        exact this
      refine ⟨_, rfl, _, rfl, t, _, _, _, rfl, rfl, SqT.of ht, at1 _ _ _, _, _, rfl, rfl, ⟨oa.dv (.inr rfl), oa.ab.mono (by decide)⟩, ?_⟩
      refine ⟨_, rfl, _, rfl, _, rfl, _, rfl, _, rfl, t, _, _, _, rfl, rfl, SqT.of ht, at1 _ _ _, _, _, rfl, rfl, ⟨max b 100 + 101, hab, oa.ab.mono (by omega), by omega⟩, _, _, rfl, rfl, by show 1 ≤ sizeLine; exact z1, fun l1 h1 => ?_⟩
      dsimp only
      rw [fmod_sub]
      have s1 := same_new h1 (.lst [.int (n.fmod a)])
      refine ⟨sl, l1, _, _, rfl, rfl, s1 _ _ hsl, upd_same, by rw [nVs_len, sizeLine_eq]; show sd.length + 1 ≤ _; omega, fun l2 h2 => ⟨_, rfl, by show 3 ≤ sizeLine; exact z3, fun r h3 => ?_⟩⟩
      have s2 := same_new h2 (.lst (nVs sd ++ [.int (n.fmod a)]))
      have s3 := same_new h3 (.tup [.int (n.fdiv a), .ref l2, .ref l])
      refine g r l2 l [] _ (s1.trans (s2.trans s3)) (s3 _ _ ?_) ?_ (.inl ⟨rfl, rfl⟩) (Ne.symm (ne_of_none (s1 _ _ hl) h2)) .nil
      · rw [upd_same]
        show _ = some (HO.lst (nVs (sd ++ (Sm.op "part" a).out n)))
        rw [out_part, nVs_app]
        rfl
      · show _ = some (HO.tup [.int ((Sm.op "part" a).nx n), .ref l2, .ref l])
        rw [nx_part]
        exact upd_same
    · have hp : ¬ kd = "part" := dn_str c
      refine ⟨_, rfl, _, rfl, t, n, a, kd, b, rfl, ht, oa, hp, hn, by omega, ?_⟩
      refine ⟨_, rfl, _, rfl, by show 3 ≤ sizeLine; exact z3, fun r h3 => ?_⟩
      have s3 := same_new h3 (.tup [.int ((Sm.op kd a).nx n), .ref sl, .ref l])
      refine g r sl l [] _ s3 (s3 _ _ ?_) upd_same (.inl ⟨rfl, rfl⟩) hne .nil
      show _ = some (HO.lst (nVs (sd ++ (Sm.op kd a).out n)))
      rw [out_none hp, List.append_nil]
      exact hsl
end
end Bk
namespace L2
open PySem PySem.Spec PyProof.Rows
def tRev (K : PySem.W.Frag) (te : TE) : TE := fun σ H Q => te σ H fun x H1 => ∃ a xs, x = .ref a ∧ SqL K H1 a xs ∧ ∀ p, H1 p = none → Q (.ref p) (upd H1 p (.lst xs.reverse))
theorem pe_rev {X : Cx} {K : PySem.W.Frag} {e st : Expr} {te : TE} {p2 pos : Pos} (he : PE X e te) (hst : PE X st (tUn (rU fun i => .int (-i)) (tC (.int 1)))) (hK : X.K = K := by rfl) : PE X (.Subscript e (.Slice none none (some st) p2) pos) (tRev K te) := by
  subst hK
  intro pins s σ H Q I h
  refine Subscript_ (thn (he pins s σ H _ I h) fun v s1 ⟨x, H1, I1, r1, q1⟩ => ?_)
  obtain ⟨a, xs, rfl, hx, q⟩ := q1
  cases r1
  refine wpAny_Slice ?_
  rw [evalPart_none]
  refine wpAny_pure ?_
  refine wpAny_pure ?_
  rw [evalPart_some]
  refine thn (hst pins s1 σ H1 (fun y H2 => y = .int (-1) ∧ H2 = H1) I1 ⟨1, rfl, rfl, rfl⟩) fun u s3 ⟨y, H2, I3, r3, hy, hH⟩ => ?_
  subst hH hy
  obtain ⟨t, rfl⟩ := r3
  have I4 : Inv X pins σ H2 { s3 with heap := s3.heap.push { cls := .type "slice", data := .fields #[.none, .none, .int (-1) t] } } := I3.kept (t' := s3.toks) fun b ob q => Heap.get?_push_of_some _ q
  obtain ⟨its, r, ht, hz⟩ := I4.list hx
  have hlen := r.length
  have hs : Heap.IsSliceOf (s3.heap.push { cls := .type "slice", data := .fields #[.none, .none, .int (-1) t] }) s3.heap.objs.size .none .none (.int (-1) t) := Heap.IsSliceOf.new ..
  refine tail_any (ops := [.ref a, .ref s3.heap.objs.size]) ht.isList.typeIs slot_list_getitem.lookup ?_ (by with_unfolding_all rfl)
  refine wpAny_getItem_list_slice (lo := none) (hi := none) (st := some (-1)) ht.isList hs .none .none (.int (-1) t) (by simp) ?_ (by rw [List.size_toArray] <;> omega)
  rw [PySem.W.krv_pick]
  refine ⟨.ref _, _, I4.laid (t' := s3.toks) (o := .lst xs.reverse) (fun b ob q => Heap.get?_push_of_some _ q) (Nat.le_refl _) ?_, rfl, q _ (I4.hok.fresh (Nat.le_refl _))⟩
  exact ⟨by rw [List.length_reverse]; exact hz, _, 0, r.reverse, by rw [List.toList_toArray]; exact Heap.get?_push_size _ rfl⟩
end L2
namespace Bk
open PySem L2 Rk
theorem paired_app {α β : Type} {F : α → β → Prop} {xs : List α} {ys : List β} (h : Paired F xs ys) {zs : List α} {ws : List β} (g : Paired F zs ws) : Paired F (xs ++ zs) (ys ++ ws) := by
  induction h with
  | nil => exact g
  | cons r t ih => exact .cons r ih
def ledI (N : Nat) : Tk → Prop
  | .st s => rdLt N s
  | .back _ _ l => ∀ p ∈ Ah.ldsL l, p < N
structure Mch (H0 H M : Hp) (l sl : Addr) (vs : List V) (st : List Tk) (n : Int) (k : Nat) (sd : List Int) (b c N : Nat) : Prop where
  s0 : Same H0 M
  s1 : Same M H
  nl : M l = none
  lst : H l = some (.lst vs.reverse)
  its : Paired (ItA M) vs st
  sd_ : M sl = some (.lst (nVs sd))
  ab : Ab b n
  len : sd.length ≤ c
  bk : ∀ n' sd' o, Tk.back n' sd' o ∈ st → Ab b n' ∧ sd'.length ≤ c
  lo : 100 ≤ b
  hi : b + 101 * (130 * k + wt st) ≤ 535400
  hc : c + (130 * k + wt st) ≤ 5300
  led : ∀ i ∈ st, ledI N i
theorem wt_cons (i : Tk) (t : List Tk) : wt (i :: t) = w1 i + wt t := rfl
theorem Mch.pop {H0 H M : Hp} {l sl : Addr} {v : V} {vs : List V} {i : Tk} {st : List Tk} {n : Int} {k : Nat} {sd : List Int} {b c N : Nat} (T : Mch H0 H M l sl (v :: vs) (i :: st) n k sd b c N) : ItA M v i ∧ ledI N i ∧ Mch H0 (upd H l (.lst vs.reverse)) M l sl vs st n k sd b c N := by
  have h := T.its
  have h3 := T.hi
  have h4 := T.hc
  rw [wt_cons] at h3 h4
  cases h with
  | cons h1 h2 =>
    exact ⟨h1, T.led i List.mem_cons_self, T.s0, fun c o e => by rw [upd_ne (ne_of_none e T.nl)]; exact T.s1 _ _ e, T.nl, upd_same, h2, T.sd_, T.ab, T.len, fun n' sd' o h => T.bk n' sd' o (List.mem_cons_of_mem _ h), T.lo, by omega, by omega, fun j hj => T.led j (List.mem_cons_of_mem _ hj)⟩
def DueAt (H : Hp) (r : Addr) : Ou → Prop
  | .said sd => ∃ sl, H r = some (.tup [.str "said", .ref sl]) ∧ H sl = some (.lst (nVs sd)) ∧ sd.length ≤ 5300
  | .una => H r = some (.tup [.str "unanswered"])
  | .spent => H r = some (.tup [.str "spent"])
def spDue : Sp := fun vs H Q _ => ∃ (ra la : Addr) (as : List Addr) (rows : List (List RS)) (v : V) (ld : Ah.Ld) (n : Int) (c : Nat), vs = [.ref ra, .ref la, .int n, .int (c : Int)] ∧ RwX (mask1 H la) ra as rows ∧ (∀ r ∈ rows, RowOk rows.length r) ∧ H la = some (.lst [v]) ∧ LdAt H v ld ∧ (∀ p ∈ Ah.ldsL ld, p < rows.length) ∧ Ab 100 n ∧ c ≤ 40 ∧
  ∀ (r : Addr) (H' : Hp), Same (mask1 H la) H' → DueAt H' r (ouR (unw (rS rows) [.st (.ld ld)] (.ok n c []))) → Q (.ref r) H'
theorem rev_last (v : V) (vs : List V) : (v :: vs).reverse[(v :: vs).reverse.length - 1]? = some v ∧ (v :: vs).reverse.dropLast = vs.reverse := by
  rw [List.reverse_cons]
  refine ⟨?_, List.dropLast_concat⟩
  rw [List.length_append, List.length_singleton, Nat.add_sub_cancel]
  exact List.getElem?_concat_length
theorem rev_at (v : V) (vs : List V) : atI (v :: vs).reverse (-1) = some v := by
  rw [List.reverse_cons]
  exact atI_last _ _
section
variable {P : Program} {w : World} {K : PySem.W.Frag} {mg : Str → Option Value} {base : Heap} {f fD : Addr} {fd dD : FuncData}
abbrev nDue : List Str := ["_law_rows", "_law_todo", "_law_number", "_law_count", "_law_said", "_law_step", "_law_back"]
theorem scDue : FnScope nDue ["_law_rows", "_law_todo", "_law_number", "_law_count"] (defScope sDue) := ⟨rfl, rfl, rfl, by decide +kernel, rfl, by decide +kernel, by decide +kernel⟩
end
theorem sts_its {H : Hp} {us : List V} {r : List RS} (h : Paired (RAt H) us r) (ok : ∀ s ∈ r, okR s) : Paired (ItA H) us (r.map Tk.st) := by
  induction h with
  | nil => exact .nil
  | cons x t ih => exact .cons ⟨x, ok _ List.mem_cons_self⟩ (ih fun s hs => ok s (List.mem_cons_of_mem _ hs))
theorem spDone.imp {vs : List V} {H : Hp} {Q Q' : VK} {E E' : XK} (h : spDone vs H Q E) (i : ∀ v H', Q v H' → Q' v H') : spDone vs H Q' E' := by
  obtain ⟨t, sl, l, s, n, sd, xs, b, h1, h2, h3, h4, h5, h6, h7, h8, h9, h10, h11, g⟩ := h
  exact ⟨t, sl, l, s, n, sd, xs, b, h1, h2, h3, h4, h5, h6, h7, h8, h9, h10, h11, fun r sl' l' vs' H' a1 a2 a3 a4 a5 a6 => i _ _ (g r sl' l' vs' H' a1 a2 a3 a4 a5 a6)⟩
theorem RAt.tag {H : Hp} {v : V} : ∀ {s : RS}, RAt H v s → okR s → ∃ a kd r, v = .ref a ∧ H a = some (.tup (.str kd :: r)) ∧ ¬ kd = "back"
  | .ld .none, ⟨a, e, h⟩, _ => ⟨a, _, _, e, h, by decide +kernel⟩
  | .ld (.go _), ⟨a, e, h⟩, _ => ⟨a, _, _, e, h, by decide +kernel⟩
  | .ei _ _, ⟨a, _, _, e, h, _⟩, _ => ⟨a, _, _, e, h, by decide +kernel⟩
  | .sm _, ⟨a, e, h⟩, ok => ⟨a, _, _, e, h, sm_ne ok (by decide +kernel)⟩
section
variable {P : Program} {w : World} {K : PySem.W.Frag} {mg : Str → Option Value} {base : Heap} {f fD : Addr} {fd dD : FuncData}
theorem ok_due (F : Fun K "_law_due" "_law_due" sDue f fd) (GD : FnOk P w K mg base CX0 2 fD dD ["_law_step", "_law_number", "_law_said", "_law_todo"] spDone) (kD : PySem.W.keepIn K (.ref fD) = true) (bD : Binds K dD ["_law_step", "_law_number", "_law_said", "_law_todo"] []) (mD : mg "_law_done" = some (.ref fD)) :
    FnOk P w K mg base CX0 3 f fd ["_law_rows", "_law_todo", "_law_number", "_law_count"] spDue := by
  refine F.ok scDue (fun vs H Q E h => ?_) (fun cdv A outer s H vs Q E hr h => ?_)
  · obtain ⟨ra, la, as, rows, v, ld, n, c, rfl, _⟩ := h
    rfl
  obtain ⟨ra, la, as, rows, v, ld, n, c, rfl, R, hok, hla, hld, hlt, hn, hc, g⟩ := h
  refine ⟨_, pss_cons (ps_set (i := 4) scDue.nd rfl (Or.inl rfl) (pe_lst pa_nil))
    (pss_cons (ps_while PassesOwn.never (pt_tru (K := K) (pv 1))
      (pss_cons (ps_set (i := 5) scDue.nd rfl (Or.inl rfl) (pe_bm0 PySem.F.plainAttrs_list PySem.F.slot_list_pop PySem.F.type_list_pop mt_pop (pv 1)))
      (pss_one (ps_if (pt_cmpR op_eq (pe_ix ix_tup (pv 5) pe_int (fun _ _ => rfl)) pe_str (nomark _))
        (pss_cons (ps_if (pt_cmpR op_eq (pv 3) pe_int (nomark _)) (pss_one (ps_ret (pe_tup (pa_cons pe_str pa_nil)))) pss_nil)
        (pss_cons (ps_set (i := 3) scDue.nd rfl (Or.inl rfl) (pe_op op_sub (pv 3) pe_int))
        (pss_one (ps_set (i := 1) scDue.nd rfl (Or.inl rfl) (pe_op op_cat (pv 1) (pe_rev (K := K) (pe_ix ix_list (pv 0) (pe_ix ix_tup (pv 5) pe_int (fun _ _ => rfl)) (fun _ _ => rfl)) (pe_un un_neg pe_int)))))))
        (pss_one (ps_if (pt_cmpR op_eq (pe_ix ix_tup (pv 5) pe_int (fun _ _ => rfl)) pe_str (nomark _))
          (pss_cons (ps_while PassesOwn.never (PW.pt (pw_and (pt_tru (K := K) (pv 1)) (pw_and1 (pt_cmpR op_ne (pe_ix ix_tup (pe_ix ix_list (pv 1) (pe_un un_neg pe_int) (fun _ _ => rfl)) pe_int (fun _ _ => rfl)) pe_str (nomark _)))))
            (pss_one (ps_expr (pe_bm0 PySem.F.plainAttrs_list PySem.F.slot_list_pop PySem.F.type_list_pop mt_pop (pv 1)))))
          (pss_cons (ps_if (pt_not (pt_tru (K := K) (pv 1))) (pss_one (ps_ret (pe_tup (pa_cons pe_str pa_nil)))) pss_nil)
          (pss_cons (ps_set (i := 6) scDue.nd rfl (Or.inl rfl) (pe_bm0 PySem.F.plainAttrs_list PySem.F.slot_list_pop PySem.F.type_list_pop mt_pop (pv 1)))
          (pss_cons (ps_set (i := 2) scDue.nd rfl (Or.inl rfl) (pe_ix ix_tup (pv 6) pe_int (fun _ _ => rfl)))
          (pss_cons (ps_set (i := 4) scDue.nd rfl (Or.inl rfl) (pe_ix ix_tup (pv 6) pe_int (fun _ _ => rfl)))
          (pss_one (ps_expr (pe_bm PySem.F.plainAttrs_list PySem.F.slot_list_append PySem.F.type_list_append mt_append (pv 1) (pa_cons (pe_ix ix_tup (pv 6) pe_int (fun _ _ => rfl)) pa_nil)))))))))
          (pss_one (ps_if (pt_cmpR op_ne (pe_ix ix_tup (pv 5) pe_int (fun _ _ => rfl)) pe_str (nomark _))
            (pss_one (ps_asg (pe_call GD hr rfl mD kD bD .nil pass0 (pa_cons (pv 5) (pa_cons (pv 2) (pa_cons (pv 4) (pa_cons (pv 1) pa_nil)))))
              (pg_tup (n := 3) rfl (pgs_cons (pg_name (i := 2) scDue.nd rfl (Or.inl rfl)) (pgs_cons (pg_name (i := 4) scDue.nd rfl (Or.inl rfl)) (pgs_cons (pg_name (i := 1) scDue.nd rfl (Or.inl rfl)) pgs_nil))))))
            pss_nil))))))))
    (pss_one (ps_ret (pe_tup (pa_cons pe_str (pa_cons (pv 4) pa_nil)))))), ?_⟩
  have z2 : 2 ≤ sizeLine := by rw [sizeLine_eq]; decide
  have z1 : 1 ≤ sizeLine := by rw [sizeLine_eq]; decide
  refine ⟨by show 0 ≤ sizeLine; exact Nat.zero_le _, fun sl hsl => ?_⟩
  have a1 := same_new hsl (.lst [])
  have nls : la ≠ sl := ne_of_none hla hsl
  have hm0 : mask1 H la la = none := mask1_none _ _
  have aM : Same (mask1 H la) (mask1 (upd H sl (.lst [])) la) := Same.mask1 (mask1_sub.trans a1) hm0
  have M0 : Mch (mask1 H la) (upd H sl (.lst [])) (mask1 (upd H sl (.lst [])) la) la sl [v] [.st (.ld ld)] n c [] 100 0 rows.length :=
    ⟨aM, mask1_sub, mask1_none _ _, a1 _ _ hla, .cons ⟨LdAt.keep (fun b xs e => aM _ _ (mask1_at e (ne_of e hla (by intro z; cases z)))) hld, trivial⟩ .nil, mask1_at upd_same (Ne.symm nls), hn, Nat.le_refl _, (fun n' sd' o h => by simp at h), Nat.le_refl _, by show 100 + 101 * (130 * c + 1) ≤ _; omega, by show 0 + (130 * c + 1) ≤ _; omega, fun i hi => by rw [List.mem_singleton.mp hi]; exact hlt⟩
  refine ⟨fun μ σ H2 => ∃ (M : Hp) (l sl : Addr) (vs : List V) (st : List Tk) (n' : Int) (k : Nat) (sd : List Int) (b d : Nat) (v5 v6 : Option V), σ = [some (.ref ra), some (.ref l), some (.int n'), some (.int (k : Int)), some (.ref sl), v5, v6] ∧ Mch (mask1 H la) H2 M l sl vs st n' k sd b d rows.length ∧ unw (rS rows) st (.ok n' k sd) = unw (rS rows) [.st (.ld ld)] (.ok n c []) ∧ μ = 130 * k + wt st,
    ⟨_, _, la, sl, [v], [.st (.ld ld)], n, c, [], 100, 0, none, none, rfl, M0, rfl, rfl⟩, ?_⟩
  clear M0 aM nls a1 hsl
  rintro μ σ H2 ⟨M, l, sl, vs, st, n1, k, sd, b, d, v5, v6, rfl, MC, hden, rfl⟩
  have hml := len_wt st
  have hvl := Paired.length MC.its
  refine ⟨_, rfl, !(vs.reverse).isEmpty, .inl ⟨_, SqL.of MC.lst, rfl⟩, ite2 (fun c1 => ?_) (fun c1 => ?_)⟩
  rotate_left
  · cases vs with
    | cons v vs => exact absurd (by rw [List.reverse_cons]; simp) c1
    | nil =>
    cases st with
    | cons i st => cases hvl
    | nil =>
      refine ⟨_, rfl, by show 2 ≤ sizeLine; exact z2, fun r hr' => ?_⟩
      have s3 := same_new hr' (.tup [.str "said", .ref sl])
      refine g r _ ((MC.s0.trans MC.s1).trans s3) ?_
      rw [← hden]
      exact ⟨sl, upd_same, s3 _ _ (MC.s1 _ _ MC.sd_), by have := MC.len; have := MC.hc; omega⟩
  cases vs with
  | nil => exact absurd c1 (by decide)
  | cons v vs =>
  cases st with
  | nil => cases hvl
  | cons i st =>
  have hfin : ∀ (M2 : Hp) (l2 sl2 : Addr) (vs2 : List V) (st2 : List Tk) (n2 : Int) (k2 : Nat) (sd2 : List Int) (b2 d2 : Nat) (v5' v6' : Option V) (H' : Hp), Mch (mask1 H la) H' M2 l2 sl2 vs2 st2 n2 k2 sd2 b2 d2 rows.length → unw (rS rows) st2 (.ok n2 k2 sd2) = unw (rS rows) [.st (.ld ld)] (.ok n c []) → 130 * k2 + wt st2 < 130 * k + wt (i :: st) →
      ∃ m', m' < 130 * k + wt (i :: st) ∧ ∃ (M : Hp) (l sl : Addr) (vs : List V) (st : List Tk) (n' : Int) (k : Nat) (sd : List Int) (b d : Nat) (v5 v6 : Option V), [some (V.ref ra), some (V.ref l2), some (V.int n2), some (V.int (k2 : Int)), some (V.ref sl2), v5', v6'] = [some (.ref ra), some (.ref l), some (.int n'), some (.int (k : Int)), some (.ref sl), v5, v6] ∧ Mch (mask1 H la) H' M l sl vs st n' k sd b d rows.length ∧ unw (rS rows) st (.ok n' k sd) = unw (rS rows) [.st (.ld ld)] (.ok n c []) ∧ m' = 130 * k + wt st :=
    fun M2 l2 sl2 vs2 st2 n2 k2 sd2 b2 d2 v5' v6' H' T2 e2 h2 => ⟨_, h2, M2, l2, sl2, vs2, st2, n2, k2, sd2, b2, d2, v5', v6', rfl, T2, e2, rfl⟩
  refine ⟨fun σ' H' => ∃ m', m' < 130 * k + wt (i :: st) ∧ ∃ (M : Hp) (l sl : Addr) (vs : List V) (st : List Tk) (n' : Int) (k : Nat) (sd : List Int) (b d : Nat) (v5 v6 : Option V), σ' = [some (.ref ra), some (.ref l), some (.int n'), some (.int (k : Int)), some (.ref sl), v5, v6] ∧ Mch (mask1 H la) H' M l sl vs st n' k sd b d rows.length ∧ unw (rS rows) st (.ok n' k sd) = unw (rS rows) [.st (.ld ld)] (.ok n c []) ∧ m' = 130 * k + wt st, fun σ' H' h => h, ?_⟩
  obtain ⟨r1, r2⟩ := rev_last v vs
  refine ⟨_, rfl, .inl ⟨rfl, _, SqL.of MC.lst⟩, l, _, _, rfl, rfl, MC.lst, r1, ?_⟩
  rw [r2]
  obtain ⟨hi, hle, T1⟩ := MC.pop
  have bke := MC.bk
  have hib := MC.hi
  have hcb := MC.hc
  rw [wt_cons] at hib hcb hfin
  clear hvl hml MC
  generalize upd H2 l (.lst vs.reverse) = H3 at *
  have hvl1 := Paired.length T1.its
  have hl1 : vs.length ≤ 50000 := by
    have a2 := len_wt st
    omega
  have hsl1 := T1.s1 _ _ T1.sd_
  have nsl : sl ≠ l := ne_of_none T1.sd_ T1.nl
  -- a step that is done
  have hdone : ∀ (s' : RS) (t : Addr), i = .st s' → v = .ref t → RAt H3 (.ref t) s' → okR s' → (∀ l, s' ≠ .ld l) → spDone [.ref t, .int n1, .ref sl, .ref l] H3 (fun u H4 => ∃ (r sl' l' : Addr) (H4' : Hp), u = .ref r ∧ H4 = H4' ∧ H4 r = some (.tup [.int (nxS n1 s'), .ref sl', .ref l']) ∧ ∃ m', m' < 130 * k + (w1 i + wt st) ∧ ∃ (M : Hp) (l sl : Addr) (vs : List V) (st : List Tk) (n' : Int) (k2 : Nat) (sd : List Int) (b d : Nat), l' = l ∧ sl' = sl ∧ nxS n1 s' = n' ∧ k = k2 ∧ Mch (mask1 H la) H4 M l sl vs st n' k2 sd b d rows.length ∧ unw (rS rows) st (.ok n' k2 sd) = unw (rS rows) [.st (.ld ld)] (.ok n c []) ∧ m' = 130 * k2 + wt st) (fun _ _ _ => False) := by
    intro s' t ei ev hs oks hnl
    subst ei
    rw [unw_done _ _ _ _ _ _ hnl] at hden
    have hb0 := T1.lo
    have hlen := T1.len
    refine ⟨t, sl, l, s', n1, sd, vs.reverse, b, rfl, hs, oks, hnl, hsl1, T1.lst, T1.ab, by omega, by omega, by rw [List.length_reverse]; exact hl1, nsl, fun r sl' l' vs' H4 s4 es4 er4 hl4 ns4 hp4 => ?_⟩
    have nl' : M l' = none := by
      rcases hl4 with ⟨e, _⟩ | ⟨e, _⟩
      · rw [e]; exact T1.nl
      · exact T1.s1.free e
    have sM : Same M (mask1 H4 l') := Same.mask1 (T1.s1.trans s4) nl'
    have el4 : H4 l' = some (.lst (vs' ++ vs).reverse) := by
      rcases hl4 with ⟨e, e'⟩ | ⟨_, e⟩
      · rw [e, e', s4 _ _ T1.lst]; rfl
      · rw [e, List.reverse_append]
    have hw : wt (pushS n1 sd s' ++ st) + 1 ≤ w1 (.st s') + wt st := by
      rw [wt_app]
      cases s' with
      | ld l => exact absurd rfl (hnl l)
      | ei x y => show 1 + (2 + 0) + wt st + 1 ≤ 4 + wt st; omega
      | sm s => show 0 + wt st + 1 ≤ 1 + wt st; omega
    have hab : Ab (b + 101) (nxS n1 s') := by
      cases s' with
      | ld l => exact absurd rfl (hnl l)
      | ei x y => exact T1.ab.mono (by omega)
      | sm s => exact Sm.nx_ab oks T1.ab hb0
    have hsdl : (sdS n1 sd s').length ≤ d + 1 := by
      cases s' with
      | ld l => exact absurd rfl (hnl l)
      | ei x y => show sd.length ≤ _; omega
      | sm s =>
        show (sd ++ s.out n1).length ≤ _
        rw [List.length_append]
        have := out_len s n1
        omega
    refine ⟨r, sl', l', H4, rfl, rfl, er4, _, ?_, mask1 H4 l', l', sl', vs' ++ vs, pushS n1 sd s' ++ st, _, k, sdS n1 sd s', b + 101, d + 1, rfl, rfl, rfl, rfl, ⟨T1.s0.trans sM, mask1_sub, mask1_none _ _, el4, paired_app hp4 (its_same sM T1.its), mask1_at es4 ns4, hab, hsdl, ?_, by omega, by omega, by omega, ?_⟩, hden, rfl⟩
    · omega
    · intro n' sd' o h
      rcases List.mem_append.mp h with h | h
      · cases s' with
        | ld l => exact absurd rfl (hnl l)
        | sm s => exact nomatch h
        | ei x y =>
          rcases List.mem_cons.mp h with h | h
          · cases h
          · cases List.mem_singleton.mp h
            exact ⟨T1.ab.mono (by omega), by omega⟩
      · obtain ⟨h1, h2⟩ := T1.bk n' sd' o h
        exact ⟨h1.mono (by omega), by omega⟩
    · intro j hj
      rcases List.mem_append.mp hj with hj | hj
      · cases s' with
        | ld l => exact absurd rfl (hnl l)
        | sm s => exact nomatch hj
        | ei x y =>
          rcases List.mem_cons.mp hj with hj | hj
          · rw [hj]; exact hle.1
          · rw [List.mem_singleton.mp hj]; exact hle.2
      · exact T1.led j hj
  cases i with
  | back n' sd' o =>
    obtain ⟨a, sb, bb, rfl, ha, hb, _⟩ := hi
    have haH := T1.s1 _ _ ha
    refine ⟨_, rfl, a, _, _, _, rfl, rfl, SqT.of haH, at0 _ _, rfl, _, rfl, skipS (by decide +kernel) ?_⟩
    refine ⟨_, rfl, a, _, _, _, rfl, rfl, SqT.of haH, at0 _ _, rfl, _, rfl, skipS (by decide +kernel) ?_⟩
    refine ⟨_, rfl, a, _, _, _, rfl, rfl, SqT.of haH, at0 _ _, rfl, _, rfl, ?_⟩
    rw [decide_eq_true rfl]
    refine iteF ?_
    exact hfin M l sl vs st n1 k sd b d _ _ H3 T1 hden (by show _ < 130 * k + (2 + wt st); omega)
  | st s' =>
  obtain ⟨hra, oks⟩ := hi
  have after : ∀ (t : Addr), v = .ref t → RAt H3 (.ref t) s' → (∀ l, s' ≠ .ld l) → ∀ (Q' : VK) (E' : XK), (∀ (r sl' l' : Addr) (n' : Int) (H4 : Hp), H4 r = some (.tup [.int n', .ref sl', .ref l']) → (∃ m', m' < 130 * k + (w1 (Tk.st s') + wt st) ∧ ∃ (M : Hp) (l sl : Addr) (vs : List V) (st : List Tk) (n2 : Int) (k2 : Nat) (sd : List Int) (b d : Nat) (u5 u6 : Option V), [some (V.ref ra), some (V.ref l'), some (V.int n'), some (V.int (k : Int)), some (V.ref sl'), some (V.ref t), v6] = [some (.ref ra), some (.ref l), some (.int n2), some (.int (k2 : Int)), some (.ref sl), u5, u6] ∧ Mch (mask1 H la) H4 M l sl vs st n2 k2 sd b d rows.length ∧ unw (rS rows) st (.ok n2 k2 sd) = unw (rS rows) [.st (.ld ld)] (.ok n c []) ∧ m' = 130 * k2 + wt st) → Q' (.ref r) H4) → spDone [.ref t, .int n1, .ref sl, .ref l] H3 Q' E' := by
    intro t ev hs hnl Q' E' hQ
    refine (hdone s' t rfl ev hs oks hnl).imp fun u H4 h => ?_
    obtain ⟨r, sl', l', H4', rfl, rfl, er, m', hm, M2, l2, sl2, vs2, st2, n2, k2, sd2, b2, d2, rfl, rfl, rfl, rfl, T2, e2, rfl⟩ := h
    exact hQ r _ _ _ _ er ⟨_, hm, M2, _, _, vs2, st2, _, _, sd2, b2, d2, _, v6, rfl, T2, e2, rfl⟩
  cases s' with
  | sm s' =>
    obtain ⟨a, rfl, ha⟩ := hra
    have haH := T1.s1 _ _ ha
    refine ⟨_, rfl, a, _, _, _, rfl, rfl, SqT.of haH, at0 _ _, rfl, _, rfl, skipS (sm_ne oks (by decide +kernel)) ?_⟩
    refine ⟨_, rfl, a, _, _, _, rfl, rfl, SqT.of haH, at0 _ _, rfl, _, rfl, skipS (sm_ne oks (by decide +kernel)) ?_⟩
    refine ⟨_, rfl, a, _, _, _, rfl, rfl, SqT.of haH, at0 _ _, rfl, _, rfl, ?_⟩
    have hnb : ¬ s'.pr.1 = "back" := sm_ne oks (by decide +kernel)
    rw [decide_eq_false (fun z => hnb (V.str.inj z))]
    refine iteT ?_
    refine ⟨_, rfl, _, rfl, _, rfl, _, rfl, ?_⟩
    dsimp only [tNil, List.append_nil, List.cons_append, List.nil_append]
    refine after a rfl ⟨a, rfl, haH⟩ (fun l z => nomatch z) _ _ fun r sl' l' n' H4 er h => ?_
    exact ⟨r, _, rfl, SqT.of er, rfl, _, _, rfl, _, _, rfl, _, _, rfl, rfl, h⟩
  | ei x y =>
    obtain ⟨a, u1, u2, rfl, ha, hx, hy⟩ := hra
    have haH := T1.s1 _ _ ha
    refine ⟨_, rfl, a, _, _, _, rfl, rfl, SqT.of haH, at0 _ _, rfl, _, rfl, skipS (by decide +kernel) ?_⟩
    refine ⟨_, rfl, a, _, _, _, rfl, rfl, SqT.of haH, at0 _ _, rfl, _, rfl, skipS (by decide +kernel) ?_⟩
    refine ⟨_, rfl, a, _, _, _, rfl, rfl, SqT.of haH, at0 _ _, rfl, _, rfl, ?_⟩
    rw [decide_eq_false (fun z => absurd (V.str.inj z) (by decide +kernel))]
    refine iteT ?_
    refine ⟨_, rfl, _, rfl, _, rfl, _, rfl, ?_⟩
    dsimp only [tNil, List.append_nil, List.cons_append, List.nil_append]
    refine after a rfl ⟨a, u1, u2, rfl, haH, LdAt.keep T1.s1.keepT hx, LdAt.keep T1.s1.keepT hy⟩ (fun l z => nomatch z) _ _ fun r sl' l' n' H4 er h => ?_
    exact ⟨r, _, rfl, SqT.of er, rfl, _, _, rfl, _, _, rfl, _, _, rfl, rfl, h⟩
  | ld ll =>
  have w1l : w1 (Tk.st (.ld ll)) = 1 := rfl
  rw [w1l] at hib hcb hfin
  cases ll with
  | go p' =>
    obtain ⟨a, rfl, ha⟩ := hra
    have haH := T1.s1 _ _ ha
    have hp' : p' < rows.length := hle p' (List.mem_singleton.mpr rfl)
    have hpa : p' < as.length := by rw [R.len]; exact hp'
    refine ⟨_, rfl, a, _, _, _, rfl, rfl, SqT.of haH, at0 _ _, rfl, _, rfl, takeS ?_⟩
    refine ⟨_, rfl, rfl, _, rfl, ite2 (fun ck => ?_) (fun ck => ?_)⟩
    · have hk0 : (k : Int) = 0 := V.int.inj (of_decide_eq_true ck)
      obtain rfl : k = 0 := by omega
      refine ⟨by show 1 ≤ sizeLine; exact z1, fun r hr' => ?_⟩
      have s3 := same_new hr' (.tup [.str "spent"])
      refine g r _ ((T1.s0.trans T1.s1).trans s3) ?_
      rw [← hden, unw_go0]
      exact upd_same
    · obtain ⟨k', rfl⟩ : ∃ k', k = k' + 1 := by
        cases k with
        | zero => exact absurd (decide_eq_true rfl) ck
        | succ k' => exact ⟨k', rfl⟩
      rw [unw_go] at hden
      have hri := List.getElem?_eq_getElem hp'
      have hai := List.getElem?_eq_getElem hpa
      obtain ⟨us, hus, hst⟩ := R.row p' _ _ hai hri
      obtain ⟨hrok, hr30⟩ := hok _ (List.getElem_mem hp')
      have hgd : rows.getD p' [] = rows[p'] := by rw [List.getD_eq_getElem?_getD, hri]; rfl
      rw [hgd] at hden
      have s03 := T1.s0.trans T1.s1
      have husl := Paired.length hst
      have ek : ((k' + 1 : Nat) : Int) - 1 = (k' : Int) := by omega
      refine ⟨_, rfl, _, _, rfl, rfl, ?_⟩
      refine ⟨_, rfl, _, rfl, _, rfl, a, _, _, _, rfl, rfl, SqT.of haH, at1 _ _ _, ra, _, _, _, rfl, rfl, SqL.of (s03 _ _ R.lst), atI_nat (v := .ref as[p']) (by rw [List.getElem?_map, hai]; rfl), as[p'], us, rfl, SqL.of (s03 _ _ hus), fun rr hrr => ?_⟩
      have s1 := same_new hrr (.lst us.reverse)
      refine ⟨l, rr, _, _, rfl, rfl, s1 _ _ T1.lst, upd_same, by rw [List.length_reverse, List.length_reverse, sizeLine_eq]; omega, fun l2 hl2 => ?_⟩
      have s2 := same_new hl2 (.lst (vs.reverse ++ us.reverse))
      have hwr := wt_row rows[p']
      have z := hfin M l2 sl (us ++ vs) (rows[p'].map Tk.st ++ st) n1 k' sd b d (some (.ref a)) v6 _ ⟨T1.s0, T1.s1.trans (s1.trans s2), (T1.s1.trans s1).free hl2, by rw [upd_same, List.reverse_append], paired_app (sts_its (keepRs hst T1.s0.keepT) fun s hs => (hrok s hs).1) T1.its, T1.sd_, T1.ab, T1.len, ?_, T1.lo, by rw [wt_app]; omega, by rw [wt_app]; omega, ?_⟩ hden ?_
      · rw [← ek] at z
        exact z
      · intro n' sd' o h
        rcases List.mem_append.mp h with h | h
        · obtain ⟨s', _, e⟩ := List.mem_map.mp h
          cases e
        · exact T1.bk n' sd' o h
      · intro j hj
        rcases List.mem_append.mp hj with hj | hj
        · obtain ⟨s', hs', rfl⟩ := List.mem_map.mp hj
          exact (hrok s' hs').2
        · exact T1.led j hj
      · rw [wt_app]
        omega
  | none =>
    obtain ⟨a, rfl, ha⟩ := hra
    have haH := T1.s1 _ _ ha
    have hden : unw (rS rows) st (.una k sd) = unw (rS rows) [.st (.ld ld)] (.ok n c []) := hden
    refine ⟨_, rfl, a, _, _, _, rfl, rfl, SqT.of haH, at0 _ _, rfl, _, rfl, skipS (by decide +kernel) ?_⟩
    refine ⟨_, rfl, a, _, _, _, rfl, rfl, SqT.of haH, at0 _ _, rfl, _, rfl, takeS ?_⟩
    refine ⟨fun μ2 σ2 H4 => ∃ (vs1 : List V) (st1 : List Tk), σ2 = [some (.ref ra), some (.ref l), some (.int n1), some (.int (k : Int)), some (.ref sl), some (.ref a), v6] ∧ Mch (mask1 H la) H4 M l sl vs1 st1 n1 k sd b d rows.length ∧ unw (rS rows) st1 (.una k sd) = unw (rS rows) [.st (.ld ld)] (.ok n c []) ∧ wt st1 ≤ wt st ∧ μ2 = st1.length, ⟨_, vs, st, rfl, T1, hden, Nat.le_refl _, rfl⟩, ?_⟩
    rintro μ2 σ2 H4 ⟨vs1, st1, rfl, T4, hu4, hw4, rfl⟩
    have hvl4 := Paired.length T4.its
    have hl4 : vs1.length ≤ 50000 := by
      have a2 := len_wt st1
      omega
    refine ⟨_, rfl, !(vs1.reverse).isEmpty, .inl ⟨_, SqL.of T4.lst, rfl⟩, ite2 (fun c4 => ?_) (fun c4 => ?_)⟩
    rotate_left
    · cases vs1 with
      | cons v1 vs1 => exact absurd (by rw [List.reverse_cons]; simp) c4
      | nil =>
      cases st1 with
      | cons i1 st1 => cases hvl4
      | nil =>
        refine iteF ?_
        refine ⟨_, rfl, !((([] : List V)).reverse).isEmpty, .inl ⟨_, SqL.of T4.lst, rfl⟩, iteT ?_⟩
        refine ⟨by show 1 ≤ sizeLine; exact z1, fun r hr' => ?_⟩
        have s3 := same_new hr' (.tup [.str "unanswered"])
        refine g r _ ((T4.s0.trans T4.s1).trans s3) ?_
        rw [← hu4]
        exact upd_same
    cases vs1 with
    | nil => exact absurd c4 (by decide)
    | cons v1 vs1 =>
    cases st1 with
    | nil => cases hvl4
    | cons i1 st1 =>
    obtain ⟨r3, r4⟩ := rev_last v1 vs1
    obtain ⟨hv1, hle1, T5⟩ := T4.pop
    rw [wt_cons] at hw4
    cases i1 with
    | st s1 =>
      obtain ⟨hr1, ok1⟩ := hv1
      obtain ⟨a1, kd, rr, rfl, ha1, hkd⟩ := RAt.tag hr1 ok1
      refine ⟨_, rfl, _, rfl, l, _, _, _, rfl, rfl, SqL.of T4.lst, rev_at _ _, a1, _, _, _, rfl, rfl, SqT.of (T4.s1 _ _ ha1), at0 _ _, rfl, _, rfl, ?_⟩
      rw [decide_eq_false (fun z => hkd (V.str.inj z))]
      refine iteT ?_
      refine ⟨fun σ' H' => ∃ m', m' < (Tk.st s1 :: st1).length ∧ ∃ (vs1 : List V) (st1 : List Tk), σ' = [some (.ref ra), some (.ref l), some (.int n1), some (.int (k : Int)), some (.ref sl), some (.ref a), v6] ∧ Mch (mask1 H la) H' M l sl vs1 st1 n1 k sd b d rows.length ∧ unw (rS rows) st1 (.una k sd) = unw (rS rows) [.st (.ld ld)] (.ok n c []) ∧ wt st1 ≤ wt st ∧ m' = st1.length, fun σ' H' h => h, ?_⟩
      refine ⟨_, rfl, .inl ⟨rfl, _, SqL.of T4.lst⟩, l, _, _, rfl, rfl, T4.lst, r3, ?_⟩
      rw [r4]
      exact ⟨_, Nat.lt_succ_self _, vs1, st1, rfl, T5, hu4, by omega, rfl⟩
    | back nb sdb lb =>
      obtain ⟨a1, sb, b1, rfl, ha1, hsb, hb1⟩ := hv1
      have ha4 := T4.s1 _ _ ha1
      obtain ⟨q1, q2⟩ := T4.bk nb sdb lb List.mem_cons_self
      refine ⟨_, rfl, _, rfl, l, _, _, _, rfl, rfl, SqL.of T4.lst, rev_at _ _, a1, _, _, _, rfl, rfl, SqT.of ha4, at0 _ _, rfl, _, rfl, ?_⟩
      rw [decide_eq_true rfl]
      refine iteF ?_
      refine ⟨_, rfl, !((V.ref a1 :: vs1).reverse).isEmpty, .inl ⟨_, SqL.of T4.lst, rfl⟩, ?_⟩
      have hne : (!((V.ref a1 :: vs1).reverse).isEmpty) = true := by rw [List.reverse_cons]; simp
      rw [hne]
      refine iteF ?_
      refine ⟨_, rfl, .inl ⟨rfl, _, SqL.of T4.lst⟩, l, _, _, rfl, rfl, T4.lst, r3, ?_⟩
      rw [r4]
      have ha5 := T5.s1 _ _ ha1
      have T5l := T5.lst
      generalize upd H4 l (.lst vs1.reverse) = H5 at *
      refine ⟨_, rfl, a1, _, _, _, rfl, rfl, SqT.of ha5, at1 _ _ _, ?_⟩
      refine ⟨_, rfl, a1, _, _, _, rfl, rfl, SqT.of ha5, at2 _ _ _ _, ?_⟩
      refine ⟨_, rfl, .inl ⟨rfl, _, SqL.of T5l⟩, _, rfl, a1, _, _, _, rfl, rfl, SqT.of ha5, at3 _ _ _ _ _, l, _, _, rfl, rfl, T5l, by rw [List.length_reverse, sizeLine_eq]; rw [List.length_cons] at hl4; omega, ?_⟩
      have w1b : w1 (Tk.back nb sdb lb) = 2 := rfl
      rw [w1b] at hw4
      refine hfin M l sb (b1 :: vs1) (.st (.ld lb) :: st1) nb k sdb b d _ _ _ ⟨T5.s0, fun e o h => by rw [upd_ne (ne_of_none h T5.nl)]; exact T5.s1 _ _ h, T5.nl, by rw [upd_same, List.reverse_cons], .cons ⟨hb1, trivial⟩ T5.its, hsb, q1, q2, fun n' sd' o h => ?_, T5.lo, by rw [wt_cons]; show b + 101 * (130 * k + (1 + wt st1)) ≤ _; omega, by rw [wt_cons]; show d + (130 * k + (1 + wt st1)) ≤ _; omega, fun j hj => ?_⟩ hu4 (by show 130 * k + (1 + wt st1) < _; omega)
      · rcases List.mem_cons.mp h with h | h
        · cases h
        · exact T5.bk n' sd' o h
      · rcases List.mem_cons.mp hj with rfl | hj
        · exact hle1
        · exact T5.led j hj
end
end Bk
namespace L2
open PySem PySem.Spec PyProof.Rows PySem.SeqAt
open AutoSeq1 (wpAny_loadPart')
open MeetsSeq MeetsSeq2 MeetsSeq3
def EqP (P : Program) (w : World) (A : Around) (s : Shared) (y x : Value) : Prop := ∀ (E : Value → Shared → Prop) (Q : Bool → Shared → Prop), Q true s → wpAny (model P w) A (eqBool y x) Q E s
theorem eqP_of {A : Around} {s : Shared} {y x : Value} (h : EqAt A s y x true) (P : Program) (w : World) : EqP P w A s y x := fun E Q q => h P w E Q q
def lObj (dd : Option Addr) (its : Array Value) (n : Nat) (sl : Array (Option Value)) : Obj := { cls := .type "list", dict := dd, data := .seq its n, slots := sl }
theorem neP_loop {P : Program} {w : World} {l b : Addr} {xs ys : Array Value} {n m : Nat} {d1 d2 : Option Addr} {s1 s2 : Array (Option Value)} (hz : xs.size = ys.size) (k : Nat) :
    ∀ i : Nat, xs.size - i = k → MeetsIn P w (Builtin.«list.__eq__.loop» ⟨[.ref l, .ref b, rawInt i, rawInt 3], []⟩)
      (fun A R s => s.heap.get? l = some (lObj d1 xs n s1) ∧ s.heap.get? b = some (lObj d2 ys m s2) ∧ (∀ j (h1 : j < xs.size) (h2 : j < ys.size), EqP P w A.in1 s xs[j] ys[j]) ∧ R (.ok (.ret (.bool false))) s) := by
  unfold lObj
  induction k with
  | zero =>
    intro i hk A R s h
    obtain ⟨hp, g, d, tk, os⟩ := s
    obtain ⟨gl, gb, he, h⟩ := h
    wp_walk using wpAny_loadPart' gl, wpAny_loadPart' gb
    have i1 : xs[((i : Nat) : Int).toNat]? = none := by simp; omega
    have i2 : ys[((i : Nat) : Int).toNat]? = none := by simp; omega
    rw [i1, i2]
    wp_walk using wpAny_loadPart' gl, wpAny_loadPart' gb
    show R (.ok (.ret (.bool (xs.size != ys.size)))) _
    rw [hz]
    simpa using h
  | succ k ih =>
    intro i hk A R s h
    obtain ⟨hp, g, d, tk, os⟩ := s
    obtain ⟨gl, gb, he, h⟩ := h
    wp_walk using wpAny_loadPart' gl, wpAny_loadPart' gb
    have x1 : i < xs.size := by omega
    have x2 : i < ys.size := by omega
    have i1 : xs[((i : Nat) : Int).toNat]? = some xs[i] := by simp [x1]
    have i2 : ys[((i : Nat) : Int).toNat]? = some ys[i] := by simp [x2]
    have cc : ((i : Int) + 1) = ((i + 1 : Nat) : Int) := by push_cast; rfl
    rw [i1, i2]
    refine wpAny_bind (he i x1 x2 _ _ ?_)
    wp_walk
    rw [cc]
    exact ⟨plainId_quiet plain_eq_loop _, codeAny_builtin entry_eq_loop (by
      rw [Around.under_plainId plain_eq_loop _]
      exact ih (i + 1) (by omega) A R _ ⟨gl, gb, he, h⟩)⟩
theorem neP_list {P : Program} {w : World} {l b : Addr} {xs ys : Array Value} {n m : Nat} {d1 d2 : Option Addr} {s1 s2 : Array (Option Value)} (hz : xs.size = ys.size) :
    MeetsIn P w (Builtin.«list.__ne__» ⟨[.ref l, .ref b], []⟩)
      (fun A R s => s.heap.get? l = some (lObj d1 xs n s1) ∧ s.heap.get? b = some (lObj d2 ys m s2) ∧ (∀ j (h1 : j < xs.size) (h2 : j < ys.size), EqP P w A.in1 s xs[j] ys[j]) ∧ R (.ok (.ret (.bool false))) s) := by
  intro A R s h
  obtain ⟨hp, g, d, tk, os⟩ := s
  obtain ⟨gl, gb, he, h⟩ := h
  unfold lObj at gl gb
  have f3 := AutoSeq1.sub_list_list
  have hne : ¬ (xs.size != ys.size) = true := by simp [hz]
  wp_walk using wpAny_loadPart' gl, wpAny_loadPart' gb
  exact ⟨plainId_quiet plain_eq_loop _, codeAny_builtin entry_eq_loop (by
    rw [Around.under_plainId plain_eq_loop _]
    exact neP_loop hz _ 0 rfl A R _ ⟨gl, gb, he, h⟩)⟩
theorem isl_obj {h : Heap} {l : Addr} {xs : Array Value} (hl : h.IsList l xs) : ∃ dd n sl, h.get? l = some (lObj dd xs n sl) := by
  obtain ⟨⟨cls, dd, data, sl⟩, ho, hc, n, hd⟩ := hl
  simp only at hc hd
  subst hc hd
  exact ⟨dd, n, sl, ho⟩
theorem eqP_refs {P : Program} {w : World} {A : Around} {s : Shared} {l b : Addr} (hn : l ≠ b) (h : ∀ (E : Value → Shared → Prop) (Q : Value → Shared → Prop), Q (.bool true) s → wpAny (model P w) A (richCompare .Eq (.ref l) (.ref b)) Q E s) : EqP P w A s (.ref l) (.ref b) := fun E Q q => by
  unfold eqBool
  refine wpAny_holding (wpAny_ite_split (fun z => absurd (Value.ref.inj (eq_of_beq z)) hn) fun _ => ?_)
  exact wpAny_bind (h E _ (wpAny_truthy_bool q))
theorem hits_all {κ : Type} [DecidableEq κ] {A : Around} {s : Shared} {kb : List (κ × Value)} : ∀ {ka : List (κ × Value)}, (∀ kv ∈ ka, ∃ y, valueAt kb kv.1 = some y ∧ EqAt A s kv.2 y true) → PySem.W.KeqHits A s kb ka true
  | [], _ => .nil
  | (k, v) :: r, h => by
    obtain ⟨y, hy, e⟩ := h (k, v) List.mem_cons_self
    exact PySem.W.KeqHits.hit hy e (hits_all fun kv hk => h kv (List.mem_cons_of_mem _ hk))
theorem valueAt_mem {κ : Type} [DecidableEq κ] : ∀ {vs : List (κ × Value)}, (vs.map (·.1)).Nodup → ∀ {kv : κ × Value}, kv ∈ vs → valueAt vs kv.1 = some kv.2
  | [], _, _, h => nomatch h
  | p :: r, nd, kv, h => by
    rw [List.map_cons, List.nodup_cons] at nd
    unfold valueAt
    rcases List.mem_cons.mp h with rfl | h
    · rw [List.find?_cons, decide_eq_true rfl]
      rfl
    · have hne : ¬ p.1 = kv.1 := fun z => nd.1 (by rw [z]; exact List.mem_map.mpr ⟨kv, h, rfl⟩)
      rw [List.find?_cons, decide_eq_false hne]
      exact valueAt_mem nd.2 h
theorem valV_mem {κ : Type} [DecidableEq κ] {kvs : List (κ × V)} {k : κ} {x : V} (h : valV kvs k = some x) : ∃ kv ∈ kvs, kv.1 = k ∧ kv.2 = x := by
  unfold valV at h
  cases f : kvs.find? (fun kv => decide (kv.1 = k)) with
  | none => rw [f] at h; cases h
  | some a =>
    rw [f] at h
    exact ⟨a, List.mem_of_find?_eq_some f, by simpa using List.find?_some f, Option.some.inj h⟩
theorem eqP_dK {P : Program} {w : World} {A : Around} {H : Hp} {s : Shared} {d1 d2 : Addr} {kvs : List (Key × V)} (ok : HOk P w H s.heap) (e1 : H d1 = some (.dK kvs)) (e2 : H d2 = some (.dK kvs)) (hi : ∀ kv ∈ kvs, ∃ i, kv.2 = V.int i) (hu : A.units < cLine) : EqP P w A s (.ref d1) (.ref d2) := by
  by_cases hd : d1 = d2
  · subst hd
    exact eqP_of (EqAt.same _) P w
  obtain ⟨_, z1, vs1, r1, f1⟩ := dk_of ok e1
  obtain ⟨_, z2, vs2, r2, f2⟩ := dk_of ok e2
  have nd : (vs1.map (·.1)).Nodup := let ⟨_, _, _, _, _, _, _, _, n⟩ := id f1; n
  have hl : vs1.length = vs2.length := by rw [← Paired.length r1, ← Paired.length r2]
  refine eqP_refs hd fun E Q q => PySem.W.keq_eq (r := true) z1 z2 f1 f2 hu (fun _ => hits_all fun kv hk => ?_) ?_
  · have a1 := r1.val kv.1
    have a2 := r2.val kv.1
    rw [valueAt_mem nd hk] at a1
    cases hx : valV kvs kv.1 with
    | none => rw [hx] at a1; exact a1.elim
    | some x =>
      rw [hx] at a1 a2
      obtain ⟨p, hp, _, rfl⟩ := valV_mem hx
      obtain ⟨i, hi⟩ := hi p hp
      rw [hi] at a1 a2
      cases hy : valueAt vs2 kv.1 with
      | none => rw [hy] at a2; exact a2.elim
      | some y =>
        rw [hy] at a2
        obtain ⟨t, ht⟩ := a1
        obtain ⟨u, rfl⟩ := a2
        refine ⟨_, rfl, ?_⟩
        rw [ht]
        have := EqAt.int_int (A := A.in1) (s := s) i t i u
        rw [beq_self_eq_true] at this
        exact this
  · rw [hl, beq_self_eq_true]
    exact q
def rNeH (K : PySem.W.Frag) : R2 := fun x y H Q => ∃ (a b d1 d2 l1 l2 : Addr) (kvs : List (Key × V)) (d : PyData), x = .ref a ∧ y = .ref b ∧ H a = some (.lst [.ref d1, .ref l1]) ∧ H b = some (.lst [.ref d2, .ref l2]) ∧ H d1 = some (.dK kvs) ∧ H d2 = some (.dK kvs) ∧ (∀ kv ∈ kvs, ∃ i, kv.2 = V.int i) ∧ DV K H (.ref l1) d ∧ DV K H (.ref l2) d ∧ shaped d = true ∧ Q (.bl false) H
theorem op_neH {X : Cx} (hu : X.A.units + 80 < cLine) : OpR X (compareOp .NotEq) (rNeH X.K) := by
  intro pins s σ H x y v u Q I rx ry h
  obtain ⟨a, b, d1, d2, l1, l2, kvs, d, rfl, rfl, ea, eb, e1, e2, hi, h1, h2, sh, q⟩ := h
  cases rx
  cases ry
  obtain ⟨ia, ra, pa, _⟩ := I.list (SqL.of ea)
  obtain ⟨ib, rb, pb, _⟩ := I.list (SqL.of eb)
  obtain ⟨x1, x2, rfl, q1, q2⟩ := vals2 ra
  obtain ⟨y1, y2, rfl, q3, q4⟩ := vals2 rb
  obtain ⟨r1, w1⟩ := h1.reads I q2
  obtain ⟨r2, w2⟩ := h2.reads I q4
  cases q1
  cases q3
  obtain ⟨dd1, n1, s1, g1⟩ := isl_obj pa.isList
  obtain ⟨dd2, n2, s2, g2⟩ := isl_obj pb.isList
  have hl : EqAt X.A.in1 s x2 y2 true := by
    have := eqAt_reads d d X.A.in1 s x2 y2 _ _ w1 w2 (canLay_of_shaped sh) (canLay_of_shaped sh) (room_of_shaped sh (by show X.A.units + 1 + 64 < cLine; omega))
    rwa [eqv_refl d (canLay_of_shaped sh)] at this
  refine wpAny_richCompare_same_room (op := .NotEq) ⟨_, g1, rfl⟩ ⟨_, g2, rfl⟩ PySem.F.slot_list_ne (call_meetsIn PySem.F.slot_list_ne ⟨_, g1, rfl⟩ PySem.F.entry_list_ne (PySem.F.args_list_ne_2 _ _) (neP_list (xs := #[.ref d1, x2]) (ys := #[.ref d2, y2]) rfl) ⟨g1, g2, fun j j1 j2 => ?_, (fun z => nomatch z), .bl false, H, I, rfl, q⟩) (by omega)
  have hj : j = 0 ∨ j = 1 := by
    have : j < 2 := j1
    omega
  rcases hj with rfl | rfl
  · exact eqP_dK I.hok e1 e2 hi (by show X.A.units + 1 < cLine; omega)
  · exact eqP_of hl _ _
theorem call_dict_copy {X : Cx} : CallR X (.type "dict") (fun xs H Q => ∃ a kvs, xs = [.ref a] ∧ H a = some (.dK kvs) ∧ ∀ p, H p = none → Q (.ref p) (upd H p (.dK kvs))) := by
  intro pins s σ H xs us Q I r h
  obtain ⟨a, kvs, rfl, e, q⟩ := h
  obtain ⟨u, rfl, ru⟩ := vals1 r
  cases ru
  exact d_copyOf I (Rd.of e) fun p s' hp J => ⟨.ref p, _, J, rfl, q p hp⟩
end L2
namespace Bk
open PySem L2 Rk
def sVs (r : List Str) : List V := r.map V.str
theorem sVs_len (r : List Str) : (sVs r).length = r.length := List.length_map _
def oneT (b : Bool) (x : Str) : List Str := if b = true then [x] else []
def toldX (bM bC bU bS : Bool) : List Str := oneT bM "number" ++ (oneT bC "count" ++ (oneT bU "unanswered" ++ oneT bS "spent"))
structure RefX (K : PySem.W.Frag) (CM CC CU CS C : Addr) (bM bC bU bS : Bool) : Prop where
  x : XCls K C
  kM : PySem.W.kitOne K (.ref C) (.ref CM) = some bM
  kC : PySem.W.kitOne K (.ref C) (.ref CC) = some bC
  kU : PySem.W.kitOne K (.ref C) (.ref CU) = some bU
  kS : PySem.W.kitOne K (.ref C) (.ref CS) = some bS
def spRefusal (K : PySem.W.Frag) (CM CC CU CS : Addr) : Sp := fun vs H Q _ => ∃ (x C : Addr) (dx : Option Addr) (bM bC bU bS : Bool), vs = [.ref x] ∧ H x = some (ExO x C dx) ∧ (dx = none ∨ ∃ D fs, dx = some D ∧ H D = some (.xd fs)) ∧ RefX K CM CC CU CS C bM bC bU bS ∧
  ∀ p H', Same H H' → H' p = some (.tup (sVs (toldX bM bC bU bS))) → Q (.ref p) H'
def ToldG (H : Hp) (x : Addr) (Q : VK) (n : Nat) (rest : List Str) (tt : TS) : Prop := ∀ (p : Addr) (H' : Hp) (l : List Str), H p = none → l.length + n ≤ 20 → Same H H' → H' p = some (.lst (sVs l)) → (∀ r H'', Same H H'' → H'' r = some (.tup (sVs (l ++ rest))) → Q (.ref r) H'') →
  tt { nx := fun _ H' => Q .non H', rt := Q } [some (.ref x), some (.ref p)] H'
theorem told_same {H H' : Hp} {p : Addr} (s : Same H H') (hp : H p = none) (o : HO) : Same H (upd H' p o) := fun b u e => by rw [upd_ne (ne_of_none e hp)]; exact s _ _ e
section
variable {P : Program} {w : World} {K : PySem.W.Frag} {mg : Str → Option Value} {base : Heap} {f : Addr} {fd : FuncData} {CM CC CU CS : Addr}
theorem scRefusal : FnScope ["_law_error", "_law_told_here"] ["_law_error"] (defScope sRefusal) := ⟨rfl, rfl, rfl, by decide +kernel, rfl, by decide +kernel, by decide +kernel⟩
theorem ok_refusal (F : Fun K "_law_refusal" "_law_refusal" sRefusal f fd) (T : Txt mg) (mM : mg "BadNumber" = some (.ref CM)) (mC : mg "BadCount" = some (.ref CC)) (mU : mg "Unanswered" = some (.ref CU)) (mS : mg "Spent" = some (.ref CS)) :
    FnOkN P w K mg base 1 f fd ["_law_error"] (spRefusal K CM CC CU CS) := by
  refine F.okN scRefusal (fun vs H Q E h => ?_) (fun cdv A outer s H vs Q E hr h => ?_)
  · obtain ⟨x, C, dx, bM, bC, bU, bS, rfl, _⟩ := h
    rfl
  obtain ⟨x, C, dx, bM, bC, bU, bS, rfl, hx, hd, R, q⟩ := h
  have hd' : ∀ {H' : Hp}, Same H H' → (dx = none ∨ ∃ D fs, dx = some D ∧ H' D = some (.xd fs)) := fun {H'} s => by
    rcases hd with e | ⟨D, fs, e, ed⟩
    · exact .inl e
    · exact .inr ⟨D, fs, e, s _ _ ed⟩
  obtain ⟨t5, h5, g5⟩ : ∃ t, PSs (cxOf CX0 P w K mg base ["_law_error", "_law_told_here"] "_law_refusal" (defScope sRefusal) f cdv A outer s H E).stirred.nox ((defBody sRefusal).drop 5) t ∧ ToldG H x Q 1 [] t := by
    refine ⟨_, pss_one (ps_ret (pe_callTy call_tuple_of rfl T.tup PyProof.Rows.boot_tuple (pa_cons (pv 1) pa_nil))), fun p H' l hp hl s e k => ⟨_, rfl, p, _, rfl, .inl ⟨SqL.of e, fun r hr => ?_⟩⟩⟩
    exact k r _ (s.trans (same_new hr _)) (by rw [List.append_nil]; exact upd_same)
  obtain ⟨t4, h4, g4⟩ : ∃ t, PSs (cxOf CX0 P w K mg base ["_law_error", "_law_told_here"] "_law_refusal" (defScope sRefusal) f cdv A outer s H E).stirred.nox ((defBody sRefusal).drop 4) t ∧ ToldG H x Q 2 (oneT bS "spent") t := by
    refine ⟨_, pss_cons (ps_if (pt_val (pe_callB (call_isiB (K := K)) rfl T.isi PyProof.Rows.boot_isinstance (pa_cons (pv 0) (pa_cons (pe_glob (v := .ref CS) rfl mS rfl) pa_nil)))) (pss_one (ps_expr (pe_bm PySem.F.plainAttrs_list PySem.F.slot_list_append PySem.F.type_list_append mt_append (pv 1) (pa_cons pe_str pa_nil)))) pss_nil) h5, fun p H' l hp hl s e k => ?_⟩
    have kk := R.kS
    refine ⟨_, rfl, x, C, dx, .ref CS, _, bS, rfl, rfl, s _ _ hx, hd' s, R.x, kk, _, rfl, ?_⟩
    cases bS with
    | true =>
      refine iteT ⟨_, rfl, .inl ⟨rfl, _, SqL.of e⟩, p, _, _, rfl, rfl, e, by rw [sVs_len, sizeLine_eq]; omega, ?_⟩
      exact g5 p _ (l ++ (["spent"] : List Str)) hp (by rw [List.length_append, List.length_singleton]; omega) (told_same s hp _) (by rw [upd_same]; unfold sVs; rw [List.map_append]; rfl) (fun r H'' s' e' => k r H'' s' (by rw [List.append_assoc] at e'; exact e'))
    | false => exact iteF (g5 p H' l hp (by omega) s e k)
  obtain ⟨t3, h3, g3⟩ : ∃ t, PSs (cxOf CX0 P w K mg base ["_law_error", "_law_told_here"] "_law_refusal" (defScope sRefusal) f cdv A outer s H E).stirred.nox ((defBody sRefusal).drop 3) t ∧ ToldG H x Q 3 (oneT bU "unanswered" ++ (oneT bS "spent")) t := by
    refine ⟨_, pss_cons (ps_if (pt_val (pe_callB (call_isiB (K := K)) rfl T.isi PyProof.Rows.boot_isinstance (pa_cons (pv 0) (pa_cons (pe_glob (v := .ref CU) rfl mU rfl) pa_nil)))) (pss_one (ps_expr (pe_bm PySem.F.plainAttrs_list PySem.F.slot_list_append PySem.F.type_list_append mt_append (pv 1) (pa_cons pe_str pa_nil)))) pss_nil) h4, fun p H' l hp hl s e k => ?_⟩
    have kk := R.kU
    refine ⟨_, rfl, x, C, dx, .ref CU, _, bU, rfl, rfl, s _ _ hx, hd' s, R.x, kk, _, rfl, ?_⟩
    cases bU with
    | true =>
      refine iteT ⟨_, rfl, .inl ⟨rfl, _, SqL.of e⟩, p, _, _, rfl, rfl, e, by rw [sVs_len, sizeLine_eq]; omega, ?_⟩
      exact g4 p _ (l ++ (["unanswered"] : List Str)) hp (by rw [List.length_append, List.length_singleton]; omega) (told_same s hp _) (by rw [upd_same]; unfold sVs; rw [List.map_append]; rfl) (fun r H'' s' e' => k r H'' s' (by rw [List.append_assoc] at e'; exact e'))
    | false => exact iteF (g4 p H' l hp (by omega) s e k)
  obtain ⟨t2, h2, g2⟩ : ∃ t, PSs (cxOf CX0 P w K mg base ["_law_error", "_law_told_here"] "_law_refusal" (defScope sRefusal) f cdv A outer s H E).stirred.nox ((defBody sRefusal).drop 2) t ∧ ToldG H x Q 4 (oneT bC "count" ++ (oneT bU "unanswered" ++ (oneT bS "spent"))) t := by
    refine ⟨_, pss_cons (ps_if (pt_val (pe_callB (call_isiB (K := K)) rfl T.isi PyProof.Rows.boot_isinstance (pa_cons (pv 0) (pa_cons (pe_glob (v := .ref CC) rfl mC rfl) pa_nil)))) (pss_one (ps_expr (pe_bm PySem.F.plainAttrs_list PySem.F.slot_list_append PySem.F.type_list_append mt_append (pv 1) (pa_cons pe_str pa_nil)))) pss_nil) h3, fun p H' l hp hl s e k => ?_⟩
    have kk := R.kC
    refine ⟨_, rfl, x, C, dx, .ref CC, _, bC, rfl, rfl, s _ _ hx, hd' s, R.x, kk, _, rfl, ?_⟩
    cases bC with
    | true =>
      refine iteT ⟨_, rfl, .inl ⟨rfl, _, SqL.of e⟩, p, _, _, rfl, rfl, e, by rw [sVs_len, sizeLine_eq]; omega, ?_⟩
      exact g3 p _ (l ++ (["count"] : List Str)) hp (by rw [List.length_append, List.length_singleton]; omega) (told_same s hp _) (by rw [upd_same]; unfold sVs; rw [List.map_append]; rfl) (fun r H'' s' e' => k r H'' s' (by rw [List.append_assoc] at e'; exact e'))
    | false => exact iteF (g3 p H' l hp (by omega) s e k)
  obtain ⟨t1, h1, g1⟩ : ∃ t, PSs (cxOf CX0 P w K mg base ["_law_error", "_law_told_here"] "_law_refusal" (defScope sRefusal) f cdv A outer s H E).stirred.nox ((defBody sRefusal).drop 1) t ∧ ToldG H x Q 5 (oneT bM "number" ++ (oneT bC "count" ++ (oneT bU "unanswered" ++ (oneT bS "spent")))) t := by
    refine ⟨_, pss_cons (ps_if (pt_val (pe_callB (call_isiB (K := K)) rfl T.isi PyProof.Rows.boot_isinstance (pa_cons (pv 0) (pa_cons (pe_glob (v := .ref CM) rfl mM rfl) pa_nil)))) (pss_one (ps_expr (pe_bm PySem.F.plainAttrs_list PySem.F.slot_list_append PySem.F.type_list_append mt_append (pv 1) (pa_cons pe_str pa_nil)))) pss_nil) h2, fun p H' l hp hl s e k => ?_⟩
    have kk := R.kM
    refine ⟨_, rfl, x, C, dx, .ref CM, _, bM, rfl, rfl, s _ _ hx, hd' s, R.x, kk, _, rfl, ?_⟩
    cases bM with
    | true =>
      refine iteT ⟨_, rfl, .inl ⟨rfl, _, SqL.of e⟩, p, _, _, rfl, rfl, e, by rw [sVs_len, sizeLine_eq]; omega, ?_⟩
      exact g2 p _ (l ++ (["number"] : List Str)) hp (by rw [List.length_append, List.length_singleton]; omega) (told_same s hp _) (by rw [upd_same]; unfold sVs; rw [List.map_append]; rfl) (fun r H'' s' e' => k r H'' s' (by rw [List.append_assoc] at e'; exact e'))
    | false => exact iteF (g2 p H' l hp (by omega) s e k)
  refine ⟨_, pss_cons (ps_set (i := 1) scRefusal.nd rfl (Or.inl rfl) (pe_lst pa_nil)) h1, ?_⟩
  refine ⟨by show 0 ≤ sizeLine; decide, fun p hp => ?_⟩
  exact g1 p _ [] hp (by decide) (same_new hp _) upd_same (fun r H'' s' e' => q r H'' s' e')
end
theorem ifY {c A B : Prop} [Decidable c] (hc : c) (h : A) : if c then A else B := by
  rw [if_pos hc]
  exact h
theorem ifN {c A B : Prop} [Decidable c] (hc : ¬ c) (h : B) : if c then A else B := by
  rw [if_neg hc]
  exact h
def spCalled (L : List (Addr × List (Pos × Str))) (CM CC CU CS : Addr) : Sp := fun vs H Q E => ∃ (wh off : Int) (st ra : Addr) (w : Str) (nv cv : V), vs = [.int wh, .ref st, .ref ra, .str w, nv, cv, .int off] ∧ (off = 2 → nv = .int 0 ∧ cv = .int 40) ∧ (off = 1 → cv = .int 40) ∧ spWRun L CM CC CU CS [.ref st, .ref ra, .str w, nv, cv] H Q E
theorem run_of_w {L : List (Addr × List (Pos × Str))} {CM CC CU CS : Addr} {vs : List V} {H : Hp} {Q : VK} {E : XK} (h : spWRun L CM CC CU CS vs H Q E) : spRunX CM CC CU CS vs H Q E := by
  obtain ⟨st, ra, w, kvs, as, rows, nv, cv, rfl, B, pn, pc, hst, R, hrl, hp, g1, g2⟩ := h
  refine ⟨st, ra, w, kvs, as, rows, nv, cv, rfl, pn, pc, hst, R, hp, g1, fun e1 => ?_⟩
  obtain ⟨g3, g4⟩ := g2 e1
  refine ⟨g3, fun e2 => ?_⟩
  obtain ⟨g5, g6⟩ := g4 e2
  refine ⟨fun hv H' s => g5 hv H' s.toT (B.keep s), fun n c p h1 h2 h3 => ?_⟩
  have g := g6 n c p h1 h2 h3
  cases e : recS rows 41 p n c [] with
  | ok a k sd =>
    rw [e] at g
    exact fun H' l s _ hl => g H' l s.toT (B.keep s) hl
  | una k sd =>
    rw [e] at g
    exact fun H' s => g H' s.toT (B.keep s)
  | spent =>
    rw [e] at g
    exact fun H' s => g H' s.toT (B.keep s)
section
variable {P : Program} {w : World} {K : PySem.W.Frag} {mg : Str → Option Value} {base : Heap} {L : List (Addr × List (Pos × Str))} {f fR fW CM CC CU CS : Addr} {fd dR dW : FuncData} {tkA tkB tkC tkD : Tok}
abbrev nCalled : List Str := ["_law_which", "_law_starts", "_law_rows", "_law_word", "_law_number", "_law_count", "_law_off"]
theorem scCalled : FnScope nCalled nCalled (defScope sCalled) := ⟨rfl, rfl, rfl, by decide +kernel, rfl, by decide +kernel, by decide +kernel⟩
theorem ok_called (F : Fun K "_law_called" "_law_called" sCalled f fd)
    (GR : FnOk P w K mg base (CXE P w) 168 fR dR ["starts", "rows", "word", "number", "count"] (spRunX CM CC CU CS)) (kR : PySem.W.keepIn K (.ref fR) = true) (bR3 : Binds K dR ["starts", "rows", "word", "number", "count"] [.int 0 tkA, .int 40 tkB]) (bR4 : Binds K dR ["starts", "rows", "word", "number", "count"] [.int 40 tkB]) (bR5 : Binds K dR ["starts", "rows", "word", "number", "count"] []) (mR : mg "run" = some (.ref fR))
    (GW : FnOk P w K mg base (CXE P w) 168 fW dW ["starts", "rows", "word", "number", "count"] (spWRun L CM CC CU CS)) (kW : PySem.W.keepIn K (.ref fW) = true) (bW3 : Binds K dW ["starts", "rows", "word", "number", "count"] [.int 0 tkC, .int 40 tkD]) (bW4 : Binds K dW ["starts", "rows", "word", "number", "count"] [.int 40 tkD]) (bW5 : Binds K dW ["starts", "rows", "word", "number", "count"] []) (mW : mg "woven_run" = some (.ref fW)) :
    FnOk P w K mg base (CXE P w) 169 f fd nCalled (spCalled L CM CC CU CS) := by
  refine F.okX scCalled (fun vs H Q E h => ?_) (fun cdv A outer s H vs Q E hr h => ?_)
  · obtain ⟨wh, off, st, ra, w, nv, cv, rfl, _⟩ := h
    rfl
  obtain ⟨wh, off, st, ra, w, nv, cv, rfl, o2, o1, h⟩ := h
  refine ⟨_, pss_cons (ps_if (PW.pt (pw_and (pt_cmpR op_eq (pv 0) pe_int (nomark _)) (pw_and1 (pt_cmpR op_eq (pv 6) pe_int (nomark _))))) (pss_one (ps_ret (pe_callE GR hr rfl mR kR bR3 (dvs := [.int 0, .int 40]) (.cons ⟨_, rfl⟩ (.cons ⟨_, rfl⟩ .nil)) (pa_cons (pv 1) (pa_cons (pv 2) (pa_cons (pv 3) pa_nil)))))) pss_nil)
    (pss_cons (ps_if (PW.pt (pw_and (pt_cmpR op_eq (pv 0) pe_int (nomark _)) (pw_and1 (pt_cmpR op_eq (pv 6) pe_int (nomark _))))) (pss_one (ps_ret (pe_callE GR hr rfl mR kR bR4 (dvs := [.int 40]) (.cons ⟨_, rfl⟩ .nil) (pa_cons (pv 1) (pa_cons (pv 2) (pa_cons (pv 3) (pa_cons (pv 4) pa_nil))))))) pss_nil)
    (pss_cons (ps_if (pt_cmpR op_eq (pv 0) pe_int (nomark _)) (pss_one (ps_ret (pe_callE GR hr rfl mR kR bR5 .nil (pa_cons (pv 1) (pa_cons (pv 2) (pa_cons (pv 3) (pa_cons (pv 4) (pa_cons (pv 5) pa_nil)))))))) pss_nil)
    (pss_cons (ps_if (pt_cmpR op_eq (pv 6) pe_int (nomark _)) (pss_one (ps_ret (pe_callE GW hr rfl mW kW bW3 (dvs := [.int 0, .int 40]) (.cons ⟨_, rfl⟩ (.cons ⟨_, rfl⟩ .nil)) (pa_cons (pv 1) (pa_cons (pv 2) (pa_cons (pv 3) pa_nil)))))) pss_nil)
    (pss_cons (ps_if (pt_cmpR op_eq (pv 6) pe_int (nomark _)) (pss_one (ps_ret (pe_callE GW hr rfl mW kW bW4 (dvs := [.int 40]) (.cons ⟨_, rfl⟩ .nil) (pa_cons (pv 1) (pa_cons (pv 2) (pa_cons (pv 3) (pa_cons (pv 4) pa_nil))))))) pss_nil)
    (pss_one (ps_ret (pe_callE GW hr rfl mW kW bW5 .nil (pa_cons (pv 1) (pa_cons (pv 2) (pa_cons (pv 3) (pa_cons (pv 4) (pa_cons (pv 5) pa_nil)))))))))))), ?_⟩
  have dI : ∀ {a b : Int}, decide (V.int a = V.int b) = true → a = b := fun h => V.int.inj (of_decide_eq_true h)
  have r5 := run_of_w h
  refine ⟨_, rfl, rfl, _, rfl, ite2 (fun c0 => ?_) (fun c0 => ?_)⟩
  · refine ⟨_, rfl, rfl, _, rfl, ite2 (fun c2 => ?_) (fun c2 => ?_)⟩
    · obtain ⟨rfl, rfl⟩ := o2 (dI c2)
      exact ⟨_, rfl, _, rfl, _, rfl, r5⟩
    refine ⟨_, rfl, rfl, _, rfl, ifY c0 ?_⟩
    refine ⟨_, rfl, rfl, _, rfl, ite2 (fun c1 => ?_) (fun c1 => ?_)⟩
    · obtain rfl := o1 (dI c1)
      exact ⟨_, rfl, _, rfl, _, rfl, _, rfl, r5⟩
    refine ⟨_, rfl, rfl, _, rfl, ifY c0 ?_⟩
    exact ⟨_, rfl, _, rfl, _, rfl, _, rfl, _, rfl, r5⟩
  · refine ⟨_, rfl, rfl, _, rfl, ifN c0 ?_⟩
    refine ⟨_, rfl, rfl, _, rfl, ifN c0 ?_⟩
    refine ⟨_, rfl, rfl, _, rfl, ite2 (fun c2 => ?_) (fun c2 => ?_)⟩
    · obtain ⟨rfl, rfl⟩ := o2 (dI c2)
      exact ⟨_, rfl, _, rfl, _, rfl, h⟩
    refine ⟨_, rfl, rfl, _, rfl, ite2 (fun c1 => ?_) (fun c1 => ?_)⟩
    · obtain rfl := o1 (dI c1)
      exact ⟨_, rfl, _, rfl, _, rfl, _, rfl, h⟩
    exact ⟨_, rfl, _, rfl, _, rfl, _, rfl, _, rfl, h⟩
end
end Bk
namespace Bk
open PySem L2 Rk PySem.SeqAt
theorem truL_bools {K : PySem.W.Frag} {H : Hp} : ∀ ks : List Bool, TruL K H (ks.map V.bl) ks
  | [] => .nil
  | k :: ks => .cons rfl (truL_bools ks)
def datL : Ah.Ld → PyData
  | .none => .tuple [.str "none"]
  | .go p => .tuple [.str "go", .int (p : Int)]
def datR : RS → PyData
  | .ld l => datL l
  | .ei x y => .tuple [.str "either", datL x, datL y]
  | .sm .say => .tuple [.str "say"]
  | .sm (.op kd a) => .tuple [.str kd, .int a]
theorem LdAt.dv (K : PySem.W.Frag) {H : Hp} {v : V} : ∀ {l : Ah.Ld}, LdAt H v l → DV K H v (datL l)
  | .none, ⟨a, e, h⟩ => by rw [e]; exact .tup (SqT.of h) (.cons (.str _) .nil)
  | .go p, ⟨a, e, h⟩ => by rw [e]; exact .tup (SqT.of h) (.cons (.str _) (.cons (.int _) .nil))
theorem RAt.dv (K : PySem.W.Frag) {H : Hp} {v : V} : ∀ {s : RS}, RAt H v s → DV K H v (datR s)
  | .ld _, h => LdAt.dv K h
  | .ei _ _, ⟨a, b, c, e, h, hx, hy⟩ => by rw [e]; exact .tup (SqT.of h) (.cons (.str _) (.cons (LdAt.dv K hx) (.cons (LdAt.dv K hy) .nil)))
  | .sm .say, ⟨a, e, h⟩ => by rw [e]; exact .tup (SqT.of h) (.cons (.str _) .nil)
  | .sm (.op kd n), ⟨a, e, h⟩ => by rw [e]; exact .tup (SqT.of h) (.cons (.str _) (.cons (.int _) .nil))
theorem datL_pl : ∀ l : Ah.Ld, plainD (datL l) = true ∧ (datL l).depth ≤ 1
  | .none => ⟨by decide +kernel, by decide +kernel⟩
  | .go p => ⟨by unfold datL; simp only [plainD, plainDs, Bool.and_true]; decide +kernel, by simp [datL, PyData.depth, PyData.depthAll]⟩
theorem sorts_ok : ∀ kd ∈ sorts1, PyData.strOk kd = true := by decide +kernel
theorem datR_pl : ∀ {s : RS}, okR s → plainD (datR s) = true ∧ (datR s).depth ≤ 2
  | .ld l, _ => ⟨(datL_pl l).1, Nat.le_succ_of_le (datL_pl l).2⟩
  | .ei x y, _ => by
    obtain ⟨a1, a2⟩ := datL_pl x
    obtain ⟨b1, b2⟩ := datL_pl y
    refine ⟨?_, ?_⟩
    · show plainD (.tuple [.str "either", datL x, datL y]) = true
      simp only [plainD, plainDs, a1, b1, Bool.and_true]
      decide +kernel
    · show PyData.depth (.tuple [.str "either", datL x, datL y]) ≤ 2
      simp only [PyData.depth, PyData.depthAll]
      omega
  | .sm .say, _ => ⟨by decide +kernel, by decide +kernel⟩
  | .sm (.op kd n), h => by
    have := sorts_ok kd (show OkA kd n from h).mem
    exact ⟨by simp [datR, plainD, plainDs, this], by simp [datR, PyData.depth, PyData.depthAll]⟩
theorem dvs_of (K : PySem.W.Frag) {H : Hp} {us : List V} {r : List RS} (h : Paired (RAt H) us r) : DVs K H us (r.map datR) := by
  induction h with
  | nil => exact .nil
  | cons x t ih => exact .cons (RAt.dv K x) ih
theorem dats_pl : ∀ {r : List RS}, (∀ s ∈ r, okR s) → plainDs (r.map datR) = true ∧ PyData.depthAll (r.map datR) ≤ 2
  | [], _ => ⟨by simp [plainDs], by simp [PyData.depthAll]⟩
  | s :: r, h => by
    obtain ⟨a1, a2⟩ := datR_pl (h s List.mem_cons_self)
    obtain ⟨b1, b2⟩ := dats_pl (r := r) fun x hx => h x (List.mem_cons_of_mem _ hx)
    refine ⟨by simp [plainDs, a1, b1], ?_⟩
    simp only [List.map_cons, PyData.depthAll]
    omega
def datW (rows : List (List RS)) : PyData := .list (rows.map fun r => .list (r.map datR))
theorem rows_pl : ∀ {rows : List (List RS)}, OkB rows → plainDs (rows.map fun r => PyData.list (r.map datR)) = true ∧ PyData.depthAll (rows.map fun r => PyData.list (r.map datR)) ≤ 3
  | [], _ => ⟨by simp [plainDs], by simp [PyData.depthAll]⟩
  | r :: rows, h => by
    obtain ⟨a1, a2⟩ := dats_pl (h r List.mem_cons_self).1
    obtain ⟨b1, b2⟩ := rows_pl (rows := rows) fun x hx => h x (List.mem_cons_of_mem _ hx)
    refine ⟨by simp [plainDs, plainD, a1, b1], ?_⟩
    simp only [List.map_cons, PyData.depthAll, PyData.depth]
    omega
theorem datW_sh {rows : List (List RS)} (h : OkB rows) : shaped (datW rows) = true := by
  obtain ⟨a1, a2⟩ := rows_pl h
  refine shaped_of (by unfold datW; simp only [plainD]; exact a1) ?_
  unfold datW
  simp only [PyData.depth]
  omega
theorem rows_dv (K : PySem.W.Frag) {H : Hp} : ∀ {as : List Addr} {rows : List (List RS)}, as.length = rows.length → (∀ (p : Nat) (a : Addr) (r : List RS), as[p]? = some a → rows[p]? = some r → ∃ us, H a = some (.lst us) ∧ Paired (RAt H) us r) → DVs K H (as.map V.ref) (rows.map fun r => PyData.list (r.map datR))
  | [], [], _, _ => .nil
  | a :: as, r :: rows, hl, h => by
    obtain ⟨us, e, hp⟩ := h 0 a r rfl rfl
    exact .cons (.lst (SqL.of e) (dvs_of K hp)) (rows_dv K (by simpa using hl) fun p b q h1 h2 => h (p + 1) b q h1 h2)
  | [], _ :: _, hl, _ => by cases hl
  | _ :: _, [], hl, _ => by cases hl
theorem Rw0.dv (K : PySem.W.Frag) {H : Hp} {ra : Addr} {as : List Addr} {rows : List (List RS)} (R : Rw0 H ra as rows) : DV K H (.ref ra) (datW rows) := .lst (SqL.of R.lst) (rows_dv K R.len R.row)
theorem Rw0.sameT {H H' : Hp} {ra : Addr} {as : List Addr} {rows : List (List RS)} (R : Rw0 H ra as rows) (s : SameT H H') : Rw0 H' ra as rows :=
  ⟨s _ _ R.lst nt_lst, R.len, fun p a r h1 h2 => let ⟨us, e, h⟩ := R.row p a r h1 h2; ⟨us, s _ _ e nt_lst, Paired.mapP h fun _ _ z => z.keep fun b xs e => s _ _ e nt_tup⟩, R.ok, R.lds⟩
theorem nt_dK {a : Addr} {kvs : List (Key × V)} : NT a (.dK kvs) := nt_ne fun _ z => nomatch z
inductive Ow where
  | num | cnt | o (x : Ou)
def OwAt (H : Hp) (r : Addr) : Ow → Prop
  | .num => H r = some (.tup [.str "number"])
  | .cnt => H r = some (.tup [.str "count"])
  | .o x => DueAt H r x
theorem OwAt.sameT {H H' : Hp} {r : Addr} (s : SameT H H') : ∀ {x : Ow}, OwAt H r x → OwAt H' r x
  | .num, h => s _ _ h nt_tup
  | .cnt, h => s _ _ h nt_tup
  | .o (.said _), ⟨sl, h1, h2, h3⟩ => ⟨sl, s _ _ h1 nt_tup, s _ _ h2 nt_lst, h3⟩
  | .o .una, h => s _ _ h nt_tup
  | .o .spent, h => s _ _ h nt_tup
def datO : Ow → PyData
  | .num => .tuple [.str "number"]
  | .cnt => .tuple [.str "count"]
  | .o (.said sd) => .tuple [.str "said", .list (sd.map PyData.int)]
  | .o .una => .tuple [.str "unanswered"]
  | .o .spent => .tuple [.str "spent"]
theorem ints_dv (K : PySem.W.Frag) (H : Hp) : ∀ sd : List Int, DVs K H (nVs sd) (sd.map PyData.int)
  | [] => .nil
  | _ :: r => .cons (.int _) (ints_dv K H r)
theorem ints_pl : ∀ sd : List Int, plainDs (sd.map PyData.int) = true ∧ PyData.depthAll (sd.map PyData.int) ≤ 0
  | [] => ⟨by simp [plainDs], by simp [PyData.depthAll]⟩
  | x :: r => by
    obtain ⟨a, b⟩ := ints_pl r
    refine ⟨by simp [plainDs, plainD, a], ?_⟩
    simp only [List.map_cons, PyData.depthAll, PyData.depth]
    omega
theorem OwAt.dv (K : PySem.W.Frag) {H : Hp} {r : Addr} : ∀ {x : Ow}, OwAt H r x → DV K H (.ref r) (datO x)
  | .num, h => .tup (SqT.of h) (.cons (.str _) .nil)
  | .cnt, h => .tup (SqT.of h) (.cons (.str _) .nil)
  | .o (.said sd), ⟨sl, h1, h2, _⟩ => .tup (SqT.of h1) (.cons (.str _) (.cons (.lst (SqL.of h2) (ints_dv K H sd)) .nil))
  | .o .una, h => .tup (SqT.of h) (.cons (.str _) .nil)
  | .o .spent, h => .tup (SqT.of h) (.cons (.str _) .nil)
theorem datO_pl : ∀ x : Ow, plainD (datO x) = true ∧ (datO x).depth ≤ 2
  | .num => ⟨by decide +kernel, by decide +kernel⟩
  | .cnt => ⟨by decide +kernel, by decide +kernel⟩
  | .o (.said sd) => by
    obtain ⟨a, b⟩ := ints_pl sd
    refine ⟨?_, ?_⟩
    · show plainD (.tuple [.str "said", .list (sd.map PyData.int)]) = true
      simp only [plainD, plainDs, a, Bool.and_true]
      decide +kernel
    · show PyData.depth (.tuple [.str "said", .list (sd.map PyData.int)]) ≤ 2
      simp only [PyData.depth, PyData.depthAll]
      omega
  | .o .una => ⟨by decide +kernel, by decide +kernel⟩
  | .o .spent => ⟨by decide +kernel, by decide +kernel⟩
def resO (kvs : List (Key × V)) (w : Str) (rows : List (List RS)) (nv cv : V) : Res := match valV kvs (Sum.inr w : Key), nv, cv with
  | some (.int p), .int n, .int c => rS rows p.toNat n c.toNat []
  | _, _, _ => .una 0 []
def outO (kvs : List (Key × V)) (w : Str) (rows : List (List RS)) (nv cv : V) : Ow := if whV (-big) big nv = false then .num else if whV 0 40 cv = false then .cnt else .o (ouR (resO kvs w rows nv cv))
theorem one_ne {x : Str} (h : PyData.strOk x = true) : shaped (.tuple [.str x]) = true ∧ noMix (.tuple [.str x]) (.tuple []) = true ∧ Spec.same (.tuple [.str x]) (.tuple []) = false := by
  refine ⟨shaped_of (by simp [plainD, plainDs, h]) (by simp [PyData.depth, PyData.depthAll]), by simp [noMix, noMixAll], by simp [Spec.same, Spec.sameAll]⟩
theorem nil_eq : shaped (.tuple []) = true ∧ noMix (.tuple []) (.tuple []) = true ∧ Spec.same (.tuple []) (.tuple []) = true := ⟨by decide +kernel, by decide +kernel, by decide +kernel⟩
theorem op_eqDK {X : Cx} {K : PySem.W.Frag} (hu : X.A.units + 64 < cLine) (hK : X.K = K := by rfl) : OpR X (compareOp .Eq) (rDat K false) := by
  subst hK
  exact op_eqD hu
structure Cls4 (K : PySem.W.Frag) (mg : Str → Option Value) (CM CC CU CS CE : Addr) : Prop where
  mE : mg "BookError" = some (.ref CE)
  eM : PySem.W.exmOne K (.ref CM) (.ref CE) = some true
  eC : PySem.W.exmOne K (.ref CC) (.ref CE) = some true
  eU : PySem.W.exmOne K (.ref CU) (.ref CE) = some true
  eS : PySem.W.exmOne K (.ref CS) (.ref CE) = some true
  rM : RefX K CM CC CU CS CM true false false false
  rC : RefX K CM CC CU CS CC false true false false
  rU : RefX K CM CC CU CS CU false false true false
  rS : RefX K CM CC CU CS CS false false false true
structure Hand (L : List (Addr × List (Pos × Str))) (H : Hp) (st ra : Addr) (kvs : List (Key × V)) (as : List Addr) (rows : List (List RS)) (nv cv : V) : Prop where
  tb : TB L H
  pn : PG nv
  pc : PG cv
  st : H st = some (.dK kvs)
  rw : Rw0 H ra as rows
  len : rows.length ≤ 1000
  kv : ∀ kv ∈ kvs, ∃ p : Nat, kv.2 = V.int (p : Int) ∧ p < rows.length
def spTold (L : List (Addr × List (Pos × Str))) : Sp := fun vs H Q _ => ∃ (wh off : Int) (st ra : Addr) (w : Str) (nv cv : V) (kvs : List (Key × V)) (as : List Addr) (rows : List (List RS)), vs = [.int wh, .ref st, .ref ra, .str w, nv, cv, .int off] ∧ (off = 2 → nv = .int 0 ∧ cv = .int 40) ∧ (off = 1 → cv = .int 40) ∧ Hand L H st ra kvs as rows nv cv ∧
  ∀ (r : Addr) (H' : Hp), SameT H H' → TB L H' → OwAt H' r (outO kvs w rows nv cv) → Q (.ref r) H'
abbrev nTold : List Str := ["_law_which", "_law_starts", "_law_rows", "_law_word", "_law_number", "_law_count", "_law_off", "_law_handed", "_law_told_here", "_law_said", "_law_error"]
theorem ndTr : (["_law_row"] : List Str).Nodup := by decide +kernel
theorem ndTo : (["_law_one"] : List Str).Nodup := by decide +kernel
section
variable {P : Program} {w : World} {K : PySem.W.Frag} {mg : Str → Option Value} {base : Heap} {L : List (Addr × List (Pos × Str))} {f fC fX CM CC CU CS CE : Addr} {fd dC dX : FuncData}
theorem scTold : FnScope nTold ["_law_which", "_law_starts", "_law_rows", "_law_word", "_law_number", "_law_count", "_law_off"] (defScope sTold) := ⟨rfl, rfl, rfl, by decide +kernel, rfl, by decide +kernel, by decide +kernel⟩
theorem ok_told (F : Fun K "_law_told" "_law_told" sTold f fd) (T : Txt mg) (mA : mg "any" = none) (mD : mg "dict" = none) (C4 : Cls4 K mg CM CC CU CS CE)
    (GC : FnOk P w K mg base (CXE P w) 169 fC dC nCalled (spCalled L CM CC CU CS)) (kC : PySem.W.keepIn K (.ref fC) = true) (bC : Binds K dC nCalled []) (mC : mg "_law_called" = some (.ref fC))
    (GX : FnOkN P w K mg base 1 fX dX ["_law_error"] (spRefusal K CM CC CU CS)) (kX : PySem.W.keepIn K (.ref fX) = true) (bX : Binds K dX ["_law_error"] []) (mX : mg "_law_refusal" = some (.ref fX)) :
    FnOk P w K mg base CX1 170 f fd ["_law_which", "_law_starts", "_law_rows", "_law_word", "_law_number", "_law_count", "_law_off"] (spTold L) := by
  refine F.ok1 scTold (fun vs H Q E h => ?_) (fun cdv A outer s H vs Q E hr h => ?_)
  · obtain ⟨wh, off, st, ra, w, nv, cv, kvs, as, rows, rfl, _⟩ := h
    rfl
  obtain ⟨wh, off, st, ra, w, nv, cv, kvs, as, rows, rfl, o2, o1, W, q⟩ := h
  have hr1 := hr.mono (j := 1) (by decide)
  have hu : (A.deeper (PyProof.Rows.envOfC "_law_told" (defScope sTold) s.heap.objs.size f cdv)).units + 80 < cLine := by have := hr.un; omega
  have hu64 : (A.deeper (PyProof.Rows.envOfC "_law_told" (defScope sTold) s.heap.objs.size f cdv)).units + 64 < cLine := by omega
  have z2 : 2 ≤ sizeLine := by rw [sizeLine_eq]; decide
  have z1 : 1 ≤ sizeLine := by rw [sizeLine_eq]; decide
  have hki : ∀ kv ∈ kvs, ∃ i, kv.2 = V.int i := fun kv h => let ⟨p, e, _⟩ := W.kv kv h; ⟨_, e⟩
  have hsh := datW_sh W.rw.ok
  -- what stands behind the try
  refine with_tail (tail := (defBody sTold).drop 4) (fun tt => ∀ (H1 : Hp) (hd d1 l1 td sl : Addr) (bs : List Addr) (sd : List Int) (ts : List Str) (v10 : Option V), H1 hd = some (.lst [.ref d1, .ref l1]) → H1 d1 = some (.dK kvs) → H1 st = some (.dK kvs) → Rw0 H1 l1 bs rows → Rw0 H1 ra as rows → H1 td = some (.tup (sVs ts)) → (ts = [] ∨ ∃ x, ts = [x] ∧ PyData.strOk x = true) → H1 sl = some (.lst (nVs sd)) → sd.length ≤ 5300 →
      (ts = [] → ∀ r H2, Same H1 H2 → H2 r = some (.tup [.str "said", .ref sl]) → Q (.ref r) H2) → (∀ x, ts = [x] → ∀ H2, Same H1 H2 → Q (.ref td) H2) → tt { nx := fun _ H' => Q .non H', rt := Q } [some (.int wh), some (.ref st), some (.ref ra), some (.str w), some nv, some cv, some (.int off), some (.ref hd), some (.ref td), some (.ref sl), v10] H1) ?_ ?_
  · refine ⟨_, pss_cons (ps_if (PW.pt (pw_or (pt_cmpR (op_neH hu) (pv 7) (pe_lst (pa_cons (pv 1) (pa_cons (pv 2) pa_nil))) (nomark _)) (pw_or1 (pt_not (pt_val (pe_callB call_isinst rfl T.isi PyProof.Rows.boot_isinstance (pa_cons (pv 9) (pa_cons (pe_bltn (v := .ty "list") rfl T.list PyProof.Rows.boot_list rfl) pa_nil)))))))) pss_never pss_nil)
      (pss_cons (ps_if (pt_val (pe_callB (call_any rfl) rfl mA boot_any' (pa_cons (pe_comp (defScope sTold) nTold ["_law_one"] [] rfl (pi_list (pv 9)) (own_name (i := 0) (by decide)) (fun _ _ _ _ _ _ => ⟨pg_name (i := 0) ndTo rfl (Or.inl rfl), pts_nil,
          pe_or (pe_callB (call_isiK (K := K)) rfl T.isi PyProof.Rows.boot_isinstance (pa_cons (pv 0) (pa_cons (pe_bltn (v := .ty "bool") rfl T.bool PyProof.Rows.boot_bool rfl) pa_nil))) (pe_one (pe_not (pe_callB (call_isiK (K := K)) rfl T.isi PyProof.Rows.boot_isinstance (pa_cons (pv 0) (pa_cons (pe_bltn (v := .ty "int") rfl T.int PyProof.Rows.boot_int rfl) pa_nil)))))⟩)) pa_nil))) pss_never pss_nil)
      (pss_cons (ps_if (pt_cmpR (op_eqD hu64) (pv 8) (pe_tup pa_nil) (nomark _)) (pss_one (ps_ret (pe_tup (pa_cons pe_str (pa_cons (pv 9) pa_nil))))) pss_nil)
      (pss_one (ps_ret (pv 8))))), fun H1 hd d1 l1 td sl bs sd ts v10 ehd ed1 est R1 R2 etd hts esl hsd q1 q2 => ?_⟩
    refine ⟨_, rfl, _, rfl, _, rfl, by show 2 ≤ sizeLine; exact z2, fun lb hlb => ?_⟩
    have s2 := same_new hlb (.lst [.ref st, .ref ra])
    have elb : (upd H1 lb (.lst [.ref st, .ref ra])) lb = some (.lst [.ref st, .ref ra]) := upd_same
    generalize upd H1 lb (.lst [.ref st, .ref ra]) = H2 at *
    refine ⟨hd, lb, d1, st, l1, ra, kvs, datW rows, rfl, rfl, s2 _ _ ehd, elb, s2 _ _ ed1, s2 _ _ est, hki, (R1.same s2).dv K, (R2.same s2).dv K, hsh, _, rfl, iteF ?_⟩
    refine ⟨_, rfl, _, _, _, _, rfl, .lst (s2 _ _ esl), kit_self K "list", _, rfl, iteF ?_⟩
    refine ⟨_, rfl, sl, rfl, ⟨_, SqL.of (s2 _ _ esl)⟩, turns_list0 (K := K) (a := sl) (xs := nVs sd) (fun i ys H3 => H3 = H2 ∧ ys = (List.replicate i false).map V.bl) ⟨rfl, rfl⟩ (fun i ys H3 _ h => SqL.of (by rw [h.1]; exact s2 _ _ esl)) ?_ ?_⟩
    · rintro i v ys H3 hi ⟨rfl, rfl⟩
      obtain ⟨m, hm, rfl⟩ : ∃ m, sd[i]? = some m ∧ v = .int m := by
        unfold nVs at hi
        rw [List.getElem?_map] at hi
        cases hm : sd[i]? with
        | none => rw [hm] at hi; cases hi
        | some m => rw [hm] at hi; cases hi; exact ⟨m, rfl, rfl⟩
      have hil : i < sd.length := (List.getElem?_eq_some_iff.mp hm).1
      refine ⟨_, rfl, _, _, _, _, rfl, .int _, (show PySem.W.kitOne K (.type "int") (.type "bool") = some false from rfl), _, rfl, iteF ?_⟩
      refine ⟨_, rfl, _, _, _, _, rfl, .int _, kit_self K "int", _, rfl, by rw [List.length_map, List.length_replicate, sizeLine_eq]; omega, rfl, ?_⟩
      rw [List.replicate_succ', List.map_append]
      rfl
    · rintro ys H3 ⟨rfl, rfl⟩ lc hlc
      have s3 := same_new hlc (.lst ((List.replicate (nVs sd).length false).map V.bl))
      refine ⟨lc, _, List.replicate (nVs sd).length false, rfl, SqL.of upd_same, truL_bools _, _, rfl, ?_⟩
      have hany : (List.replicate (nVs sd).length false).any id = false := by
        rw [List.any_eq_false]
        intro x hx
        rw [(List.mem_replicate.mp hx).2]
        exact Bool.false_ne_true
      rw [hany]
      refine iteF ?_
      generalize upd H3 lc (.lst ((List.replicate (nVs sd).length false).map V.bl)) = H4 at *
      refine ⟨_, rfl, by show 0 ≤ sizeLine; exact Nat.zero_le _, fun te hte => ?_⟩
      have s4 := same_new hte (.tup [])
      have ete : (upd H4 te (.tup [])) te = some (.tup ([] : List V)) := upd_same
      generalize upd H4 te (.tup []) = H5 at *
      have sA := (s2.trans s3).trans s4
      rcases hts with rfl | ⟨x, rfl, hx⟩
      · refine ⟨.tuple [], .tuple [], .tup (SqT.of (sA _ _ etd)) .nil, .tup (SqT.of ete) .nil, nil_eq.1, nil_eq.1, nil_eq.2.1, _, rfl, ?_⟩
        rw [if_neg Bool.false_ne_true, nil_eq.2.2]
        refine iteT ⟨_, rfl, by show 2 ≤ sizeLine; exact z2, fun r hr' => ?_⟩
        exact q1 rfl r _ (sA.trans (same_new hr' _)) upd_same
      · obtain ⟨x1, x2, x3⟩ := one_ne hx
        refine ⟨.tuple [.str x], .tuple [], .tup (SqT.of (sA _ _ etd)) (.cons (.str _) .nil), .tup (SqT.of ete) .nil, x1, nil_eq.1, x2, _, rfl, ?_⟩
        rw [if_neg Bool.false_ne_true, x3]
        exact iteF ⟨_, rfl, q2 x rfl _ sA⟩
  intro tt htt ptt
  refine ⟨_, pss_cons (ps_set (i := 7) scTold.nd rfl (Or.inl rfl) (pe_lst (pa_cons (pe_callTy call_dict_copy rfl mD PyProof.Rows.boot_dict (pa_cons (pv 1) pa_nil)) (pa_cons (pe_comp (defScope sTold) nTold ["_law_row"] [] rfl (pi_list (pv 2)) (own_name (i := 0) (by decide)) (fun _ _ _ _ _ _ => ⟨pg_name (i := 0) ndTr rfl (Or.inl rfl), pts_nil, pe_callTy (call_listK (K := K)) rfl T.list PyProof.Rows.boot_list (pa_cons (pv 0) pa_nil)⟩)) pa_nil))))
    (pss_cons (ps_set (i := 8) scTold.nd rfl (Or.inl rfl) (pe_tup pa_nil))
    (pss_cons (ps_set (i := 9) scTold.nd rfl (Or.inl rfl) (pe_lst pa_nil))
    (pss_cons (ps_try (EX := noXS) own_cx (fun _ _ h => noWx h) (fun pn EX1 => pss_one (ps_set (i := 9) scTold.nd rfl (Or.inl rfl) (pe_callE GC hr rfl mC kC bC .nil (pa_cons (pv 0) (pa_cons (pe_ix (ix_listK (K := K)) (pv 7) pe_int (fun _ _ => rfl)) (pa_cons (pe_ix (ix_listK (K := K)) (pv 7) pe_int (fun _ _ => rfl)) (pa_cons (pv 3) (pa_cons (pv 4) (pa_cons (pv 5) (pa_cons (pv 6) pa_nil))))))))))
      (fun pn => ph_asK (K := K) (i := 10) ⟨rfl, rfl, rfl⟩ scTold.nd rfl rfl rfl C4.mE (fun x => pss_cons (ps_set (i := 8) scTold.nd rfl (Or.inl rfl) (pe_callN GX (hr1.caught _) rfl mX kX bX .nil (pa_cons (pv 10) pa_nil)))
        (pss_one (ps_if (pt_cmpR (op_eqDK (K := K) hu64) (pv 8) (pe_tup pa_nil) (nomark _)) pss_never pss_nil))) (ph_nil ⟨rfl, rfl, rfl⟩))) htt))), ?_⟩
  refine ⟨_, rfl, st, kvs, rfl, W.st, fun d1 hd1 => ?_⟩
  have s1 := same_new hd1 (.dK kvs)
  have ed1 : (upd H d1 (.dK kvs)) d1 = some (.dK kvs) := upd_same
  generalize upd H d1 (.dK kvs) = H1 at *
  have R1 := W.rw.same s1
  refine ⟨_, rfl, ra, rfl, ⟨_, SqL.of R1.lst⟩, turns_list0 (K := K) (a := ra) (xs := as.map V.ref) (fun i ys H2 => Same H1 H2 ∧ ∃ bs : List Addr, ys = bs.map V.ref ∧ bs.length = i ∧ ∀ (j : Nat) (b : Addr) (r : List RS), bs[j]? = some b → rows[j]? = some r → ∃ us, H2 b = some (.lst us) ∧ Paired (RAt H2) us r) ⟨Same.refl _, [], rfl, rfl, fun j b vs h => by simp at h⟩ (fun i ys H2 _ h => SqL.of (h.1 _ _ R1.lst)) ?_ ?_⟩
  · rintro i v ys H2 hi ⟨s2, bs, rfl, hbl, hbs⟩
    have hia : i < as.length := by have := (List.getElem?_eq_some_iff.mp hi).1; rwa [List.length_map] at this
    have hir : i < rows.length := by rw [← R1.len]; exact hia
    have hri := List.getElem?_eq_getElem hir
    have hai := List.getElem?_eq_getElem hia
    obtain ⟨us, hus, hpr⟩ := R1.row i _ _ hai hri
    rw [List.getElem?_map, hai] at hi
    cases hi
    have hlen := W.len
    refine ⟨_, rfl, as[i], us, rfl, .inl (SqL.of (s2 _ _ hus)), fun p' hp' => ⟨by rw [List.length_map, hbl, sizeLine_eq]; omega, s2.trans (same_new hp' _), bs ++ [p'], by rw [List.map_append]; rfl, by rw [List.length_append, hbl]; rfl, fun j c' r h1 h2 => ?_⟩⟩
    have s3 := same_new hp' (.lst us)
    by_cases hj : j < bs.length
    · rw [List.getElem?_append_left hj] at h1
      obtain ⟨vs, e1, e2⟩ := hbs j c' r h1 h2
      exact ⟨vs, s3 _ _ e1, Paired.mapP e2 fun _ _ z => z.keep s3.keepT⟩
    · have hjl : j < (bs ++ [p']).length := (List.getElem?_eq_some_iff.mp h1).1
      rw [List.length_append, List.length_singleton] at hjl
      obtain rfl : j = bs.length := by omega
      rw [List.getElem?_concat_length] at h1
      cases h1
      rw [hbl, hri] at h2
      cases h2
      exact ⟨us, upd_same, Paired.mapP hpr fun _ _ z => z.keep (s2.trans s3).keepT⟩
  rintro ys H2 ⟨s2, bs, rfl, hbl, hbs⟩ l1 hl1
  rw [List.length_map] at hbl
  have s3 := same_new hl1 (.lst (bs.map V.ref))
  have RB : Rw0 (upd H2 l1 (.lst (bs.map V.ref))) l1 bs rows := ⟨upd_same, by rw [hbl, R1.len], fun i b r h1 h2 => let ⟨us, e1, e2⟩ := hbs i b r h1 h2; ⟨us, s3 _ _ e1, Paired.mapP e2 fun _ _ z => z.keep s3.keepT⟩, W.rw.ok, W.rw.lds⟩
  have sH := (s1.trans s2).trans s3
  have ed2 := (s2.trans s3) _ _ ed1
  generalize upd H2 l1 (.lst (bs.map V.ref)) = H3 at *
  refine ⟨by show 2 ≤ sizeLine; exact z2, fun hd hhd => ?_⟩
  have s4 := same_new hhd (.lst [.ref d1, .ref l1])
  have ehd : (upd H3 hd (.lst [.ref d1, .ref l1])) hd = some (.lst [.ref d1, .ref l1]) := upd_same
  generalize upd H3 hd (.lst [.ref d1, .ref l1]) = H4 at *
  refine ⟨by show 0 ≤ sizeLine; exact Nat.zero_le _, fun td htd => ?_⟩
  have s5 := same_new htd (.tup [])
  have etd : (upd H4 td (.tup [])) td = some (.tup ([] : List V)) := upd_same
  generalize upd H4 td (.tup []) = H5 at *
  refine ⟨by show 0 ≤ sizeLine; exact Nat.zero_le _, fun sl hsl => ?_⟩
  have s6 := same_new hsl (.lst [])
  have esl : (upd H5 sl (.lst [])) sl = some (.lst ([] : List V)) := upd_same
  generalize upd H5 sl (.lst []) = H6 at *
  have s36 := (s4.trans s5).trans s6
  have s06 := sH.trans s36
  have ehd6 := (s5.trans s6) _ _ ehd
  have etd6 := s6 _ _ etd
  have RB6 := RB.same s36
  have ed6 := s36 _ _ ed2
  have B6 := W.tb.keep s06
  -- a refusal
  have hX : ∀ (x : Str) (H7 H9 : Hp) (tn : Addr) (v10 : Option V), PyData.strOk x = true → SameT H6 H7 → TB L H7 → Same H7 H9 → H9 tn = some (.tup (sVs [x])) → (∀ H', SameT H H' → TB L H' → H' tn = some (.tup [.str x]) → Q (.ref tn) H') → tt { nx := fun _ H' => Q .non H', rt := Q } [some (.int wh), some (.ref st), some (.ref ra), some (.str w), some nv, some cv, some (.int off), some (.ref hd), some (.ref tn), some (.ref sl), v10] H9 := by
    intro x H7 H9 tn v10 hx s7 B7 s9 etn hq
    have s69 := s7.trans s9.toT
    have s09 := s06.toT.trans s69
    refine ptt H9 hd d1 l1 tn sl bs [] [x] v10 (s69 _ _ ehd6 nt_lst) (s69 _ _ ed6 nt_dK) (s09 _ _ W.st nt_dK) (RB6.sameT s69) (W.rw.sameT s09) etn (.inr ⟨x, rfl, hx⟩) (s69 _ _ esl nt_lst) (Nat.zero_le _) (fun z => nomatch z) fun y _ H' s' => ?_
    exact hq H' (s09.trans s'.toT) ((B7.keep s9).keep s') (s' _ _ etn)
  refine ⟨_, rfl, _, rfl, hd, _, _, _, rfl, rfl, SqL.of ehd6, at0 _ _, _, rfl, hd, _, _, _, rfl, rfl, SqL.of ehd6, at1 _ _ _, _, rfl, _, rfl, _, rfl, _, rfl, ?_⟩
  dsimp only [tNil, List.append_nil, List.cons_append, List.nil_append]
  have hp : ∀ v, valV kvs (Sum.inr w : Key) = some v → ∃ p : Nat, v = .int (p : Int) ∧ p < rows.length := fun v hv => by
    obtain ⟨kv, hk, _, rfl⟩ := valV_mem hv
    exact W.kv kv hk
  refine ⟨wh, off, d1, l1, w, nv, cv, rfl, o2, o1, d1, l1, w, kvs, bs, rows, nv, cv, rfl, B6, W.pn, W.pc, ed6, RB6, W.len, hp, fun e1 => ?_, fun e1 => ⟨fun e2 => ?_, fun e2 => ⟨fun hv H7 s7 B7 => ?_, fun n c p en ec hv => ?_⟩⟩⟩
  · exact ⟨true, C4.eM, iteT ⟨CM, rfl, fun xa hxa => by
      have s8 := same_new hxa (ExO xa CM none)
      refine ⟨_, rfl, xa, CM, none, _, _, _, _, rfl, upd_same, .inl rfl, C4.rM, fun tn H9 s9 e9 => ?_⟩
      have e9 : H9 tn = some (.tup [.str "number"]) := e9
      refine ⟨_, rfl, by show 0 ≤ sizeLine; exact Nat.zero_le _, fun te hte => ?_⟩
      obtain ⟨x1, x2, x3⟩ := one_ne (x := "number") (by decide +kernel)
      have s10 := same_new hte (.tup [])
      refine ⟨.tuple [.str "number"], .tuple [], .tup (SqT.of (s10 _ _ e9)) (.cons (.str _) .nil), .tup (SqT.of upd_same) .nil, x1, nil_eq.1, x2, _, rfl, ?_⟩
      rw [if_neg Bool.false_ne_true, x3]
      refine iteF ?_
      exact hX "number" H6 _ tn _ (by decide +kernel) (.refl _) B6 ((s8.trans s9).trans s10) (s10 _ _ e9) fun H' sH' BH' eH' => q tn H' sH' BH' (by unfold outO; rw [if_pos e1]; exact eH')⟩⟩
  · exact ⟨true, C4.eC, iteT ⟨CC, rfl, fun xa hxa => by
      have s8 := same_new hxa (ExO xa CC none)
      refine ⟨_, rfl, xa, CC, none, _, _, _, _, rfl, upd_same, .inl rfl, C4.rC, fun tn H9 s9 e9 => ?_⟩
      have e9 : H9 tn = some (.tup [.str "count"]) := e9
      refine ⟨_, rfl, by show 0 ≤ sizeLine; exact Nat.zero_le _, fun te hte => ?_⟩
      obtain ⟨x1, x2, x3⟩ := one_ne (x := "count") (by decide +kernel)
      have s10 := same_new hte (.tup [])
      refine ⟨.tuple [.str "count"], .tuple [], .tup (SqT.of (s10 _ _ e9)) (.cons (.str _) .nil), .tup (SqT.of upd_same) .nil, x1, nil_eq.1, x2, _, rfl, ?_⟩
      rw [if_neg Bool.false_ne_true, x3]
      refine iteF ?_
      exact hX "count" H6 _ tn _ (by decide +kernel) (.refl _) B6 ((s8.trans s9).trans s10) (s10 _ _ e9) fun H' sH' BH' eH' => q tn H' sH' BH' (by unfold outO; rw [if_neg (by rw [e1]; exact Bool.noConfusion), if_pos e2]; exact eH')⟩⟩
  · exact ⟨true, C4.eU, iteT ⟨CU, rfl, fun xa hxa => by
      have s8 := same_new hxa (ExO xa CU none)
      refine ⟨_, rfl, xa, CU, none, _, _, _, _, rfl, upd_same, .inl rfl, C4.rU, fun tn H9 s9 e9 => ?_⟩
      have e9 : H9 tn = some (.tup [.str "unanswered"]) := e9
      refine ⟨_, rfl, by show 0 ≤ sizeLine; exact Nat.zero_le _, fun te hte => ?_⟩
      obtain ⟨x1, x2, x3⟩ := one_ne (x := "unanswered") (by decide +kernel)
      have s10 := same_new hte (.tup [])
      refine ⟨.tuple [.str "unanswered"], .tuple [], .tup (SqT.of (s10 _ _ e9)) (.cons (.str _) .nil), .tup (SqT.of upd_same) .nil, x1, nil_eq.1, x2, _, rfl, ?_⟩
      rw [if_neg Bool.false_ne_true, x3]
      refine iteF ?_
      exact hX "unanswered" H7 _ tn _ (by decide +kernel) s7 B7 ((s8.trans s9).trans s10) (s10 _ _ e9) fun H' sH' BH' eH' => q tn H' sH' BH' (by unfold outO; rw [if_neg (by rw [e1]; exact Bool.noConfusion), if_neg (by rw [e2]; exact Bool.noConfusion)]; unfold resO; rw [hv]; exact eH')⟩⟩
  subst en
  subst ec
  have hout : outO kvs w rows (.int n) (.int (c : Int)) = .o (ouR (rS rows p n c [])) := by
    unfold outO
    rw [if_neg (by rw [e1]; exact Bool.noConfusion), if_neg (by rw [e2]; exact Bool.noConfusion)]
    unfold resO
    rw [hv]
    show Ow.o (ouR (rS rows ((p : Int)).toNat n ((c : Int)).toNat [])) = _
    rw [Int.toNat_natCast, Int.toNat_natCast]
  rw [hout] at q
  obtain ⟨n', en', n0, n1⟩ := wh_int e1
  cases en'
  obtain ⟨c', ec', c0, c1⟩ := wh_int e2
  cases ec'
  have hc : c ≤ 40 := by omega
  have hg := rec_good W.rw.ok 41 p n c [] 100 (ab_big n0 n1) (Nat.le_refl _)
  have hrs : recS rows 41 p n c [] = rS rows p n c [] := rS_rec rows (by omega)
  cases e : recS rows 41 p n c [] with
  | ok a k sd =>
    rw [e] at hg
    rw [← hrs, e] at q
    obtain ⟨_, _, t, et, ht⟩ := hg
    rw [List.nil_append] at et
    subst et
    intro H7 l7 s7 B7 e7
    have s07 := s06.toT.trans s7
    refine ptt H7 hd d1 l1 td l7 bs sd [] _ (s7 _ _ ehd6 nt_lst) (s7 _ _ ed6 nt_dK) (s07 _ _ W.st nt_dK) (RB6.sameT s7) (W.rw.sameT s07) (s7 _ _ etd6 nt_tup) (.inl rfl) e7 (by omega) (fun _ r H8 s8 e8 => ?_) (fun y z => nomatch z)
    exact q r H8 (s07.trans s8.toT) (B7.keep s8) ⟨l7, e8, s8 _ _ e7, by omega⟩
  | una k sd =>
    rw [← hrs, e] at q
    intro H7 s7 B7
    exact ⟨true, C4.eU, iteT ⟨CU, rfl, fun xa hxa => by
      have s8 := same_new hxa (ExO xa CU none)
      refine ⟨_, rfl, xa, CU, none, _, _, _, _, rfl, upd_same, .inl rfl, C4.rU, fun tn H9 s9 e9 => ?_⟩
      have e9 : H9 tn = some (.tup [.str "unanswered"]) := e9
      refine ⟨_, rfl, by show 0 ≤ sizeLine; exact Nat.zero_le _, fun te hte => ?_⟩
      obtain ⟨x1, x2, x3⟩ := one_ne (x := "unanswered") (by decide +kernel)
      have s10 := same_new hte (.tup [])
      refine ⟨.tuple [.str "unanswered"], .tuple [], .tup (SqT.of (s10 _ _ e9)) (.cons (.str _) .nil), .tup (SqT.of upd_same) .nil, x1, nil_eq.1, x2, _, rfl, ?_⟩
      rw [if_neg Bool.false_ne_true, x3]
      refine iteF ?_
      exact hX "unanswered" H7 _ tn _ (by decide +kernel) s7 B7 ((s8.trans s9).trans s10) (s10 _ _ e9) fun H' sH' BH' eH' => q tn H' sH' BH' (by exact eH')⟩⟩
  | spent =>
    rw [← hrs, e] at q
    intro H7 s7 B7
    exact ⟨true, C4.eS, iteT ⟨CS, rfl, fun xa hxa => by
      have s8 := same_new hxa (ExO xa CS none)
      refine ⟨_, rfl, xa, CS, none, _, _, _, _, rfl, upd_same, .inl rfl, C4.rS, fun tn H9 s9 e9 => ?_⟩
      have e9 : H9 tn = some (.tup [.str "spent"]) := e9
      refine ⟨_, rfl, by show 0 ≤ sizeLine; exact Nat.zero_le _, fun te hte => ?_⟩
      obtain ⟨x1, x2, x3⟩ := one_ne (x := "spent") (by decide +kernel)
      have s10 := same_new hte (.tup [])
      refine ⟨.tuple [.str "spent"], .tuple [], .tup (SqT.of (s10 _ _ e9)) (.cons (.str _) .nil), .tup (SqT.of upd_same) .nil, x1, nil_eq.1, x2, _, rfl, ?_⟩
      rw [if_neg Bool.false_ne_true, x3]
      refine iteF ?_
      exact hX "spent" H7 _ tn _ (by decide +kernel) s7 B7 ((s8.trans s9).trans s10) (s10 _ _ e9) fun H' sH' BH' eH' => q tn H' sH' BH' (by exact eH')⟩⟩
end
end Bk
namespace L2
open PySem
theorem pav_cons {X : Cx} {e : Expr} {es : List Expr} {v : V} {vs : List V} {te : TE} (he : PE X e te) (hv : ∀ σ H Q, Q v H → te σ H Q) (h : PA X es (tVals vs)) (hs : starEach (e :: es) X.env = (false, eval e X.env) :: starEach es X.env := by rfl) : PA X (e :: es) (tVals (v :: vs)) := pa_cons (he.imp (t' := tC v) hv) h hs
theorem at_modV {vs : List V} {m : Int} (hm : m = vs.length) (h0 : 0 < m) (c : Int) : ∃ v ∈ vs, atI vs (c % m) = some v := by
  obtain ⟨n, hn⟩ := Int.eq_ofNat_of_zero_le (Int.emod_nonneg c (show m ≠ 0 by omega))
  have h1 := Int.emod_lt_of_pos c h0
  have hl : n < vs.length := by omega
  exact ⟨vs[n], List.getElem_mem hl, by rw [hn]; exact atI_nat (List.getElem?_eq_getElem hl)⟩
end L2
namespace Bk
open PySem L2 Rk
def spValBy : Sp := fun vs H Q _ => ∃ c : Int, vs = [.int c] ∧ ∀ v H', PG v → Same H H' → Q v H'
theorem pg_int (i : Int) : PG (.int i) := .inl (.inl ⟨i, rfl⟩)
theorem pg_bl (b : Bool) : PG (.bl b) := .inr (.inl ⟨b, rfl⟩)
theorem pg_str {x : Str} (h : x.length ≤ sizeLine) : PG (.str x) := .inl (.inr ⟨x, rfl, h⟩)
def cntV : List V := [.int (-1), .int 0, .int 40, .int 41, .int 1, .int 39, .bl true, .non, .str "1"]
def numV : List V := [.int (-big - 1), .int (-big), .int big, .int (big + 1), .int 0, .bl true, .non, .str "1"]
theorem one_len : ("1" : Str).length ≤ sizeLine := by rw [sizeLine_eq]; decide +kernel
theorem cntV_pg : ∀ v ∈ cntV, PG v := by
  intro v hv
  unfold cntV at hv
  simp only [List.mem_cons, List.not_mem_nil, or_false] at hv
  rcases hv with rfl | rfl | rfl | rfl | rfl | rfl | rfl | rfl | rfl
  · exact pg_int _
  · exact pg_int _
  · exact pg_int _
  · exact pg_int _
  · exact pg_int _
  · exact pg_int _
  · exact pg_bl _
  · exact .inr (.inr rfl)
  · exact pg_str one_len
theorem numV_pg : ∀ v ∈ numV, PG v := by
  intro v hv
  unfold numV at hv
  simp only [List.mem_cons, List.not_mem_nil, or_false] at hv
  rcases hv with rfl | rfl | rfl | rfl | rfl | rfl | rfl | rfl
  · exact pg_int _
  · exact pg_int _
  · exact pg_int _
  · exact pg_int _
  · exact pg_int _
  · exact pg_bl _
  · exact .inr (.inr rfl)
  · exact pg_str one_len
section
variable {P : Program} {w : World} {K : PySem.W.Frag} {mg : Str → Option Value} {base : Heap} {f : Addr} {fd : FuncData}
theorem scCountBy : FnScope ["_law_cell"] ["_law_cell"] (defScope sCountBy) := ⟨rfl, rfl, rfl, by decide +kernel, rfl, by decide +kernel, by decide +kernel⟩
theorem ok_countBy (F : Fun K "_law_count_by" "_law_count_by" sCountBy f fd) : FnOk P w K mg base CX0 1 f fd ["_law_cell"] spValBy := by
  refine F.ok scCountBy (fun vs H Q E h => ?_) (fun cdv A outer s H vs Q E hr h => ?_)
  · obtain ⟨c, rfl, _⟩ := h
    rfl
  obtain ⟨c, rfl, q⟩ := h
  refine ⟨_, pss_cons (ps_if (pt_cmpR op_eq (pe_op op_mod (pv 0) pe_int) pe_int (nomark _)) (pss_one (ps_ret (pe_ix ix_list (pe_lst (t := tVals cntV) (by
      refine pav_cons (pe_un un_neg pe_int) (fun σ H Q h => ⟨_, rfl, h⟩) ?_
      refine pav_cons pe_int (fun σ H Q h => h) ?_
      refine pav_cons pe_int (fun σ H Q h => h) ?_
      refine pav_cons pe_int (fun σ H Q h => h) ?_
      refine pav_cons pe_int (fun σ H Q h => h) ?_
      refine pav_cons pe_int (fun σ H Q h => h) ?_
      refine pav_cons pe_bl (fun σ H Q h => h) ?_
      refine pav_cons pe_non (fun σ H Q h => h) ?_
      refine pav_cons pe_str (fun σ H Q h => h) ?_
      exact pa_nil)) (pe_op op_mod (pe_op op_fdiv (pv 0) pe_int) pe_int) (fun _ _ => rfl)))) pss_nil)
    (pss_one (ps_ret (pe_op op_mod (pe_op op_fdiv (pv 0) pe_int) pe_int))), ?_⟩
  refine ⟨_, rfl, _, _, rfl, rfl, (by show (0 : Int) < 4; decide), rfl, _, rfl, ite2 (fun e => ?_) (fun e => ?_)⟩
  · refine ⟨by show 9 ≤ sizeLine; rw [sizeLine_eq]; decide, fun l hl => ?_⟩
    obtain ⟨v, hv, hat⟩ := at_modV (vs := cntV) (m := 9) rfl (by decide) (c / 4)
    exact ⟨_, rfl, _, _, rfl, rfl, ⟨by decide, by decide⟩, _, _, rfl, rfl, (by show (0 : Int) < 9; decide), l, _, _, v, rfl, rfl, SqL.of upd_same, hat, q v _ (cntV_pg v hv) (same_new hl _)⟩
  · exact ⟨_, rfl, _, _, rfl, rfl, ⟨by decide, by decide⟩, _, _, rfl, rfl, (by show (0 : Int) < 41; decide), q _ _ (pg_int _) (Same.refl _)⟩
theorem scNumBy : FnScope ["_law_cell"] ["_law_cell"] (defScope sNumBy) := ⟨rfl, rfl, rfl, by decide +kernel, rfl, by decide +kernel, by decide +kernel⟩
theorem ok_numBy (F : Fun K "_law_number_by" "_law_number_by" sNumBy f fd) : FnOk P w K mg base CX0 1 f fd ["_law_cell"] spValBy := by
  refine F.ok scNumBy (fun vs H Q E h => ?_) (fun cdv A outer s H vs Q E hr h => ?_)
  · obtain ⟨c, rfl, _⟩ := h
    rfl
  obtain ⟨c, rfl, q⟩ := h
  refine ⟨_, pss_cons (ps_if (pt_cmpR op_eq (pe_op op_mod (pv 0) pe_int) pe_int (nomark _)) (pss_one (ps_ret (pe_ix ix_list (pe_lst (t := tVals numV) (by
      refine pav_cons (pe_op op_sub (pe_un un_neg (pe_op op_pow pe_int pe_int)) pe_int) (fun σ H Q h => ⟨_, _, rfl, rfl, ⟨by decide, by decide, by decide⟩, _, rfl, _, _, rfl, rfl, h⟩) ?_
      refine pav_cons (pe_un un_neg (pe_op op_pow pe_int pe_int)) (fun σ H Q h => ⟨_, _, rfl, rfl, ⟨by decide, by decide, by decide⟩, _, rfl, h⟩) ?_
      refine pav_cons (pe_op op_pow pe_int pe_int) (fun σ H Q h => ⟨_, _, rfl, rfl, ⟨by decide, by decide, by decide⟩, h⟩) ?_
      refine pav_cons (pe_op op_add (pe_op op_pow pe_int pe_int) pe_int) (fun σ H Q h => ⟨_, _, rfl, rfl, ⟨by decide, by decide, by decide⟩, _, _, rfl, rfl, h⟩) ?_
      refine pav_cons pe_int (fun σ H Q h => h) ?_
      refine pav_cons pe_bl (fun σ H Q h => h) ?_
      refine pav_cons pe_non (fun σ H Q h => h) ?_
      refine pav_cons pe_str (fun σ H Q h => h) ?_
      exact pa_nil)) (pe_op op_mod (pe_op op_fdiv (pv 0) pe_int) pe_int) (fun _ _ => rfl)))) pss_nil)
    (pss_one (ps_ret (pe_op op_sub (pe_op op_mod (pe_op op_fdiv (pv 0) pe_int) pe_int) pe_int))), ?_⟩
  refine ⟨_, rfl, _, _, rfl, rfl, (by show (0 : Int) < 4; decide), rfl, _, rfl, ite2 (fun e => ?_) (fun e => ?_)⟩
  · refine ⟨by show 8 ≤ sizeLine; rw [sizeLine_eq]; decide, fun l hl => ?_⟩
    obtain ⟨v, hv, hat⟩ := at_modV (vs := numV) (m := 8) rfl (by decide) (c / 4)
    exact ⟨_, rfl, _, _, rfl, rfl, ⟨by decide, by decide⟩, _, _, rfl, rfl, (by show (0 : Int) < 8; decide), l, _, _, v, rfl, rfl, SqL.of upd_same, hat, q v _ (numV_pg v hv) (same_new hl _)⟩
  · exact ⟨_, rfl, _, _, rfl, rfl, ⟨by decide, by decide⟩, _, _, rfl, rfl, (by show (0 : Int) < 199; decide), _, _, rfl, rfl, q _ _ (pg_int _) (Same.refl _)⟩
abbrev nBetw : List Str := ["_law_number", "_law_low", "_law_high"]
theorem scBetw : FnScope nBetw nBetw (defScope sBetw) := ⟨rfl, rfl, rfl, by decide +kernel, rfl, by decide +kernel, by decide +kernel⟩
theorem ok_betw (F : Fun K "_law_between" "_law_between" sBetw f fd) (T : Txt mg) : FnOk P w K mg base CX0 1 f fd nBetw spWholeG := by
  refine F.ok scBetw (fun vs H Q E h => ?_) (fun cdv A outer s H vs Q E hr h => ?_)
  · obtain ⟨v, lo, hi, rfl, _⟩ := h
    rfl
  obtain ⟨v, lo, hi, rfl, hv, q⟩ := h
  refine ⟨_, pss_one (ps_ret (pe_and (pe_callB call_isinst rfl T.isi PyProof.Rows.boot_isinstance (pa_cons (pv 0) (pa_cons (pe_bltn (v := .ty "int") rfl T.int PyProof.Rows.boot_int rfl) pa_nil)))
    (pe_and (pe_not (pe_callB call_isinst rfl T.isi PyProof.Rows.boot_isinstance (pa_cons (pv 0) (pa_cons (pe_bltn (v := .ty "bool") rfl T.bool PyProof.Rows.boot_bool rfl) pa_nil))))
    (pe_one (pe_chain op_le op_le (pv 1) (pv 0) (pv 2)))))), ?_⟩
  rcases hv with (⟨i, rfl⟩ | ⟨x, rfl, hx⟩) | ⟨b, rfl⟩ | rfl
  · refine ⟨_, rfl, _, _, _, _, rfl, .int _, kit_self K "int", _, rfl, iteT ?_⟩
    refine ⟨_, rfl, _, _, _, _, rfl, .int _, (show PySem.W.kitOne K (.type "int") (.type "bool") = some false from rfl), _, rfl, _, rfl, iteT ?_⟩
    refine ⟨_, rfl, _, rfl, _, _, rfl, rfl, _, rfl, ite2 (fun c => ?_) (fun c => ?_)⟩
    · refine ⟨_, rfl, _, _, rfl, rfl, ?_⟩
      have e : whV lo hi (.int i) = decide (i ≤ hi) := by
        show (decide (lo ≤ i) && decide (i ≤ hi)) = _
        rw [c, Bool.true_and]
      rw [e] at q
      exact q
    · have e : whV lo hi (.int i) = false := by
        show (decide (lo ≤ i) && decide (i ≤ hi)) = _
        rw [Bool.eq_false_iff.mpr c, Bool.false_and]
      rw [e] at q
      exact q
  · exact ⟨_, rfl, _, _, _, _, rfl, .str _, (show PySem.W.kitOne K (.type "str") (.type "int") = some false from rfl), _, rfl, iteF q⟩
  · refine ⟨_, rfl, _, _, _, _, rfl, .bl _, (show PySem.W.kitOne K (.type "bool") (.type "int") = some true from rfl), _, rfl, iteT ?_⟩
    exact ⟨_, rfl, _, _, _, _, rfl, .bl _, kit_self K "bool", _, rfl, _, rfl, iteF q⟩
  · exact ⟨_, rfl, _, _, _, _, rfl, .non, (show PySem.W.kitOne K (.type "NoneType") (.type "int") = some false from rfl), _, rfl, iteF q⟩
end
end Bk
namespace Bk
open PySem L2 Rk PySem.SeqAt
def spAsked (L : List (Addr × List (Pos × Str))) : Sp := fun vs H Q _ => ∃ (off : Int) (st ra : Addr) (w : Str) (nv cv : V) (kvs : List (Key × V)) (as : List Addr) (rows : List (List RS)), vs = [.ref st, .ref ra, .str w, nv, cv, .int off] ∧ 0 ≤ off ∧ off ≤ 2 ∧ Hand L H st ra kvs as rows nv cv ∧ (∀ r ∈ rows, RowOk rows.length r) ∧ ∀ H', SameT H H' → TB L H' → Q (.bl true) H'
abbrev nAskd : List Str := ["_law_starts", "_law_rows", "_law_word", "_law_number", "_law_count", "_law_off", "_law_todo", "_law_due_here", "_law_which"]
theorem Rw0.x {H : Hp} {ra : Addr} {as : List Addr} {rows : List (List RS)} (R : Rw0 H ra as rows) : RwX H ra as rows := ⟨R.lst, R.len, R.row⟩
theorem RwX.same {H H' : Hp} {ra : Addr} {as : List Addr} {rows : List (List RS)} (R : RwX H ra as rows) (s : Same H H') : RwX H' ra as rows :=
  ⟨s _ _ R.lst, R.len, fun p a r h1 h2 => let ⟨us, e, h⟩ := R.row p a r h1 h2; ⟨us, s _ _ e, keepRs h s.keepT⟩⟩
theorem Hand.sameT {L : List (Addr × List (Pos × Str))} {H H' : Hp} {st ra : Addr} {kvs : List (Key × V)} {as : List Addr} {rows : List (List RS)} {nv cv : V} (W : Hand L H st ra kvs as rows nv cv) (s : SameT H H') (B : TB L H') : Hand L H' st ra kvs as rows nv cv := ⟨B, W.pn, W.pc, s _ _ W.st nt_dK, W.rw.sameT s, W.len, W.kv⟩
section
variable {P : Program} {w : World} {K : PySem.W.Frag} {mg : Str → Option Value} {base : Heap} {L : List (Addr × List (Pos × Str))} {f fB fD fT : Addr} {fd dB dD dT : FuncData}
theorem scAskd : FnScope nAskd ["_law_starts", "_law_rows", "_law_word", "_law_number", "_law_count", "_law_off"] (defScope sAskd) := ⟨rfl, rfl, rfl, by decide +kernel, rfl, by decide +kernel, by decide +kernel⟩
theorem ok_asked (F : Fun K "_law_asked" "_law_asked" sAskd f fd) (T : Txt mg)
    (GB : FnOk P w K mg base CX0 1 fB dB nBetw spWholeG) (kB : PySem.W.keepIn K (.ref fB) = true) (bB : Binds K dB nBetw []) (mB : mg "_law_between" = some (.ref fB))
    (GD : FnOk P w K mg base CX0 3 fD dD ["_law_rows", "_law_todo", "_law_number", "_law_count"] spDue) (kD : PySem.W.keepIn K (.ref fD) = true) (bD : Binds K dD ["_law_rows", "_law_todo", "_law_number", "_law_count"] []) (mD : mg "_law_due" = some (.ref fD))
    (GT : FnOk P w K mg base CX1 170 fT dT ["_law_which", "_law_starts", "_law_rows", "_law_word", "_law_number", "_law_count", "_law_off"] (spTold L)) (kT : PySem.W.keepIn K (.ref fT) = true) (bT : Binds K dT ["_law_which", "_law_starts", "_law_rows", "_law_word", "_law_number", "_law_count", "_law_off"] []) (mT : mg "_law_told" = some (.ref fT)) :
    FnOk P w K mg base CX1 171 f fd ["_law_starts", "_law_rows", "_law_word", "_law_number", "_law_count", "_law_off"] (spAsked L) := by
  refine F.ok1 scAskd (fun vs H Q E h => ?_) (fun cdv A outer s H vs Q E hr h => ?_)
  · obtain ⟨off, st, ra, w, nv, cv, kvs, as, rows, rfl, _⟩ := h
    rfl
  obtain ⟨off, st, ra, w, nv, cv, kvs, as, rows, rfl, f0, f2, W, hok, q⟩ := h
  have hr1 := hr.mono (j := 1) (by decide)
  have hr3 := hr.mono (j := 3) (by decide)
  have hu := hu_of hr
  have hu64 : (A.deeper (PyProof.Rows.envOfC "_law_asked" (defScope sAskd) s.heap.objs.size f cdv)).units + 64 < cLine := by have := hr.un; omega
  have z2 : 2 ≤ sizeLine := by rw [sizeLine_eq]; decide
  have z1 : 1 ≤ sizeLine := by rw [sizeLine_eq]; decide
  -- both ways, against what is due
  refine with_tail (tail := (defBody sAskd).drop 6) (fun tt => ∀ (D : L2.Ends) (nv cv : V) (H1 : Hp) (r : Addr) (v6 : Option V), D.rt = Q → (off = 2 → nv = .int 0 ∧ cv = .int 40) → (off = 1 → cv = .int 40) → PG nv → PG cv → Same H H1 → OwAt H1 r (outO kvs w rows nv cv) → tt D [some (.ref st), some (.ref ra), some (.str w), some nv, some cv, some (.int off), v6, some (.ref r), none] H1) ?_ ?_
  · refine ⟨_, pss_cons (ps_for PassesOwn.never rfl (pi_range1 rfl T.range (pa_cons pe_int pa_nil)) (pg_name (i := 8) scAskd.nd rfl (Or.inl rfl))
        (pss_one (ps_if (pt_cmpR (op_neD hu64) (pe_call GT hr rfl mT kT bT .nil pass1 (pa_cons (pv 8) (pa_cons (pv 0) (pa_cons (pv 1) (pa_cons (pv 2) (pa_cons (pv 3) (pa_cons (pv 4) (pa_cons (pv 5) pa_nil)))))))) (pv 7) (nomark _)) pss_never pss_nil)))
      (pss_one (ps_ret pe_bl)), fun D nv cv H1 r v6 hD o2 o1 pn pc s1 ow => ?_⟩
    have W1 : Hand L H1 st ra kvs as rows nv cv := ⟨W.tb.keep s1, pn, pc, s1 _ _ W.st, W.rw.same s1, W.len, W.kv⟩
    refine ⟨2, rfl, by decide, by decide, for_range (n := 2) (fun i σ H2 => ∃ v8 : Option V, σ = [some (.ref st), some (.ref ra), some (.str w), some nv, some cv, some (.int off), v6, some (.ref r), v8] ∧ SameT H1 H2 ∧ TB L H2) ⟨none, rfl, .refl _, W1.tb⟩ ?_ ?_⟩
    · rintro i σ H2 hi ⟨v8, rfl, s2, B2⟩
      refine ⟨_, rfl, _, rfl, _, rfl, _, rfl, _, rfl, _, rfl, _, rfl, (0 : Int) + (i : Int), off, st, ra, w, nv, cv, kvs, as, rows, rfl, o2, o1, W1.sameT s2 B2, fun r2 H3 s3 B3 ow3 => ?_⟩
      obtain ⟨p1, p2⟩ := datO_pl (outO kvs w rows nv cv)
      have sh := shaped_of p1 (by omega)
      refine ⟨_, rfl, _, _, ow3.dv K, (OwAt.sameT (s2.trans s3) ow).dv K, sh, sh, (same_self _ p1).2.1, _, rfl, ?_⟩
      rw [if_pos rfl, (same_self _ p1).1]
      exact iteF ⟨_, rfl, s2.trans s3, B3⟩
    · rintro σ H2 ⟨v8, rfl, s2, B2⟩
      show D.rt _ _
      rw [hD]
      exact q _ (s1.toT.trans s2) B2
  intro t6 h6 p6
  -- what is due
  refine with_tail (tail := (defBody sAskd).drop 4) (fun tt => ∀ (D : L2.Ends) (nv cv : V) (H1 : Hp) (la : Addr) (v : V) (ld : Ah.Ld), D.rt = Q → (off = 2 → nv = .int 0 ∧ cv = .int 40) → (off = 1 → cv = .int 40) → PG nv → PG cv → Same H H1 → H la = none → H1 la = some (.lst [v]) → LdAt H1 v ld → (∀ p ∈ Ah.ldsL ld, p < rows.length) → (∀ (n : Int) (c : Nat), nv = .int n → cv = .int (c : Int) → ouR (unw (rS rows) [.st (.ld ld)] (.ok n c [])) = ouR (resO kvs w rows nv cv)) → tt D [some (.ref st), some (.ref ra), some (.str w), some nv, some cv, some (.int off), some (.ref la), none, none] H1) ?_ ?_
  · refine ⟨_, pss_cons (ps_set (i := 7) scAskd.nd rfl (Or.inl rfl) (pe_tup (pa_cons pe_str pa_nil)))
      (pss_cons (ps_if (pt_val (pe_call GB hr1 rfl mB kB bB .nil pass0 (pa_cons (pv 3) (pa_cons (pe_un un_neg (pe_op op_pow pe_int pe_int)) (pa_cons (pe_op op_pow pe_int pe_int) pa_nil)))))
        (pss_cons (ps_set (i := 7) scAskd.nd rfl (Or.inl rfl) (pe_tup (pa_cons pe_str pa_nil)))
        (pss_one (ps_if (pt_val (pe_call GB hr1 rfl mB kB bB .nil pass0 (pa_cons (pv 4) (pa_cons pe_int (pa_cons pe_int pa_nil)))))
          (pss_one (ps_set (i := 7) scAskd.nd rfl (Or.inl rfl) (pe_call GD hr3 rfl mD kD bD .nil pass0 (pa_cons (pv 1) (pa_cons (pv 6) (pa_cons (pv 3) (pa_cons (pv 4) pa_nil))))))) pss_nil))) pss_nil) h6),
      fun D nv cv H1 la v ld hD o2 o1 pn pc s1 hla ela hld hlt hres => ?_⟩
    refine ⟨by show 1 ≤ sizeLine; exact z1, fun r1 hr1' => ?_⟩
    have s2 := same_new hr1' (.tup [.str "number"])
    have er1 : (upd H1 r1 (.tup [.str "number"])) r1 = some (.tup [.str "number"]) := upd_same
    generalize upd H1 r1 (.tup [.str "number"]) = H2 at *
    refine ⟨_, rfl, _, _, rfl, rfl, ⟨by decide, by decide, by decide⟩, _, rfl, _, _, rfl, rfl, ⟨by decide, by decide, by decide⟩, nv, -big, big, rfl, pn, ?_⟩
    cases e1 : whV (-big) big nv with
    | false =>
      refine ⟨_, rfl, iteF ?_⟩
      exact p6 D nv cv H2 r1 _ hD o2 o1 pn pc (s1.trans s2) (by unfold outO; rw [if_pos e1]; exact er1)
    | true =>
    refine ⟨_, rfl, iteT ?_⟩
    refine ⟨by show 1 ≤ sizeLine; exact z1, fun r2 hr2 => ?_⟩
    have s3 := same_new hr2 (.tup [.str "count"])
    have er2 : (upd H2 r2 (.tup [.str "count"])) r2 = some (.tup [.str "count"]) := upd_same
    generalize upd H2 r2 (.tup [.str "count"]) = H3 at *
    have s13 := s2.trans s3
    have h1n : ¬ whV (-big) big nv = false := by rw [e1]; exact Bool.noConfusion
    refine ⟨_, rfl, cv, 0, 40, rfl, pc, ?_⟩
    cases e2 : whV 0 40 cv with
    | false =>
      refine ⟨_, rfl, iteF ?_⟩
      exact p6 D nv cv H3 r2 _ hD o2 o1 pn pc (s1.trans s13) (by unfold outO; rw [if_neg h1n, if_pos e2]; exact er2)
    | true =>
    refine ⟨_, rfl, iteT ?_⟩
    obtain ⟨n, rfl, n0, n1⟩ := wh_int e1
    obtain ⟨ci, rfl, c0, c1⟩ := wh_int e2
    obtain ⟨c, rfl⟩ := Int.eq_ofNat_of_zero_le c0
    have sm : Same H (mask1 H3 la) := Same.mask1 (s1.trans s13) hla
    refine ⟨_, rfl, _, rfl, _, rfl, _, rfl, ?_⟩
    dsimp only [tNil, List.append_nil, List.cons_append, List.nil_append]
    refine ⟨ra, la, as, rows, v, ld, n, c, rfl, W.rw.x.same sm, hok, s13 _ _ ela, LdAt.keep s13.keepT hld, hlt, ab_big n0 n1, by omega, fun r H4 s4 h4 => ?_⟩
    refine p6 D _ _ H4 r _ hD o2 o1 pn pc (sm.trans s4) ?_
    unfold outO
    rw [if_neg h1n, if_neg (by rw [e2]; exact Bool.noConfusion)]
    show DueAt H4 r _
    rw [← hres n c rfl rfl]
    exact h4
  intro t4 h4 p4
  -- the things to do
  refine with_tail (tail := (defBody sAskd).drop 2) (fun tt => ∀ (D : L2.Ends) (nv cv : V), D.rt = Q → (off = 2 → nv = .int 0 ∧ cv = .int 40) → (off = 1 → cv = .int 40) → PG nv → PG cv → tt D [some (.ref st), some (.ref ra), some (.str w), some nv, some cv, some (.int off), none, none, none] H) ?_ ?_
  · refine ⟨_, pss_cons (ps_set (i := 6) scAskd.nd rfl (Or.inl rfl) (pe_lst (pa_cons (pe_tup (pa_cons pe_str pa_nil)) pa_nil)))
      (pss_cons (ps_if (pt_cmp (pc_din hu (pv 2) (pv 0))) (pss_one (ps_set (i := 6) scAskd.nd rfl (Or.inl rfl) (pe_lst (pa_cons (pe_tup (pa_cons pe_str (pa_cons (pe_dget hu (pv 0) (pv 2) (fun _ _ => rfl)) pa_nil))) pa_nil)))) pss_nil) h4), fun D nv cv hD o2 o1 pn pc => ?_⟩
    refine ⟨by show 1 ≤ sizeLine; exact z1, fun t1 ht1 => ⟨by show 1 ≤ sizeLine; exact z1, fun l1 hl1 => ?_⟩⟩
    have s1 := same_new ht1 (.tup [.str "none"])
    have et1 : (upd H t1 (.tup [.str "none"])) t1 = some (.tup [.str "none"]) := upd_same
    generalize upd H t1 (.tup [.str "none"]) = H1 at *
    have s2 := same_new hl1 (.lst [.ref t1])
    have el1 : (upd H1 l1 (.lst [.ref t1])) l1 = some (.lst [.ref t1]) := upd_same
    generalize upd H1 l1 (.lst [.ref t1]) = H2 at *
    have s12 := s1.trans s2
    refine ⟨_, rfl, _, rfl, st, _, rfl, DGet.k (k := Sum.inr w) (s12 _ _ W.st), _, rfl, ?_⟩
    cases hv : valV kvs (Sum.inr w : Key) with
    | none =>
      refine iteF ?_
      refine p4 D nv cv H2 l1 (.ref t1) .none hD o2 o1 pn pc s12 (s1.free hl1) el1 ⟨t1, rfl, s2 _ _ et1⟩ (fun p hp => nomatch hp) fun n c _ _ => ?_
      unfold resO
      rw [hv]
      rfl
    | some v =>
      obtain ⟨kv, hkm, _, rfl⟩ := valV_mem hv
      obtain ⟨p, hpe, hpl⟩ := W.kv kv hkm
      rw [hpe] at hv ⊢
      refine iteT ?_
      refine ⟨_, rfl, _, rfl, st, .int (p : Int), rfl, by rw [← hv]; exact DGet.k (k := Sum.inr w) (s12 _ _ W.st), by show 2 ≤ sizeLine; exact z2, fun t2 ht2 => ⟨by show 1 ≤ sizeLine; exact z1, fun l2 hl2 => ?_⟩⟩
      have s3 := same_new ht2 (.tup [.str "go", .int (p : Int)])
      have et2 : (upd H2 t2 (.tup [.str "go", .int (p : Int)])) t2 = some (.tup [.str "go", .int (p : Int)]) := upd_same
      generalize upd H2 t2 (.tup [.str "go", .int (p : Int)]) = H3 at *
      have s4 := same_new hl2 (.lst [.ref t2])
      have s14 := (s12.trans s3).trans s4
      refine p4 D nv cv _ l2 (.ref t2) (.go p) hD o2 o1 pn pc s14 ((s12.trans s3).free hl2) upd_same ⟨t2, rfl, s4 _ _ et2⟩ (fun x hx => by rw [List.mem_singleton.mp hx]; exact hpl) fun n c hn hc => ?_
      subst hn
      subst hc
      unfold resO
      rw [hv]
      show ouR (rS rows p n c []) = ouR (rS rows ((p : Int)).toNat n ((c : Int)).toNat [])
      rw [Int.toNat_natCast, Int.toNat_natCast]
  intro t2 h2 p2
  refine ⟨_, pss_cons (ps_if (pt_cmpR op_gt (pv 5) pe_int (nomark _)) (pss_one (ps_set (i := 4) scAskd.nd rfl (Or.inl rfl) pe_int)) pss_nil)
    (pss_cons (ps_if (pt_cmpR op_gt (pv 5) pe_int (nomark _)) (pss_one (ps_set (i := 3) scAskd.nd rfl (Or.inl rfl) pe_int)) pss_nil) h2), ?_⟩
  refine ⟨_, rfl, _, _, rfl, rfl, _, rfl, ite2 (fun c => ?_) (fun c => ?_)⟩
  · have c : (0 : Int) < off := of_decide_eq_true c
    refine ⟨_, rfl, _, _, rfl, rfl, _, rfl, ite2 (fun c2 => ?_) (fun c2 => ?_)⟩
    · exact p2 _ (.int 0) (.int 40) rfl (fun _ => ⟨rfl, rfl⟩) (fun _ => rfl) (pg_int _) (pg_int _)
    · have c2 : ¬ (1 : Int) < off := fun z => c2 (decide_eq_true z)
      exact p2 _ nv (.int 40) rfl (fun z => absurd z (by omega)) (fun _ => rfl) W.pn (pg_int _)
  · have c : ¬ (0 : Int) < off := fun z => c (decide_eq_true z)
    refine ⟨_, rfl, _, _, rfl, rfl, _, rfl, ite2 (fun c2 => ?_) (fun c2 => ?_)⟩
    · have c2 : (1 : Int) < off := of_decide_eq_true c2
      exact absurd c2 (by omega)
    · exact p2 _ nv cv rfl (fun z => absurd z (by omega)) (fun z => absurd z (by omega)) W.pn W.pc
end
end Bk
namespace L2
open PySem
theorem SameT.seq {K : PySem.W.Frag} {H H' : Hp} {a : Addr} {xs : List V} (e : SameT H H') (h : SqL K H a xs) : SqL K H' a xs := by
  rcases h with (h | ⟨o, h⟩) | h
  · exact .inl (.inl (e _ _ h nt_lst))
  · exact .inl (.inr ⟨o, e _ _ h (nt_ne fun _ z => nomatch z)⟩)
  · exact .inr h
end L2
namespace Bk
open PySem L2 Rk
theorem rw0_of {H : Hp} {ra : Addr} {as : List Addr} {rows : List (List RS)} (R : RwX H ra as rows) (h : ∀ r ∈ rows, RowOk rows.length r) : Rw0 H ra as rows :=
  ⟨R.lst, R.len, R.row, fun r hr => ⟨fun s hs => ((h r hr).1 s hs).1, (h r hr).2⟩, fun r hr s hs => ⟨fun l e => by
    have := ((h r hr).1 s hs).2
    rw [e] at this
    exact this, fun x y e => by
    have := ((h r hr).1 s hs).2
    rw [e] at this
    exact this⟩⟩
theorem rdLt_mono {n m : Nat} (h : n ≤ m) : ∀ {s : RS}, rdLt n s → rdLt m s
  | .ld _, z => fun p hp => Nat.lt_of_lt_of_le (z p hp) h
  | .ei _ _, z => ⟨fun p hp => Nat.lt_of_lt_of_le (z.1 p hp) h, fun p hp => Nat.lt_of_lt_of_le (z.2 p hp) h⟩
  | .sm _, _ => trivial
theorem RowOk.mono {n m : Nat} (h : n ≤ m) {r : List RS} (z : RowOk n r) : RowOk m r := ⟨fun s hs => ⟨(z.1 s hs).1, rdLt_mono h (z.1 s hs).2⟩, z.2⟩
def moreR (n : Nat) (kd : Str) (a : Int) : List (List RS) := [[.sm (.op "plus" 1), .ei (.go (n + 1)) (.go (n + 2)), .sm .say], [.sm (.op kd a), .sm .say, .ld .none], [.sm .say, .sm (.op "plus" 2)]]
theorem okA_of {kd : Str} {a : Int} (h1 : kd ∈ (["plus", "times", "put", "odd"] : List Str)) (h2 : -100 ≤ a) (h3 : a ≤ 100) : OkA kd a := by
  have m : kd ∈ sorts1 := by
    simp only [List.mem_cons, List.not_mem_nil, or_false] at h1
    rcases h1 with rfl | rfl | rfl | rfl <;> decide +kernel
  have d : ∀ x : Str, x ∈ (["over", "part", "up", "down"] : List Str) → kd ≠ x := by
    simp only [List.mem_cons, List.not_mem_nil, or_false] at h1
    rcases h1 with rfl | rfl | rfl | rfl <;> decide +kernel
  refine ⟨m, by rw [big_eq]; omega, by rw [big_eq]; omega, fun z => ?_, fun z => ?_⟩
  · rcases z with z | z
    · exact absurd z (d _ (by simp))
    · exact absurd z (d _ (by simp))
  · rcases z with z | z
    · exact absurd z (d _ (by simp))
    · exact absurd z (d _ (by simp))
theorem more_ok {n : Nat} {kd : Str} {a : Int} (h : OkA kd a) : ∀ r ∈ moreR n kd a, RowOk (n + 3) r := by
  have p1 : OkA "plus" 1 := okA_of (by simp) (by decide) (by decide)
  have p2 : OkA "plus" 2 := okA_of (by simp) (by decide) (by decide)
  intro r hr
  unfold moreR at hr
  simp only [List.mem_cons, List.not_mem_nil, or_false] at hr
  rcases hr with rfl | rfl | rfl
  · refine ⟨fun s hs => ?_, Nat.le_of_ble_eq_true rfl⟩
    simp only [List.mem_cons, List.not_mem_nil, or_false] at hs
    rcases hs with rfl | rfl | rfl
    · exact ⟨p1, trivial⟩
    · refine ⟨trivial, fun p hp => ?_, fun p hp => ?_⟩
      · have : p = n + 1 := List.mem_singleton.mp hp
        omega
      · have : p = n + 2 := List.mem_singleton.mp hp
        omega
    · exact ⟨trivial, trivial⟩
  · refine ⟨fun s hs => ?_, Nat.le_of_ble_eq_true rfl⟩
    simp only [List.mem_cons, List.not_mem_nil, or_false] at hs
    rcases hs with rfl | rfl | rfl
    · exact ⟨h, trivial⟩
    · exact ⟨trivial, trivial⟩
    · exact ⟨trivial, fun p hp => nomatch hp⟩
  · refine ⟨fun s hs => ?_, Nat.le_of_ble_eq_true rfl⟩
    simp only [List.mem_cons, List.not_mem_nil, or_false] at hs
    rcases hs with rfl | rfl
    · exact ⟨trivial, trivial⟩
    · exact ⟨p2, trivial⟩
theorem rwX_app {H : Hp} {ra rb rc : Addr} {as bs : List Addr} {rows more : List (List RS)} (R : RwX H ra as rows) (S : RwX H rb bs more) (e : H rc = some (.lst (as.map V.ref ++ bs.map V.ref))) : RwX H rc (as ++ bs) (rows ++ more) := by
  refine ⟨by rw [e, List.map_append], by rw [List.length_append, List.length_append, R.len, S.len], fun p a r h1 h2 => ?_⟩
  by_cases hp : p < as.length
  · rw [List.getElem?_append_left hp] at h1
    rw [List.getElem?_append_left (by rw [← R.len]; exact hp)] at h2
    exact R.row p a r h1 h2
  · rw [List.getElem?_append_right (by omega)] at h1
    rw [List.getElem?_append_right (by rw [← R.len]; omega), ← R.len] at h2
    exact S.row _ a r h1 h2
structure Mono (C : St → Hp → Prop) : Prop where
  up : ∀ {σ : St} {H H' : Hp}, Same H H' → C σ H → C σ H'
def tStC (C : St → Hp → Prop) (s : RS) : TE := fun σ H Q => C σ H ∧ ∀ v H', Same H H' → RAt H' v s → Q v H'
def tStsC (C : St → Hp → Prop) (ss : List RS) : TA := fun σ H Q => C σ H ∧ ∀ vs H', Same H H' → Paired (RAt H') vs ss → Q vs H'
def tRwC (C : St → Hp → Prop) (r : List RS) : TE := fun σ H Q => C σ H ∧ ∀ l us H', Same H H' → H' l = some (.lst us) → Paired (RAt H') us r → Q (.ref l) H'
def AsAt (H : Hp) (a : Addr) (r : List RS) : Prop := ∃ us, H a = some (.lst us) ∧ Paired (RAt H) us r
theorem AsAt.same {H H' : Hp} {a : Addr} {r : List RS} (s : Same H H') (h : AsAt H a r) : AsAt H' a r := let ⟨us, e, p⟩ := h; ⟨us, s _ _ e, keepRs p s.keepT⟩
def tRsC (C : St → Hp → Prop) (rs : List (List RS)) : TA := fun σ H Q => C σ H ∧ ∀ (as : List Addr) H', Same H H' → Paired (AsAt H') as rs → Q (as.map V.ref) H'
def tRwsC (C : St → Hp → Prop) (rs : List (List RS)) : TE := fun σ H Q => C σ H ∧ ∀ l as H', Same H H' → H' l = some (.lst (as.map V.ref)) → Paired (AsAt H') as rs → Q (.ref l) H'
theorem rwX_of {H : Hp} {l : Addr} {as : List Addr} {rs : List (List RS)} (e : H l = some (.lst (as.map V.ref))) (h : Paired (AsAt H) as rs) : RwX H l as rs := by
  refine ⟨e, Paired.length h, ?_⟩
  clear e
  induction h with
  | nil => exact fun p a r z => nomatch z
  | cons x t ih =>
    intro p a r h1 h2
    cases p with
    | zero =>
      cases h1
      cases h2
      exact x
    | succ p => exact ih p a r h1 h2
section
variable {X : Cx} {C : St → Hp → Prop} {e : Expr} {es : List Expr} {pos : Pos}
theorem PA.imp {t t' : TA} (h : PA X es t) (i : ∀ σ H Q, t' σ H Q → t σ H Q) : PA X es t' := fun pos pins s σ H Q I hw => h pos pins s σ H Q I (i σ H Q hw)
theorem pa_stN : PA X [] (tStsC C []) := PA.imp pa_nil fun σ H Q h => h.2 [] H (Same.refl _) .nil
theorem pa_stC {s : RS} {ss : List RS} (M : Mono C) (he : PE X e (tStC C s)) (h : PA X es (tStsC C ss)) (hs : starEach (e :: es) X.env = (false, eval e X.env) :: starEach es X.env := by rfl) : PA X (e :: es) (tStsC C (s :: ss)) :=
  PA.imp (pa_cons he h hs) fun σ H Q ⟨hc, q⟩ => ⟨hc, fun v H1 s1 r1 => ⟨M.up s1 hc, fun vs H2 s2 r2 => q (v :: vs) H2 (s1.trans s2) (.cons (r1.keep s2.keepT) r2)⟩⟩
theorem pe_rwC {ss : List RS} (h : PA X es (tStsC C ss)) (hl : ss.length ≤ 90 := by exact Nat.le_of_ble_eq_true rfl) : PE X (.List es pos) (tRwC C ss) :=
  (pe_lst h).imp fun σ H Q ⟨hc, q⟩ => ⟨hc, fun vs H1 s1 r1 => ⟨by rw [Paired.length r1, sizeLine_eq]; omega, fun p hp => q p vs _ (s1.trans (same_new hp _)) upd_same (keepRs r1 (same_new hp _).keepT)⟩⟩
theorem pa_rwN : PA X [] (tRsC C []) := PA.imp pa_nil fun σ H Q h => h.2 [] H (Same.refl _) .nil
theorem pa_rwC {r : List RS} {rs : List (List RS)} (M : Mono C) (he : PE X e (tRwC C r)) (h : PA X es (tRsC C rs)) (hs : starEach (e :: es) X.env = (false, eval e X.env) :: starEach es X.env := by rfl) : PA X (e :: es) (tRsC C (r :: rs)) :=
  PA.imp (pa_cons he h hs) fun σ H Q ⟨hc, q⟩ => ⟨hc, fun l us H1 s1 e1 r1 => ⟨M.up s1 hc, fun as H2 s2 r2 => q (l :: as) H2 (s1.trans s2) (.cons (AsAt.same s2 ⟨us, e1, r1⟩) r2)⟩⟩
theorem pe_rwsC {rs : List (List RS)} (h : PA X es (tRsC C rs)) (hl : rs.length ≤ 90 := by exact Nat.le_of_ble_eq_true rfl) : PE X (.List es pos) (tRwsC C rs) :=
  (pe_lst h).imp fun σ H Q ⟨hc, q⟩ => ⟨hc, fun as H1 s1 r1 => ⟨by rw [List.length_map, Paired.length r1, sizeLine_eq]; omega, fun p hp => q p as _ (s1.trans (same_new hp _)) upd_same (Paired.mapP r1 fun _ _ z => z.same (same_new hp _))⟩⟩
theorem one_le : 1 ≤ sizeLine := by rw [sizeLine_eq]; decide
theorem two_le : 2 ≤ sizeLine := by rw [sizeLine_eq]; decide
theorem three_le : 3 ≤ sizeLine := by rw [sizeLine_eq]; decide
theorem st_say {j : Nat} {p : Pos} {x1 : Nat} : PE X (.Tuple [.Constant (.str "say") j p] x1 pos) (tStC C (.sm .say)) :=
  (pe_tup (pa_cons pe_str pa_nil)).imp fun σ H Q ⟨hc, q⟩ => ⟨one_le, fun t ht => q _ _ (same_new ht _) ⟨t, rfl, upd_same⟩⟩
theorem st_none {j : Nat} {p : Pos} {x1 : Nat} : PE X (.Tuple [.Constant (.str "none") j p] x1 pos) (tStC C (.ld .none)) :=
  (pe_tup (pa_cons pe_str pa_nil)).imp fun σ H Q ⟨hc, q⟩ => ⟨one_le, fun t ht => q _ _ (same_new ht _) ⟨t, rfl, upd_same⟩⟩
theorem st_op {j : Nat} {p : Pos} {x1 : Nat} {kd : Str} {a : Int} {te : TE} (he : PE X e te) (hv : ∀ σ H Q, C σ H → Q (.int a) H → te σ H Q) (hs : starEach [e] X.env = (false, eval e X.env) :: starEach [] X.env := by rfl) : PE X (.Tuple [.Constant (.str kd) j p, e] x1 pos) (tStC C (.sm (.op kd a))) :=
  (pe_tup (pa_cons pe_str (pa_cons he pa_nil hs))).imp fun σ H Q ⟨hc, q⟩ => hv σ H _ hc ⟨two_le, fun t ht => q _ _ (same_new ht _) ⟨t, rfl, upd_same⟩⟩
theorem st_go {j : Nat} {p : Pos} {x1 : Nat} {k : Nat} {te : TE} (he : PE X e te) (hv : ∀ σ H Q, C σ H → Q (.int (k : Int)) H → te σ H Q) (hs : starEach [e] X.env = (false, eval e X.env) :: starEach [] X.env := by rfl) : PE X (.Tuple [.Constant (.str "go") j p, e] x1 pos) (tStC C (.ld (.go k))) :=
  (pe_tup (pa_cons pe_str (pa_cons he pa_nil hs))).imp fun σ H Q ⟨hc, q⟩ => hv σ H _ hc ⟨two_le, fun t ht => q _ _ (same_new ht _) ⟨t, rfl, upd_same⟩⟩
theorem st_ei {j : Nat} {p : Pos} {x1 : Nat} {e' : Expr} {x y : Ah.Ld} (M : Mono C) (h1 : PE X e (tStC C (.ld x))) (h2 : PE X e' (tStC C (.ld y))) (hs : starEach [e, e'] X.env = (false, eval e X.env) :: starEach [e'] X.env := by rfl) (hs' : starEach [e'] X.env = (false, eval e' X.env) :: starEach [] X.env := by rfl) : PE X (.Tuple [.Constant (.str "either") j p, e, e'] x1 pos) (tStC C (.ei x y)) :=
  (pe_tup (pa_cons pe_str (pa_cons h1 (pa_cons h2 pa_nil hs') hs))).imp fun σ H Q ⟨hc, q⟩ => ⟨hc, fun v H1 s1 r1 => ⟨M.up s1 hc, fun u H2 s2 r2 => ⟨three_le, fun t ht => q _ _ ((s1.trans s2).trans (same_new ht _)) ⟨t, v, u, rfl, upd_same, LdAt.keep (s2.trans (same_new ht _)).keepT r1, LdAt.keep (same_new ht _).keepT r2⟩⟩⟩⟩
end
def chS (c : Int) : List RS := [.sm (.op "plus" (1 + c % 9)), .sm (.op "times" 2), .sm (.op "put" (-3)), .sm (.op "odd" 5)]
theorem paired_at {α β : Type} {F : α → β → Prop} {xs : List α} {ys : List β} (h : Paired F xs ys) {k : Nat} {y : β} (hy : ys[k]? = some y) : ∃ x, xs[k]? = some x ∧ F x y := by
  induction h generalizing k with
  | nil => exact nomatch hy
  | cons r t ih =>
    cases k with
    | zero => cases hy; exact ⟨_, rfl, r⟩
    | succ k => exact ih hy
theorem ch_at (c : Int) : ∃ kd n, OkA kd n ∧ ∀ (H : Hp) (us : List V), Paired (RAt H) us (chS c) → ∃ v, atI us (c / 2 % 4) = some v ∧ RAt H v (.sm (.op kd n)) := by
  have c0 : 0 ≤ c % 9 := Int.emod_nonneg _ (by decide)
  have c1 : c % 9 < 9 := Int.emod_lt_of_pos _ (by decide)
  obtain ⟨k, hk⟩ := Int.eq_ofNat_of_zero_le (Int.emod_nonneg (c / 2) (show (4 : Int) ≠ 0 by decide))
  have h4 := Int.emod_lt_of_pos (c / 2) (show (0 : Int) < 4 by decide)
  rw [hk] at h4 ⊢
  have go : ∀ kd n, OkA kd n → (chS c)[k]? = some (.sm (.op kd n)) → ∃ kd n, OkA kd n ∧ ∀ (H : Hp) (us : List V), Paired (RAt H) us (chS c) → ∃ v, atI us (k : Int) = some v ∧ RAt H v (.sm (.op kd n)) := fun kd n h1 h2 => ⟨kd, n, h1, fun H us hp => let ⟨v, e, r⟩ := paired_at hp h2; ⟨v, atI_nat e, r⟩⟩
  have hk4 : k < 4 := by omega
  match k, hk4, go with
  | 0, _, go => exact go _ _ (okA_of (by simp) (by omega) (by omega)) rfl
  | 1, _, go => exact go _ _ (okA_of (by simp) (by decide) (by decide)) rfl
  | 2, _, go => exact go _ _ (okA_of (by simp) (by decide) (by decide)) rfl
  | 3, _, go => exact go _ _ (okA_of (by simp) (by decide) (by decide)) rfl
theorem psw_rws {X : Cx} {C : St → Hp → Prop} {rs : List (List RS)} {i : Nat} {x : Str} {es : List Expr} {pos pos' p2 : Pos} (hN : X.N.Nodup) (hi : X.N[i]? = some x) (hx : Loc X.env.scope x) (h : PA X es (tRsC C rs)) (hl : rs.length ≤ 90) (hf : X.fn x = true ∨ X.env.scope.names.lookup x = some .local) : PSw X (.Assign [.Name x pos'] (.List es p2) pos) (tAsg (tRwsC C rs) (gName i)) := ⟨ps_set hN hi hx (pe_rwsC h hl) rfl hf⟩
theorem psw_catr {X : Cx} {C : St → Hp → Prop} {rs : List (List RS)} {i : Nat} {x : Str} {es : List Expr} {tn : TE} {pos pos' p1 p2 p3 : Pos} (hN : X.N.Nodup) (hi : X.N[i]? = some x) (hx : Loc X.env.scope x) (hv : PE X (.Name x p1) tn) (h : PA X es (tRsC C rs)) (hl : rs.length ≤ 90) (hf : X.fn x = true ∨ X.env.scope.names.lookup x = some .local) : PSw X (.Assign [.Name x pos'] (.BinOp (.Name x p1) .Add (.List es p2) p3) pos) (tAsg (tOp rCat tn (tRwsC C rs)) (gName i)) := ⟨ps_set hN hi hx (pe_op op_cat hv (pe_rwsC h hl)) rfl hf⟩
theorem psw_ixr {X : Cx} {K : PySem.W.Frag} {C : St → Hp → Prop} {ss : List RS} {i : Nat} {x : Str} {es : List Expr} {ix : Expr} {ti : TE} {pos pos' p2 p3 : Pos} (hN : X.N.Nodup) (hi : X.N[i]? = some x) (hx : Loc X.env.scope x) (h : PA X es (tStsC C ss)) (hl : ss.length ≤ 90) (hv : PE X ix ti) (hp : PlainIx ix) (hf : X.fn x = true ∨ X.env.scope.names.lookup x = some .local) (hK : X.K = K) (hsw : swapsWith (.Subscript (.List es p2) ix p3) (some (.Name x pos')) pos.line X.env = pure false) : PSw X (.Assign [.Name x pos'] (.Subscript (.List es p2) ix p3) pos) (tAsg (tOp (rIxL K) (tRwC C ss) ti) (gName i)) := ⟨ps_set hN hi hx (pe_ix (ix_listK hK) (pe_rwC h hl) hv hp) hsw hf⟩
abbrev nTBack : List Str := ["_law_script", "_law_rows", "_law_cell", "_law_many", "_law_change", "_law_more", "_law_count"]
theorem nTB_nd : nTBack.Nodup := by decide +kernel
def cB (a ra : Addr) (c : Int) (n : Nat) : St → Hp → Prop := fun σ _ => σ = [some (.ref a), some (.ref ra), some (.int c), some (.int (n : Int)), none, none, none]
def cC (a ra : Addr) (c : Int) (n : Nat) (kd : Str) (m : Int) : St → Hp → Prop := fun σ H => ∃ v4 v5, σ = [some (.ref a), some (.ref ra), some (.int c), some (.int (n : Int)), some v4, v5, none] ∧ RAt H v4 (.sm (.op kd m))
theorem mB {a ra : Addr} {c : Int} {n : Nat} : Mono (cB a ra c n) := ⟨fun s e => e⟩
theorem mC_ {a ra : Addr} {c : Int} {n : Nat} {kd : Str} {m : Int} : Mono (cC a ra c n kd m) := ⟨fun s ⟨v4, v5, e, r⟩ => ⟨v4, v5, e, r.keep s.keepT⟩⟩
section
variable {X : Cx} {K : PySem.W.Frag} {tail : List Stmt} {t : TS} {a ra : Addr} {c : Int} {n : Nat} {kd : Str} {m : Int}
theorem tb2_st (hN : X.N = nTBack) (hs : X.env.scope = defScope sTBack) (hK : X.K = K) : PSw X ((defBody sTBack).getD 2 (.Pass ⟨0, 0, 0, 0⟩)) (tAsg (tOp (rIxL K) (tRwC (cB a ra c n) (chS c)) (tOp (rI (fun _ j => 0 < j) fun i j => .int (i % j)) (tOp (rI CDiv fun i j => .int (i / j)) (tVar 2) (tC (.int 2))) (tC (.int 4)))) (gName 4)) := by
  have v2 : ∀ p, PE X (.Name "_law_cell" p) (tVar 2) := fun p => pe_var (i := 2) (by rw [hN]; rfl) (by rw [hs]; exact Or.inl rfl)
  refine psw_ixr (x := "_law_change") (by rw [hN]; exact nTB_nd) (by rw [hN]; rfl) (by rw [hs]; exact Or.inl rfl) ?_ (Nat.le_of_ble_eq_true rfl) (pe_op op_mod (pe_op op_fdiv (v2 _) pe_int) pe_int) (fun _ _ => rfl) (by rw [hs]; exact Or.inr rfl) hK rfl
  refine pa_stC mB ?_ ?_
  · exact st_op (pe_op op_add pe_int (pe_op op_mod (v2 _) pe_int)) fun σ H Q e h => by cases e; exact ⟨_, rfl, _, _, rfl, rfl, (by show (0 : Int) < 9; decide), _, _, rfl, rfl, h⟩
  refine pa_stC mB ?_ ?_
  · exact st_op pe_int fun σ H Q _ h => h
  refine pa_stC mB ?_ ?_
  · exact st_op (pe_un un_neg pe_int) fun σ H Q _ h => ⟨_, rfl, h⟩
  refine pa_stC mB ?_ ?_
  · exact st_op pe_int fun σ H Q _ h => h
  exact pa_stN
theorem tb2_e : (defBody sTBack).drop 2 = (defBody sTBack).getD 2 (.Pass ⟨0, 0, 0, 0⟩) :: (defBody sTBack).drop 3 := by kernel_rfl
theorem tb2_in {G : TS → Prop} (h : PSw X ((defBody sTBack).getD 2 (.Pass ⟨0, 0, 0, 0⟩)) t) (k : ∃ u, PSs X ((defBody sTBack).drop 3) u ∧ G (tSeq t u)) : ∃ t', PSs X ((defBody sTBack).drop 2) t' ∧ G t' := by
  rw [tb2_e]
  exact L2.wt_cons h k
theorem tb3_st (_ : PSs X tail t) (hN : X.N = nTBack) (hs : X.env.scope = defScope sTBack) : PSw X ((defBody sTBack).getD 3 (.Pass ⟨0, 0, 0, 0⟩)) (tAsg (tRwsC (cC a ra c n kd m) [[.sm (.op "plus" 1), .ei (.go (n + 1)) (.go (n + 2)), .sm .say]]) (gName 5)) := by
  have v3 : ∀ p, PE X (.Name "_law_many" p) (tVar 3) := fun p => pe_var (i := 3) (by rw [hN]; rfl) (by rw [hs]; exact Or.inl rfl)
  refine psw_rws (x := "_law_more") (by rw [hN]; exact nTB_nd) (by rw [hN]; rfl) (by rw [hs]; exact Or.inl rfl) ?_ (Nat.le_of_ble_eq_true rfl) (by rw [hs]; exact Or.inr rfl)
  refine pa_rwC mC_ ?_ ?_
  · refine pe_rwC ?_
    refine pa_stC mC_ ?_ ?_
    · exact st_op pe_int fun σ H Q _ h => h
    refine pa_stC mC_ ?_ ?_
    · refine st_ei mC_ ?_ ?_
      · exact st_go (pe_op op_add (v3 _) pe_int) fun σ H Q ⟨v4, v5, e, _⟩ h => by subst e; exact ⟨_, rfl, _, _, rfl, rfl, h⟩
      · exact st_go (pe_op op_add (v3 _) pe_int) fun σ H Q ⟨v4, v5, e, _⟩ h => by subst e; exact ⟨_, rfl, _, _, rfl, rfl, h⟩
    refine pa_stC mC_ ?_ ?_
    · exact st_say
    exact pa_stN
  · exact pa_rwN
theorem tb4_st (_ : PSs X tail t) (hN : X.N = nTBack) (hs : X.env.scope = defScope sTBack) : PSw X ((defBody sTBack).getD 4 (.Pass ⟨0, 0, 0, 0⟩)) (tAsg (tOp rCat (tVar 5) (tRwsC (cC a ra c n kd m) [[.sm (.op kd m), .sm .say, .ld .none], [.sm .say, .sm (.op "plus" 2)]])) (gName 5)) := by
  have v4' : ∀ p, PE X (.Name "_law_change" p) (tVar 4) := fun p => pe_var (i := 4) (by rw [hN]; rfl) (by rw [hs]; exact Or.inl rfl)
  refine psw_catr (x := "_law_more") (by rw [hN]; exact nTB_nd) (by rw [hN]; rfl) (by rw [hs]; exact Or.inl rfl) (pe_var (i := 5) (by rw [hN]; rfl) (by rw [hs]; exact Or.inl rfl)) ?_ (Nat.le_of_ble_eq_true rfl) (by rw [hs]; exact Or.inr rfl)
  refine pa_rwC mC_ ?_ ?_
  · refine pe_rwC ?_
    refine pa_stC mC_ ?_ ?_
    · exact (v4' _).imp fun σ H Q ⟨⟨v4, v5, e, r⟩, q⟩ => by subst e; exact ⟨v4, rfl, q _ _ (Same.refl _) r⟩
    refine pa_stC mC_ ?_ ?_
    · exact st_say
    refine pa_stC mC_ ?_ ?_
    · exact st_none
    exact pa_stN
  refine pa_rwC mC_ ?_ ?_
  · refine pe_rwC ?_
    refine pa_stC mC_ ?_ ?_
    · exact st_say
    refine pa_stC mC_ ?_ ?_
    · exact st_op pe_int fun σ H Q _ h => h
    exact pa_stN
  · exact pa_rwN
end
def spTBack (K : PySem.W.Frag) (L : List (Addr × List (Pos × Str))) : Sp := fun vs H Q _ => ∃ (a ra : Addr) (ns : List Int) (as : List Addr) (rows : List (List RS)), vs = [.ref a, .ref ra] ∧ SqL K H a (ns.map V.int) ∧ TB L H ∧ RwX H ra as rows ∧ (∀ r ∈ rows, RowOk rows.length r) ∧ rows.length ≤ 900 ∧ ∀ H', TB L H' → Q (.bl true) H'
section
variable {P : Program} {w : World} {K : PySem.W.Frag} {mg : Str → Option Value} {base : Heap} {L : List (Addr × List (Pos × Str))} {f fC fA : Addr} {fd dC dA : FuncData}
theorem scTBack : FnScope nTBack ["_law_script", "_law_rows"] (defScope sTBack) := ⟨rfl, rfl, rfl, by decide +kernel, rfl, by decide +kernel, by decide +kernel⟩
theorem ok_tback (F : Fun K "_law_taken_back" "_law_taken_back" sTBack f fd) (T : Txt mg) (GC : FnOk P w K mg base CX0 1 fC dC ["_law_script", "_law_k"] (spCell K)) (kC : PySem.W.keepIn K (.ref fC) = true) (bC : Binds K dC ["_law_script", "_law_k"] []) (mC : mg "_law_cell_at" = some (.ref fC))
    (GA : FnOk P w K mg base CX1 171 fA dA ["_law_starts", "_law_rows", "_law_word", "_law_number", "_law_count", "_law_off"] (spAsked L)) (kA : PySem.W.keepIn K (.ref fA) = true) (bA : Binds K dA ["_law_starts", "_law_rows", "_law_word", "_law_number", "_law_count", "_law_off"] []) (mA : mg "_law_asked" = some (.ref fA)) :
    FnOk P w K mg base CX1 172 f fd ["_law_script", "_law_rows"] (spTBack K L) := by
  refine F.ok1 scTBack (fun vs H Q E h => ?_) (fun cdv A outer s H vs Q E hr h => ?_)
  · obtain ⟨a, ra, ns, as, rows, rfl, _⟩ := h
    rfl
  obtain ⟨a, ra, ns, as, rows, rfl, S, B, R, hok, hrl, q⟩ := h
  have hr1 := hr.mono (j := 1) (by decide)
  have z1 : 1 ≤ sizeLine := by rw [sizeLine_eq]; decide
  have z2 : 2 ≤ sizeLine := by rw [sizeLine_eq]; decide
  have z3 : 3 ≤ sizeLine := by rw [sizeLine_eq]; decide
  have z4 : 4 ≤ sizeLine := by rw [sizeLine_eq]; decide
  -- the three counts
  refine with_tail (tail := (defBody sTBack).drop 5) (fun tt => ∀ (D : L2.Ends) (H1 : Hp) (c : Int) (v4 : V) (ma : Addr) (bs : List Addr) (more : List (List RS)), D.rt = Q → Same H H1 → RwX H1 ma bs more → more.length = 3 → (∀ r ∈ more, RowOk (rows.length + 3) r) → tt D [some (.ref a), some (.ref ra), some (.int c), some (.int (rows.length : Int)), some v4, some (.ref ma), none] H1) ?_ ?_
  · refine ⟨_, pss_cons (ps_for PassesOwn.never rfl (pi_list (pe_lst (pa_cons pe_int (pa_cons pe_int (pa_cons pe_int pa_nil))))) (pg_name (i := 6) scTBack.nd rfl (Or.inl rfl))
        (pss_one (ps_if (pt_not (pt_val (pe_call GA hr rfl mA kA bA .nil pass1 (pa_cons (pe_disp (pps_cons pe_str (pv 3) pps_nil) rfl rfl (by simp) (by decide)) (pa_cons (pe_op op_cat (pv 1) (pv 5)) (pa_cons pe_str (pa_cons (pe_op op_sub (pe_op op_mod (pv 2) pe_int) pe_int) (pa_cons (pv 6) (pa_cons pe_int pa_nil))))))))) pss_never pss_nil)))
      (pss_one (ps_ret pe_bl)), fun D H1 c v4 ma bs more hD s1 M hm3 hmok => ?_⟩
    refine ⟨by show 3 ≤ sizeLine; exact z3, fun lc hlc => ?_⟩
    have s2 := same_new hlc (.lst [.int 40, .int 3, .int 2])
    have elc : (upd H1 lc (.lst [.int 40, .int 3, .int 2])) lc = some (.lst [.int 40, .int 3, .int 2]) := upd_same
    generalize upd H1 lc (.lst [.int 40, .int 3, .int 2]) = H2 at *
    have s12 := s1.trans s2
    have hints : ∀ (i : Nat) (x : V), ([V.int 40, V.int 3, V.int 2] : List V)[i]? = some x → ∃ z, x = .int z := by
      intro i x hx
      have := List.mem_of_getElem? hx
      simp only [List.mem_cons, List.not_mem_nil, or_false] at this
      rcases this with h | h | h <;> exact ⟨_, h⟩
    refine ⟨lc, rfl, ⟨_, SqL.of elc⟩, for_list (K := K) (a := lc) (xs := [V.int 40, V.int 3, V.int 2]) (H := H2) (fun i σ H3 => ∃ v6 : Option V, σ = [some (.ref a), some (.ref ra), some (.int c), some (.int (rows.length : Int)), some v4, some (.ref ma), v6] ∧ SameT H2 H3 ∧ TB L H3) ⟨none, rfl, .refl _, B.keep s12⟩ (fun i σ H3 _ ⟨_, _, s3, _⟩ => SqL.of (s3 _ _ elc nt_lst)) ?_ ?_⟩
    · rintro i x σ H3 hx ⟨v6, rfl, s3, B3⟩
      obtain ⟨z, rfl⟩ := hints i x hx
      intro st hst
      refine ⟨_, rfl, upd_same, [(Sum.inr ("a" : Str), .int (rows.length : Int))], rfl, (by show 1 ≤ 15; decide), ?_⟩
      rw [upd_upd]
      have s4 := same_new hst (.dK (mergeK [] [((Sum.inr ("a" : Str) : Key), V.int (rows.length : Int))]))
      have est : (upd H3 st (.dK (mergeK [] [((Sum.inr ("a" : Str) : Key), V.int (rows.length : Int))]))) st = some (.dK (mergeK [] [((Sum.inr ("a" : Str) : Key), V.int (rows.length : Int))])) := upd_same
      have hkv : ∀ kv ∈ mergeK [] [((Sum.inr ("a" : Str) : Key), V.int (rows.length : Int))], kv.2 = V.int (rows.length : Int) := by
        intro kv hk
        have hk : kv ∈ ([((Sum.inr ("a" : Str) : Key), V.int (rows.length : Int))] : List (Key × V)) := hk
        rw [List.mem_singleton.mp hk]
      generalize mergeK [] [((Sum.inr ("a" : Str) : Key), V.int (rows.length : Int))] = kvs at *
      generalize upd H3 st (.dK kvs) = H4 at *
      have sT : SameT H1 H4 := (s2.toT.trans s3).trans s4.toT
      have R4 : RwX H4 ra as rows := ((rw0_of (R.same s1) hok).sameT sT).x
      have M4 : RwX H4 ma bs more := ⟨sT _ _ M.lst nt_lst, M.len, fun p b r h1 h2 => let ⟨us, e, h⟩ := M.row p b r h1 h2; ⟨us, sT _ _ e nt_lst, keepRs h fun b xs e => sT _ _ e nt_tup⟩⟩
      have hbl : bs.length = 3 := by rw [M.len, hm3]
      have hal : as.length ≤ 900 := by rw [R.len]; exact hrl
      refine ⟨_, rfl, _, rfl, ra, ma, _, _, rfl, rfl, R4.lst, M4.lst, by rw [List.length_map, List.length_map, sizeLine_eq]; omega, fun rc hrc => ?_⟩
      have s5 := same_new hrc (.lst (as.map V.ref ++ bs.map V.ref))
      have W5 := rwX_app (R4.same s5) (M4.same s5) upd_same
      generalize upd H4 rc (.lst (as.map V.ref ++ bs.map V.ref)) = H5 at *
      have hlen : (rows ++ more).length = rows.length + 3 := by rw [List.length_append, hm3]
      have hok5 : ∀ r ∈ rows ++ more, RowOk (rows ++ more).length r := by
        intro r hr'
        rw [hlen]
        rcases List.mem_append.mp hr' with h | h
        · exact (hok r h).mono (by omega)
        · exact hmok r h
      refine ⟨_, rfl, _, _, rfl, rfl, (by show (0 : Int) < 99; decide), _, _, rfl, rfl, _, rfl, ?_⟩
      dsimp only [tNil, List.append_nil, List.cons_append, List.nil_append]
      refine ⟨0, st, rc, "a", _, .int z, kvs, as ++ bs, rows ++ more, rfl, by decide, by decide, ⟨(B3.keep s4).keep s5, pg_int _, pg_int _, s5 _ _ est, rw0_of W5 hok5, by omega, fun kv hk => ⟨rows.length, hkv kv hk, by omega⟩⟩, hok5, fun H6 s6 B6 => ?_⟩
      exact ⟨_, rfl, iteF ⟨_, rfl, ((s3.trans s4.toT).trans s5.toT).trans s6, B6⟩⟩
    · rintro σ H3 ⟨v6, rfl, s3, B3⟩
      show D.rt _ _
      rw [hD]
      exact q _ B3
  intro t5 h5 p5
  obtain ⟨c, hc⟩ : ∃ c, c = ns.getD 3 0 + ns.getD 4 0 := ⟨_, rfl⟩
  obtain ⟨kd, n, hA, hat⟩ := ch_at c
  -- the rows that are added
  refine with_tail (tail := (defBody sTBack).drop 3) (fun tt => ∀ (D : L2.Ends) (H1 : Hp) (v4 : V), D.rt = Q → Same H H1 → RAt H1 v4 (.sm (.op kd n)) → tt D [some (.ref a), some (.ref ra), some (.int c), some (.int (rows.length : Int)), some v4, none, none] H1) ?_ ?_
  · have h3 := tb3_st (a := a) (ra := ra) (c := c) (n := rows.length) (kd := kd) (m := n) h5 rfl rfl
    have h4 := tb4_st (a := a) (ra := ra) (c := c) (n := rows.length) (kd := kd) (m := n) h5 rfl rfl
    refine L2.wt_cons h3 ?_
    refine L2.wt_cons h4 ?_
    refine ⟨_, h5, fun D H1 v4 hD s1 r4 => ?_⟩
    refine ⟨⟨v4, none, rfl, r4⟩, fun m1 as1 H2 s2 em1 pm1 => ?_⟩
    refine ⟨_, rfl, ⟨v4, _, rfl, r4.keep s2.keepT⟩, fun m2 as2 H3 s3 em2 pm2 => ?_⟩
    have l1 : as1.length = 1 := Paired.length pm1
    have l2 : as2.length = 2 := Paired.length pm2
    refine ⟨m1, m2, _, _, rfl, rfl, s3 _ _ em1, em2, by rw [List.length_map, List.length_map, sizeLine_eq]; omega, fun ma hma => ?_⟩
    have s4 := same_new hma (.lst (as1.map V.ref ++ as2.map V.ref))
    have sA := (s1.trans s2).trans (s3.trans s4)
    refine p5 D _ c v4 ma (as1 ++ as2) (moreR rows.length kd n) hD sA (rwX_of (by rw [upd_same, List.map_append]) ?_) rfl (more_ok hA)
    exact paired_app (Paired.mapP pm1 fun _ _ z => z.same (s3.trans s4)) (Paired.mapP pm2 fun _ _ z => z.same s4)
  intro t3 h3 p3
  refine with_tail (tail := (defBody sTBack).drop 2) (fun tt => ∀ D : L2.Ends, D.rt = Q → tt D [some (.ref a), some (.ref ra), some (.int c), some (.int (rows.length : Int)), none, none, none] H) ?_ ?_
  · refine tb2_in (tb2_st (K := K) (a := a) (ra := ra) (c := c) (n := rows.length) rfl rfl rfl) ⟨_, by assumption, fun D hD => ?_⟩
    refine ⟨rfl, fun l us H1 s1 el hp => ?_⟩
    obtain ⟨v, hv, r⟩ := hat H1 us hp
    refine ⟨_, rfl, _, _, rfl, rfl, ⟨by decide, by decide⟩, _, _, rfl, rfl, (by show (0 : Int) < 4; decide), l, _, _, v, rfl, rfl, SqL.of el, hv, ?_⟩
    exact p3 D H1 v hD s1 r
  intro t2 h2 p2
  refine ⟨_, pss_cons (ps_set (i := 2) scTBack.nd rfl (Or.inl rfl) (pe_op op_add (pe_call GC hr1 rfl mC kC bC .nil pass0 (pa_cons (pv 0) (pa_cons pe_int pa_nil))) (pe_call GC hr1 rfl mC kC bC .nil pass0 (pa_cons (pv 0) (pa_cons pe_int pa_nil)))))
    (pss_cons (ps_set (i := 3) scTBack.nd rfl (Or.inl rfl) (pe_callB call_len_seq rfl T.len PySem.boot_len (pa_cons (pv 1) pa_nil))) h2), ?_⟩
  refine ⟨_, rfl, a, ns, 3, rfl, S, _, rfl, a, ns, 4, rfl, S, _, _, rfl, rfl, ?_⟩
  dsimp only
  rw [← hc]
  refine ⟨_, rfl, ra, _, rfl, .inl (SqL.of R.lst), ?_⟩
  rw [List.length_map, R.len]
  exact p2 _ rfl
end
def spLaw (K : PySem.W.Frag) (L : List (Addr × List (Pos × Str))) : Sp := fun vs H Q _ => ∃ (a : Addr) (ns : List Int), vs = [.ref a] ∧ SqL K H a (ns.map V.int) ∧ ns.length ≤ 63 ∧ TB L H ∧ ∀ H', TB L H' → Q (.bl true) H'
abbrev nLaw : List Str := ["_law_script", "_law_many", "_law_rows", "_law_starts", "_law_name", "_law_number", "_law_count", "_law_off", "_law_word"]
theorem putK_vals {kvs : List (Key × V)} {k : Key} {v : V} {F : V → Prop} (h : ∀ kv ∈ kvs, F kv.2) (hv : F v) : ∀ kv ∈ putK kvs k v, F kv.2 := by
  intro kv hk
  unfold putK at hk
  split at hk
  · obtain ⟨x, hx, e⟩ := List.mem_map.mp hk
    split at e
    · rw [← e]; exact hv
    · rw [← e]; exact h x hx
  · rcases List.mem_append.mp hk with z | z
    · exact h kv z
    · rw [List.mem_singleton.mp z]; exact hv
theorem putK_len (kvs : List (Key × V)) (k : Key) (v : V) : (putK kvs k v).length ≤ kvs.length + 1 := by
  unfold putK
  split
  · rw [List.length_map]; omega
  · rw [List.length_append]; exact Nat.le_refl _
theorem cut_strs (xs : List Str) (lo hi : Option Int) : ∃ ys : List Str, cutV (xs.map V.str) lo hi = ys.map V.str ∧ ys.length ≤ xs.length := by
  refine ⟨(xs.drop (HT.sIx (xs.map V.str).length 0 lo)).take (HT.sIx (xs.map V.str).length (xs.map V.str).length hi - HT.sIx (xs.map V.str).length 0 lo), ?_, ?_⟩
  · unfold cutV
    rw [List.map_take, List.map_drop]
  · rw [List.length_take, List.length_drop]
    omega
section
variable {P : Program} {w : World} {K : PySem.W.Frag} {mg : Str → Option Value} {base : Heap} {L : List (Addr × List (Pos × Str))} {f fC fB fN fM fA fK : Addr} {fd dC dB dN dM dA dK : FuncData}
theorem scLaw : FnScope nLaw ["_law_script"] (defScope sLaw) := ⟨rfl, rfl, rfl, by decide +kernel, rfl, by decide +kernel, by decide +kernel⟩
theorem ok_law (F : Fun K "law" "law" sLaw f fd) (T : Txt mg) (GC : FnOk P w K mg base CX0 1 fC dC ["_law_script", "_law_k"] (spCell K)) (kC : PySem.W.keepIn K (.ref fC) = true) (bC : Binds K dC ["_law_script", "_law_k"] []) (mC : mg "_law_cell_at" = some (.ref fC))
    (GB : FnOk P w K mg base CX0 3 fB dB ["_law_script", "_law_many", "_law_later"] (spRowsBy K)) (kB : PySem.W.keepIn K (.ref fB) = true) (bB : Binds K dB ["_law_script", "_law_many", "_law_later"] []) (mB : mg "_law_rows_by" = some (.ref fB))
    (GN : FnOk P w K mg base CX0 1 fN dN ["_law_cell"] spValBy) (kN : PySem.W.keepIn K (.ref fN) = true) (bN : Binds K dN ["_law_cell"] []) (mN : mg "_law_number_by" = some (.ref fN))
    (GM : FnOk P w K mg base CX0 1 fM dM ["_law_cell"] spValBy) (kM : PySem.W.keepIn K (.ref fM) = true) (bM : Binds K dM ["_law_cell"] []) (mM : mg "_law_count_by" = some (.ref fM))
    (GA : FnOk P w K mg base CX1 171 fA dA ["_law_starts", "_law_rows", "_law_word", "_law_number", "_law_count", "_law_off"] (spAsked L)) (kA : PySem.W.keepIn K (.ref fA) = true) (bA : Binds K dA ["_law_starts", "_law_rows", "_law_word", "_law_number", "_law_count", "_law_off"] []) (mA : mg "_law_asked" = some (.ref fA))
    (GK : FnOk P w K mg base CX1 172 fK dK ["_law_script", "_law_rows"] (spTBack K L)) (kK : PySem.W.keepIn K (.ref fK) = true) (bK : Binds K dK ["_law_script", "_law_rows"] []) (mK : mg "_law_taken_back" = some (.ref fK)) :
    FnOk P w K mg base CX1 173 f fd ["_law_script"] (spLaw K L) := by
  refine F.ok1 scLaw (fun vs H Q E h => ?_) (fun cdv A outer s H vs Q E hr h => ?_)
  · obtain ⟨a, ns, rfl, _⟩ := h
    rfl
  obtain ⟨a, ns, rfl, S, h63, B, q⟩ := h
  have hr1 := hr.mono (j := 1) (by decide)
  have hr3 := hr.mono (j := 3) (by decide)
  have hr171 := hr.mono (j := 171) (by decide)
  have hu := hu_of hr
  have z3 : 3 ≤ sizeLine := by rw [sizeLine_eq]; decide
  have z4 : 4 ≤ sizeLine := by rw [sizeLine_eq]; decide
  -- the words
  refine with_tail (tail := (defBody sLaw).drop 8) (fun tt => ∀ (D : L2.Ends) (H1 : Hp) (m : Int) (ra st : Addr) (as : List Addr) (rows : List (List RS)) (kvs : List (Key × V)) (v4 : Option V) (nv cv : V) (off : Int), D.rt = Q → TB L H1 → SqL K H1 a (ns.map V.int) → RwX H1 ra as rows → (∀ r ∈ rows, RowOk rows.length r) → rows.length ≤ 60 → H1 st = some (.dK kvs) → (∀ kv ∈ kvs, ∃ p : Nat, kv.2 = V.int (p : Int) ∧ p < rows.length) → PG nv → PG cv → 0 ≤ off → off ≤ 2 → tt D [some (.ref a), some (.int m), some (.ref ra), some (.ref st), v4, some nv, some cv, some (.int off), none] H1) ?_ ?_
  · refine ⟨_, pss_cons (ps_for PassesOwn.never rfl (pi_list (pe_lst (pa_strs (xs := ["ab", "abc", "b", "ba"]) (by rfl)))) (pg_name (i := 8) scLaw.nd rfl (Or.inl rfl))
        (pss_cons (ps_if (pt_not (pt_val (pe_call GA hr171 rfl mA kA bA .nil pass1 (pa_cons (pv 3) (pa_cons (pv 2) (pa_cons (pv 8) (pa_cons (pv 5) (pa_cons (pv 6) (pa_cons (pv 7) pa_nil))))))))) pss_never pss_nil)
        (pss_one (ps_if (pt_not (pt_val (pe_call GA hr171 rfl mA kA bA .nil pass1 (pa_cons (pv 3) (pa_cons (pv 2) (pa_cons (pv 8) (pa_cons (pe_op op_sub (pe_op op_mod (pe_call GC hr1 rfl mC kC bC .nil pass0 (pa_cons (pv 0) (pa_cons pe_int pa_nil))) pe_int) pe_int) (pa_cons pe_int (pa_cons pe_int pa_nil))))))))) pss_never pss_nil))))
      (pss_one (ps_ret (pe_call GK hr rfl mK kK bK .nil pass1 (pa_cons (pv 0) (pa_cons (pv 2) pa_nil))))), fun D H1 m ra st as rows kvs v4 nv cv off hD B1 S1 R1 hok hrl est hkv pn pc f0 f2 => ?_⟩
    refine ⟨by show 4 ≤ sizeLine; exact z4, fun lw hlw => ?_⟩
    have s2 := same_new hlw (.lst ((["ab", "abc", "b", "ba"] : List Str).map V.str))
    have elw : (upd H1 lw (.lst ((["ab", "abc", "b", "ba"] : List Str).map V.str))) lw = some (.lst ((["ab", "abc", "b", "ba"] : List Str).map V.str)) := upd_same
    generalize upd H1 lw (.lst ((["ab", "abc", "b", "ba"] : List Str).map V.str)) = H2 at *
    have W2 : ∀ {x y : V}, PG x → PG y → Hand L H2 st ra kvs as rows x y := fun px py => ⟨B1.keep s2, px, py, s2 _ _ est, rw0_of (R1.same s2) hok, by omega, hkv⟩
    refine ⟨lw, rfl, ⟨_, SqL.of elw⟩, for_list (K := K) (a := lw) (xs := (["ab", "abc", "b", "ba"] : List Str).map V.str) (H := H2) (fun i σ H3 => ∃ v8 : Option V, σ = [some (.ref a), some (.int m), some (.ref ra), some (.ref st), v4, some nv, some cv, some (.int off), v8] ∧ SameT H2 H3 ∧ TB L H3) ⟨none, rfl, .refl _, B1.keep s2⟩ (fun i σ H3 _ ⟨_, _, s3, _⟩ => SqL.of (s3 _ _ elw nt_lst)) ?_ ?_⟩
    · rintro i x σ H3 hx ⟨v8, rfl, s3, B3⟩
      obtain ⟨y, rfl⟩ : ∃ y, x = .str y := by
        rw [List.getElem?_map] at hx
        cases e : (["ab", "abc", "b", "ba"] : List Str)[i]? with
        | none => rw [e] at hx; cases hx
        | some y => rw [e] at hx; cases hx; exact ⟨y, rfl⟩
      refine ⟨_, rfl, _, rfl, _, rfl, _, rfl, _, rfl, _, rfl, ?_⟩
      dsimp only [tNil, List.append_nil, List.cons_append, List.nil_append]
      refine ⟨off, st, ra, y, nv, cv, kvs, as, rows, rfl, f0, f2, (W2 pn pc).sameT s3 B3, hok, fun H4 s4 B4 => ?_⟩
      have s34 := s3.trans s4
      refine ⟨_, rfl, iteF ?_⟩
      refine ⟨_, rfl, _, rfl, _, rfl, _, rfl, a, ns, 2, rfl, (s2.toT.trans s34).seq S1, _, _, rfl, rfl, (by show (0 : Int) < 19; decide), _, _, rfl, rfl, ?_⟩
      dsimp only [tNil, List.append_nil, List.cons_append, List.nil_append]
      refine ⟨0, st, ra, y, _, .int 40, kvs, as, rows, rfl, by decide, by decide, (W2 (pg_int _) (pg_int _)).sameT s34 B4, hok, fun H5 s5 B5 => ?_⟩
      exact ⟨_, rfl, iteF ⟨_, rfl, s34.trans s5, B5⟩⟩
    · rintro σ H3 ⟨v8, rfl, s3, B3⟩
      have sT := s2.toT.trans s3
      refine ⟨_, rfl, _, rfl, ?_⟩
      dsimp only [tNil, List.append_nil, List.cons_append, List.nil_append]
      refine ⟨a, ra, ns, as, rows, rfl, sT.seq S1, B3, ((rw0_of R1 hok).sameT sT).x, hok, by omega, fun H4 B4 => ?_⟩
      rw [hD]
      exact q _ B4
  intro t8 h8 p8
  refine with_tail (tail := (defBody sLaw).drop 2) (fun tt => ∀ (D : L2.Ends) (n : Nat), D.rt = Q → 1 ≤ n → n ≤ 60 → tt D [some (.ref a), some (.int (n : Int)), none, none, none, none, none, none, none] H) ?_ ?_
  · refine ⟨_, pss_cons (ps_set (i := 2) scLaw.nd rfl (Or.inl rfl) (pe_call GB hr3 rfl mB kB bB .nil pass0 (pa_cons (pv 0) (pa_cons (pv 1) (pa_cons (pe_cmpR op_gt (pe_op op_mod (pe_call GC hr1 rfl mC kC bC .nil pass0 (pa_cons (pv 0) (pa_cons pe_int pa_nil))) pe_int) pe_int (nomark _)) pa_nil)))))
      (pss_cons (ps_set (i := 3) scLaw.nd rfl (Or.inl rfl) pe_dnewK)
      (pss_cons (ps_for PassesOwn.never rfl (pi_list (pe_slice sl_list (pe_lst (pa_strs (xs := ["ab", "abc", "b"]) (by rfl))) (po_some (pe_op op_mod (pe_op op_fdiv (pe_call GC hr1 rfl mC kC bC .nil pass0 (pa_cons (pv 0) (pa_cons pe_int pa_nil))) pe_int) pe_int)) po_none)) (pg_name (i := 4) scLaw.nd rfl (Or.inl rfl))
        (pss_one (ps_dput hu (pv 3) (pv 4) (pe_op op_mod (pe_op op_add (pe_op op_mod (pe_op op_fdiv (pe_call GC hr1 rfl mC kC bC .nil pass0 (pa_cons (pv 0) (pa_cons pe_int pa_nil))) pe_int) pe_int) (pe_callB call_lenD (by rfl) T.len PySem.boot_len (pa_cons (pv 3) pa_nil))) (pv 1)) rfl)))
      (pss_cons (ps_set (i := 5) scLaw.nd rfl (Or.inl rfl) (pe_call GN hr1 rfl mN kN bN .nil pass0 (pa_cons (pe_call GC hr1 rfl mC kC bC .nil pass0 (pa_cons (pv 0) (pa_cons pe_int pa_nil))) pa_nil)))
      (pss_cons (ps_set (i := 6) scLaw.nd rfl (Or.inl rfl) (pe_call GM hr1 rfl mM kM bM .nil pass0 (pa_cons (pe_call GC hr1 rfl mC kC bC .nil pass0 (pa_cons (pv 0) (pa_cons pe_int pa_nil))) pa_nil)))
      (pss_cons (ps_set (i := 7) scLaw.nd rfl (Or.inl rfl) (pe_op op_mod (pe_call GC hr1 rfl mC kC bC .nil pass0 (pa_cons (pv 0) (pa_cons pe_int pa_nil))) pe_int)) h8))))), fun D n hD n1 n2 => ?_⟩
    refine ⟨_, rfl, _, rfl, _, rfl, a, ns, 1, rfl, S, _, _, rfl, rfl, (by show (0 : Int) < 3; decide), _, _, rfl, rfl, ?_⟩
    dsimp only [tNil, List.append_nil, List.cons_append, List.nil_append]
    refine ⟨a, ns, n, _, rfl, S, h63, by omega, fun ra as rows H1 s1 R1 hlen hok => ?_⟩
    subst hlen
    intro st hst
    have s2 := same_new hst (.dK [])
    have est : (upd H1 st (.dK [])) st = some (.dK ([] : List (Key × V))) := upd_same
    generalize upd H1 st (.dK []) = H2 at *
    have s12 := s1.trans s2
    refine ⟨by show 3 ≤ sizeLine; exact z3, fun l hl => ?_⟩
    have s3 := same_new hl (.lst ((["ab", "abc", "b"] : List Str).map V.str))
    have el : (upd H2 l (.lst ((["ab", "abc", "b"] : List Str).map V.str))) l = some (.lst ((["ab", "abc", "b"] : List Str).map V.str)) := upd_same
    generalize upd H2 l (.lst ((["ab", "abc", "b"] : List Str).map V.str)) = H3 at *
    have s13 := s12.trans s3
    have S3 := s13.seq S
    refine ⟨_, rfl, a, ns, 1, rfl, S3, _, _, rfl, rfl, ⟨by decide, by decide⟩, _, _, rfl, rfl, (by show (0 : Int) < 4; decide), _, rfl, l, _, rfl, SqL.of el, fun l2 hl2 => ?_⟩
    obtain ⟨ys, ey, hyl⟩ := cut_strs ["ab", "abc", "b"] (some (ns.getD 1 0 / 3 % 4)) none
    rw [ey]
    have s4 := same_new hl2 (.lst (ys.map V.str))
    have el2 : (upd H3 l2 (.lst (ys.map V.str))) l2 = some (.lst (ys.map V.str)) := upd_same
    have est4 := s4 _ _ (s3 _ _ est)
    generalize upd H3 l2 (.lst (ys.map V.str)) = H4 at *
    have s14 := s13.trans s4
    have S4 := s14.seq S
    have nst : ∀ {b : Addr} {o : HO}, H b = some o → b ≠ st := fun e => ne_of_none (s1 _ _ e) hst
    have nst1 : ∀ {b : Addr} {o : HO}, H1 b = some o → b ≠ st := fun e => ne_of_none e hst
    have nl2 : l2 ≠ st := ne_of el2 est4 (by intro z; cases z)
    have hyl : ys.length ≤ 3 := hyl
    refine ⟨l2, rfl, ⟨_, SqL.of el2⟩, for_list (K := K) (a := l2) (xs := ys.map V.str) (H := H4) (fun i σ H5 => ∃ (v4 : Option V) (kvs : List (Key × V)), σ = [some (.ref a), some (.int (rows.length : Int)), some (.ref ra), some (.ref st), v4, none, none, none, none] ∧ H5 st = some (.dK kvs) ∧ kvs.length ≤ i ∧ (∀ kv ∈ kvs, ∃ p : Nat, kv.2 = V.int (p : Int) ∧ p < rows.length) ∧ ∀ b o, H4 b = some o → b ≠ st → H5 b = some o) ⟨none, [], rfl, est4, Nat.le_refl _, (fun kv hk => nomatch hk), fun b o e _ => e⟩ (fun i σ H5 _ ⟨_, _, _, _, _, _, k5⟩ => SqL.of (k5 _ _ el2 nl2)) ?_ ?_⟩
    · rintro i x σ H5 hx ⟨v4, kvs, rfl, e5, hkl, hkv, k5⟩
      obtain ⟨y, hy, rfl⟩ : ∃ y, ys[i]? = some y ∧ x = .str y := by
        rw [List.getElem?_map] at hx
        cases e : ys[i]? with
        | none => rw [e] at hx; cases hx
        | some y => rw [e] at hx; cases hx; exact ⟨y, rfl, rfl⟩
      have hi : i < ys.length := (List.getElem?_eq_some_iff.mp hy).1
      have S5 : SqL K H5 a (ns.map V.int) := by
        rcases S with (h | ⟨o, h⟩) | h
        · exact .inl (.inl (k5 _ _ (s14 _ _ h) (nst h)))
        · exact .inl (.inr ⟨o, k5 _ _ (s14 _ _ h) (nst h)⟩)
        · exact .inr h
      have b0 : 0 ≤ (ns.getD 1 0 / 12 % 3 + (kvs.length : Int)) % (rows.length : Int) := Int.emod_nonneg _ (by omega)
      have b1 : (ns.getD 1 0 / 12 % 3 + (kvs.length : Int)) % (rows.length : Int) < (rows.length : Int) := Int.emod_lt_of_pos _ (by omega)
      obtain ⟨p, hp⟩ := Int.eq_ofNat_of_zero_le b0
      refine ⟨_, rfl, a, ns, 1, rfl, S5, _, _, rfl, rfl, ⟨by decide, by decide⟩, _, _, rfl, rfl, (by show (0 : Int) < 3; decide), _, rfl, st, kvs, rfl, e5, _, _, rfl, rfl, _, rfl, _, _, rfl, rfl, (by show (0 : Int) < (rows.length : Int); omega), _, rfl, _, rfl, st, _, rfl, DPut.k (k := Sum.inr y) e5 (by rw [sizeLine_eq]; omega), ?_⟩
      refine ⟨_, putK kvs (Sum.inr y : Key) (V.int ((ns.getD 1 0 / 12 % 3 + (kvs.length : Int)) % (rows.length : Int))), rfl, upd_same, ?_, ?_, fun b o e nb => by rw [upd_ne nb]; exact k5 b o e nb⟩
      · have := putK_len kvs (Sum.inr y : Key) (V.int ((ns.getD 1 0 / 12 % 3 + (kvs.length : Int)) % (rows.length : Int)))
        omega
      · exact putK_vals (F := fun v => ∃ p : Nat, v = V.int (p : Int) ∧ p < rows.length) hkv ⟨p, by rw [hp], by omega⟩
    · rintro σ H5 ⟨v4, kvs, rfl, e5, hkl, hkv, k5⟩
      have s15 : Same H1 (fun b => if b = st then none else H5 b) := fun b o e => by
        show (if b = st then none else H5 b) = _
        rw [if_neg (nst1 e)]
        exact k5 _ _ (((s2.trans s3).trans s4) _ _ e) (nst1 e)
      have sub : Same (fun b => if b = st then none else H5 b) H5 := fun b o e => by
        by_cases z : b = st
        · have e : (if b = st then none else H5 b) = some o := e
          rw [if_pos z] at e
          cases e
        · have e : (if b = st then none else H5 b) = some o := e
          rwa [if_neg z] at e
      have s5 := s15.trans sub
      have s05 := s1.trans s5
      have S5 := s05.seq S
      refine ⟨_, rfl, a, ns, 3, rfl, S5, _, rfl, fun nv H6 pn s6 => ?_⟩
      refine ⟨_, rfl, a, ns, 4, rfl, s6.seq S5, _, rfl, fun cv H7 pc s7 => ?_⟩
      have s57 := s6.trans s7
      refine ⟨_, rfl, a, ns, 2, rfl, s57.seq S5, _, _, rfl, rfl, (by show (0 : Int) < 3; decide), ?_⟩
      exact p8 D H7 _ ra st as rows kvs _ nv cv _ hD (B.keep (s05.trans s57)) ((s05.trans s57).seq S) (R1.same (s5.trans s57)) hok n2 (s57 _ _ e5) hkv pn pc (Int.emod_nonneg _ (by decide)) (by have := Int.emod_lt_of_pos (ns.getD 2 0) (show (0 : Int) < 3 by decide); omega)
  intro t2 h2 p2
  refine ⟨_, pss_cons (ps_set (i := 1) scLaw.nd rfl (Or.inl rfl) (pe_op op_add pe_int (pe_op op_mod (pe_call GC hr1 rfl mC kC bC .nil pass0 (pa_cons (pv 0) (pa_cons pe_int pa_nil))) pe_int)))
    (pss_cons (ps_if (pt_cmpR op_eq (pe_op op_mod (pe_op op_fdiv (pe_call GC hr1 rfl mC kC bC .nil pass0 (pa_cons (pv 0) (pa_cons pe_int pa_nil))) pe_int) pe_int) pe_int (nomark _)) (pss_one (ps_set (i := 1) scLaw.nd rfl (Or.inl rfl) (pe_op op_add pe_int (pe_op op_mod (pe_op op_fdiv (pe_call GC hr1 rfl mC kC bC .nil pass0 (pa_cons (pv 0) (pa_cons pe_int pa_nil))) pe_int) pe_int)))) pss_nil) h2), ?_⟩
  have b0 : 0 ≤ ns.getD 0 0 % 8 := Int.emod_nonneg _ (by decide)
  have b1 : ns.getD 0 0 % 8 < 8 := Int.emod_lt_of_pos _ (by decide)
  have c0 : 0 ≤ ns.getD 0 0 / 40 % 60 := Int.emod_nonneg _ (by decide)
  have c1 : ns.getD 0 0 / 40 % 60 < 60 := Int.emod_lt_of_pos _ (by decide)
  obtain ⟨j, hj⟩ := Int.eq_ofNat_of_zero_le b0
  obtain ⟨k, hk⟩ := Int.eq_ofNat_of_zero_le c0
  refine ⟨_, rfl, a, ns, 0, rfl, S, _, _, rfl, rfl, (by show (0 : Int) < 8; decide), _, _, rfl, rfl, ?_⟩
  refine ⟨_, rfl, a, ns, 0, rfl, S, _, _, rfl, rfl, ⟨by decide, by decide⟩, _, _, rfl, rfl, (by show (0 : Int) < 5; decide), rfl, _, rfl, ite2 (fun e => ?_) (fun e => ?_)⟩
  · refine ⟨_, rfl, a, ns, 0, rfl, S, _, _, rfl, rfl, ⟨by decide, by decide⟩, _, _, rfl, rfl, (by show (0 : Int) < 60; decide), _, _, rfl, rfl, ?_⟩
    have z := p2 { nx := fun _ H' => Q .non H', rt := Q } (1 + k) rfl (by omega) (by omega)
    have ek : ((1 + k : Nat) : Int) = 1 + ns.getD 0 0 / 40 % 60 := by rw [hk]; omega
    rw [ek] at z
    exact z
  · have z := p2 { nx := fun _ H' => Q .non H', rt := Q } (1 + j) rfl (by omega) (by omega)
    have ek : ((1 + j : Nat) : Int) = 1 + ns.getD 0 0 % 8 := by rw [hj]; omega
    rw [ek] at z
    exact z
end
end Bk
namespace Bk
open PySem L2 PySem.W
theorem exm_of {K : Frag} {cls : Value} {C : Addr} (h1 : isClsIn K C = true) (h2 : typeIn K (.ref C) = some (.type "type")) (h3 : subIn K (.ref C) (.type "BaseException") = some true) {b : Bool} (h4 : subIn K cls (.ref C) = some b) : exmOne K cls (.ref C) = some b := by
  have e1 : (clsIn K C).isSome = true := h1
  unfold exmOne kitCls
  simp only [h2, h3, h4, e1]
  rfl
theorem kit_refB {K : Frag} {t : Value} {B : Addr} {b : Bool} (h1 : isClsIn K B = true) (h2 : typeIn K (.ref B) = some (.type "type")) (h3 : subIn K (.ref B) (.ref B) = some true) (h4 : subIn K t (.ref B) = some b) : kitOne K t (.ref B) = some b := by
  have hne : (t == Value.ref B) = true → b = true := fun z => by
    have e : t = Value.ref B := beq_iff_eq.mp z
    rw [e, h3] at h4
    exact (Option.some.inj h4).symm
  have e1 : (clsIn K B).isSome = true := h1
  unfold kitOne kitCls
  simp only [h2, h4, e1]
  by_cases z : (t == Value.ref B) = true
  · rw [if_pos z, hne z]
  · rw [if_neg z]
    rfl
theorem tb0 {L : List (Addr × List (Pos × Str))} {H : Hp} (h : ∀ q ∈ L, H q.1 = some (tabO q.1 #[])) : TB L H := fun q hq => ⟨#[], h q hq, by trivial, fun _ _ => .inl rfl⟩
end Bk
namespace Bk
open PySem L2 Rk PySem.W
theorem ln1 {us : List Value} (h : us.length = 1) : ∃ a, us = [a] := match us, h with | [a], _ => ⟨a, rfl⟩
theorem ln2 {us : List Value} (h : us.length = 2) : ∃ a b, us = [a, b] := match us, h with | [a, b], _ => ⟨a, b, rfl⟩
theorem ln3 {us : List Value} (h : us.length = 3) : ∃ a b c, us = [a, b, c] := match us, h with | [a, b, c], _ => ⟨a, b, c, rfl⟩
theorem ln4 {us : List Value} (h : us.length = 4) : ∃ a b c d, us = [a, b, c, d] := match us, h with | [a, b, c, d], _ => ⟨a, b, c, d, rfl⟩
theorem ln5 {us : List Value} (h : us.length = 5) : ∃ a b c d e, us = [a, b, c, d, e] := match us, h with | [a, b, c, d, e], _ => ⟨a, b, c, d, e, rfl⟩
theorem ln6 {us : List Value} (h : us.length = 6) : ∃ a b c d e g, us = [a, b, c, d, e, g] := match us, h with | [a, b, c, d, e, g], _ => ⟨a, b, c, d, e, g, rfl⟩
theorem ln7 {us : List Value} (h : us.length = 7) : ∃ a b c d e g h, us = [a, b, c, d, e, g, h] := match us, h with | [a, b, c, d, e, g, h], _ => ⟨a, b, c, d, e, g, h, rfl⟩
abbrev aU (K : Frag) (f : Addr) (oc : Value) (od : Option Addr) (x q : Str) (st : Stmt) (kV dc pm : Value) (an : Option Addr) (cd ct : Value) (sl : Array (Option Value)) : Prop := K.lookup f = some ⟨oc, od, .func (fnOf x q (defArgs st) (defBody st) (defScope st) .none kV dc pm an cd ct), sl⟩ ∧ codeIn K cd q = true ∧ keepIn K (.ref f) = true
abbrev aN (K : Frag) (x : Str) (f : Addr) : Prop := nsIn K mainGlobals x = some (some (.ref f))
abbrev aM (K : Frag) (C : Addr) (x : Str) (f : Addr) : Prop := findIn K (.ref C) x = some (some (.ref f)) ∧ isFn K (.ref f) = true
abbrev aK (K : Frag) (C : Addr) : Prop := plainGet K C Str.empty = true ∧ hasDictIn K C = true ∧ plainOver K C = true ∧ findIn K (.ref C) "__setattr__" = some (some (.builtin "object.__setattr__")) ∧ makesIn K C = true ∧ keepIn K (.ref C) = true
theorem fu_mk {K : Frag} {f : Addr} {oc : Value} {od : Option Addr} {x q : Str} {st : Stmt} {kV dc pm : Value} {an : Option Addr} {cd ct : Value} {sl : Array (Option Value)} (h : aU K f oc od x q st kV dc pm an cd ct sl) : Fun K x q st f (fnOf x q (defArgs st) (defBody st) (defScope st) .none kV dc pm an cd ct) := fun_mk h.1 h.2.1 h.2.2
theorem all_mk {l : PySem.W.OpenLaw} {w : World} {K : PySem.W.Frag} {h : Heap} {mg : Str → Option Value} {fa f1 f2 f3 f4 f5 f6 f7 f8 f9 f10 f12 f13 f14 f15 f16 f17 f18 f19 f20 f21 f22 f23 f24 f25 f26 f27 f28 f29 f30 f11 f31 f32 f33 f34 f35 f36 f37 CT CR T7 T8 : Addr} (X : K.In h) (G : h.Ns mainGlobals mg) (hfa : mg "law" = some (.ref fa))
    {od1 an1 od2 an2 od3 an3 od4 an4 od5 an5 od6 an6 od7 an7 od8 an8 od9 an9 od10 an10 od12 an12 od13 an13 od14 an14 od15 an15 od16 an16 od17 an17 od18 an18 od19 an19 od20 an20 od21 an21 od22 an22 od23 an23 od24 an24 od25 an25 od26 an26 od27 an27 od28 an28 od29 an29 od30 an30 od11 an11 od31 an31 od32 an32 od33 an33 od34 an34 od35 an35 od36 an36 od37 an37 : Option Addr} {sl1 sl2 sl3 sl4 sl5 sl6 sl7 sl8 sl9 sl10 sl12 sl13 sl14 sl15 sl16 sl17 sl18 sl19 sl20 sl21 sl22 sl23 sl24 sl25 sl26 sl27 sl28 sl29 sl30 sl11 sl31 sl32 sl33 sl34 sl35 sl36 sl37 : Array (Option Value)} {oc1 kV1 dc1 pm1 cd1 ct1 oc2 kV2 dc2 pm2 cd2 ct2 oc3 kV3 dc3 pm3 cd3 ct3 oc4 kV4 dc4 pm4 cd4 ct4 oc5 kV5 dc5 pm5 cd5 ct5 oc6 kV6 dc6 pm6 cd6 ct6 oc7 kV7 dc7 pm7 cd7 ct7 oc8 kV8 dc8 pm8 cd8 ct8 oc9 kV9 dc9 pm9 cd9 ct9 oc10 kV10 dc10 pm10 cd10 ct10 oc12 kV12 dc12 pm12 cd12 ct12 oc13 kV13 dc13 pm13 cd13 ct13 oc14 kV14 dc14 pm14 cd14 ct14 oc15 kV15 dc15 pm15 cd15 ct15 oc16 kV16 dc16 pm16 cd16 ct16 oc17 kV17 dc17 pm17 cd17 ct17 oc18 kV18 dc18 pm18 cd18 ct18 oc19 kV19 dc19 pm19 cd19 ct19 oc20 kV20 dc20 pm20 cd20 ct20 oc21 kV21 dc21 pm21 cd21 ct21 oc22 kV22 dc22 pm22 cd22 ct22 oc23 kV23 dc23 pm23 cd23 ct23 oc24 kV24 dc24 pm24 cd24 ct24 oc25 kV25 dc25 pm25 cd25 ct25 oc26 kV26 dc26 pm26 cd26 ct26 oc27 kV27 dc27 pm27 cd27 ct27 oc28 kV28 dc28 pm28 cd28 ct28 oc29 kV29 dc29 pm29 cd29 ct29 oc30 kV30 dc30 pm30 cd30 ct30 oc11 kV11 dc11 pm11 cd11 ct11 oc31 kV31 dc31 pm31 cd31 ct31 oc32 kV32 dc32 pm32 cd32 ct32 oc33 kV33 dc33 pm33 cd33 ct33 oc34 kV34 dc34 pm34 cd34 ct34 oc35 kV35 dc35 pm35 cd35 ct35 oc36 kV36 dc36 pm36 cd36 ct36 oc37 kV37 dc37 pm37 cd37 ct37 : Value}
    {ocT7 : Value} {odT7 : Option Addr} {slT7 : Array (Option Value)} {nT7 : Nat}
    {ocT8 : Value} {odT8 : Option Addr} {slT8 : Array (Option Value)} {nT8 : Nat}
    {tkA tkB tkC tkD : Tok} {CM CC CU CS CE NB cs cr ce Ts Tr Te : Addr} {ocB ocN : Value} {odB odN : Option Addr} {cdB : ClassData} {slB slN : Array (Option Value)} {esN : Array DictEntry} {epN : Nat} {NM : Addr} {bmM bsM subM : List Value} {nmM qnM : Str} {hdctM abM : Bool} {snM : List Str} {colM : Option Bool} {ddM : Option Addr} {y0M y1M y2M y3M y5M : Option Value} {NC : Addr} {bmC bsC subC : List Value} {nmC qnC : Str} {hdctC abC : Bool} {snC : List Str} {colC : Option Bool} {ddC : Option Addr} {y0C y1C y2C y3C y5C : Option Value} {NU : Addr} {bmU bsU subU : List Value} {nmU qnU : Str} {hdctU abU : Bool} {snU : List Str} {colU : Option Bool} {ddU : Option Addr} {y0U y1U y2U y3U y5U : Option Value} {NS : Addr} {bmS bsS subS : List Value} {nmS qnS : Str} {hdctS abS : Bool} {snS : List Str} {colS : Option Bool} {ddS : Option Addr} {y0S y1S y2S y3S y5S : Option Value}
    (aCT : nsIn K mainGlobals "Tally" = some (some (.ref CT)))
    (pkT : aK K CT)
    (nT_left : findIn K (.ref CT) "left" = some none)
    (nT_said : findIn K (.ref CT) "said" = some none)
    (aCR : nsIn K mainGlobals "Running" = some (some (.ref CR)))
    (pkR : aK K CR)
    (nR_rows : findIn K (.ref CR) "rows" = some none)
    (nR_tally : findIn K (.ref CR) "tally" = some none)
    (a1 : aN K "is_whole" f1)
    (u1 : aU K f1 oc1 od1 "is_whole" "is_whole" sWhole kV1 dc1 pm1 an1 cd1 ct1 sl1)
    (a2 : aN K "is_amount" f2)
    (u2 : aU K f2 oc2 od2 "is_amount" "is_amount" sAmount kV2 dc2 pm2 an2 cd2 ct2 sl2)
    (a3 : aN K "check_question" f3)
    (u3 : aU K f3 oc3 od3 "check_question" "check_question" sCheck kV3 dc3 pm3 an3 cd3 ct3 sl3)
    (a4 : aN K "reckoned" f4)
    (u4 : aU K f4 oc4 od4 "reckoned" "reckoned" sReck kV4 dc4 pm4 an4 cd4 ct4 sl4)
    (a5 : aN K "changed" f5)
    (u5 : aU K f5 oc5 od5 "changed" "changed" sChanged kV5 dc5 pm5 an5 cd5 ct5 sl5)
    (a6 : aN K "first_place" f6)
    (u6 : aU K f6 oc6 od6 "first_place" "first_place" sFirst kV6 dc6 pm6 an6 cd6 ct6 sl6)
    (a7 : aN K "run" f7)
    (l7 : K.lookup f7 = some ⟨oc7, od7, .func (fnOf "run" "run" (defArgs sRun) (defBody sRun) (defScope sRun) (.ref T7) kV7 dc7 pm7 an7 cd7 ct7), sl7⟩)
    (c7 : codeIn K cd7 "run" = true)
    (k7 : keepIn K (.ref f7) = true)
    (lT7 : K.lookup T7 = some ⟨ocT7, odT7, .seq #[.int 0 tkA, .int 40 tkB] nT7, slT7⟩)
    (a8 : aN K "woven_run" f8)
    (l8 : K.lookup f8 = some ⟨oc8, od8, .func (fnOf "woven_run" "woven_run" (defArgs sWRun) (defBody sWRun) (defScope sWRun) (.ref T8) kV8 dc8 pm8 an8 cd8 ct8), sl8⟩)
    (c8 : codeIn K cd8 "woven_run" = true)
    (k8 : keepIn K (.ref f8) = true)
    (lT8 : K.lookup T8 = some ⟨ocT8, odT8, .seq #[.int 0 tkC, .int 40 tkD] nT8, slT8⟩)
    (a9 : aN K "woven_row" f9)
    (u9 : aU K f9 oc9 od9 "woven_row" "woven_row" sWRow kV9 dc9 pm9 an9 cd9 ct9 sl9)
    (a10 : aN K "woven_step" f10)
    (u10 : aU K f10 oc10 od10 "woven_step" "woven_step" sWStep kV10 dc10 pm10 an10 cd10 ct10 sl10)
    (a12 : aN K "unanswered" f12)
    (u12 : aU K f12 oc12 od12 "unanswered" "unanswered" sUna kV12 dc12 pm12 an12 cd12 ct12 sl12)
    (a13 : aN K "woven_either" f13)
    (u13 : aU K f13 oc13 od13 "woven_either" "woven_either" sWEi kV13 dc13 pm13 an13 cd13 ct13 sl13)
    (a14 : aN K "_law_cell_at" f14)
    (u14 : aU K f14 oc14 od14 "_law_cell_at" "_law_cell_at" sCell kV14 dc14 pm14 an14 cd14 ct14 sl14)
    (a15 : aN K "_law_amount_by" f15)
    (u15 : aU K f15 oc15 od15 "_law_amount_by" "_law_amount_by" sAmtBy kV15 dc15 pm15 an15 cd15 ct15 sl15)
    (a16 : aN K "_law_mixed" f16)
    (u16 : aU K f16 oc16 od16 "_law_mixed" "_law_mixed" sMixed kV16 dc16 pm16 an16 cd16 ct16 sl16)
    (a17 : aN K "_law_lead_by" f17)
    (u17 : aU K f17 oc17 od17 "_law_lead_by" "_law_lead_by" sLead kV17 dc17 pm17 an17 cd17 ct17 sl17)
    (a18 : aN K "_law_step_by" f18)
    (u18 : aU K f18 oc18 od18 "_law_step_by" "_law_step_by" sStepBy kV18 dc18 pm18 an18 cd18 ct18 sl18)
    (a19 : aN K "_law_rows_by" f19)
    (u19 : aU K f19 oc19 od19 "_law_rows_by" "_law_rows_by" sRowsBy kV19 dc19 pm19 an19 cd19 ct19 sl19)
    (a20 : aN K "_law_behind" f20)
    (u20 : aU K f20 oc20 od20 "_law_behind" "_law_behind" sLBehind kV20 dc20 pm20 an20 cd20 ct20 sl20)
    (a21 : aN K "_law_done" f21)
    (u21 : aU K f21 oc21 od21 "_law_done" "_law_done" sDone kV21 dc21 pm21 an21 cd21 ct21 sl21)
    (a22 : aN K "_law_due" f22)
    (u22 : aU K f22 oc22 od22 "_law_due" "_law_due" sDue kV22 dc22 pm22 an22 cd22 ct22 sl22)
    (a23 : aN K "_law_refusal" f23)
    (u23 : aU K f23 oc23 od23 "_law_refusal" "_law_refusal" sRefusal kV23 dc23 pm23 an23 cd23 ct23 sl23)
    (a24 : aN K "_law_called" f24)
    (u24 : aU K f24 oc24 od24 "_law_called" "_law_called" sCalled kV24 dc24 pm24 an24 cd24 ct24 sl24)
    (a25 : aN K "_law_told" f25)
    (u25 : aU K f25 oc25 od25 "_law_told" "_law_told" sTold kV25 dc25 pm25 an25 cd25 ct25 sl25)
    (a26 : aN K "_law_count_by" f26)
    (u26 : aU K f26 oc26 od26 "_law_count_by" "_law_count_by" sCountBy kV26 dc26 pm26 an26 cd26 ct26 sl26)
    (a27 : aN K "_law_number_by" f27)
    (u27 : aU K f27 oc27 od27 "_law_number_by" "_law_number_by" sNumBy kV27 dc27 pm27 an27 cd27 ct27 sl27)
    (a28 : aN K "_law_between" f28)
    (u28 : aU K f28 oc28 od28 "_law_between" "_law_between" sBetw kV28 dc28 pm28 an28 cd28 ct28 sl28)
    (a29 : aN K "_law_asked" f29)
    (u29 : aU K f29 oc29 od29 "_law_asked" "_law_asked" sAskd kV29 dc29 pm29 an29 cd29 ct29 sl29)
    (a30 : aN K "_law_taken_back" f30)
    (u30 : aU K f30 oc30 od30 "_law_taken_back" "_law_taken_back" sTBack kV30 dc30 pm30 an30 cd30 ct30 sl30)
    (a11 : aN K "law" f11)
    (u11 : aU K f11 oc11 od11 "law" "law" sLaw kV11 dc11 pm11 an11 cd11 ct11 sl11)
    (m31 : aM K CT "__init__" f31)
    (u31 : aU K f31 oc31 od31 "__init__" "Tally.__init__" sInitT kV31 dc31 pm31 an31 cd31 ct31 sl31)
    (m32 : aM K CT "enter" f32)
    (u32 : aU K f32 oc32 od32 "enter" "Tally.enter" sEnter kV32 dc32 pm32 an32 cd32 ct32 sl32)
    (m33 : aM K CT "take_back" f33)
    (u33 : aU K f33 oc33 od33 "take_back" "Tally.take_back" sBack kV33 dc33 pm33 an33 cd33 ct33 sl33)
    (m34 : aM K CR "__init__" f34)
    (u34 : aU K f34 oc34 od34 "__init__" "Running.__init__" sInitR kV34 dc34 pm34 an34 cd34 ct34 sl34)
    (m35 : aM K CR "entered" f35)
    (u35 : aU K f35 oc35 od35 "entered" "Running.entered" sEntered kV35 dc35 pm35 an35 cd35 ct35 sl35)
    (m36 : aM K CR "behind" f36)
    (u36 : aU K f36 oc36 od36 "behind" "Running.behind" sBehind kV36 dc36 pm36 an36 cd36 ct36 sl36)
    (m37 : aM K CR "either" f37)
    (u37 : aU K f37 oc37 od37 "either" "Running.either" sEithR kV37 dc37 pm37 an37 cd37 ct37 sl37)
    (z1 : nsIn K mainGlobals "len" = some none)
    (z2 : nsIn K mainGlobals "range" = some none)
    (z3 : nsIn K mainGlobals "isinstance" = some none)
    (z4 : nsIn K mainGlobals "list" = some none)
    (z5 : nsIn K mainGlobals "str" = some none)
    (z6 : nsIn K mainGlobals "all" = some none)
    (z7 : nsIn K mainGlobals "tuple" = some none)
    (z8 : nsIn K mainGlobals "int" = some none)
    (z9 : nsIn K mainGlobals "bool" = some none)
    (zany : nsIn K mainGlobals "any" = some none)
    (zdi : nsIn K mainGlobals "dict" = some none)
    (aXM : nsIn K mainGlobals "BadNumber" = some (some (.ref CM)))
    (aXC : nsIn K mainGlobals "BadCount" = some (some (.ref CC)))
    (aXU : nsIn K mainGlobals "Unanswered" = some (some (.ref CU)))
    (aXS : nsIn K mainGlobals "Spent" = some (some (.ref CS)))
    (aE : nsIn K mainGlobals "BookError" = some (some (.ref CE)))
    (lXM : K.lookup CM = some (excClassObj nmM qnM CM NM bsM bmM hdctM snM subM abM colM ddM y0M y1M y2M y3M y5M "ValueError.__new__"))
    (kXM : keepIn K (.ref CM) = true)
    (hbmM : bmM = .ref CE :: vMro)
    (csM : isClsIn K CM = true)
    (tyM : typeIn K (.ref CM) = some (.type "type"))
    (beM : subIn K (.ref CM) (.type "BaseException") = some true)
    (seM : subIn K (.ref CM) (.ref CE) = some true)
    (g1M : findIn K (.ref CM) "__getattribute__" = some (some (.builtin "BaseException.__getattribute__")))
    (g2M : findIn K (.ref CM) "__getattr__" = some none)
    (g3M : mroIn K CM (.type "BaseException") = some true)
    (g4M : findIn K (.ref CM) "__class__" = some (some (.builtin "object.__class__")))
    (g5M : mroIn K CM (.type "object") = some true)
    (sMM : subIn K (.ref CM) (.ref CM) = some true)
    (sMC : subIn K (.ref CM) (.ref CC) = some false)
    (sMU : subIn K (.ref CM) (.ref CU) = some false)
    (sMS : subIn K (.ref CM) (.ref CS) = some false)
    (ixM : findIn K (.ref CM) "__init__" = some (some (.builtin "ValueError.__init__")))
    (lXC : K.lookup CC = some (excClassObj nmC qnC CC NC bsC bmC hdctC snC subC abC colC ddC y0C y1C y2C y3C y5C "ValueError.__new__"))
    (kXC : keepIn K (.ref CC) = true)
    (hbmC : bmC = .ref CE :: vMro)
    (csC : isClsIn K CC = true)
    (tyC : typeIn K (.ref CC) = some (.type "type"))
    (beC : subIn K (.ref CC) (.type "BaseException") = some true)
    (seC : subIn K (.ref CC) (.ref CE) = some true)
    (g1C : findIn K (.ref CC) "__getattribute__" = some (some (.builtin "BaseException.__getattribute__")))
    (g2C : findIn K (.ref CC) "__getattr__" = some none)
    (g3C : mroIn K CC (.type "BaseException") = some true)
    (g4C : findIn K (.ref CC) "__class__" = some (some (.builtin "object.__class__")))
    (g5C : mroIn K CC (.type "object") = some true)
    (sCM : subIn K (.ref CC) (.ref CM) = some false)
    (sCC : subIn K (.ref CC) (.ref CC) = some true)
    (sCU : subIn K (.ref CC) (.ref CU) = some false)
    (sCS : subIn K (.ref CC) (.ref CS) = some false)
    (ixC : findIn K (.ref CC) "__init__" = some (some (.builtin "ValueError.__init__")))
    (lXU : K.lookup CU = some (excClassObj nmU qnU CU NU bsU bmU hdctU snU subU abU colU ddU y0U y1U y2U y3U y5U "ValueError.__new__"))
    (kXU : keepIn K (.ref CU) = true)
    (hbmU : bmU = .ref CE :: vMro)
    (csU : isClsIn K CU = true)
    (tyU : typeIn K (.ref CU) = some (.type "type"))
    (beU : subIn K (.ref CU) (.type "BaseException") = some true)
    (seU : subIn K (.ref CU) (.ref CE) = some true)
    (g1U : findIn K (.ref CU) "__getattribute__" = some (some (.builtin "BaseException.__getattribute__")))
    (g2U : findIn K (.ref CU) "__getattr__" = some none)
    (g3U : mroIn K CU (.type "BaseException") = some true)
    (g4U : findIn K (.ref CU) "__class__" = some (some (.builtin "object.__class__")))
    (g5U : mroIn K CU (.type "object") = some true)
    (sUM : subIn K (.ref CU) (.ref CM) = some false)
    (sUC : subIn K (.ref CU) (.ref CC) = some false)
    (sUU : subIn K (.ref CU) (.ref CU) = some true)
    (sUS : subIn K (.ref CU) (.ref CS) = some false)
    (ixU : findIn K (.ref CU) "__init__" = some (some (.builtin "ValueError.__init__")))
    (lXS : K.lookup CS = some (excClassObj nmS qnS CS NS bsS bmS hdctS snS subS abS colS ddS y0S y1S y2S y3S y5S "ValueError.__new__"))
    (kXS : keepIn K (.ref CS) = true)
    (hbmS : bmS = .ref CE :: vMro)
    (csS : isClsIn K CS = true)
    (tyS : typeIn K (.ref CS) = some (.type "type"))
    (beS : subIn K (.ref CS) (.type "BaseException") = some true)
    (seS : subIn K (.ref CS) (.ref CE) = some true)
    (g1S : findIn K (.ref CS) "__getattribute__" = some (some (.builtin "BaseException.__getattribute__")))
    (g2S : findIn K (.ref CS) "__getattr__" = some none)
    (g3S : mroIn K CS (.type "BaseException") = some true)
    (g4S : findIn K (.ref CS) "__class__" = some (some (.builtin "object.__class__")))
    (g5S : mroIn K CS (.type "object") = some true)
    (sSM : subIn K (.ref CS) (.ref CM) = some false)
    (sSC : subIn K (.ref CS) (.ref CC) = some false)
    (sSU : subIn K (.ref CS) (.ref CU) = some false)
    (sSS : subIn K (.ref CS) (.ref CS) = some true)
    (ixS : findIn K (.ref CS) "__init__" = some (some (.builtin "ValueError.__init__")))
    (csE : isClsIn K CE = true)
    (tyE : typeIn K (.ref CE) = some (.type "type"))
    (beE : subIn K (.ref CE) (.type "BaseException") = some true)
    (lB : K.lookup CE = some ⟨ocB, odB, .cls cdB, slB⟩)
    (hB : cdB.ns = NB)
    (lN : K.lookup NB = some ⟨ocN, odN, .dict esN epN, slN⟩)
    (uN : keysStr esN.toList = true)
    (iN : nsIn K NB "__init__" = some none)
    (gs : specialIn K (.builtin "object.__class__") "__get__" = some (some (.builtin "getset_descriptor.__get__")))
    (gt : takesIn K (.builtin "object.__class__") = some true)
    (eqS : cd10 = .ref cs)
    (eqR : cd9 = .ref cr)
    (eqE : cd13 = .ref ce)
    (hqS : codeHdIn K cs Ts = true)
    (hqR : codeHdIn K cr Tr = true)
    (hqE : codeHdIn K ce Te = true)
    (ndT : ([Ts, Tr, Te] : List Addr).Nodup) :
    ∃ fd : FuncData, (∀ (s : Shared) (v : Value), BindsTo s fd ⟨[v], []⟩ [("_law_script", v)]) ∧ ∀ base : Heap, K.In base → base.Ns mainGlobals mg → Bm mg base → FnOk l.prog w K mg base CX1 173 fa fd ["_law_script"] (spLaw K [(Ts, entT), (Tr, entR), (Te, entE)]) := by
  have e := hfa.symm.trans (mg_of X G a11)
  cases e
  have Tx : Txt mg := ⟨mg_none_of X G z1, mg_none_of X G z2, mg_none_of X G z3, mg_none_of X G z4, mg_none_of X G z5, mg_none_of X G z6, mg_none_of X G z7, mg_none_of X G z8, mg_none_of X G z9⟩
  have F1 := fu_mk u1
  have b1 := F1.binds (ps := ["value", "least", "most"]) fun _ _ _ _ _ _ us hl => by obtain ⟨_, _, _, rfl⟩ := ln3 hl; rfl
  have F2 := fu_mk u2
  have b2 := F2.binds (ps := ["value"]) fun _ _ _ _ _ _ us hl => by obtain ⟨_, rfl⟩ := ln1 hl; rfl
  have F3 := fu_mk u3
  have b3 := F3.binds (ps := ["number", "count"]) fun _ _ _ _ _ _ us hl => by obtain ⟨_, _, rfl⟩ := ln2 hl; rfl
  have F4 := fu_mk u4
  have b4 := F4.binds (ps := ["step", "number", "said"]) fun _ _ _ _ _ _ us hl => by obtain ⟨_, _, _, rfl⟩ := ln3 hl; rfl
  have F5 := fu_mk u5
  have b5 := F5.binds (ps := ["number", "sort", "amount"]) fun _ _ _ _ _ _ us hl => by obtain ⟨_, _, _, rfl⟩ := ln3 hl; rfl
  have F6 := fu_mk u6
  have b6 := F6.binds (ps := ["starts", "word"]) fun _ _ _ _ _ _ us hl => by obtain ⟨_, _, rfl⟩ := ln2 hl; rfl
  have F7 := funD_mk (st := sRun) l7 c7 k7
  have b7_3 := F7.binds (ps := ["starts", "rows", "word", "number", "count"]) (ds := [.int 0 tkA, .int 40 tkB]) lT7 rfl 3 rfl fun _ _ _ _ _ _ us hl => by obtain ⟨_, _, _, rfl⟩ := ln3 hl; exact ⟨_, rfl, rfl⟩
  have b7_4 := F7.binds (ps := ["starts", "rows", "word", "number", "count"]) (ds := [.int 40 tkB]) lT7 rfl 4 rfl fun _ _ _ _ _ _ us hl => by obtain ⟨_, _, _, _, rfl⟩ := ln4 hl; exact ⟨_, rfl, rfl⟩
  have b7_5 := F7.binds (ps := ["starts", "rows", "word", "number", "count"]) (ds := []) lT7 rfl 5 rfl fun _ _ _ _ _ _ us hl => by obtain ⟨_, _, _, _, _, rfl⟩ := ln5 hl; exact ⟨_, rfl, rfl⟩
  have F8 := funD_mk (st := sWRun) l8 c8 k8
  have b8_3 := F8.binds (ps := ["starts", "rows", "word", "number", "count"]) (ds := [.int 0 tkC, .int 40 tkD]) lT8 rfl 3 rfl fun _ _ _ _ _ _ us hl => by obtain ⟨_, _, _, rfl⟩ := ln3 hl; exact ⟨_, rfl, rfl⟩
  have b8_4 := F8.binds (ps := ["starts", "rows", "word", "number", "count"]) (ds := [.int 40 tkD]) lT8 rfl 4 rfl fun _ _ _ _ _ _ us hl => by obtain ⟨_, _, _, _, rfl⟩ := ln4 hl; exact ⟨_, rfl, rfl⟩
  have b8_5 := F8.binds (ps := ["starts", "rows", "word", "number", "count"]) (ds := []) lT8 rfl 5 rfl fun _ _ _ _ _ _ us hl => by obtain ⟨_, _, _, _, _, rfl⟩ := ln5 hl; exact ⟨_, rfl, rfl⟩
  have F9 := fu_mk u9
  have b9 := F9.binds (ps := ["row", "woven", "tally"]) fun _ _ _ _ _ _ us hl => by obtain ⟨_, _, _, rfl⟩ := ln3 hl; rfl
  have F10 := fu_mk u10
  have b10 := F10.binds (ps := ["step", "woven", "tally"]) fun _ _ _ _ _ _ us hl => by obtain ⟨_, _, _, rfl⟩ := ln3 hl; rfl
  have F12 := fu_mk u12
  have b12 := F12.binds (ps := ["number"]) fun _ _ _ _ _ _ us hl => by obtain ⟨_, rfl⟩ := ln1 hl; rfl
  have F13 := fu_mk u13
  have b13 := F13.binds (ps := ["one", "other", "tally"]) fun _ _ _ _ _ _ us hl => by obtain ⟨_, _, _, rfl⟩ := ln3 hl; rfl
  have F14 := fu_mk u14
  have b14 := F14.binds (ps := ["_law_script", "_law_k"]) fun _ _ _ _ _ _ us hl => by obtain ⟨_, _, rfl⟩ := ln2 hl; rfl
  have F15 := fu_mk u15
  have b15 := F15.binds (ps := ["_law_mixed_here"]) fun _ _ _ _ _ _ us hl => by obtain ⟨_, rfl⟩ := ln1 hl; rfl
  have F16 := fu_mk u16
  have b16 := F16.binds (ps := ["_law_cell", "_law_k"]) fun _ _ _ _ _ _ us hl => by obtain ⟨_, _, rfl⟩ := ln2 hl; rfl
  have F17 := fu_mk u17
  have b17 := F17.binds (ps := ["_law_mixed_here", "_law_first", "_law_many"]) fun _ _ _ _ _ _ us hl => by obtain ⟨_, _, _, rfl⟩ := ln3 hl; rfl
  have F18 := fu_mk u18
  have b18 := F18.binds (ps := ["_law_mixed_here", "_law_first", "_law_many"]) fun _ _ _ _ _ _ us hl => by obtain ⟨_, _, _, rfl⟩ := ln3 hl; rfl
  have F19 := fu_mk u19
  have b19 := F19.binds (ps := ["_law_script", "_law_many", "_law_later"]) fun _ _ _ _ _ _ us hl => by obtain ⟨_, _, _, rfl⟩ := ln3 hl; rfl
  have F20 := fu_mk u20
  have b20 := F20.binds (ps := ["_law_step", "_law_number"]) fun _ _ _ _ _ _ us hl => by obtain ⟨_, _, rfl⟩ := ln2 hl; rfl
  have F21 := fu_mk u21
  have b21 := F21.binds (ps := ["_law_step", "_law_number", "_law_said", "_law_todo"]) fun _ _ _ _ _ _ us hl => by obtain ⟨_, _, _, _, rfl⟩ := ln4 hl; rfl
  have F22 := fu_mk u22
  have b22 := F22.binds (ps := ["_law_rows", "_law_todo", "_law_number", "_law_count"]) fun _ _ _ _ _ _ us hl => by obtain ⟨_, _, _, _, rfl⟩ := ln4 hl; rfl
  have F23 := fu_mk u23
  have b23 := F23.binds (ps := ["_law_error"]) fun _ _ _ _ _ _ us hl => by obtain ⟨_, rfl⟩ := ln1 hl; rfl
  have F24 := fu_mk u24
  have b24 := F24.binds (ps := ["_law_which", "_law_starts", "_law_rows", "_law_word", "_law_number", "_law_count", "_law_off"]) fun _ _ _ _ _ _ us hl => by obtain ⟨_, _, _, _, _, _, _, rfl⟩ := ln7 hl; rfl
  have F25 := fu_mk u25
  have b25 := F25.binds (ps := ["_law_which", "_law_starts", "_law_rows", "_law_word", "_law_number", "_law_count", "_law_off"]) fun _ _ _ _ _ _ us hl => by obtain ⟨_, _, _, _, _, _, _, rfl⟩ := ln7 hl; rfl
  have F26 := fu_mk u26
  have b26 := F26.binds (ps := ["_law_cell"]) fun _ _ _ _ _ _ us hl => by obtain ⟨_, rfl⟩ := ln1 hl; rfl
  have F27 := fu_mk u27
  have b27 := F27.binds (ps := ["_law_cell"]) fun _ _ _ _ _ _ us hl => by obtain ⟨_, rfl⟩ := ln1 hl; rfl
  have F28 := fu_mk u28
  have b28 := F28.binds (ps := ["_law_number", "_law_low", "_law_high"]) fun _ _ _ _ _ _ us hl => by obtain ⟨_, _, _, rfl⟩ := ln3 hl; rfl
  have F29 := fu_mk u29
  have b29 := F29.binds (ps := ["_law_starts", "_law_rows", "_law_word", "_law_number", "_law_count", "_law_off"]) fun _ _ _ _ _ _ us hl => by obtain ⟨_, _, _, _, _, _, rfl⟩ := ln6 hl; rfl
  have F30 := fu_mk u30
  have b30 := F30.binds (ps := ["_law_script", "_law_rows"]) fun _ _ _ _ _ _ us hl => by obtain ⟨_, _, rfl⟩ := ln2 hl; rfl
  have F11 := fu_mk u11
  have F31 := fu_mk u31
  have b31 := F31.binds (ps := ["self", "left"]) fun _ _ _ _ _ _ us hl => by obtain ⟨_, _, rfl⟩ := ln2 hl; rfl
  have F32 := fu_mk u32
  have b32 := F32.binds (ps := ["self"]) fun _ _ _ _ _ _ us hl => by obtain ⟨_, rfl⟩ := ln1 hl; rfl
  have F33 := fu_mk u33
  have b33 := F33.binds (ps := ["self", "length"]) fun _ _ _ _ _ _ us hl => by obtain ⟨_, _, rfl⟩ := ln2 hl; rfl
  have F34 := fu_mk u34
  have b34 := F34.binds (ps := ["self", "rows", "tally"]) fun _ _ _ _ _ _ us hl => by obtain ⟨_, _, _, rfl⟩ := ln3 hl; rfl
  have F35 := fu_mk u35
  have b35 := F35.binds (ps := ["self", "place", "number"]) fun _ _ _ _ _ _ us hl => by obtain ⟨_, _, _, rfl⟩ := ln3 hl; rfl
  have F36 := fu_mk u36
  have b36 := F36.binds (ps := ["self", "step", "number"]) fun _ _ _ _ _ _ us hl => by obtain ⟨_, _, _, rfl⟩ := ln3 hl; rfl
  have F37 := fu_mk u37
  have b37 := F37.binds (ps := ["self", "one", "other", "number"]) fun _ _ _ _ _ _ us hl => by obtain ⟨_, _, _, _, rfl⟩ := ln4 hl; rfl
  have T : ClsT K mg CT := ⟨⟨pkT.1, pkT.2.1, pkT.2.2.1, pkT.2.2.2.1⟩, nT_left, nT_said, mg_of X G aCT⟩
  have R : ClsR K mg CR := ⟨⟨pkR.1, pkR.2.1, pkR.2.2.1, pkR.2.2.2.1⟩, nR_rows, nR_tally, mg_of X G aCR⟩
  subst hB
  subst eqS
  subst eqR
  subst eqE
  have bE : (Value.ref CE :: vMro).contains (.type "BaseException") = true := by rw [List.contains_cons, show vMro.contains (.type "BaseException") = true by decide +kernel, Bool.or_true]
  subst hbmM
  have exM : ExcC K CM (.ref CE :: vMro) := by
    refine ⟨⟨nmM, qnM, NM, bsM, hdctM, snM, subM, abM, colM, ddM, y0M, y1M, y2M, y3M, y5M, lXM⟩, fun h' X' => ?_, kXM⟩
    exact .own (X' CE _ lB) (ns_of X' lN uN) (ns_none_of X' (ns_of X' lN uN) iN) .base
  have xcM : XCls K CM := ⟨csM, g1M, g2M, g3M, g4M, gs, gt, g5M⟩
  have ekM : ExK K mg "BadNumber" CM (.ref CE :: vMro) := ⟨exM, bE, ixM, mg_of X G aXM⟩
  subst hbmC
  have exC : ExcC K CC (.ref CE :: vMro) := by
    refine ⟨⟨nmC, qnC, NC, bsC, hdctC, snC, subC, abC, colC, ddC, y0C, y1C, y2C, y3C, y5C, lXC⟩, fun h' X' => ?_, kXC⟩
    exact .own (X' CE _ lB) (ns_of X' lN uN) (ns_none_of X' (ns_of X' lN uN) iN) .base
  have xcC : XCls K CC := ⟨csC, g1C, g2C, g3C, g4C, gs, gt, g5C⟩
  have ekC : ExK K mg "BadCount" CC (.ref CE :: vMro) := ⟨exC, bE, ixC, mg_of X G aXC⟩
  subst hbmU
  have exU : ExcC K CU (.ref CE :: vMro) := by
    refine ⟨⟨nmU, qnU, NU, bsU, hdctU, snU, subU, abU, colU, ddU, y0U, y1U, y2U, y3U, y5U, lXU⟩, fun h' X' => ?_, kXU⟩
    exact .own (X' CE _ lB) (ns_of X' lN uN) (ns_none_of X' (ns_of X' lN uN) iN) .base
  have xcU : XCls K CU := ⟨csU, g1U, g2U, g3U, g4U, gs, gt, g5U⟩
  have ekU : ExK K mg "Unanswered" CU (.ref CE :: vMro) := ⟨exU, bE, ixU, mg_of X G aXU⟩
  subst hbmS
  have exS : ExcC K CS (.ref CE :: vMro) := by
    refine ⟨⟨nmS, qnS, NS, bsS, hdctS, snS, subS, abS, colS, ddS, y0S, y1S, y2S, y3S, y5S, lXS⟩, fun h' X' => ?_, kXS⟩
    exact .own (X' CE _ lB) (ns_of X' lN uN) (ns_none_of X' (ns_of X' lN uN) iN) .base
  have xcS : XCls K CS := ⟨csS, g1S, g2S, g3S, g4S, gs, gt, g5S⟩
  have ekS : ExK K mg "Spent" CS (.ref CE :: vMro) := ⟨exS, bE, ixS, mg_of X G aXS⟩
  have rM : RefX K CM CC CU CS CM true false false false := ⟨xcM, kit_refB csM tyM sMM sMM, kit_refB csC tyC sCC sMC, kit_refB csU tyU sUU sMU, kit_refB csS tyS sSS sMS⟩
  have rC : RefX K CM CC CU CS CC false true false false := ⟨xcC, kit_refB csM tyM sMM sCM, kit_refB csC tyC sCC sCC, kit_refB csU tyU sUU sCU, kit_refB csS tyS sSS sCS⟩
  have rU : RefX K CM CC CU CS CU false false true false := ⟨xcU, kit_refB csM tyM sMM sUM, kit_refB csC tyC sCC sUC, kit_refB csU tyU sUU sUU, kit_refB csS tyS sSS sUS⟩
  have rS : RefX K CM CC CU CS CS false false false true := ⟨xcS, kit_refB csM tyM sMM sSM, kit_refB csC tyC sCC sSC, kit_refB csU tyU sUU sSU, kit_refB csS tyS sSS sSS⟩
  have C4 : Cls4 K mg CM CC CU CS CE := ⟨mg_of X G aE, exm_of csE tyE beE seM, exm_of csE tyE beE seC, exm_of csE tyE beE seU, exm_of csE tyE beE seS, rM, rC, rU, rS⟩
  have XX : ClsX K mg CU CS (.ref CE :: vMro) (.ref CE :: vMro) := ⟨exU, bE, ixU, mg_of X G aXU, exS, bE, ixS, mg_of X G aXS, exm_of csU tyU beU sUU, exm_of csU tyU beU sSU⟩
  have FS : FunC K "woven_step" "woven_step" sWStep f10 _ cs Ts := ⟨⟨oc10, od10, kV10, dc10, pm10, an10, ct10, sl10, rfl, u10.1, u10.2.1⟩, u10.2.2, hqS⟩
  have FR : FunC K "woven_row" "woven_row" sWRow f9 _ cr Tr := ⟨⟨oc9, od9, kV9, dc9, pm9, an9, ct9, sl9, rfl, u9.1, u9.2.1⟩, u9.2.2, hqR⟩
  have FE : FunC K "woven_either" "woven_either" sWEi f13 _ ce Te := ⟨⟨oc13, od13, kV13, dc13, pm13, an13, ct13, sl13, rfl, u13.1, u13.2.1⟩, u13.2.2, hqE⟩
  refine ⟨fnOf "law" "law" (defArgs sLaw) (defBody sLaw) (defScope sLaw) .none kV11 dc11 pm11 an11 cd11 ct11, fun s v => .of_eq rfl, fun base hK _ hBm => ?_⟩
  have G1 : FnOk l.prog w K mg base CX0 1 f1 _ ["value", "least", "most"] spWholeG := ok_wholeG F1 Tx
  have G2 : FnOk l.prog w K mg base CX0 2 f2 _ ["value"] spAmountG := ok_amountG F2 G1 u1.2.2 b1 (mg_of X G a1)
  have G3 : FnOk l.prog w K mg base (CXE l.prog w) 3 f3 _ ["number", "count"] (spCheckX CM CC) := ok_checkX F3 G1 u1.2.2 b1 (mg_of X G a1) G2 u2.2.2 b2 (mg_of X G a2) ekM ekC
  have G4 : ∀ base : Heap, FnOk l.prog w K mg base CX0 2 f4 _ ["step", "number", "said"] spReck := fun base => by
    have G5 : FnOk l.prog w K mg base CX0 1 f5 _ ["number", "sort", "amount"] spChanged := ok_changed F5 Tx
    exact ok_reck F4 Tx G5 u5.2.2 b5 (mg_of X G a5)
  have G6 : FnOk l.prog w K mg base (CXE l.prog w) 1 f6 _ ["starts", "word"] (spFirstX CU) := ok_firstX F6 XX
  have G31 : FnOk l.prog w K mg base CX0 1 f31 _ ["self", "left"] (spInitT CT) := ok_initT F31 T
  have G32 : ∀ base : Heap, FnOk l.prog w K mg base (CXE l.prog w) 1 f32 _ ["self"] (spEnter CT CS) := fun base => ok_enter F32 T XX
  have G33 : ∀ base : Heap, FnOkN l.prog w K mg base 1 f33 _ ["self", "length"] (spBack CT) := fun base => ok_back F33 T
  have G34 : FnOk l.prog w K mg base CX0 1 f34 _ ["self", "rows", "tally"] (spInitR CR) := ok_initR F34 R
  have G35 : FnOk l.prog w K mg base (CXE l.prog w) (4 * 41 + 3) f35 _ ["self", "place", "number"] (spEnt CT CR CU CS 41) := ok_ents F35 b35 ⟨m35.1, m35.2, u35.2.2⟩ F36 b36 ⟨m36.1, m36.2, u36.2.2⟩ F37 b37 ⟨m37.1, m37.2, u37.2.2⟩ (G33 base) b33 ⟨m33.1, m33.2, u33.2.2⟩ (G32 base) b32 ⟨m32.1, m32.2, u32.2.2⟩ R T Tx XX (G4 base) u4.2.2 b4 (mg_of X G a4) 41
  have G7 : FnOk l.prog w K mg base (CXE l.prog w) 168 f7 _ ["starts", "rows", "word", "number", "count"] (spRunX CM CC CU CS) := ok_runX F7 R T G3 u3.2.2 b3 (mg_of X G a3) G6 u6.2.2 b6 (mg_of X G a6) G34 b34 ⟨pkR.2.2.2.2.1, m34.1, m34.2, pkR.2.2.2.2.2⟩ G31 b31 ⟨pkT.2.2.2.2.1, m31.1, m31.2, pkT.2.2.2.2.2⟩ G35 b35 ⟨m35.1, m35.2, u35.2.2⟩
  have nd : (([(Ts, entT), (Tr, entR), (Te, entE)] : List (Addr × List (Pos × Str))).map (·.1)).Nodup := ndT
  have G13 : FnOk l.prog w K mg base CX0 1 f13 _ ["one", "other", "tally"] (spWEi [(Ts, entT), (Tr, entR), (Te, entE)]) := ok_wei FE hK hBm (by simp) nd
  have G10 : FnOk l.prog w K mg base CX0 2 f10 _ ["step", "woven", "tally"] (spWSt [(Ts, entT), (Tr, entR), (Te, entE)] f12) := ok_wst FS b10 (mg_of X G a10) hK hBm (by simp) nd (mg_of X G a12) G13 u13.2.2 b13 (mg_of X G a13)
  have G9 : FnOk l.prog w K mg base CX0 3 f9 _ ["row", "woven", "tally"] (spWRow [(Ts, entT), (Tr, entR), (Te, entE)] f12) := ok_wrow FR hK hBm (by simp) nd G10 u10.2.2 b10 (mg_of X G a10)
  have G8 : FnOk l.prog w K mg base (CXE l.prog w) 168 f8 _ ["starts", "rows", "word", "number", "count"] (spWRun [(Ts, entT), (Tr, entR), (Te, entE)] CM CC CU CS) := ok_wrun F8 T Tx XX G3 u3.2.2 b3 (mg_of X G a3) G6 u6.2.2 b6 (mg_of X G a6) G31 b31 ⟨pkT.2.2.2.2.1, m31.1, m31.2, pkT.2.2.2.2.2⟩ G9 u9.2.2 b9 (mg_of X G a9) F12 b12 G33 b33 ⟨m33.1, m33.2, u33.2.2⟩ G32 b32 ⟨m32.1, m32.2, u32.2.2⟩ G4 u4.2.2 b4 (mg_of X G a4)
  have G14 : FnOk l.prog w K mg base CX0 1 f14 _ ["_law_script", "_law_k"] (spCell K) := ok_cell F14 Tx
  have G15 : FnOk l.prog w K mg base CX0 1 f15 _ ["_law_mixed_here"] spAmtBy := ok_amtBy F15
  have G16 : FnOk l.prog w K mg base CX0 1 f16 _ ["_law_cell", "_law_k"] spMixed := ok_mixed F16
  have G17 : FnOk l.prog w K mg base CX0 1 f17 _ ["_law_mixed_here", "_law_first", "_law_many"] spLeadBy := ok_leadBy F17
  have G18 : FnOk l.prog w K mg base CX0 2 f18 _ ["_law_mixed_here", "_law_first", "_law_many"] spStepBy := ok_sb F18 Tx G15 u15.2.2 b15 (mg_of X G a15) G17 u17.2.2 b17 (mg_of X G a17)
  have G19 : FnOk l.prog w K mg base CX0 3 f19 _ ["_law_script", "_law_many", "_law_later"] (spRowsBy K) := ok_rb F19 Tx G18 u18.2.2 b18 (mg_of X G a18) G16 u16.2.2 b16 (mg_of X G a16)
  have G20 : FnOk l.prog w K mg base CX0 1 f20 _ ["_law_step", "_law_number"] spLBeh := ok_lbeh F20
  have G21 : FnOk l.prog w K mg base CX0 2 f21 _ ["_law_step", "_law_number", "_law_said", "_law_todo"] spDone := ok_done F21 G20 u20.2.2 b20 (mg_of X G a20)
  have G22 : FnOk l.prog w K mg base CX0 3 f22 _ ["_law_rows", "_law_todo", "_law_number", "_law_count"] spDue := ok_due F22 G21 u21.2.2 b21 (mg_of X G a21)
  have G23 : FnOkN l.prog w K mg base 1 f23 _ ["_law_error"] (spRefusal K CM CC CU CS) := ok_refusal F23 Tx (mg_of X G aXM) (mg_of X G aXC) (mg_of X G aXU) (mg_of X G aXS)
  have G24 : FnOk l.prog w K mg base (CXE l.prog w) 169 f24 _ nCalled (spCalled [(Ts, entT), (Tr, entR), (Te, entE)] CM CC CU CS) := ok_called F24 G7 k7 b7_3 b7_4 b7_5 (mg_of X G a7) G8 k8 b8_3 b8_4 b8_5 (mg_of X G a8)
  have G25 : FnOk l.prog w K mg base CX1 170 f25 _ nCalled (spTold [(Ts, entT), (Tr, entR), (Te, entE)]) := ok_told F25 Tx (mg_none_of X G zany) (mg_none_of X G zdi) C4 G24 u24.2.2 b24 (mg_of X G a24) G23 u23.2.2 b23 (mg_of X G a23)
  have G26 : FnOk l.prog w K mg base CX0 1 f26 _ ["_law_cell"] spValBy := ok_countBy F26
  have G27 : FnOk l.prog w K mg base CX0 1 f27 _ ["_law_cell"] spValBy := ok_numBy F27
  have G28 : FnOk l.prog w K mg base CX0 1 f28 _ nBetw spWholeG := ok_betw F28 Tx
  have G29 : FnOk l.prog w K mg base CX1 171 f29 _ ["_law_starts", "_law_rows", "_law_word", "_law_number", "_law_count", "_law_off"] (spAsked [(Ts, entT), (Tr, entR), (Te, entE)]) := ok_asked F29 Tx G28 u28.2.2 b28 (mg_of X G a28) G22 u22.2.2 b22 (mg_of X G a22) G25 u25.2.2 b25 (mg_of X G a25)
  have G30 : FnOk l.prog w K mg base CX1 172 f30 _ ["_law_script", "_law_rows"] (spTBack K [(Ts, entT), (Tr, entR), (Te, entE)]) := ok_tback F30 Tx G14 u14.2.2 b14 (mg_of X G a14) G29 u29.2.2 b29 (mg_of X G a29)
  exact ok_law F11 Tx G14 u14.2.2 b14 (mg_of X G a14) G19 u19.2.2 b19 (mg_of X G a19) G27 u27.2.2 b27 (mg_of X G a27) G26 u26.2.2 b26 (mg_of X G a26) G29 u29.2.2 b29 (mg_of X G a29) G30 u30.2.2 b30 (mg_of X G a30)
theorem walk {l : PySem.W.OpenLaw} {q : Program} {loose : List Str} {XP : (Str → Option Value) → Heap → Prop} {YP : World → Heap → Prop} {d : DefRec} {K : Params → PySem.W.Frag} {cs Ts cr Tr ce Te : Addr} (hn : l.most = some 63) (hdf : d.params.defaults = [])
    (hY : ∀ (w : World) (h : Heap), YP w h → (K w.params).In h ∧ ∀ q ∈ [(cs, Ts), (cr, Tr), (ce, Te)], PySem.W.CodeHd h q.1 q.2 ∧ h.get? q.2 = some (PySem.W.tabObj #[]) ∧ (K w.params).lookup q.2 = none)
    (F : ∀ (w : World) (mg : Str → Option Value) (fa : Addr) (h : Heap), (K w.params).In h → h.Ns mainGlobals mg → mg d.name = some (.ref fa) →
      ∃ fd : FuncData, (∀ (s : Shared) (u : Value), BindsTo s fd ⟨[u], []⟩ [("_law_script", u)]) ∧ ∀ base : Heap, (K w.params).In base → base.Ns mainGlobals mg → Bm mg base → FnOk l.prog w (K w.params) mg base CX1 173 fa fd ["_law_script"] (spLaw (K w.params) [(Ts, entT), (Tr, entR), (Te, entE)])) :
    PySem.W.WalkO q loose XP YP l.row.toRowW d [] (fun f vs => PySem.call f vs) :=
  L2.walk_ofT (n := 63) (k := 173) (x := "_law_script") (CX := fun _ => CX1) (tabs := fun _ => [(cs, Ts), (cr, Tr), (ce, Te)]) (sp := fun w => spLaw (K w.params) [(Ts, entT), (Tr, entR), (Te, entE)]) hn (by decide) hdf ⟨by decide, by decide⟩ hY F (fun _ H a ns hl hS hT => ⟨a, ns, rfl, hS, hl, tb0 (fun q hq => by
      simp only [List.mem_cons, List.not_mem_nil, or_false] at hq
      rcases hq with rfl | rfl | rfl
      · exact hT (cs, Ts) (by simp)
      · exact hT (cr, Tr) (by simp)
      · exact hT (ce, Te) (by simp)), fun H' B => ⟨rfl, fun q hq => by
      simp only [List.mem_cons, List.not_mem_nil, or_false] at hq
      rcases hq with rfl | rfl | rfl
      · obtain ⟨ps, A⟩ := B (Ts, entT) (by simp); exact ⟨ps, A.tab⟩
      · obtain ⟨ps, A⟩ := B (Tr, entR) (by simp); exact ⟨ps, A.tab⟩
      · obtain ⟨ps, A⟩ := B (Te, entE) (by simp); exact ⟨ps, A.tab⟩⟩⟩) fun _ _ _ _ _ z => z
end Bk
namespace PySem.W.Fast
theorem tw4242297634521821791 : True := trivial
theorem tw3412529892016146331 : True := trivial
theorem tw11112505949268876996 : True := trivial
theorem tw11984429137006294146 : True := trivial
theorem tw12149232446951888153 : True := trivial
theorem tw6015684607800734402 : True := trivial
theorem tw2872507099970987895 : True := trivial
theorem tw5036550994883851812 : True := trivial
theorem tw17231205342383541923 : True := trivial
theorem tw18385999564052504166 : True := trivial
theorem tw16540662720940768127 : True := trivial
theorem tw17371250992845475949 : True := trivial
theorem tw4374943463518003095 : True := trivial
theorem tw10216626497630790909 : True := trivial
theorem tw11543540971893026217 : True := trivial
theorem tw10139359710806696227 : True := trivial
theorem tw7305100706464906133 : True := trivial
theorem tw17696705892727378908 : True := trivial
theorem tw4308451291684462132 : True := trivial
theorem tw18264089570773171036 : True := trivial
theorem tw11592914423926862577 : True := trivial
theorem tw35093977963661669 : True := trivial
theorem tw15090346805795517116 : True := trivial
theorem tw18438114382566557456 : True := trivial
theorem tw17558401917098342214 : True := trivial
theorem tw4263418037103539135 : True := trivial
theorem tw10896723354237564964 : True := trivial
theorem tw8690144183897699236 : True := trivial
theorem tw13958803666045629288 : True := trivial
theorem tw723148597172124637 : True := trivial
theorem tw14222344066368695581 : True := trivial
theorem tw9600683908047978838 : True := trivial
theorem tw1143157169000074356 : True := trivial
theorem tw4721631100882449548 : True := trivial
theorem tw16502594800872423774 : True := trivial
theorem tw1047861042873314323 : True := trivial
theorem tw13598169239727812373 : True := trivial
theorem tw9169257898275082104 : True := trivial
theorem tw9163100031516208853 : True := trivial
theorem tw10452365664376359815 : True := trivial
theorem tw9844911922898773045 : True := trivial
theorem tw4132176528691820385 : True := trivial
theorem tw2226846646660999929 : True := trivial
theorem tw903857919042378628 : True := trivial
theorem tw7481918679991241744 : True := trivial
theorem tw8357154907415409414 : True := trivial
theorem tw15109883623364680239 : True := trivial
theorem tw3264573480577278352 : True := trivial
theorem tw14809265869449951183 : True := trivial
theorem tw14357718050535760627 : True := trivial
theorem tw17023753287215270346 : True := trivial
theorem tw18168939517376946436 : True := trivial
theorem tw14254937501625725686 : True := trivial
theorem tw8492278273051964678 : True := trivial
theorem tw10021873149208895090 : True := trivial
theorem tw9442329519852183824 : True := trivial
theorem tw18129873360246854948 : True := trivial
theorem tw6823304342905292152 : True := trivial
theorem tw8626039615546763205 : True := trivial
theorem tw6659243604266755253 : True := trivial
theorem tw9785260501410224062 : True := trivial
theorem tw16973689893675221674 : True := trivial
theorem tw16545147612337534768 : True := trivial
theorem tw2213835294573695356 : True := trivial
theorem tw6868504690419722761 : True := trivial
theorem tw270062147961110900 : True := trivial
theorem tw8281588626043121357 : True := trivial
theorem tw700010173553649466 : True := trivial
theorem tw12790255667986433657 : True := trivial
theorem tw10399032721987940550 : True := trivial
theorem tw7421967965156531604 : True := trivial
theorem tw12560317990150182928 : True := trivial
theorem tw11385247361419967149 : True := trivial
theorem tw14889690563965391081 : True := trivial
theorem tw9099827644345031684 : True := trivial
theorem tw16882955441434153647 : True := trivial
theorem tw5510768185210191569 : True := trivial
theorem tw13341439297669948813 : True := trivial
theorem tw2710586798674134348 : True := trivial
theorem tw15643099074419405055 : True := trivial
theorem tw17155974225173543113 : True := trivial
theorem tw3902134088090046068 : True := trivial
theorem tw3622523775600116525 : True := trivial
theorem tw832395768952817598 : True := trivial
theorem tw8543303706240597054 : True := trivial
theorem tw8677657484809419413 : True := trivial
theorem tw15725324806909197222 : True := trivial
theorem tw6068335403315008668 : True := trivial
theorem tw10304485226723276261 : True := trivial
theorem tw14782839460671241927 : True := trivial
theorem tw7394141799750676494 : True := trivial
theorem tw13657136782503968902 : True := trivial
theorem tw83866658143504397 : True := trivial
theorem tw12167981938269369082 : True := trivial
theorem tw2271715524469745668 : True := trivial
theorem tw18423147088242239024 : True := trivial
theorem tw12407931591948932074 : True := trivial
theorem tw7829147907260961093 : True := trivial
theorem tw16516405888446823247 : True := trivial
theorem tw17379498506395166845 : True := trivial
theorem tw14893039563230217783 : True := trivial
theorem tw6599828582673419882 : True := trivial
theorem tw16645481814146518610 : True := trivial
theorem tw7137974803139734132 : True := trivial
theorem tw2758706876216474967 : True := trivial
theorem tw1990502948378210988 : True := trivial
theorem tw6014846004119222829 : True := trivial
theorem tw13060723850886024807 : True := trivial
theorem tw10513803993208723605 : True := trivial
theorem tw7384186212260562740 : True := trivial
theorem tw5945428651637183435 : True := trivial
theorem tw2841895141901935824 : True := trivial
theorem tw9502799788656166552 : True := trivial
theorem tw14389901915505557254 : True := trivial
theorem tw3184170557713015510 : True := trivial
theorem tw9859425840041397077 : True := trivial
theorem tw18125145437267760177 : True := trivial
theorem tw17239590763254125571 : True := trivial
theorem tw10935504767206937898 : True := trivial
theorem tw12480049822818330128 : True := trivial
theorem tw2133997117509860686 : True := trivial
theorem tw17596235089359814814 : True := trivial
theorem tw6007345285520251692 : True := trivial
theorem tw546182282048727591 : True := trivial
theorem tw1926330405178910149 : True := trivial
theorem tw8538785691951389894 : True := trivial
theorem tw8706061561446629234 : True := trivial
theorem tw16074069690777883270 : True := trivial
theorem tw16095426010161828832 : True := trivial
theorem tw14739030554194349418 : True := trivial
theorem tw12762891118983930457 : True := trivial
theorem tw6387638832908921917 : True := trivial
theorem tw13626473473494065563 : True := trivial
theorem tw8004684202797032815 : True := trivial
theorem tw2015719589959815705 : True := trivial
theorem tw5182155087558771204 : True := trivial
theorem tw7104392132542503036 : True := trivial
theorem tw8087137330893428656 : True := trivial
theorem tw8829102715329277711 : True := trivial
theorem tw2556922462526983147 : True := trivial
theorem tw14608728218040742621 : True := trivial
theorem tw15010821232165732205 : True := trivial
theorem tw13645315489467809002 : True := trivial
theorem tw1375003984478718062 : True := trivial
theorem tw1250349088745873264 : True := trivial
theorem tw10694318277705474081 : True := trivial
theorem tw17724101571367699653 : True := trivial
theorem tw12982986145834347591 : True := trivial
theorem tw14042567528699168749 : True := trivial
theorem tw94498212971994320 : True := trivial
theorem tw2473465868362612411 : True := trivial
theorem tw4987261617713216373 : True := trivial
theorem tw9307815611114022202 : True := trivial
theorem tw13526088844321228750 : True := trivial
theorem tw6963587567372845361 : True := trivial
theorem tw13941623818559961551 : True := trivial
theorem tw5404198218472664233 : True := trivial
theorem tw12757043987243820202 : True := trivial
theorem tw11002466221139756443 : True := trivial
theorem tw810544449651499047 : True := trivial
theorem tw5194933867861616170 : True := trivial
theorem tw912443907585483332 : True := trivial
theorem tw15231999567885449971 : True := trivial
theorem tw15649071091874536459 : True := trivial
theorem tw16975411305137096601 : True := trivial
theorem tw2969661877508211987 : True := trivial
theorem tw2190935652452133817 : True := trivial
theorem tw8117881022070359683 : True := trivial
theorem tw12767056260055934336 : True := trivial
theorem tw13104423450467742455 : True := trivial
theorem tw11563878004609511057 : True := trivial
theorem tw11879735492491475599 : True := trivial
theorem tw4159576682475279900 : True := trivial
theorem tw8499998304944548344 : True := trivial
theorem tw16005808775964373261 : True := trivial
theorem tw11675761177343094852 : True := trivial
theorem tw10251241765345547011 : True := trivial
theorem tw7955002263514221686 : True := trivial
theorem tw3536301703363904548 : True := trivial
theorem tw18277302464526786765 : True := trivial
theorem tw17539065782828788692 : True := trivial
theorem tw15918390358411139415 : True := trivial
theorem tw9628465300052357483 : True := trivial
theorem tw11416868233674760220 : True := trivial
theorem tw3267675260947612123 : True := trivial
theorem tw15537524243659495146 : True := trivial
theorem tw17929983614642729139 : True := trivial
theorem tw18016842967279613769 : True := trivial
theorem tw4358421882470132843 : True := trivial
theorem tw13649569039815367710 : True := trivial
theorem tw17746293147587942612 : True := trivial
theorem tw15328835355088714729 : True := trivial
theorem tw10782163726037485256 : True := trivial
theorem tw16658279945679618701 : True := trivial
theorem tw5880238814526326786 : True := trivial
theorem tw9759366030003879254 : True := trivial
theorem tw4451295755528913637 : True := trivial
end PySem.W.Fast
open PySem PySem.W PyProof.Rows
set_option maxHeartbeats 0 in
theorem PySem.Challenge.cw_elderline_k09_rows_run_holds : PySem.Challenge.rw_elderline_k09_rows_run.Holds := by
  w_on; o_law; k_head; (case hw => w_witness2)
  k_fill
  refine Bk.walk (l := PySem.Challenge.rw_elderline_k09_rows_run) (cs := 221) (Ts := 217) (cr := 214) (Tr := 212) (ce := 235) (Te := 231) rfl rfl (fun w h Y => ⟨PySem.W.km_in_of Y, List.forall_mem_cons.mpr ⟨⟨codeHd_of_K (PySem.W.km_in_of Y) (by kernel_rfl), km_tabs_of Y _ (by k_mem), by kernel_rfl⟩, List.forall_mem_cons.mpr ⟨⟨codeHd_of_K (PySem.W.km_in_of Y) (by kernel_rfl), km_tabs_of Y _ (by k_mem), by kernel_rfl⟩, List.forall_mem_cons.mpr ⟨⟨codeHd_of_K (PySem.W.km_in_of Y) (by kernel_rfl), km_tabs_of Y _ (by k_mem), by kernel_rfl⟩, fun _ h => nomatch h⟩⟩⟩⟩) ?F
  case F =>
    intro w mg fa h KX G hmg
    refine' Bk.all_mk KX G hmg ?aCT ?pkT ?nT_left ?nT_said ?aCR ?pkR ?nR_rows ?nR_tally ?a1 ?u1 ?a2 ?u2 ?a3 ?u3 ?a4 ?u4 ?a5 ?u5 ?a6 ?u6 ?a7 ?l7 ?c7 ?k7 ?lT7 ?a8 ?l8 ?c8 ?k8 ?lT8 ?a9 ?u9 ?a10 ?u10 ?a12 ?u12 ?a13 ?u13 ?a14 ?u14 ?a15 ?u15 ?a16 ?u16 ?a17 ?u17 ?a18 ?u18 ?a19 ?u19 ?a20 ?u20 ?a21 ?u21 ?a22 ?u22 ?a23 ?u23 ?a24 ?u24 ?a25 ?u25 ?a26 ?u26 ?a27 ?u27 ?a28 ?u28 ?a29 ?u29 ?a30 ?u30 ?a11 ?u11 ?m31 ?u31 ?m32 ?u32 ?m33 ?u33 ?m34 ?u34 ?m35 ?u35 ?m36 ?u36 ?m37 ?u37 ?z1 ?z2 ?z3 ?z4 ?z5 ?z6 ?z7 ?z8 ?z9 ?zany ?zdi ?aXM ?aXC ?aXU ?aXS ?aE ?lXM ?kXM ?hbmM ?csM ?tyM ?beM ?seM ?g1M ?g2M ?g3M ?g4M ?g5M ?sMM ?sMC ?sMU ?sMS ?ixM ?lXC ?kXC ?hbmC ?csC ?tyC ?beC ?seC ?g1C ?g2C ?g3C ?g4C ?g5C ?sCM ?sCC ?sCU ?sCS ?ixC ?lXU ?kXU ?hbmU ?csU ?tyU ?beU ?seU ?g1U ?g2U ?g3U ?g4U ?g5U ?sUM ?sUC ?sUU ?sUS ?ixU ?lXS ?kXS ?hbmS ?csS ?tyS ?beS ?seS ?g1S ?g2S ?g3S ?g4S ?g5S ?sSM ?sSC ?sSU ?sSS ?ixS ?csE ?tyE ?beE ?lB ?hB ?lN ?uN ?iN ?gs ?gt ?eqS ?eqR ?eqE ?hqS ?hqR ?hqE ?ndT
    (case aCT => k_is)
    (case pkT => exact ⟨by k_is, by k_is, by k_is, by k_is, by k_is, by k_is⟩)
    (case nT_left | nT_said | aCR => k_is)
    (case pkR => exact ⟨by k_is, by k_is, by k_is, by k_is, by k_is, by k_is⟩)
    (case nR_rows | nR_tally => k_is)
    (case a1 => show _ = _; k_is)
    (case u1 => exact ⟨by k_is, by k_is, by k_is⟩)
    (case a2 => show _ = _; k_is)
    (case u2 => exact ⟨by k_is, by k_is, by k_is⟩)
    (case a3 => show _ = _; k_is)
    (case u3 => exact ⟨by k_is, by k_is, by k_is⟩)
    (case a4 => show _ = _; k_is)
    (case u4 => exact ⟨by k_is, by k_is, by k_is⟩)
    (case a5 => show _ = _; k_is)
    (case u5 => exact ⟨by k_is, by k_is, by k_is⟩)
    (case a6 => show _ = _; k_is)
    (case u6 => exact ⟨by k_is, by k_is, by k_is⟩)
    (case a7 => show _ = _; k_is)
    (case l7 | c7 | k7 | lT7 => k_is)
    (case a8 => show _ = _; k_is)
    (case l8 | c8 | k8 | lT8 => k_is)
    (case a9 => show _ = _; k_is)
    (case u9 => exact ⟨by k_is, by k_is, by k_is⟩)
    (case a10 => show _ = _; k_is)
    (case u10 => exact ⟨by k_is, by k_is, by k_is⟩)
    (case a12 => show _ = _; k_is)
    (case u12 => exact ⟨by k_is, by k_is, by k_is⟩)
    (case a13 => show _ = _; k_is)
    (case u13 => exact ⟨by k_is, by k_is, by k_is⟩)
    (case a14 => show _ = _; k_is)
    (case u14 => exact ⟨by k_is, by k_is, by k_is⟩)
    (case a15 => show _ = _; k_is)
    (case u15 => exact ⟨by k_is, by k_is, by k_is⟩)
    (case a16 => show _ = _; k_is)
    (case u16 => exact ⟨by k_is, by k_is, by k_is⟩)
    (case a17 => show _ = _; k_is)
    (case u17 => exact ⟨by k_is, by k_is, by k_is⟩)
    (case a18 => show _ = _; k_is)
    (case u18 => exact ⟨by k_is, by k_is, by k_is⟩)
    (case a19 => show _ = _; k_is)
    (case u19 => exact ⟨by k_is, by k_is, by k_is⟩)
    (case a20 => show _ = _; k_is)
    (case u20 => exact ⟨by k_is, by k_is, by k_is⟩)
    (case a21 => show _ = _; k_is)
    (case u21 => exact ⟨by k_is, by k_is, by k_is⟩)
    (case a22 => show _ = _; k_is)
    (case u22 => exact ⟨by k_is, by k_is, by k_is⟩)
    (case a23 => show _ = _; k_is)
    (case u23 => exact ⟨by k_is, by k_is, by k_is⟩)
    (case a24 => show _ = _; k_is)
    (case u24 => exact ⟨by k_is, by k_is, by k_is⟩)
    (case a25 => show _ = _; k_is)
    (case u25 => exact ⟨by k_is, by k_is, by k_is⟩)
    (case a26 => show _ = _; k_is)
    (case u26 => exact ⟨by k_is, by k_is, by k_is⟩)
    (case a27 => show _ = _; k_is)
    (case u27 => exact ⟨by k_is, by k_is, by k_is⟩)
    (case a28 => show _ = _; k_is)
    (case u28 => exact ⟨by k_is, by k_is, by k_is⟩)
    (case a29 => show _ = _; k_is)
    (case u29 => exact ⟨by k_is, by k_is, by k_is⟩)
    (case a30 => show _ = _; k_is)
    (case u30 => exact ⟨by k_is, by k_is, by k_is⟩)
    (case a11 => show _ = _; k_is)
    (case u11 => exact ⟨by k_is, by k_is, by k_is⟩)
    (case m31 => exact ⟨by k_is, by k_is⟩)
    (case u31 => exact ⟨by k_is, by k_is, by k_is⟩)
    (case m32 => exact ⟨by k_is, by k_is⟩)
    (case u32 => exact ⟨by k_is, by k_is, by k_is⟩)
    (case m33 => exact ⟨by k_is, by k_is⟩)
    (case u33 => exact ⟨by k_is, by k_is, by k_is⟩)
    (case m34 => exact ⟨by k_is, by k_is⟩)
    (case u34 => exact ⟨by k_is, by k_is, by k_is⟩)
    (case m35 => exact ⟨by k_is, by k_is⟩)
    (case u35 => exact ⟨by k_is, by k_is, by k_is⟩)
    (case m36 => exact ⟨by k_is, by k_is⟩)
    (case u36 => exact ⟨by k_is, by k_is, by k_is⟩)
    (case m37 => exact ⟨by k_is, by k_is⟩)
    (case u37 => exact ⟨by k_is, by k_is, by k_is⟩)
    (case z1 | z2 | z3 | z4 | z5 | z6 | z7 | z8 | z9 | zany | zdi | aXM | aXC | aXU | aXS | aE | lXM | kXM => k_is)
    (case hbmM => rfl)
    (case csM | tyM | beM | seM | g1M | g2M | g3M | g4M | g5M | sMM | sMC | sMU | sMS | ixM | lXC | kXC => k_is)
    (case hbmC => rfl)
    (case csC | tyC | beC | seC | g1C | g2C | g3C | g4C | g5C | sCM | sCC | sCU | sCS | ixC | lXU | kXU => k_is)
    (case hbmU => rfl)
    (case csU | tyU | beU | seU | g1U | g2U | g3U | g4U | g5U | sUM | sUC | sUU | sUS | ixU | lXS | kXS => k_is)
    (case hbmS => rfl)
    (case csS | tyS | beS | seS | g1S | g2S | g3S | g4S | g5S | sSM | sSC | sSU | sSS | ixS | csE | tyE | beE | lB => k_is)
    (case hB => rfl)
    (case lN => k_is)
    (case uN => rfl)
    (case iN | gs | gt => k_is)
    (case eqS => rfl)
    (case eqR => rfl)
    (case eqE => rfl)
    (case hqS => kernel_rfl)
    (case hqR => kernel_rfl)
    (case hqE => kernel_rfl)
    (case ndT => decide)
