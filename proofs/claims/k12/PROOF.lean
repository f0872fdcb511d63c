import PyProof.Rows.All
import Wide.All
import OpenK.AllK
import Wide.FinOn
import PyProof.EqAt
import PyProof.EqKinds
import PyProof.TupleCall
import PyProof.DictIter
import PyProof.Rows.StrSplitCount
import KE.KIntText
import PyProof.Rows.StrCut
import PyProof.Rows.StrPartPair
import PyProof.Rows.StrBin
import PyProof.FitsBits
import PyProof.NoPylong
import PyProof.EnumMake
import PyProof.EnumFor
import PyProof.Rows.CallKwBuiltin
import PyProof.Rows.StrNews2
import Lean
import PySem.Challenge.RW_elderline_k12_written
noncomputable section
open PySem renaming wpAny_bind -> LL, Value -> LP, sizeLine_eq -> LR, Shared -> LV, Addr -> LZ, sizeLine -> MG, wpAny_pure -> MI, Program -> MV, wpAny -> ND, wpAny_field -> NG, starEach -> NH, model -> NJ, wpAny_callSpecial?_slot -> NN, FuncData -> NP, World -> NU, Around -> NV, mainGlobals -> NW, wpAny_call_entry -> OC, wpAny_setField_rec -> OI, Paired -> OJ, wpAny_mono -> OR, Heap -> OS, wpAny_setField -> OV, wpAny_seqItems -> PF, wpAny_holding -> PM, boot_len -> PP, Builtin -> QH, wpAny_truthy_bool -> QJ, wpAny_attempt -> QP, compareOp -> QW, wpAny_rule -> RG, sysModules -> RH, pyNext -> RI, Stmt -> RL, codeAny_mono -> RM, wpAny_newObj_type -> RO, rawInt -> RP, codeAny_builtin -> RS, strKind -> RT, eval -> RY, wpAny_Call_Name_kw -> RZ, bootBuiltins -> SA, wpAny_pyIter_list -> SM, IsPair -> SN, backTo -> SR, keywordEach -> SS, wpAny_isInstance -> SV, wpAny_passesOwn -> TH, wpAny_letGo -> TK, mem_of_lookup -> TU, ExceptHandler -> TY, PyData -> TZ, field -> UI, wpAny_standAt -> UL, wpAny_execs_nil -> UM, tupleKind_room_in1 -> UN, behindInMarks -> UO, DictEntry -> UR, wpAny_pyNext_list_item -> UV
open List renaming getElem?_eq_some_iff -> LM, length_map -> LN, length_append -> LS, getElem?_eq_getElem -> LU, map_append -> LW, mem_cons -> LX, mem_singleton -> MA, mem_cons_self -> MD, mem_cons_of_mem -> ME, getD_eq_getElem?_getD -> MF, mem_append -> MJ, mem_of_getElem? -> MK, mem_map -> ML, not_mem_nil -> MM, mem_append_right -> MP, length_singleton -> MR, length_cons -> MT, map_cons -> MU, getElem?_append_left -> MW, getElem?_map -> MX, replicate -> NC, size_toArray -> NE, getElem?_concat_length -> NK, append_nil -> NL, length_take -> NM, take_add_one -> NR, lookup_cons -> NS, getElem?_of_mem -> NX, take_of_length_le -> NY, append_assoc -> OA, getElem?_append_right -> OG, length_replicate -> OL, getElem_mem -> OO, nodup_cons -> OP, filter_cons_of_pos -> OU, length_drop -> OW, nodup_append -> PQ, filter_cons_of_neg -> PR, mem_append_left -> QA, getElem?_set_ne -> QB, getElem?_set_self -> QC, nodup_nil -> QI, all_eq_true -> QO, drop_eq_nil_of_le -> QQ, drop_eq_getElem_cons -> QT, getElem?_replicate -> RF, cons_lt_cons_iff -> RW, length_reverse -> SI, find?_cons_of_pos -> SO, find?_cons_of_neg -> SQ, replicate_succ' -> TF, drop_zero -> TQ, any_eq_true -> TR, lookup -> TX, find?_cons -> UC, any_cons -> UD, any_eq_false -> UK, length_filter_le -> UP, mem_of_mem_drop -> UW
open PySem.W renaming Frag -> LO, keepIn -> MN, findIn -> QD, kia_one -> QK, emptyDict -> QS, mg_of -> RB, mg_none_of -> RQ, callWith_K -> RU, instObj -> SD, fnOf -> SG, methodCall_KW -> SX, kitOne -> TL, Looks -> UB
open PySem.Heap renaming get?_push_of_some -> LQ, lt_size -> MQ, get?_push_size -> MS, get?_update_other -> NZ, get?_update_self -> PY, size_push -> QG, ExtBut -> QR, SameBut -> RD
open Bool renaming false_ne_true -> LY, and_eq_true -> OX, false_and -> OZ, eq_false_iff -> PU, true_and -> QU, false_eq_true -> RX
open Nat renaming le_refl -> MC, le_trans -> NA, ne_of_lt -> NF, zero_le -> NI, lt_of_lt_of_le -> NQ, ne_of_gt -> RJ, lt_of_le_of_lt -> RV, lt_irrefl -> SH, le_of_eq -> TB, le_succ -> TV
open PySem.Value renaming ref -> MO, none -> PK, type -> QX
open Sum renaming inr -> MY
open Option.some renaming inj -> MZ
open Ne renaming symm -> NT
open PySem.Builtin.SmallTypes renaming nextOf -> OB, ownedTupleIsFree -> OE, ownedTupleHandOut -> RN
open PyProof.Rows renaming boot_list -> OD, boot_isinstance -> PD, envOfC -> QE, callWith_type1 -> QL, slot_tuple_getitem -> UJ
open PySem.Paired renaming length -> OF
open Int renaming emod_lt_of_pos -> OH, emod_nonneg -> OM, toNat_natCast -> OY, eq_ofNat_of_zero_le -> QM
open PySem.Str renaming ofString -> ON
open PySem.NameKind renaming free -> OQ
open False renaming elim -> OT
open PySem.PyData renaming keyHash -> PL, depthAll -> RC
open PySem.PassesOwn renaming never -> PX
open Array renaming getElem?_eq_some_iff -> PZ, length_toList -> SJ, getElem?_toList -> UU
open PySem.SeqAt renaming EqAt -> QF
open PySem.F renaming slot_enumerate_next -> QN, slot_tuple_iterator_next -> QV, type_list_append -> QY, slot_list_append -> QZ, called_set -> RA, plainAttrs_list -> RE, slot_dict_get -> SY, slot_zip_next -> UQ
open True renaming intro -> RK
open PySem.Obj renaming mapFields -> SE, data_mapFields -> TC, isFreed_of_fields -> TN, mapSeq -> UG
open PySem.Around renaming under_plainId -> SK
open PySem.Heap.SameBut renaming update -> SU
open Sum.inr renaming inj -> SW
open PyProof.Rows.F renaming plain_set_update_loop -> TM
open PySem.Txt renaming slice -> UA
open PySem.Builtin.Slice renaming slicePlaces -> UE
open PySem.Builtin.Tuple renaming tupleExact -> UH
open PySem.Calls renaming spliced_cons -> US, callWith_builtin -> UX
open PySem.Builtin.Range renaming rangeSize -> UT
set_option Elab.async false
set_option linter.all false
set_option maxRecDepth 100000
set_option maxHeartbeats 4000000
namespace L2
open PySem PySem.Spec PyProof.Rows
def Bm(A:NV)(h:OS):Prop:=A.handled=none ∨ ∃(x:LZ)(o:Obj)(vs:Array LP),A.handled=some (.ref x)/\h.get? x=some o/\o.data=.fields vs/\vs[2]? = some .none
theorem Tj:entryFor table "proto.unchain" = some Builtin.«proto.unchain» := entryFor_of_fast (by kernel_rfl)
section
variable {prog:MV} {w:NU} {A:NV} {s:LV} {E:LP->LV->Prop}
theorem Yw{e:LP}{x:LZ}{o:Obj}{vs:Array LP}{Q:LP->LV->Prop}(g:s.heap.get? x=some o)(d:o.data=.fields vs)(c:vs[2]? = some .none)(h:Q .none s):
 ND (NJ prog w) A (runValue (.builtin "proto.unchain" ⟨[e,.ref x,.ref x,.bool false],[]⟩)) Q E s:=by
 refine wpAny_runValue (RS Tj ?_)
 show ND _ _ (UI (.ref x) 2 >>= _) _ _ s
 refine LL (NG g d c ?_)
 dsimp only
 rw[if_pos (show (PK == PK)=true from rfl)]
 exact MI h
theorem cF{α:Type}{a x:LZ}{oa o:Obj}{us vs:Array LP}{Q:α->LV->Prop}(hh:A.handled=some (.ref x))(ne:x≠a)(g:s.heap.get? x=some o)(d:o.data=.fields vs)(c:vs[2]? = some .none)(ga:s.heap.get? a=some oa)(da:oa.data=.fields us)(h2:2 < us.size)(h:E (.ref a) { s with heap:=s.heap.update a (SE (·.setIfInBounds 2 (.ref x))) }):ND (NJ prog w) A (raiseNew (.ref a):Sem α) Q E s:=by
 unfold raiseNew
 refine LL (wpAny_handled ?_)
 rw[hh]
 dsimp only
 rw[if_pos (show ((MO x != MO a)=true) by simp[ne])]
 refine LL ?_
 refine PM (Yw g d c ?_)
 exact LL (OV (i:=2) ga da h2 (wpAny_throw h))
theorem Dp{α:Type}{Q:α->LV->Prop}(hh:Bm A s.heap)(h:∀(h':OS)(e:LZ),(∀b o,s.heap.get? b=some o->h'.get? b=some o)->Shared.TypeIs { s with heap:=h' } (.ref e) "StopIteration" -> E (.ref e) { s with heap:=h' }):
 ND (NJ prog w) A (newExc (.type "StopIteration") [] >>= λe=>(raiseNew e:Sem α)) Q E s:=by
 have z6:∀ {x:LP},(#[x,.none,.none,.none,.bool false,.none]++ownMembersOf (.type "StopIteration") []:Array LP).size=6:=λ{x}=>rfl
 refine LL ?_
 unfold newExc newTuple
 refine LL (RO ?_ (by size_fits))
 refine LL (wpAny_of_eq (a:=PK) (by first | rfl | (unfold firstArgMember;rfl)) (RO ?_ (by size_fits)))
 have kp:∀(T X:Obj)(b:LZ)(o:Obj),s.heap.get? b=some o->((s.heap.push T).push X).get? b=some o:=λT X b o e=>LQ _ (LQ _ e)
 rcases hh with hn | ⟨x,o,vs,hx,g,d,c⟩
 ·unfold raiseNew
  refine LL (wpAny_handled ?_)
  rw[hn]
  exact wpAny_throw (h _ _ (kp _ _) ⟨_,MS _ rfl,rfl⟩)
 ·have lt:x≠(s.heap.push { cls:=.type "tuple", data:=.seq #[] }).objs.size:=λz=>by
   have e1:=LQ { cls:=.type "tuple", data:=.seq #[] } g
   rw[z] at e1
   exact absurd e1 (by simp[Heap.get?])
  have ne:∀(b:LZ)(o:Obj),s.heap.get? b=some o->(s.heap.push { cls:=.type "tuple", data:=.seq #[] }).objs.size≠b:=λb o e z=>by
   have e1:=LQ { cls:=.type "tuple", data:=.seq #[] } e
   rw[<- z] at e1
   exact absurd e1 (by simp[Heap.get?])
  refine cF hx lt (kp _ _ _ _ g) d c (MS _ rfl) rfl (by show 2 < 6;decide) (h _ _ (λb o e=>?_) ?_)
  ·rw[NZ _ _ (ne b o e)]
   exact kp _ _ b o e
  ·exact⟨_,PY _ (MS _ rfl) rfl,rfl⟩
end
section
variable {prog:MV} {w:NU} {A:NV} {s:LV} {E:LP->LV->Prop}
theorem Bm.upd{h:OS}{it:LZ}{f:Obj->Obj}(hh:Bm A h)(hn:∀o vs,h.get? it=some o->o.data=.fields vs->¬ vs[2]? = some .none):Bm A (h.update it f):=by
 rcases hh with z | ⟨x,o,vs,a,g,d,c⟩
 ·exact .inl z
 ·have:it≠x:=λe=>hn o vs (by rw[e];exact g) d c
  exact .inr ⟨x,o,vs,a,(NZ _ _ this).trans g,d,c⟩
theorem Bm.ext{h h':OS}(hh:Bm A h)(k:∀b o,h.get? b=some o->h'.get? b=some o):Bm A h':=by
 rcases hh with z | ⟨x,o,vs,a,g,d,c⟩
 ·exact .inl z
 ·exact .inr ⟨x,o,vs,a,k _ _ g,d,c⟩
theorem Bm.in1{h:OS}(hh:Bm A h):Bm A.in1 h:=hh
theorem Io{h:OS}{it:LZ}{oi:Obj}{u v:LP}(gi:h.get? it=some oi)(di:oi.data=.fields #[u,v]):∀o vs,h.get? it=some o->o.data=.fields vs->¬ vs[2]? = some .none:=λo vs g d c=>by
 obtain rfl:oi=o:=MZ (gi.symm.trans g)
 rw[di] at d
 cases d
 simp at c
theorem Hu{α:Type}{it:LZ}{f:Obj->Obj}{Q:Option α->LV->Prop}{k:Sem (Option α)}{E':LP->LV->Prop}(hQ:∀h',QR it s.heap h'->Q none { s with heap:=h' }){h':OS}{e:LZ}(kp:∀b o,(s.heap.update it f).get? b=some o->h'.get? b=some o)(ty:Shared.TypeIs { s with heap:=h' } (.ref e) "StopIteration"):
 ND (NJ prog w) A (do if (<- isInstance (.ref e) (.type "StopIteration"))=true then pure none else k) Q E' { s with heap:=h' }:=by
 refine LL (SV (T := "StopIteration") (b:=true) ty isSubtype_stop ?_)
 rw[if_pos rfl]
 exact MI (hQ _ λb o hb g=>kp _ _ ((NZ _ _ (NT hb)).trans g))
theorem jT{it l:LZ}{i:Nat}{items:Array LP}{Q:Option LP->LV->Prop}(hh:Bm A s.heap)(hit:s.heap.IsListIter it l i)(hl:s.heap.IsList l items)(hnil:items[i]? = none)(hQ:∀h',QR it s.heap h'->Q none { s with heap:=h' }):ND (NJ prog w) A (RI (.ref it)) Q E s:=by
 obtain⟨oi,gi,ci,di⟩:=id hit
 obtain⟨oz,gz,_,nz,dz⟩:=hl
 unfold RI
 refine LL (QP (NN (name:=ON "__next__") hit.typeIs slot_listiter_next (OC slot_listiter_next hit.typeIs entry_listiter_next ?_ (args_listiter_next _))))
 refine LL (m:=UI (.ref it) 0) (NG gi di (x:=.ref l) rfl ?_)
 show ND _ _ (if (MO l == .none)=true then _ else _) _ _ s
 rw[if_neg (show ¬ ((MO l == .none)=true) from LY)]
 refine LL (m:=UI (.ref it) 1) (NG gi di (x:=.int i 0) rfl ?_)
 refine LL (m:=seqItems? (.ref l)) (PF gz dz ?_)
 simp only[OY,hnil]
 refine LL (RG (LL (OV gi di (by simp) ?_)))
 exact Dp (hh.in1.upd (Io gi di)) λh' e kp ty=>Hu hQ kp ty
theorem tQ{it t:LZ}{i:Nat}{items:Array LP}{Q:Option LP->LV->Prop}(hh:Bm A s.heap)(hit:s.heap.IsTupleIter it t i)(hl:s.heap.IsTuple t items)(hnil:items[i]? = none)(hQ:∀h',QR it s.heap h'->Q none { s with heap:=h' }):ND (NJ prog w) A (RI (.ref it)) Q E s:=by
 obtain⟨oi,gi,ci,di⟩:=id hit
 obtain⟨oz,gz,_,nz,dz⟩:=hl
 unfold RI
 refine LL (QP (NN (name:=ON "__next__") hit.typeIs QV (OC QV hit.typeIs F.entry_tuple_iterator_next ?_ (F.args_tuple_iterator_next_1 _))))
 refine LL (m:=UI (.ref it) 0) (NG gi di (x:=.ref t) rfl ?_)
 show ND _ _ (if (MO t == .none)=true then _ else _) _ _ s
 rw[if_neg (show ¬ ((MO t == .none)=true) from LY)]
 refine LL (m:=UI (.ref it) 1) (NG gi di (x:=.int i 0) rfl ?_)
 refine LL (m:=seqItems? (.ref t)) (PF gz dz ?_)
 simp only[OY,hnil]
 refine LL (RG (LL (OV gi di (by simp) ?_)))
 exact Dp (hh.in1.upd (Io gi di)) λh' e kp ty=>Hu hQ kp ty
theorem CK{it t:LZ}{i:Nat}{items:Array LP}{Q:Option LP->LV->Prop}(hh:Bm A s.heap)(hit:IsTupIter s.heap it t i)(hl:IsTup s.heap t items)(hnil:items[i]? = none)(hQ:∀h',QR it s.heap h'->Q none { s with heap:=h' }):ND (NJ prog w) A (RI (.ref it)) Q E s:=by
 obtain⟨oi,gi,ci,di⟩:=id hit
 obtain⟨oz,gz,_,nz,dz⟩:=hl
 unfold RI
 refine LL (QP (NN (name:=ON "__next__") hit.typeIs slot_tupleiter_next (OC slot_tupleiter_next hit.typeIs entry_tupleiter_next ?_ (args_tupleiter_next _))))
 refine LL (m:=UI (.ref it) 0) (NG gi di (x:=.ref t) rfl ?_)
 show ND _ _ (if (MO t == .none)=true then _ else _) _ _ s
 rw[if_neg (show ¬ ((MO t == .none)=true) from LY)]
 refine LL (m:=UI (.ref it) 1) (NG gi di (x:=.int i 0) rfl ?_)
 refine LL (m:=seqItems? (.ref t)) (PF gz dz ?_)
 simp only[OY,hnil]
 refine LL (RG (LL (OV gi di (by simp) ?_)))
 exact Dp (hh.in1.upd (Io gi di)) λh' e kp ty=>Hu hQ kp ty
theorem Zy{it:LZ}{x left step:Int}{Q:Option LP->LV->Prop}(hh:Bm A s.heap)(hit:IsRangeIter s.heap it x left step)(hl:left<=0)(hQ:∀h',QR it s.heap h'->Q none { s with heap:=h' }):ND (NJ prog w) A (RI (.ref it)) Q E s:=by
 have ty0:s.TypeIs (.ref it) "range_iterator" := ⟨_,hit,rfl⟩
 unfold RI
 refine LL (QP (NN (name:=ON "__next__") ty0 F.slot_range_iterator_next (OC F.slot_range_iterator_next ty0 F.entry_range_iterator_next ?_ (F.args_range_iterator_next_1 _))))
 refine LL (m:=UI (.ref it) 0) (NG hit rfl (x:=RP x) rfl ?_)
 refine LL (m:=UI (.ref it) 1) (NG hit rfl (x:=RP left) rfl ?_)
 refine LL (m:=UI (.ref it) 2) (NG hit rfl (x:=RP step) rfl ?_)
 show ND _ _ (if left<=0 then _ else _) _ _ s
 rw[if_pos hl]
 refine LL (RG (LL ?_))
 refine Dp hh.in1 λh' e kp ty=>?_
 refine LL (SV (T := "StopIteration") (b:=true) ty isSubtype_stop (MI (hQ _ λb o hb g=>kp _ _ g)))
theorem pV{it:LZ}{x:Str}{t:Tok}{i:Nat}{Q:Option LP->LV->Prop}(hh:Bm A s.heap)(hit:s.heap.IsStrIter it "str_ascii_iterator" x t i)(hnil:x.cps[i]? = none)(hQ:∀h',QR it s.heap h'->Q none { s with heap:=h' }):ND (NJ prog w) A (RI (.ref it)) Q E s:=by
 obtain⟨oi,gi,ci,di⟩:=id hit
 unfold RI
 refine LL (QP (NN (name:=ON "__next__") hit.typeIs F.slot_str_ascii_iterator_next (OC F.slot_str_ascii_iterator_next hit.typeIs F.entry_str_ascii_iterator_next ?_ (F.args_str_ascii_iterator_next_1 _))))
 refine LL (m:=UI (.ref it) 0) (NG gi di (x:=.str x t) rfl ?_)
 refine LL (m:=UI (.ref it) 1) (NG gi di (x:=.int i 0) rfl ?_)
 simp only[OY,hnil]
 refine LL (RG (LL (OV gi di (by simp) (LL (TK ?_)))))
 exact Dp (hh.in1.upd (Io gi di)) λh' e kp ty=>Hu hQ kp ty
theorem uY{it:LZ}{x:Str}{t:Tok}{i:Nat}{Q:Option LP->LV->Prop}(hh:Bm A s.heap)(hit:s.heap.IsStrIter it "str_iterator" x t i)(hnil:x.cps[i]? = none)(hQ:∀h',QR it s.heap h'->Q none { s with heap:=h' }):ND (NJ prog w) A (RI (.ref it)) Q E s:=by
 obtain⟨oi,gi,ci,di⟩:=id hit
 unfold RI
 refine LL (QP (NN (name:=ON "__next__") hit.typeIs F.slot_str_iterator_next (OC F.slot_str_iterator_next hit.typeIs F.entry_str_iterator_next ?_ (F.args_str_iterator_next_1 _))))
 refine LL (m:=UI (.ref it) 0) (NG gi di (x:=.str x t) rfl ?_)
 refine LL (m:=UI (.ref it) 1) (NG gi di (x:=.int i 0) rfl ?_)
 simp only[OY,hnil]
 refine LL (RG (LL (OV gi di (by simp) (LL (TK ?_)))))
 exact Dp (hh.in1.upd (Io gi di)) λh' e kp ty=>Hu hQ kp ty
end
section
variable {prog:MV} {w:NU} {A:NV} {s:LV} {E:LP->LV->Prop}
theorem Ki{it l:LZ}{i:Nat}{items:Array LP}{Q:LP->LV->Prop}(hh:Bm A s.heap)(hit:s.heap.IsListIter it l i)(hl:s.heap.IsList l items)(hnil:items[i]? = none)(hE:∀h' e,QR it s.heap h'->(∃o,h'.get? e=some o/\o.cls=.type "StopIteration")->E (.ref e) { s with heap:=h' }):ND (NJ prog w) A (OB (.ref it)) Q E s:=by
 obtain⟨oi,gi,ci,di⟩:=id hit
 obtain⟨oz,gz,_,nz,dz⟩:=hl
 unfold OB
 refine LL (NN (name:=ON "__next__") hit.typeIs slot_listiter_next (OC slot_listiter_next hit.typeIs entry_listiter_next ?_ (args_listiter_next _)))
 refine LL (m:=UI (.ref it) 0) (NG gi di (x:=.ref l) rfl ?_)
 show ND _ _ (if (MO l == .none)=true then _ else _) _ _ s
 rw[if_neg (show ¬ ((MO l == .none)=true) from LY)]
 refine LL (m:=UI (.ref it) 1) (NG gi di (x:=.int i 0) rfl ?_)
 refine LL (m:=seqItems? (.ref l)) (PF gz dz ?_)
 simp only[OY,hnil]
 refine LL (RG (LL (OV gi di (by simp) ?_)))
 exact Dp (hh.in1.upd (Io gi di)) λh' e kp ty=>hE h' e (λb o hb g=>kp _ _ ((NZ _ _ (NT hb)).trans g)) ty
theorem yL{e it l:LZ}{i:Int}{k:Nat}{old:LP}{items:Array LP}{Q:Option LP->LV->Prop}(hh:Bm A s.heap)(he:IsEnum s.heap e it i old)(h1:s.heap.IsListIter it l k)(hl:s.heap.IsList l items)(hnil:items[k]? = none)(hQ:∀h',QR it s.heap h'->Q none { s with heap:=h' }):ND (NJ prog w) A (RI (.ref e)) Q E s:=by
 have ty0:s.TypeIs (.ref e) "enumerate" := ⟨_,he,rfl⟩
 unfold RI
 refine LL (QP (NN (name:=ON "__next__") ty0 QN (OC QN ty0 F.entry_enumerate_next ?_ (F.args_enumerate_next_1 _))))
 refine LL (m:=UI (.ref e) 2) (NG he rfl (x:=.ref it) rfl (LL (Ki hh.in1 h1 hl hnil λh' x kp ty=>?_)))
 exact LL (SV (T := "StopIteration") (b:=true) ty isSubtype_stop (MI (hQ _ kp)))
theorem lH{t:LZ}{items:Array LP}{Q:List LP->LV->Prop}(hh:Bm A s.heap)(ht:IsTup s.heap t items)(hQ:∀h',QR s.heap.objs.size s.heap h'->Q items.toList { s with heap:=h' }):ND (NJ prog w) A (unpackItems (.ref t) items.size none) Q E s:=by
 have ne0:t≠s.heap.objs.size:=by
  obtain⟨o,g,_⟩:=ht
  exact NF (MQ g)
 unfold unpackItems notIterableAtAll
 refine LL (LL (wpAny_specialOf ht.typeIs slot_tuple_iter.lookup (MI ?_)))
 simp only[RX,if_false]
 refine LL (PM (iter_tuple ht (LL (PM (draw_tuple ne0 items.size 0 _ _ ⟨_,MS _ rfl,rfl,rfl⟩ (ht.push _) (by omega) λh1 i1 s1=>?_)))))
 rw[show List.take items.size (List.drop 0 items.toList)=items.toList by rw[TQ];exact NY (by simp),if_neg (by simp)]
 have ht1:IsTup h1 t items:=(ht.push _).extBut s1.extBut ne0
 have kp:QR s.heap.objs.size s.heap h1:=λb o hb g=>s1.extBut b o hb (LQ _ g)
 have hh1:Bm A h1:=by
  rcases hh with z | ⟨x,o,vs,a,g,d,c⟩
  ·exact .inl z
  ·exact .inr ⟨x,o,vs,a,kp _ _ (NF (MQ g)) g,d,c⟩
 refine LL (PM (CK hh1 i1 ht1 (by simp) λh2 e2=>?_))
 simp only[Option.isSome_none,RX,if_false]
 exact MI (hQ h2 (kp.trans e2))
theorem vC{env:Env}{elts:List Expr}{x1}{pos:Pos}{t:LZ}{items:Array LP}{Q:Unit->LV->Prop}(hh:Bm A s.heap)(ht:IsTup s.heap t items)(hn:(assignEach elts env).length=items.size)(hst:(assignEach elts env).findIdx? (·.1)=none)(h:∀h',QR s.heap.objs.size s.heap h'->ND (NJ prog w) A (assignInOrder ((assignEach elts env).map (·.2)) items.toList) Q E { s with heap:=h' }):ND (NJ prog w) A (assign (.Tuple elts x1 pos) env (.ref t)) Q E s:=by
 rw[assign_Tuple]
 refine LL (UL ?_)
 unfold unpack
 rw[hn,hst]
 exact LL (PM (lH hh ht h))
theorem Yl{it:LZ}{lo step:Int}{n:Nat}(i:Nat)(s:LV)(Q:Option LP->LV->Prop)(E:LP->LV->Prop)(hi:i < n)(st:IsRangeIter s.heap it (lo+(i:Int) * step) ((n:Int)-(i:Int)) step)(hQ:∀(v:LP)(h':OS)(tk:Tok),(∃t,v=.int (lo+(i:Int) * step) t)->IsRangeIter h' it (lo+((i+1:Nat):Int) * step) ((n:Int)-((i+1:Nat):Int)) step->(∀b o,b∉[it]->s.heap.get? b=some o->h'.get? b=some o)->Q (some v) { s with heap:=h',toks:=tk }):
 ND (NJ prog w) A (RI (.ref it)) Q E s:=by
 refine wpAny_pyNext_range_item st (by omega) λh' st' sb=>hQ _ h' _ ⟨_,rfl⟩ ?_ λb o hb e=>sb.extBut b o (by simpa using hb) e
 have e1:lo+((i+1:Nat):Int) * step=lo+(i:Int) * step+step:=by rw[Int.natCast_add,Int.add_mul,<- Int.add_assoc];simp
 have e2:(n:Int)-((i+1:Nat):Int)=(n:Int)-(i:Int)-1:=by omega
 rw[e1,e2]
 exact st'
end
def Po(A:NV):List LZ:=match A.handled with
 | some (.ref x)=>[x]
 | _=>[]
theorem Bm.keep{A:NV}{h h':OS}(hh:Bm A h)(k:∀b∈Po A,∀o,h.get? b=some o->h'.get? b=some o):Bm A h':=by
 rcases hh with z | ⟨x,o,vs,a,g,d,c⟩
 ·exact .inl z
 ·exact .inr ⟨x,o,vs,a,k x (by unfold Po;rw[a];exact MD) o g,d,c⟩
theorem Bm.but{A:NV}{h h':OS}{it:LZ}(hh:Bm A h)(hn:∀o vs,h.get? it=some o->o.data=.fields vs->¬ vs[2]? = some .none)(k:QR it h h'):Bm A h':=by
 rcases hh with z | ⟨x,o,vs,a,g,d,c⟩
 ·exact .inl z
 ·exact .inr ⟨x,o,vs,a,k x o (λe=>hn o vs (by rw[<- e];exact g) d c) g,d,c⟩
theorem Bm.lt{A:NV}{h:OS}(hh:Bm A h):∀b∈Po A,b < h.objs.size:=λb hb=>by
 rcases hh with z | ⟨x,o,vs,a,g,d,c⟩
 ·unfold Po at hb
  rw[z] at hb
  cases hb
 ·unfold Po at hb
  rw[a] at hb
  rw[MA.mp hb]
  exact MQ g
theorem iP{h:OS}{it l:LZ}{i:Nat}(hit:h.IsListIter it l i):∀o vs,h.get? it=some o->o.data=.fields vs->¬ vs[2]? = some .none:=
 let ⟨_,g,_,d⟩:=id hit
 Io g d
theorem cN{prog:MV}{w:NU}{A:NV}(I ax:LZ)(hne:ax≠I)(items:Array LP):
 Walks prog w A I (I::ax::Po A) [I] items.size (λi v=>items[i]? = some v) (λi h=>h.IsListIter I ax i/\h.IsList ax items/\Bm A h) where
 sub:=λb hb=>by rw[MA.mp hb];exact MD
 frame:=λ_ _ _ st hk=>⟨st.1.at λo e=>hk I MD o e,st.2.1.at λo e=>hk ax (ME _ MD) o e,st.2.2.keep λb hb o e=>hk b (ME _ (ME _ hb)) o e⟩
 item:=λi s Q E hi st hQ=>by
  refine UV st.1 st.2.1 (x:=items[i]) (by simp[hi]) λh' it' sb=>hQ _ h' s.toks (by simp[hi]) ⟨it',st.2.1.extBut sb.extBut hne,st.2.2.but (iP st.1) sb.extBut⟩ λb o hb e=>?_
  exact sb.extBut b o (λz=>hb (by simp[z])) e
 done:=λs Q E st hQ=>jT st.2.2 st.1 st.2.1 (by simp) λh' eb=>hQ h' s.toks λb o hb e=>eb b o (λz=>hb (by simp[z])) e
 self:=λ_ _ _ _ st hQ=>wpAny_pyIter_listiter st.1 hQ
section
variable {prog:MV} {w:NU} {A:NV} {s:LV} {E:LP->LV->Prop}
theorem gI{h:OS}{z TI TO:LZ}{f0:LP}(hz:IsZip h z TI TO f0):∀o vs,h.get? z=some o->o.data=.fields vs->¬ vs[2]? = some .none:=λo vs g d c=>by
 have e:=hz.symm.trans g
 cases e
 cases d
 simp at c
theorem BB{z TI TO i1 i2 l1 l2:LZ}{k1 k2:Nat}{xs ys:Array LP}{a b:LP}{Q:Option LP->LV->Prop}(hh:Bm A s.heap)(D:ZipApart z TI TO i1 i2 l1 l2)(hz:IsZip s.heap z TI TO .none)(hTI:SN s.heap TI (.ref i1) (.ref i2))(hTO:SN s.heap TO a b)(h1:s.heap.IsListIter i1 l1 k1)(h2:s.heap.IsListIter i2 l2 k2)(hl1:s.heap.IsList l1 xs)(hl2:s.heap.IsList l2 ys)(hend:xs[k1]? = none∨ys[k2]? = none)(hQ:∀h',(∀c o,c≠z->c≠TO->c≠i1->c≠i2->s.heap.get? c=some o->h'.get? c=some o)->Q none { s with heap:=h' }):ND (NJ prog w) A (RI (.ref z)) Q E s:=by
 have ty0:s.TypeIs (.ref z) "zip" := ⟨_,hz,rfl⟩
 unfold RI
 refine LL (QP (NN (name:=ON "__next__") ty0 UQ (OC UQ ty0 F.entry_zip_next ?_ (F.args_zip_next_1 _))))
 have fin:∀(h':OS)(e:LZ),(∀c o,c≠z->c≠TO->c≠i1->c≠i2->s.heap.get? c=some o->h'.get? c=some o)->(∃o,h'.get? e=some o/\o.cls=.type "StopIteration")->ND (NJ prog w) A (do if (<- isInstance (.ref e) (.type "StopIteration"))=true then pure none else throw (.ref e)) Q E { s with heap:=h' }:=λh' e kp ty=>
  LL (SV (T := "StopIteration") (b:=true) ty isSubtype_stop (MI (hQ _ kp)))
 refine LL (m:=UI (.ref z) 2) (NG hz rfl (x:=.bool false) rfl ?_)
 refine LL (m:=UI (.ref z) 3) (NG hz rfl (x:=.ref TI) rfl (LL (PF hTI rfl ?_)))
 refine LL (m:=OE (.ref z)) ?_
 unfold OE
 refine LL (NG hz rfl (x:=.none) rfl (MI ?_))
 simp only[if_true]
 refine LL (RG (LL (NG hz rfl (x:=.ref TO) rfl (LL (OI hz (by simp) λha za sa=>?_)))))
 have za':IsZip ha z TI TO .ellipsis:=za
 have hha:Bm A ha:=hh.but (gI hz) sa.extBut
 refine LL ?_
 simp only[List.zipIdx_cons,List.zipIdx_nil,List.forIn_cons,List.forIn_nil]
 refine LL (LL (wpAny_onRaise ?_))
 refine LL (m:=OB (.ref i1)) ?_
 cases ex:xs[k1]? with
 | none=>
  refine Ki hha.in1 (h1.extBut sa.extBut D.i1z) (hl1.extBut sa.extBut D.l1z) ex λhb e sb ty=>?_
  obtain⟨oe,ge,ce⟩:=ty
  have zb:IsZip hb z TI TO .ellipsis:=sb _ _ D.i1z.symm za'
  have nez:e≠z:=λy=>by subst y;rw[zb] at ge;cases ge;simp at ce
  exact OI zb (by simp) λhc _ sc=>fin hc e (λc o c1 _ c3 _ g=>sc.extBut _ _ c1 (sb _ _ c3 (sa.extBut _ _ c1 g))) ⟨oe,sc.extBut _ _ nez ge,ce⟩
 | some x=>
  have ey:ys[k2]? = none:=hend.resolve_left (by rw[ex];exact λy=>nomatch y)
  refine wpAny_nextOf_list_item (h1.extBut sa.extBut D.i1z) (hl1.extBut sa.extBut D.l1z) ex λhb _ sb=>MI ?_
  have hhb:Bm A hb:=hha.but (iP (h1.extBut sa.extBut D.i1z)) sb.extBut
  have TOb:SN hb TO a b:=sb.extBut _ _ D.TOi1 (sa.extBut _ _ D.TOz hTO)
  refine LL (PF TOb rfl (LL (wpAny_updateSeq_pair TOb λhc TOc sc=>LL (TK (MI ?_)))))
  have hhc:Bm A hc:=hhb.but (λo vs g d _=>by rw[TOb] at g;cases g;cases d) sc.extBut
  refine LL (LL (wpAny_onRaise (LL (m:=OB (.ref i2)) ?_)))
  refine Ki hhc.in1 (((h2.extBut sa.extBut D.i2z).extBut sb.extBut D.i12.symm).extBut sc.extBut D.TOi2.symm) (((hl2.extBut sa.extBut D.l2z).extBut sb.extBut D.l2i1).extBut sc.extBut D.l2TO) ey λhd e sd ty=>?_
  obtain⟨oe,ge,ce⟩:=ty
  have zd:IsZip hd z TI TO .ellipsis:=sd _ _ D.i2z.symm (sc.extBut _ _ D.TOz.symm (sb.extBut _ _ D.i1z.symm za'))
  have nez:e≠z:=λy=>by subst y;rw[zd] at ge;cases ge;simp at ce
  exact OI zd (by simp) λhe _ se=>fin he e (λc o c1 c2 c3 c4 g=>se.extBut _ _ c1 (sd _ _ c4 (sc.extBut _ _ c2 (sb.extBut _ _ c3 (sa.extBut _ _ c1 g))))) ⟨oe,se.extBut _ _ nez ge,ce⟩
end
section
variable {prog:MV} {w:NU} {A:NV} {s:LV} {E:LP->LV->Prop} {KK:Type} [DecidableEq KK] {knd:KeyKind prog w KK}
theorem xO{it d:LZ}{i ep:Nat}{kvs:List (KK×LP)}{Q:Option LP->LV->Prop}(hh:Bm A s.heap)(hit:s.heap.IsKeyIter it d i kvs.length ep)(hm:s.heap.DictAt knd d kvs ep)(hnil:kvs[i]? = none)(hQ:∀h',QR it s.heap h'->Q none { s with heap:=h' }):ND (NJ prog w) A (RI (.ref it)) Q E s:=by
 obtain⟨oi,gi,ci,di⟩:=id hit
 obtain⟨od,es,god,cod,dod,hk,hp,hn⟩:=id hm
 have sz:es.size=kvs.length:=by rw[<- hp.length];simp
 have ge:es.size<=i:=by rw[sz];simpa using hnil
 unfold RI
 refine LL (QP (NN (name:=ON "__next__") hit.typeIs F.slot_dict_keyiterator_next (OC F.slot_dict_keyiterator_next hit.typeIs F.entry_dict_keyiterator_next ?_ (F.args_dict_keyiterator_next_1 _))))
 refine LL (MI (LL (LL ?_)))
 first | refine LL (wpAny_typeNameOfWhole_keyiter hit.typeIs (MI (LL (wpAny_fieldsOf gi di ?_)))) | refine LL (wpAny_typeNameOf_keyiter hit.typeIs (MI (LL (wpAny_fieldsOf gi di ?_))))
 simp only[show Builtin.Dict_items.ownsTuple "dict_keyiterator" = false by decide,RX,if_false]
 show ND _ _ (if (MO d == .none)=true then _ else _) _ _ s
 rw[if_neg (show ¬ ((MO d == .none)=true) from LY)]
 refine LL (MI (LL (wpAny_dictEntries god dod ?_)))
 rw[if_neg (by rw[sz];simp)]
 refine LL (MI (LL (wpAny_dictEpoch god dod ?_)))
 rw[if_neg (by simp)]
 refine MI ?_
 simp only[show ¬ ((i:Int) < 0) from by omega,if_false,OY,Array.getElem?_eq_none ge]
 refine LL ?_
 first | refine LL (wpAny_typeNameOfWhole_keyiter hit.typeIs (MI (LL (m:=setField (.ref it) 0 .none) (OV gi di (by simp) ?_)))) | refine LL (wpAny_typeNameOf_keyiter hit.typeIs (MI (LL (m:=setField (.ref it) 0 .none) (OV gi di (by simp) ?_))))
 exact Dp (hh.in1.upd λo vs g dt c=>by
  obtain rfl:oi=o:=MZ (gi.symm.trans g)
  rw[di] at dt
  cases dt
  simp at c) λh' e kp ty=>Hu hQ kp ty
end
abbrev Key:=Sum Int Str
def Ul:Key->LP->Bool
 | .inl k,v=>Value.isInt k v
 | .inr x,v=>Value.isStrOf x v
def IC(w:NU):Key->Int
 | .inl k=>hashInt k
 | .inr x=>hashStr w x
theorem Cp:∀ {k:Key} {v:LP},Ul k v=true->(∃i t,k=Sum.inl i/\v=Value.int i t)∨(∃x t,k=MY x/\v=Value.str x t)
 | .inl i,v,h=>by
  obtain⟨t,e⟩:=Value.isInt_shape (k:=i) (v:=v) h
  exact .inl ⟨i,t,rfl,e⟩
 | .inr x,v,h=>by
  obtain⟨t,e⟩:=Value.isStrOf_shape (x:=x) (v:=v) h
  exact .inr ⟨x,t,rfl,e⟩
theorem oN(i:Int)(t:Tok):Ul (.inl i) (.int i t)=true:=by simp[Ul,Value.isInt]
theorem Ov(x:Str)(t:Tok):Ul (.inr x) (.str x t)=true:=by simp[Ul,Value.isStrOf]
theorem CJ(a b:Int):decide ((Sum.inl a:Key)=Sum.inl b)=(a == b):=by
 by_cases e:a=b
 ·subst e;simp
 ·have h:¬ (Sum.inl a:Key)=Sum.inl b:=λq=>e (Sum.inl.inj q)
  rw[decide_eq_false h]
  exact(beq_eq_false_iff_ne.mpr e).symm
theorem oQ(a b:Str):decide ((MY a:Key)=MY b)=decide (a=b):=by
 by_cases e:a=b
 ·subst e;simp
 ·have h:¬ (MY a:Key)=MY b:=λq=>e (MY.inj q)
  rw[decide_eq_false h,decide_eq_false e]
theorem AI(a:Int)(b:Str):decide ((Sum.inl a:Key)=MY b)=false:=decide_eq_false (λq=>nomatch q)
theorem AO(a:Str)(b:Int):decide ((MY a:Key)=Sum.inl b)=false:=decide_eq_false (λq=>nomatch q)
def Bp(prog:MV)(w:NU):PySem.KeyKind prog w Key where
 is:=Ul
 hash:=IC w
 inj:=λv a b ha hb=>by
  rcases Cp ha with ⟨i,t,rfl,rfl⟩ | ⟨x,t,rfl,rfl⟩
  ·rcases Cp hb with ⟨j,u,rfl,e⟩ | ⟨y,u,rfl,e⟩
   ·injection e with e1 _;rw[e1]
   ·exact nomatch e
  ·rcases Cp hb with ⟨j,u,rfl,e⟩ | ⟨y,u,rfl,e⟩
   ·exact nomatch e
   ·injection e with e1 _;rw[e1]
 byValue:=λk v h=>by
  rcases Cp h with ⟨i,t,rfl,rfl⟩ | ⟨x,t,rfl,rfl⟩<;>rfl
 pyHash:=λhv h=>by
  rcases Cp hv with ⟨i,t,rfl,rfl⟩ | ⟨x,t,rfl,rfl⟩
  ·exact wpAny_pyHash_int h
  ·exact wpAny_pyHash_str h
 eqBool:=λhu hv h=>by
  rcases Cp hu with ⟨i,t,rfl,rfl⟩ | ⟨x,t,rfl,rfl⟩
  ·rcases Cp hv with ⟨j,u,rfl,rfl⟩ | ⟨y,u,rfl,rfl⟩
   ·rw[CJ] at h;exact wpAny_eqBool_int h
   ·rw[AI] at h;exact SeqAt.EqAt.int_str i t y u _ _ _ _ h
  ·rcases Cp hv with ⟨j,u,rfl,rfl⟩ | ⟨y,u,rfl,rfl⟩
   ·rw[AO] at h;exact SeqAt.EqAt.str_int x t j u _ _ _ _ h
   ·rw[oQ] at h;exact wpAny_eqBool_str h
 «strs» := λk x t v h=>by
  rcases Cp h with ⟨i,u,rfl,e⟩ | ⟨y,u,rfl,e⟩
  ·exact nomatch e
  ·injection e with e1 _
   subst e1
   cases v<;>rfl
theorem Yu(prog:MV)(w:NU)(i:Int)(t:Tok):(Bp prog w).is (.inl i) (.int i t)=true:=oN i t
theorem Xu(prog:MV)(w:NU)(x:Str)(t:Tok):(Bp prog w).is (.inr x) (.str x t)=true:=Ov x t
inductive V where
 | non | bl (b:Bool) | int (i:Int) | str (x:Str) | byt (b:Array UInt8) | flt (b:UInt64) | ref (a:LZ) | ty (n:String)
 deriving DecidableEq
def RelV:V->LP->Prop
 | .non,u=>u=PK
 | .bl b,u=>u=Value.bool b
 | .int i,u=>∃t,u=Value.int i t
 | .str x,u=>∃t,u=Value.str x t
 | .byt b,u=>∃t,u=Value.bytes b t
 | .flt b,u=>∃t,u=Value.float b t
 | .ref a,u=>u=MO a
 | .ty n,u=>u=QX n
abbrev Vals:List V->List LP->Prop:=OJ RelV
theorem Vals.length{xs:List V}{us:List LP}(r:Vals xs us):xs.length=us.length:=OF r
theorem Vals.get:∀ {xs:List V} {us:List LP} {i:Nat} {x:V},Vals xs us->xs[i]? = some x->∃u,us[i]? = some u/\RelV x u
 | _,_,_,_,.nil,e=>by simp at e
 | _,_,0,_,.cons r _,e=>by simp at e;subst e;exact⟨_,rfl,r⟩
 | _,_,i+1,x,.cons _ t,e=>by
  obtain⟨u,h1,h2⟩:=Vals.get (i:=i) (x:=x) t (by simpa using e)
  exact⟨u,by simpa using h1,h2⟩
theorem Vals.set{x:V}{u:LP}(r:RelV x u):∀ {xs:List V} {us:List LP} (i:Nat),Vals xs us->Vals (xs.set i x) (us.set i u)
 | _,_,_,.nil=>.nil
 | _,_,0,.cons _ t=>.cons r t
 | _,_,i+1,.cons q t=>.cons q (Vals.set r i t)
theorem Vals.append:∀ {xs ys:List V} {us ws:List LP},Vals xs us->Vals ys ws->Vals (xs++ys) (us++ws)
 | _,_,_,_,.nil,s=>s
 | _,_,_,_,.cons r t,s=>.cons r (Vals.append t s)
theorem Vals.take:∀ {xs:List V} {us:List LP} (n:Nat),Vals xs us->Vals (xs.take n) (us.take n)
 | _,_,0,_=>.nil
 | _,_,_+1,.nil=>.nil
 | _,_,n+1,.cons r t=>.cons r (Vals.take n t)
theorem Vals.drop:∀ {xs:List V} {us:List LP} (n:Nat),Vals xs us->Vals (xs.drop n) (us.drop n)
 | _,_,0,r=>r
 | _,_,_+1,.nil=>.nil
 | _,_,n+1,.cons _ t=>Vals.drop n t
def Hg:Option V->Option LP->Prop
 | some v,some u=>RelV v u
 | none,none=>True
 | _,_=>False
def KV{κ:Type}:List (κ×V)->List (κ×LP)->Prop:=OJ λ(p:κ×V) (q:κ×LP)=>p.1=q.1/\RelV p.2 q.2
def kV:Key->V
 | .inl i=>.int i
 | .inr x=>.str x
inductive HO where
 /-- a list -/
 | lst (xs:List V)
 /-- a tuple (never changes) -/
 | tup (xs:List V)
 /-- a dict whose keys are ints and texts;one whose keys are tuples of ints and texts (the empty one is both) -/
 | dK (kvs:List (Key×V)) | dT (kvs:List (List Key×V))
 /-- a set of ints: its members,its size -/
 | set (S:Int->Bool) (n:Nat)
 /-- an instance of the class at C,its dict at dx,its attributes -/
 | ins (C dx:LZ) (fs:List (Str×V))
 /-- the dict of the instance at x -/
 | own (x:LZ)
 /-- the dict of an exception -/
 | xd (fs:List (Str×V))
 /-- a bound method,f of x -/
 | met (f x:LZ)
 /-- a range object lo,lo+1,.. below hi -/
 | rng (lo hi:Int)
 /-- a thing that is known to the object (the script;a dict while a loop walks it): read,never written while it is so -/
 | frz (o:Obj) (u:HO)
 /-- a code object's table -/
 | tbl (ps:Array LP)
 /-- any other thing,by what is true of its one object (a def of one's own: SetO a S n:=HO.ext λh=>..) -/
 | ext (φ:OS->Prop)
abbrev Hp:=LZ->Option HO
def upd(H:Hp)(a:LZ)(o:HO):Hp:=λb=>if b=a then some o else H b
theorem Aa{H:Hp}{a:LZ}{o:HO}:upd H a o a=some o:=by unfold upd;rw[if_pos rfl]
theorem Ai{H:Hp}{a b:LZ}{o:HO}(h:b≠a):upd H a o b=H b:=by unfold upd;rw[if_neg h]
theorem Ei{H:Hp}{a b:LZ}{o u:HO}(h:H a=some o)(h':H b=some u)(d:o≠u):a≠b:=by
 intro e;subst e;rw[h] at h';exact d (MZ h')
theorem Ah{H:Hp}{a b:LZ}{o:HO}(h:H a=some o)(h':H b=none):a≠b:=by
 intro e;subst e;rw[h] at h';cases h'
section
variable (P:MV) (w:NU)
def Cg(H:Hp)(h:OS)(a:LZ):HO->Prop
 | .lst xs=>xs.length<=MG/\∃(its:List LP)(n:Nat),Vals xs its/\h.get? a=some { cls:=.type "list", data:=.seq its.toArray n }
 | .tup xs=>xs.length<=MG/\∃its:List LP,Vals xs its/\IsTup h a its.toArray
 | .dK kvs=>kvs.length<=MG/\(a == RH)=false/\∃vs,KV kvs vs/\h.DictOf (Bp P w) a vs
 | .dT kvs=>kvs.length<=MG/\(a == RH)=false/\∃xs:List (List Key×LZ×LP),
  OJ (λ(p:List Key×V) (q:List Key×LZ×LP)=>p.1=q.1/\H q.2.1=some (.tup (p.1.map kV))/\RelV p.2 q.2.2) kvs xs /\
  ∃o es ep,h.get? a=some o/\o.ExactDict/\o.data=.dict es ep/\es.toList=xs.map (entryOfKey (tupleKind (Bp P w)))/\(xs.map (·.1)).Nodup
 | .set S n=>h.SetOf (intKind P w) a S n
 | .ins C dx fs=>H dx=some (.own a)/\fs.length<=1000/\dx≠a/\h.get? a=some (SD C dx) /\
  ∃mA,h.Ns1 dx mA/\(∀f,Hg (fs.lookup f) (mA f))/\PySem.Within mA (fs.map (·.1))
 | .own _=>∃o,h.get? a=some o
 | .xd fs=>∃mA,h.Ns1 a mA/\∀f,Hg (fs.lookup f) (mA f)
 | .rng lo hi=>∃t u v,h.get? a=some { cls:=.type "range", data:=.fields #[.int lo t,.int hi u,.int 1 v] }
 | .frz o u=>h.get? a=some o/\Cg H h a u
 | .tbl ps=>h.get? a=some { cls:=.none,data:=.fields ps }
 | .met f x=>h.get? a=some (PySem.W.methodObj (.ref f) (.ref x))
 | .ext φ=>φ h/\(∃o,h.get? a=some o)/\∀h1 h2:OS,φ h1->(∀o,h1.get? a=some o->h2.get? a=some o)->φ h2
def Kw(H:Hp)(h:OS):Prop:=∀a o,H a=some o->Cg P w H h a o
end
section
variable {P:MV} {w:NU} {H H':Hp} {h h':OS} {a:LZ} {o:HO}
theorem Cg.lt(x:Cg P w H h a o):a < h.objs.size:=by
 cases o with
 | lst xs=>obtain⟨_,_,_,_,e⟩:=x;exact MQ e
 | tup xs=>obtain⟨_,_,_,p⟩:=x;exact p.lt
 | dK kvs=>obtain⟨_,_,_,_,o,_,_,e,_⟩:=x;exact MQ e
 | dT kvs=>obtain⟨_,_,_,_,o,_,_,e,_⟩:=x;exact MQ e
 | set S n=>obtain⟨o,_,_,_,e,_⟩:=x;exact MQ e
 | ins C dx fs=>obtain⟨_,_,_,e,_⟩:=x;exact MQ e
 | own y=>obtain⟨_,e⟩:=x;exact MQ e
 | xd fs=>obtain⟨_,⟨_,_,_,e,_⟩,_⟩:=x;exact MQ e
 | rng lo hi=>obtain⟨_,_,_,e⟩:=x;exact MQ e
 | frz ob u=>obtain⟨e,_⟩:=x;exact MQ e
 | tbl ps=>exact MQ (show h.get? a=some _ from x)
 | met f y=>exact MQ (show h.get? a=some _ from x)
 | ext φ=>obtain⟨_,⟨_,e⟩,_⟩:=x;exact MQ e
theorem Paired.mapP{α β:Type}{F G:α->β->Prop}:∀ {l₁:List α} {l₂:List β},OJ F l₁ l₂->(∀a b,F a b->G a b)->OJ G l₁ l₂
 | _,_,.nil,_=>.nil
 | _,_,.cons r t,f=>.cons (f _ _ r) (Paired.mapP t f)
theorem Cg.stay(x:Cg P w H h a o)(k:∀b u,(b=a∨H b=some (.own a))->h.get? b=some u->h'.get? b=some u)(ho:∀b,H b=some (.own a)->H' b=some (.own a))(ht:∀b xs,H b=some (.tup xs)->H' b=some (.tup xs)):Cg P w H' h' a o:=by
 induction o with
 | lst xs=>obtain⟨z,its,n,r,e⟩:=x;exact⟨z,its,n,r,k _ _ (.inl rfl) e⟩
 | tup xs=>obtain⟨z,its,r,ob,e,c⟩:=x;exact⟨z,its,r,ob,k _ _ (.inl rfl) e,c⟩
 | dK kvs=>obtain⟨z,y,vs,r,ob,es,ep,e,c⟩:=x;exact⟨z,y,vs,r,ob,es,ep,k _ _ (.inl rfl) e,c⟩
 | dT kvs=>
  obtain⟨z,y,xs,r,ob,es,ep,e,c⟩:=x
  exact⟨z,y,xs,Paired.mapP r λp q z=>⟨z.1,ht _ _ z.2.1,z.2.2⟩,ob,es,ep,k _ _ (.inl rfl) e,c⟩
 | set S n=>obtain⟨ob,es,ep,t,e,c⟩:=x;exact⟨ob,es,ep,t,k _ _ (.inl rfl) e,c⟩
 | ins C dx fs=>
  obtain⟨d,z,ne,e,mA,⟨od,es,ep,e2,c⟩,r⟩:=x
  exact⟨ho _ d,z,ne,k _ _ (.inl rfl) e,mA,⟨od,es,ep,k _ _ (.inr d) e2,c⟩,r⟩
 | own y=>obtain⟨ob,e⟩:=x;exact⟨ob,k _ _ (.inl rfl) e⟩
 | xd fs=>obtain⟨mA,⟨od,es,ep,e,c⟩,r⟩:=x;exact⟨mA,⟨od,es,ep,k _ _ (.inl rfl) e,c⟩,r⟩
 | rng lo hi=>obtain⟨t,u,v,e⟩:=x;exact⟨t,u,v,k _ _ (.inl rfl) e⟩
 | frz ob u ih=>obtain⟨e,q⟩:=x;exact⟨k _ _ (.inl rfl) e,ih q⟩
 | tbl ps=>
  have e:h.get? a=some { cls:=.none,data:=.fields ps }:=x
  show h'.get? a=some { cls:=.none,data:=.fields ps }
  exact k a _ (.inl rfl) e
 | met f y=>
  have e:h.get? a=some (PySem.W.methodObj (.ref f) (.ref y)):=x
  show h'.get? a=some (PySem.W.methodObj (.ref f) (.ref y))
  exact k a _ (.inl rfl) e
 | ext φ=>obtain⟨p,⟨o,e⟩,st⟩:=x;exact⟨st _ _ p λo q=>k _ _ (.inl rfl) q,⟨o,k _ _ (.inl rfl) e⟩,st⟩
theorem Kw.lt(x:Kw P w H h)(e:H a=some o):a < h.objs.size:=(x a o e).lt
theorem Kw.fresh(x:Kw P w H h)(e:h.objs.size<=a):H a=none:=by
 cases q:H a with
 | none=>rfl
 | some u=>exact absurd (NQ (x.lt q) e) (SH _)
theorem Kw.kept(x:Kw P w H h)(k:∀b u,h.get? b=some u->h'.get? b=some u):Kw P w H h':=λa o e=>
 (x a o e).stay (λb u _ q=>k b u q) (λ_ q=>q) λ_ _ q=>q
theorem Kw.laid(x:Kw P w H h)(k:∀b u,h.get? b=some u->h'.get? b=some u)(hp:h.objs.size<=a)(new:Cg P w (upd H a o) h' a o):Kw P w (upd H a o) h':=λb u e=>by
 have hn:=x.fresh hp
 by_cases hb:b=a
 ·subst hb;rw[Aa] at e;cases e;exact new
 ·rw[Ai hb] at e
  exact(x b u e).stay (λc v _ q=>k c v q) (λc q=>by rw[Ai (Ah q hn)];exact q) λc xs q=>by rw[Ai (Ah q hn)];exact q
end
def Rd(H:Hp)(a:LZ)(u:HO):Prop:=H a=some u ∨ ∃o,H a=some (.frz o u)
theorem Rd.of{H:Hp}{a:LZ}{u:HO}(h:H a=some u):Rd H a u:=.inl h
theorem Rd.ok{P:MV}{w:NU}{H:Hp}{h:OS}{a:LZ}{u:HO}(r:Rd H a u)(x:Kw P w H h):Cg P w H h a u:=by
 rcases r with r | ⟨o,r⟩
 ·exact x a u r
 ·obtain⟨_,q⟩:=x a _ r
  exact q
def GU:Option HO->Prop
 | some (.lst _)=>True
 | some (.dK _)=>True
 | some (.dT _)=>True
 | some (.set _ _)=>True
 | some (.ins _ _ _)=>True
 | some (.ext _)=>True
 | _=>False
section
variable {P:MV} {w:NU} {H:Hp} {h h':OS} {x e:LZ} {o':HO}
theorem Kw.write(ok:Kw P w H h)(mu:GU (H x))(he:e=x∨H e=some (.own x))(k:∀b u,b≠e->h.get? b=some u->h'.get? b=some u)(heo:∃u,h'.get? e=some u)(new:Cg P w (upd H x o') h' x o'):Kw P w (upd H x o') h':=λb u q=>by
 have nown:∀c y,H c=some (.own y)->c≠x:=λc y r z=>by subst z;rw[r] at mu;exact mu
 have ntup:∀c xs,H c=some (.tup xs)->c≠x:=λc xs r z=>by subst z;rw[r] at mu;exact mu
 by_cases hb:b=x
 ·subst hb;rw[Aa] at q;cases q;exact new
 ·rw[Ai hb] at q
  by_cases hbe:b=e
  ·have q':H b=some (.own x):=by
    rcases he with z | z
    ·exact absurd (hbe.trans z) hb
    ·rw[hbe];exact z
   rw[q] at q';cases q'
   obtain⟨v,hv⟩:=heo
   exact⟨v,by rw[hbe];exact hv⟩
  ·refine(ok b u q).stay (λc v hc r=>k c v ?_ r) (λc r=>by rw[Ai (nown c b r)];exact r) λc xs r=>by rw[Ai (ntup c xs r)];exact r
   rcases hc with rfl | hc
   ·exact hbe
   ·rintro rfl
    rcases he with z | z
    ·exact nown c b hc z
    ·rw[hc] at z;cases z;exact hb rfl
end
structure Un(fs ex:List LZ)(H H':Hp)(h h':OS):Prop where
 keep:∀b o,h.get? b=some o->H b=none->b∉fs->b∉ex->h'.get? b=some o
 slot:∀b o,h.get? b=some o->H b=none->b∈fs->b∉ex->∃sl,h'.get? b=some { o with slots:=sl }
 free:∀b o,h.get? b=some o->H b=none->b∉ex->H' b=none
 there:∀b o,h.get? b=some o->b∉ex->∃o',h'.get? b=some o'
 tups:∀b xs,H b=some (.tup xs)->H' b=some (.tup xs)
 frzs:∀b o u,H b=some (.frz o u)->H' b=some (.frz o u)
 tbls:∀b ps,H b=some (.tbl ps)->∃more,H' b=some (.tbl (ps++more))
section
variable {fs fs' ex ex':List LZ} {H H1 H2:Hp} {h h1 h2 h':OS} {a x e:LZ} {o:HO}
theorem Un.any(u:Un fs ex H H1 h h1){b:LZ}{ob:Obj}(q:h.get? b=some ob)(n:H b=none)(hx:b∉ex):∃sl,h1.get? b=some { ob with slots:=sl }:=by
 by_cases hb:b∈fs
 ·exact u.slot b ob q n hb hx
 ·exact⟨ob.slots,u.keep b ob q n hb hx⟩
theorem Un.kept(k:∀b u,h.get? b=some u->h'.get? b=some u):Un fs ex H H h h':=
 ⟨λb ob q _ _ _=>k b ob q,λb ob q _ _ _=>⟨ob.slots,k b ob q⟩,λ_ _ _ n _=>n,λb ob q _=>⟨ob,k b ob q⟩,λ_ _ q=>q,λ_ _ _ q=>q,λ_ ps q=>⟨#[],by rw[q];simp⟩⟩
theorem Un.refl:Un fs ex H H h h:=Un.kept λ_ _ q=>q
theorem Un.laid(k:∀b u,h.get? b=some u->h'.get? b=some u)(hp:h.objs.size<=a)(hn:H a=none):Un fs ex H (upd H a o) h h' where
 keep:=λb u q _ _ _=>k b u q
 slot:=λb u q _ _ _=>⟨u.slots,k b u q⟩
 free:=λb u q n _=>by rw[Ai (NF (NQ (MQ q) hp))];exact n
 there:=λb u q _=>⟨u,k b u q⟩
 tups:=λb xs q=>by rw[Ai (Ah q hn)];exact q
 frzs:=λb u xs q=>by rw[Ai (Ah q hn)];exact q
 tbls:=λb ps q=>⟨#[],by rw[Ai (Ah q hn),q];simp⟩
theorem Un.write(mu:GU (H x))(he:e=x∨H e=some (.own x))(k:∀b u,b≠e->h.get? b=some u->h'.get? b=some u)(heo:∃u,h'.get? e=some u):Un fs ex H (upd H x o) h h':=by
 have hx:∀b,H b=none->b≠x:=λb n z=>by subst z;rw[n] at mu;exact mu
 have hb:∀b,H b=none->b≠e:=λb n z=>by
  subst z
  rcases he with r | r
  ·exact hx b n r
  ·rw[n] at r;cases r
 have hm:∀b u,H b=some u->¬ GU (some u)->b≠x:=λb u q nm z=>by subst z;rw[q] at mu;exact nm mu
 refine⟨λb u q n _ _=>k b u (hb b n) q,λb u q n _ _=>⟨u.slots,k b u (hb b n) q⟩,λb u q n _=>by rw[Ai (hx b n)];exact n,λb u q _=>?_,
  λb xs q=>by rw[Ai (hm b _ q λz=>z)];exact q,λb u xs q=>by rw[Ai (hm b _ q λz=>z)];exact q,λb ps q=>⟨#[],by rw[Ai (hm b _ q λz=>z),q];simp⟩⟩
 by_cases hbe:b=e
 ·subst hbe;exact heo
 ·exact⟨u,k b u hbe q⟩
end
def HP(h:OS)(H:Hp):List LZ:=(List.range h.objs.size).filter λa=>(H a).isSome
def Nd(h:OS)(H:Hp):OS:=PySem.W.hideAll h (HP h H)
theorem Vc(h:OS)(H:Hp):(Nd h H).objs.size=h.objs.size:=PySem.W.hideAll_size _ _
theorem Rx{h:OS}{H:Hp}{b:LZ}{o:Obj}(e:h.get? b=some o)(n:H b=none):(Nd h H).get? b=some o:=
 PySem.W.hideAll_get _ e λhm=>by
  have q:(H b).isSome=true:=(List.mem_filter.mp hm).2
  rw[n] at q;simp at q
theorem iU{h:OS}{H:Hp}{b:LZ}{o:Obj}(e:(Nd h H).get? b=some o):h.get? b=some o/\H b=none:=by
 have e':h.get? b=some o:=PySem.W.of_hideAll (HP h H) e
 refine⟨e',?_⟩
 cases q:H b with
 | none=>rfl
 | some x=>
  have hm:b∈HP h H:=List.mem_filter.mpr ⟨List.mem_range.mpr (MQ e'),by simp[q]⟩
  have z:(Nd h H).get? b=none:=PySem.W.hideAll_none (HP h H) hm
  rw[z] at e;cases e
structure Mod(K:LO)(mg:Str->Option LP)(base:OS):Prop where
 kin:K.In base
 glob:base.Ns NW mg
 blt:∃mb,base.Ns builtinsNs mb/\∀x:Str,x ≠ "__name__" -> mb x=SA x
 nolimit:base.NoLimit
structure Cx where
 prog:MV
 w:NU
 K:LO
 mg:Str->Option LP
 base:OS
 A:NV
 N:List Str
 s₀:LV
 H₀:Hp
 env:Env
 outer:List Env
 stack:List Env
 ex:List LZ
 fn:Str->Bool
 calm:Bool
 sx:Bool
 pn:List (LZ×Obj)
 xe:LP->LV->Prop
def Ta(l:List Env):List LZ:=l.filterMap (·.frame)
abbrev Cx.fs(X:Cx):List LZ:=Ta X.outer
def JC(sc:Scope)(x:Str):Prop:=sc.names.lookup x=some .local∨sc.names.lookup x=some .cell∨sc.names.lookup x=some .free
def Loc(sc:Scope)(x:Str):Prop:=sc.names.lookup x=some .local∨sc.names.lookup x=some .cell
def Look(env:Env)(h:OS)(m:Str->Option LP)(x:Str)(u:LP):Prop:=
 (env.kindOf x=some .local/\m x=some u)∨((env.kindOf x=some .cell∨env.kindOf x=some .free)/\∃c,env.cells.lookup x=some c/\h.IsCell c (some u))
structure Cx.Ok(X:Cx):Prop where
 mod:Mod X.K X.mg X.base
 kind:X.env.scope.kind=.function
 glob:X.env.globals=NW
 blt:X.env.builtins=builtinsNs
 above:X.s₀.heap.objs.size<=X.env.locals
 inj:∀x y c,X.env.cells.lookup x=some c->X.env.cells.lookup y=some c->x=y
 has:∀x,(X.env.kindOf x=some .cell∨X.env.kindOf x=some .free)->∃c,X.env.cells.lookup x=some c
 cab:∀x c,X.fn x=true->X.env.cells.lookup x=some c->X.s₀.heap.objs.size<=c
 hd:X.calm=true->Bm X.A X.base
 st:X.sx=true->X.A.handled=none
 frames:X.A.frames=some X.stack
 stk:X.stack=X.outer∨(X.stack=X.env::X.outer/\X.env.frame=some X.env.locals)
 exf:∀b∈X.ex,b≠X.env.locals/\∀x c,X.env.cells.lookup x=some c->c≠b
 bs:∀b o,X.base.get? b=some o->X.s₀.heap.get? b=some o/\X.H₀ b=none
 bsz:X.base.objs.size<=X.s₀.heap.objs.size
 noex:∀b o,X.base.get? b=some o->b∉X.ex
 exfs:∀b∈X.ex,b∉X.fs
 funs:X.s₀.heap.FunFrames X.base X.outer
 frf:∀b∈X.fs,X.H₀ b=none
structure Inv(X:Cx)(pins:List (LZ×Obj))(σ:List (Option V))(H:Hp)(s:LV):Prop where
 ok:X.Ok
 os:s.os=X.s₀.os
 bare:AllBare s.gens
 base:Un X.fs X.ex X.H₀ H X.s₀.heap s.heap
 loc:∃m,s.heap.Ns X.env.locals m/\∀(i:Nat)(x:Str)(v:V),X.N[i]? = some x->σ[i]? = some (some v)->JC X.env.scope x->∃u,RelV v u/\Look X.env s.heap m x u
 cell:∀x c,X.env.cells.lookup x=some c->∃v,s.heap.IsCell c v
 free:H X.env.locals=none
 freeC:∀x c,X.env.cells.lookup x=some c->H c=none
 pin:∀p∈X.pn++pins,s.heap.get? p.1=some p.2/\H p.1=none/\p.1≠X.env.locals/\p.1∉X.fs/\∀v,p.2.data ≠ .cell v
 hok:Kw X.prog X.w H s.heap
 len:σ.length=X.N.length
section
variable {X:Cx} {pins:List (LZ×Obj)} {σ:List (Option V)} {H H':Hp} {s:LV} {h':OS}
theorem Cx.Ok.nofr(ok:X.Ok){b:LZ}{o:Obj}(e:X.base.get? b=some o):b∉X.fs:=λhb=>by
 have:=(ok.funs.mem hb).1
 rw[e] at this;cases this
theorem Inv.bs(I:Inv X pins σ H s):∀b o,X.base.get? b=some o->s.heap.get? b=some o/\H b=none:=λb o e=>
 ⟨I.base.keep b o (I.ok.bs b o e).1 (I.ok.bs b o e).2 (I.ok.nofr e) (I.ok.noex b o e),I.base.free b o (I.ok.bs b o e).1 (I.ok.bs b o e).2 (I.ok.noex b o e)⟩
theorem Inv.bk(I:Inv X pins σ H s):∀b o,X.base.get? b=some o->s.heap.get? b=some o:=λb o e=>(I.bs b o e).1
theorem Inv.calmS(I:Inv X pins σ H s)(hc:X.calm=true):Bm X.A s.heap:=(I.ok.hd hc).ext I.bk
theorem Inv.mod(I:Inv X pins σ H s):Mod X.K X.mg X.base:=I.ok.mod
theorem Inv.kIn(I:Inv X pins σ H s):X.K.In s.heap:=I.ok.mod.kin.keeps I.bk
theorem Inv.fr(I:Inv X pins σ H s):∃m,Fr X.base X.env.locals s.heap m:=
 let ⟨m,hn,_⟩:=I.loc
 ⟨m,hn,I.bk,NA I.ok.bsz I.ok.above⟩
theorem Inv.lt(I:Inv X pins σ H s):X.env.locals < s.heap.objs.size:=let ⟨_,hn,_⟩:=I.loc;hn.lt
theorem Inv.sz(I:Inv X pins σ H s):X.s₀.heap.objs.size<=s.heap.objs.size:=NA I.ok.above (Nat.le_of_lt I.lt)
theorem Inv.nofs(I:Inv X pins σ H s){a:LZ}(h:s.heap.objs.size<=a):a∉X.fs:=λhb=>by
 obtain⟨_,o,ho,_⟩:=I.ok.funs.mem hb
 exact absurd (NQ (MQ ho) (NA I.sz h)) (SH _)
theorem Inv.cne(I:Inv X pins σ H s):∀x c,X.env.cells.lookup x=some c->c≠X.env.locals:=λx c e z=>by
 obtain⟨v,o,ho,hd⟩:=I.cell x c e
 obtain⟨m,⟨o',es,ep,ho',hd',_⟩,_⟩:=I.loc
 rw[z,ho'] at ho;cases ho;rw[hd'] at hd;cases hd
theorem Inv.funs(I:Inv X pins σ H s):s.heap.FunFrames X.base X.outer:=by
 have all:∀(l:List Env),(∀b∈Ta l,b∈X.fs)->X.s₀.heap.FunFrames X.base l->s.heap.FunFrames X.base l:=by
  intro l
  induction l with
  | nil=>intro _ _;trivial
  | cons env r ih=>
   intro hs hl
   obtain⟨hk,⟨L,o,hf,hn,ho,hd⟩,hr⟩:=hl
   have hL:L∈X.fs:=hs L (by unfold Ta;rw[List.filterMap_cons,hf];exact MD)
   obtain⟨sl,e⟩:=I.base.slot L o ho (I.ok.frf L hL) hL λz=>I.ok.exfs L z hL
   exact⟨hk,⟨L,_,hf,hn,e,hd⟩,ih (λb hb=>hs b (by unfold Ta;rw[List.filterMap_cons,hf];exact ME _ hb)) hr⟩
 exact all X.outer (λ_ hb=>hb) I.ok.funs
theorem Inv.stack(I:Inv X pins σ H s):s.heap.FunFrames X.base X.stack:=by
 rcases I.ok.stk with e | ⟨e,hf⟩
 ·rw[e];exact I.funs
 ·rw[e]
  obtain⟨m,hn,_⟩:=I.loc
  refine .cons (by rw[I.ok.kind];decide) hf hn ?_ I.funs
  exact Heap.get?_none_of_le (NA I.ok.bsz I.ok.above)
theorem Inv.stkSub(I:Inv X pins σ H s):∀b∈Ta X.stack,b∈X.env.locals::X.fs:=λb hb=>by
 rcases I.ok.stk with e | ⟨e,hf⟩
 ·rw[e] at hb;exact ME _ hb
 ·rw[e] at hb
  unfold Ta at hb
  rw[List.filterMap_cons,hf] at hb
  exact hb
theorem Inv.stkFree(I:Inv X pins σ H s):∀b∈Ta X.stack,H b=none:=λb hb=>by
 rcases LX.mp (I.stkSub b hb) with e | hb
 ·rw[e];exact I.free
 ·obtain⟨_,o,ho,_⟩:=I.ok.funs.mem hb
  exact I.base.free b o ho (I.ok.frf b hb) λz=>I.ok.exfs b z hb
theorem Inv.step{g':Array GenState}{t':Nat}{d':Drawn}{ch:List LZ}(I:Inv X pins σ H s)(hch:∀b∈ch,(b∈X.ex∨X.s₀.heap.objs.size<=b)/\b≠X.env.locals/\(∀x c,X.env.cells.lookup x=some c->c≠b)/\∀p∈X.pn++pins,p.1≠b)(keep:∀b o,b≠X.env.locals->b∉X.fs->b∉ch->s.heap.get? b=some o->H b=none->h'.get? b=some o)(slot:∀b o,b≠X.env.locals->b∈X.fs->b∉ch->s.heap.get? b=some o->H b=none->∃sl,h'.get? b=some { o with slots:=sl })(free:∀b o,b∉ch->s.heap.get? b=some o->H b=none->H' b=none)(there:∀b o,b∉ch->s.heap.get? b=some o->∃o',h'.get? b=some o')(tups:∀b xs,H b=some (.tup xs)->H' b=some (.tup xs))(frzs:∀b o u,H b=some (.frz o u)->H' b=some (.frz o u))(tbls:∀b ps,H b=some (.tbl ps)->∃more,H' b=some (.tbl (ps++more)))(ns:∀m,s.heap.Ns X.env.locals m->h'.Ns X.env.locals m)(hok:Kw X.prog X.w H' h')(hg:AllBare g'):
 Inv X pins σ H' { s with heap:=h',gens:=g',drawn:=d',toks:=t' }:=by
 have neL:∀b o,X.s₀.heap.get? b=some o->b≠X.env.locals:=λb o e=>NF (NQ (MQ e) I.ok.above)
 have neC:∀b o,X.s₀.heap.get? b=some o->b∉X.ex->b∉ch:=λb o e hx hb=>by
  rcases (hch b hb).1 with z | z
  ·exact hx z
  ·exact absurd (NQ (MQ e) z) (SH _)
 have cellK:∀x c,X.env.cells.lookup x=some c->∀v,s.heap.IsCell c v->h'.IsCell c v:=λx c e v ⟨o,ho,hd⟩=>by
  have nch:c∉ch:=λz=>(hch c z).2.2.1 x c e rfl
  by_cases hc:c∈X.fs
  ·obtain⟨sl,q⟩:=slot c o (I.cne x c e) hc nch ho (I.freeC x c e)
   exact⟨_,q,hd⟩
  ·exact⟨o,keep c o (I.cne x c e) hc nch ho (I.freeC x c e),hd⟩
 refine⟨I.ok,I.os,hg,⟨λb o e n hb hx=>?_,λb o e n hb hx=>?_,λb o e n hx=>?_,λb o e hx=>?_,λb xs e=>tups b xs (I.base.tups b xs e),λb o xs e=>frzs b o xs (I.base.frzs b o xs e),λb ps e=>?_⟩,?_,λx c e=>?_,?_,λx c e=>?_,λp hp=>?_,hok,I.len⟩
 ·exact keep b o (neL b o e) hb (neC b o e hx) (I.base.keep b o e n hb hx) (I.base.free b o e n hx)
 ·obtain⟨sl,e1⟩:=I.base.slot b o e n hb hx
  obtain⟨sl',e2⟩:=slot b _ (neL b o e) hb (neC b o e hx) e1 (I.base.free b o e n hx)
  exact⟨sl',e2⟩
 ·obtain⟨o',e1⟩:=I.base.there b o e hx
  exact free b o' (neC b o e hx) e1 (I.base.free b o e n hx)
 ·obtain⟨o',e1⟩:=I.base.there b o e hx
  exact there b o' (neC b o e hx) e1
 ·obtain⟨m1,e1⟩:=I.base.tbls b ps e
  obtain⟨m2,e2⟩:=tbls b _ e1
  exact⟨m1++m2,by rw[e2,Array.append_assoc]⟩
 ·obtain⟨m,hn,hl⟩:=I.loc
  refine⟨m,ns m hn,λi x v e1 e2 e3=>?_⟩
  obtain⟨u,r,l⟩:=hl i x v e1 e2 e3
  refine⟨u,r,?_⟩
  rcases l with l | ⟨k,c,e,z⟩
  ·exact .inl l
  ·exact .inr ⟨k,c,e,cellK x c e _ z⟩
 ·obtain⟨v,z⟩:=I.cell x c e
  exact⟨v,cellK x c e v z⟩
 ·obtain⟨m,⟨o,_,_,ho,_⟩,_⟩:=I.loc
  exact free _ o (λz=>(hch _ z).2.1 rfl) ho I.free
 ·obtain⟨v,o,ho,hd⟩:=I.cell x c e
  exact free c o (λz=>(hch c z).2.2.1 x c e rfl) ho (I.freeC x c e)
 ·obtain⟨e,n,ne,nf,d⟩:=I.pin p hp
  have nch:p.1∉ch:=λz=>(hch p.1 z).2.2.2 p hp rfl
  exact⟨keep p.1 p.2 ne nf nch e n,free p.1 p.2 nch e n,ne,nf,d⟩
theorem Inv.un{t':Nat}(I:Inv X pins σ H s)(u:Un X.fs [] H H' s.heap h')(hok:Kw X.prog X.w H' h'):Inv X pins σ H' { s with heap:=h',toks:=t' }:=by
 obtain⟨m,⟨o,es,ep,ho,r⟩,_⟩:=id I.loc
 obtain⟨sl,hL⟩:=u.any ho I.free (by simp)
 exact I.step (g':=s.gens) (d':=s.drawn) (ch:=[]) (λ_ z=>nomatch z) (λb o _ hb _ e n=>u.keep b o e n hb (by simp)) (λb o _ hb _ e n=>u.slot b o e n hb (by simp)) (λb o _ e n=>u.free b o e n (by simp)) (λb o _ e=>u.there b o e (by simp)) u.tups u.frzs u.tbls (λm' hm=>by
  obtain⟨o',es',ep',ho',r'⟩:=hm
  rw[ho] at ho';cases ho'
  exact⟨_,es',ep',hL,r'⟩) hok I.bare
theorem Inv.call{g':Array GenState}{t':Nat}{d':Drawn}{ch:List LZ}(I:Inv X pins σ H s)(u:Un (Ta X.stack) ch H H' s.heap h')(hok:Kw X.prog X.w H' h')(hg:AllBare g')(hch:∀b∈ch,(b∈X.ex∨X.s₀.heap.objs.size<=b)/\b≠X.env.locals/\(∀x c,X.env.cells.lookup x=some c->c≠b)/\∀p∈X.pn++pins,p.1≠b):
 Inv X pins σ H' { s with heap:=h',gens:=g',drawn:=d',toks:=t' }:=by
 obtain⟨m,⟨o,es,ep,ho,r⟩,_⟩:=id I.loc
 obtain⟨sl,hL⟩:=u.any ho I.free λz=>(hch _ z).2.1 rfl
 exact I.step (ch:=ch) hch (λb o hL hb hc e n=>u.keep b o e n (λz=>(LX.mp (I.stkSub b z)).elim hL hb) hc) (λb o _ _ hc e n=>u.any e n hc) (λb o hc e n=>u.free b o e n hc) (λb o hc e=>u.there b o e hc) u.tups u.frzs u.tbls (λm' hm=>by
  obtain⟨o',es',ep',ho',r'⟩:=hm
  rw[ho] at ho';cases ho'
  exact⟨_,es',ep',hL,r'⟩) hok hg
theorem Inv.turned{t':Nat}{it:LZ}(I:Inv X pins σ H s)(k:∀b o,b≠it->s.heap.get? b=some o->h'.get? b=some o)(hn:H it=none)(hL:it≠X.env.locals)(h1:it∈X.ex∨X.s₀.heap.objs.size<=it)(h2:∀x c,X.env.cells.lookup x=some c->c≠it)(h3:∀p∈X.pn++pins,p.1≠it):Inv X pins σ H { s with heap:=h',toks:=t' }:=by
 have nit:∀b u,H b=some u->b≠it:=λb u e z=>by rw[z,hn] at e;cases e
 refine I.step (g':=s.gens) (d':=s.drawn) (ch:=[it]) (λb hb=>?_) (λb o _ _ hc e _=>k b o (λz=>hc (by simp[z])) e) (λb o _ _ hc e _=>⟨o.slots,k b o (λz=>hc (by simp[z])) e⟩) (λ_ _ _ _ n=>n)
  (λb o hc e=>⟨o,k b o (λz=>hc (by simp[z])) e⟩) (λ_ _ e=>e) (λ_ _ _ e=>e) (λb ps e=>⟨#[],by rw[e];simp⟩) (λm hm=>?_) (λb u e=>?_) I.bare
 ·have e:b=it:=by simpa using hb
  subst e
  exact⟨h1,hL,h2,h3⟩
 ·obtain⟨o,es,ep,ho,r⟩:=hm
  exact⟨o,es,ep,k _ o (NT hL) ho,r⟩
 ·refine(I.hok b u e).stay (λc v hc q=>k c v ?_ q) (λ_ q=>q) λ_ _ q=>q
  rcases hc with z | z
  ·rw[z];exact nit b u e
  ·exact nit c _ z
theorem Inv.tok(I:Inv X pins σ H s)(t:Nat):Inv X pins σ H { s with toks:=t }:=I.un (h':=s.heap) (t':=t) Un.refl I.hok
theorem Inv.kept{t':Nat}(I:Inv X pins σ H s)(k:∀b u,s.heap.get? b=some u->h'.get? b=some u):Inv X pins σ H { s with heap:=h',toks:=t' }:=I.un (Un.kept k) (I.hok.kept k)
theorem Inv.laid{a:LZ}{o:HO}{t':Nat}(I:Inv X pins σ H s)(k:∀b u,s.heap.get? b=some u->h'.get? b=some u)(hp:s.heap.objs.size<=a)(new:Cg X.prog X.w (upd H a o) h' a o):
 Inv X pins σ (upd H a o) { s with heap:=h',toks:=t' }:=I.un (Un.laid k hp (I.hok.fresh hp)) (I.hok.laid k hp new)
theorem Inv.write{x e:LZ}{o:HO}{t':Nat}(I:Inv X pins σ H s)(mu:GU (H x))(he:e=x∨H e=some (.own x))(k:∀b u,b≠e->s.heap.get? b=some u->h'.get? b=some u)(heo:∃u,h'.get? e=some u)(new:Cg X.prog X.w (upd H x o) h' x o):Inv X pins σ (upd H x o) { s with heap:=h',toks:=t' }:=I.un (Un.write mu he k heo) (I.hok.write mu he k heo new)
theorem Inv.weak{σ':List (Option V)}(I:Inv X pins σ H s)(hl:σ'.length=σ.length)(w:∀(i:Nat) v,σ'[i]? = some (some v)->σ[i]? = some (some v)):Inv X pins σ' H s:=
 ⟨I.ok,I.os,I.bare,I.base,let ⟨m,hn,hl'⟩:=I.loc;⟨m,hn,λi x v e1 e2 e3=>hl' i x v e1 (w i v e2) e3⟩,I.cell,I.free,I.freeC,I.pin,I.hok,hl.trans I.len⟩
theorem Inv.pins_of{pins':List (LZ×Obj)}(I:Inv X pins σ H s)(h:∀p∈pins',s.heap.get? p.1=some p.2/\H p.1=none/\p.1≠X.env.locals/\p.1∉X.fs/\∀v,p.2.data ≠ .cell v):Inv X pins' σ H s:=
 ⟨I.ok,I.os,I.bare,I.base,I.loc,I.cell,I.free,I.freeC,λp hp=>(MJ.mp hp).elim (λz=>I.pin p (QA _ z)) (h p),I.hok,I.len⟩
theorem Xp{N:List Str}(hN:N.Nodup){i j:Nat}{x:Str}(a:N[i]? = some x)(b:N[j]? = some x):i=j:=by
 obtain⟨h1,e1⟩:=LM.mp a
 obtain⟨h2,e2⟩:=LM.mp b
 exact(List.getElem_inj hN).mp (e1.trans e2.symm)
theorem kJ{M:Model}{A:NV}{E:LP->LV->Prop}{i:Nat}{x:Str}{v:V}{u:LP}{Q:Unit->LV->Prop}(I:Inv X pins σ H s)(hN:X.N.Nodup)(hi:X.N[i]? = some x)(hx:Loc X.env.scope x)(r:RelV v u)(h:∀s',Inv X pins (σ.set i (some v)) H s'->(∃a,RD a s.heap s'.heap/\(a=X.env.locals∨X.env.cells.lookup x=some a))->Q () s')(hf:X.fn x=true∨X.env.scope.names.lookup x=some .local:=by first | exact .inl rfl | exact .inr rfl | assumption):ND M A (storeName X.env x u) Q E s:=by
 obtain⟨m,hn,hl⟩:=id I.loc
 have hcls:(X.env.scope.kind == .class || (X.env.scope.kind == .module && X.env.locals != X.env.globals))=false:=by rw[I.ok.kind];rfl
 have hiσ:i < σ.length:=by rw[I.len];exact(LM.mp hi).1
 have cne:=I.cne
 have tracked:∀ {a:LZ} {h':OS},(∃o,s.heap.get? a=some o/\H a=none)->RD a s.heap h'->Kw X.prog X.w H h':=λ{a h'} ha hs b ob e=>by
  obtain⟨_,_,hfree⟩:=ha
  refine(I.hok b ob e).stay (λc w' hc q=>(hs.2 c ?_).trans q) (λ_ q=>q) λ_ _ q=>q
  rintro rfl
  rcases hc with rfl | hc
  ·rw[hfree] at e;cases e
  ·rw[hfree] at hc;cases hc
 rcases hx with hk | hk
 ·refine wpAny_storeName_local hk hn (λh' hn' hs=>?_) hcls
  obtain⟨oL,_,_,hoL,_⟩:=id hn
  refine h _ ⟨I.ok,I.os,I.bare,⟨λb o e n hb hx=>?_,λb o e n hb hx=>?_,I.base.free,λb o e hx=>?_,I.base.tups,I.base.frzs,I.base.tbls⟩,⟨_,hn',λj y v' e1 e2 e3=>?_⟩,λy c e=>?_,I.free,I.freeC,λp hp=>?_,tracked ⟨oL,hoL,I.free⟩ hs,by simpa using I.len⟩ ⟨_,hs,.inl rfl⟩
  ·exact(hs.2 b (NF (NQ (MQ e) I.ok.above))).trans (I.base.keep b o e n hb hx)
  ·obtain⟨sl,e1⟩:=I.base.slot b o e n hb hx
   exact⟨sl,(hs.2 b (NF (NQ (MQ e) I.ok.above))).trans e1⟩
  ·obtain⟨o',e1⟩:=I.base.there b o e hx
   exact⟨o',(hs.2 b (NF (NQ (MQ e) I.ok.above))).trans e1⟩
  ·by_cases hj:j=i
   ·subst hj
    rw[hi] at e1;cases e1
    rw[QC hiσ] at e2
    cases e2
    exact⟨u,r,.inl ⟨hk,by simp⟩⟩
   ·rw[QB (NT hj)] at e2
    obtain⟨u',r',q⟩:=hl j y v' e1 e2 e3
    refine⟨u',r',?_⟩
    rcases q with ⟨k,e⟩ | ⟨k,c,e,z⟩
    ·refine .inl ⟨k,?_⟩
     have:y≠x:=λe=>hj (Xp hN e1 (e ▸ hi))
     simp[this,e]
    ·exact .inr ⟨k,c,e,z.sameBut hs (cne y c e)⟩
  ·obtain⟨w',z⟩:=I.cell y c e
   exact⟨w',z.sameBut hs (cne y c e)⟩
  ·obtain⟨e,n,ne,nf,d⟩:=I.pin p hp
   exact⟨(hs.2 p.1 ne).trans e,n,ne,nf,d⟩
 ·have hfn:X.fn x=true:=by
   rcases hf with z | z
   ·exact z
   ·rw[z] at hk;cases hk
  obtain⟨c,hc⟩:=I.ok.has x (.inl hk)
  obtain⟨w',z⟩:=I.cell x c hc
  refine wpAny_storeName_cell I.ok.kind hk hc z (λh' hc' hs=>?_)
  obtain⟨oc,hoc,hocd⟩:=id z
  refine h { s with heap:=h' } ⟨I.ok,I.os,I.bare,⟨λb o e n hb hx=>?_,λb o e n hb hx=>?_,I.base.free,λb o e hx=>?_,I.base.tups,I.base.frzs,I.base.tbls⟩,⟨m,hn.sameBut hs (NT (cne x c hc)),λj y v' e1 e2 e3=>?_⟩,λy c' e=>?_,I.free,I.freeC,λp hp=>?_,tracked ⟨oc,hoc,I.freeC x c hc⟩ hs,by simpa using I.len⟩ ⟨c,hs,.inr hc⟩
  ·exact(hs.2 b (NF (NQ (MQ e) (I.ok.cab x c hfn hc)))).trans (I.base.keep b o e n hb hx)
  ·obtain⟨sl,e1⟩:=I.base.slot b o e n hb hx
   exact⟨sl,(hs.2 b (NF (NQ (MQ e) (I.ok.cab x c hfn hc)))).trans e1⟩
  ·obtain⟨o',e1⟩:=I.base.there b o e hx
   exact⟨o',(hs.2 b (NF (NQ (MQ e) (I.ok.cab x c hfn hc)))).trans e1⟩
  ·by_cases hj:j=i
   ·subst hj
    rw[hi] at e1;cases e1
    rw[QC hiσ] at e2
    cases e2
    exact⟨u,r,.inr ⟨.inl hk,c,hc,hc'⟩⟩
   ·rw[QB (NT hj)] at e2
    obtain⟨u',r',q⟩:=hl j y v' e1 e2 e3
    refine⟨u',r',?_⟩
    rcases q with q | ⟨k,c',e,z'⟩
    ·exact .inl q
    ·refine .inr ⟨k,c',e,z'.sameBut hs ?_⟩
     rintro rfl
     exact hj (Xp hN e1 (I.ok.inj _ _ _ e hc ▸ hi))
  ·by_cases hcc:c'=c
   ·subst hcc;exact⟨_,hc'⟩
   ·obtain⟨w2,z2⟩:=I.cell y c' e
    exact⟨w2,z2.sameBut hs hcc⟩
  ·obtain⟨e,n,ne,nf,d⟩:=I.pin p hp
   refine⟨(hs.2 p.1 ?_).trans e,n,ne,nf,d⟩
   intro q
   rw[q,hoc] at e
   have q':oc=p.2:=MZ e
   exact d w' (by rw[<- q'];exact hocd)
theorem Qo{M:Model}{A:NV}{E:LP->LV->Prop}{i:Nat}{x:Str}{v:V}{u:LP}{Q:Unit->LV->Prop}(I:Inv X pins σ H s)(hN:X.N.Nodup)(hi:X.N[i]? = some x)(hx:Loc X.env.scope x)(r:RelV v u)(h:∀s',Inv X pins (σ.set i (some v)) H s'->Q () s')(hf:X.fn x=true∨X.env.scope.names.lookup x=some .local:=by first | exact .inl rfl | exact .inr rfl | assumption):ND M A (storeName X.env x u) Q E s:=
 kJ I hN hi hx r (λs' I' _=>h s' I') hf
theorem Inv.call'{s':LV}{ch:List LZ}(I:Inv X pins σ H s)(ho:s'.os=s.os)(u:Un (Ta X.stack) ch H H' s.heap s'.heap)(hok:Kw X.prog X.w H' s'.heap)(hg:AllBare s'.gens)(hch:∀b∈ch,(b∈X.ex∨X.s₀.heap.objs.size<=b)/\b≠X.env.locals/\(∀x c,X.env.cells.lookup x=some c->c≠b)/\∀p∈X.pn++pins,p.1≠b):Inv X pins σ H' s':=by
 obtain⟨h',g',d',t',o'⟩:=s'
 have e:o'=s.os:=ho
 subst e
 exact I.call (g':=g') (t':=t') (d':=d') u hok hg hch
end
abbrev XK:=LP->Option LZ->Hp->Prop
abbrev St:=List (Option V)
abbrev VK:=V->Hp->Prop
abbrev TE:=St->Hp->VK->Prop
abbrev TT:=St->Hp->(Bool->Hp->Prop)->Prop
abbrev TA:=St->Hp->(List V->Hp->Prop)->Prop
structure Ends where
 nx:St->Hp->Prop
 rt:VK
 bk:St->Hp->Prop:=λ_ _=>False
 ct:St->Hp->Prop:=λ_ _=>False
abbrev TS:=Ends->St->Hp->Prop
def EP(X:Cx)(pins:List (LZ×Obj))(σ:St)(Q:VK)(u:LP)(s':LV):Prop:=∃v H',Inv X pins σ H' s'/\RelV v u/\Q v H'
def TP(X:Cx)(pins:List (LZ×Obj))(σ:St)(Q:Bool->Hp->Prop)(b:Bool)(s':LV):Prop:=∃H',Inv X pins σ H' s'/\Q b H'
def AP(X:Cx)(pins:List (LZ×Obj))(σ:St)(Q:List V->Hp->Prop)(us:List LP)(s':LV):Prop:=∃vs H',Inv X pins σ H' s'/\Vals vs us/\Q vs H'
def SP(X:Cx)(pins:List (LZ×Obj))(D:Ends)(f:Flow)(s':LV):Prop:=
 match f with
 | .next=>∃σ' H',Inv X pins σ' H' s'/\D.nx σ' H'
 | .brk=>∃σ' H',Inv X pins σ' H' s'/\D.bk σ' H'
 | .cont=>∃σ' H',Inv X pins σ' H' s'/\D.ct σ' H'
 | .ret u=>∃v σ' H',Inv X pins σ' H' s'/\RelV v u/\D.rt v H'
def PE(X:Cx)(e:Expr)(t:TE):Prop:=
 ∀(pins:List (LZ×Obj))(s:LV)(σ:St)(H:Hp)(Q:VK),Inv X pins σ H s->t σ H Q->ND (NJ X.prog X.w) X.A (RY e X.env) (EP X pins σ Q) X.xe s
def PT(X:Cx)(e:Expr)(t:TT):Prop:=
 ∀(pins:List (LZ×Obj))(s:LV)(σ:St)(H:Hp)(Q:Bool->Hp->Prop),Inv X pins σ H s->t σ H Q->ND (NJ X.prog X.w) X.A (isTrue e X.env (RY e X.env)) (TP X pins σ Q) X.xe s
def PW(X:Cx)(e:Expr)(t:TT):Prop:=
 ∀(whole:Sem LP)(pins:List (LZ×Obj))(s:LV)(σ:St)(H:Hp)(Q:Bool->Hp->Prop),Inv X pins σ H s->t σ H Q->ND (NJ X.prog X.w) X.A (isTrue e X.env whole) (TP X pins σ Q) X.xe s
theorem PW.pt{X:Cx}{e:Expr}{t:TT}(h:PW X e t):PT X e t:=h _
def PA(X:Cx)(es:List Expr)(t:TA):Prop:=
 ∀(pos:Pos)(pins:List (LZ×Obj))(s:LV)(σ:St)(H:Hp)(Q:List V->Hp->Prop),Inv X pins σ H s->t σ H Q->ND (NJ X.prog X.w) X.A (spliced (SR pos (NH es X.env))) (AP X pins σ Q) X.xe s
def PS(X:Cx)(st:RL)(t:TS):Prop:=
 ∀(pins:List (LZ×Obj))(s:LV)(σ:St)(H:Hp)(D:Ends),Inv X pins σ H s->t D σ H->ND (NJ X.prog X.w) X.A (exec st X.env) (SP X pins D) X.xe s
def Ib(X:Cx)(st:List RL)(t:TS):Prop:=
 ∀(pins:List (LZ×Obj))(s:LV)(σ:St)(H:Hp)(D:Ends),Inv X pins σ H s->t D σ H->ND (NJ X.prog X.w) X.A (execs st X.env) (SP X pins D) X.xe s
theorem Bv{α:Type}{t:Sem α}{Q Q':α->LV->Prop}{M:Model}{A:NV}{E:LP->LV->Prop}{s:LV}(h:ND M A t Q E s)(hQ:∀a s,Q a s->Q' a s):ND M A t Q' E s:=OR h hQ λ_ _ x=>x
section
variable {X:Cx}
theorem bin{a b:Expr}{ta tb:TE}(ha:PE X a ta)(hb:PE X b tb){pins:List (LZ×Obj)}{s:LV}{σ:St}{H:Hp}{R:V->V->Hp->Prop}(I:Inv X pins σ H s)(h:ta σ H λx H1=>tb σ H1 λy H2=>R x y H2){α:Type}{Q:α->LV->Prop}{f:LP->LP->Sem α}(hf:∀v u s2 x y H2,Inv X pins σ H2 s2->RelV x v->RelV y u->R x y H2->ND (NJ X.prog X.w) X.A (f v u) Q X.xe s2):
 ND (NJ X.prog X.w) X.A (RY a X.env) (λv s₁=>ND (NJ X.prog X.w) X.A (RY b X.env) (λu s₂=>ND (NJ X.prog X.w) X.A (f v u) Q X.xe s₂) X.xe s₁) X.xe s:=by
 refine Bv (ha pins s σ H _ I h) λv s1 ⟨x,H1,I1,r1,q1⟩=>?_
 refine Bv (hb pins s1 σ H1 _ I1 q1) λu s2 ⟨y,H2,I2,r2,q2⟩=>?_
 exact hf v u s2 x y H2 I2 r1 r2 q2
def HL(i:Nat):TE:=λσ H Q=>∃v,σ[i]? = some (some v)/\Q v H
def tC(v:V):TE:=λ_ H Q=>Q v H
theorem DH{i:Nat}{x:Str}{pos:Pos}(hN:X.N[i]? = some x)(hv:JC X.env.scope x)(hd:(x == ("__debug__" : Str))=false:=by decide)(hcd:(x == ("__classdict__" : Str))=false:=by decide):PE X (.Name x pos) (HL i):=by
 intro pins s σ H Q I h
 obtain⟨v,e,h⟩:=h
 obtain⟨m,hn,hl⟩:=I.loc
 obtain⟨u,r,l⟩:=hl i x v hN e hv
 have fin:EP X pins σ Q u s:=⟨v,H,I,r,h⟩
 rcases l with ⟨hk,hm⟩ | ⟨hk,c,hc,hcell⟩
 ·exact wpAny_Name (wpAny_loadName_local I.ok.kind hk hn hm fin) hd
 ·rcases hk with hk | hk
  ·exact wpAny_Name (wpAny_loadName_cell I.ok.kind hk hc hcell fin) hd
  ·exact wpAny_Name (wpAny_loadName_free I.ok.kind hk hc hcell fin hcd) hd
theorem Ae{i j pos}:PE X (.Constant (.int i) j pos) (tC (.int i)):=λ_ _ _ H _ I h=>wpAny_Constant_int ⟨.int i,H,I.tok _,⟨_,rfl⟩,h⟩
theorem Ms{b j pos}:PE X (.Constant (.bool b) j pos) (tC (.bl b)):=λ_ _ _ H _ I h=>Constant_bool ⟨.bl b,H,I,rfl,h⟩
theorem tG{j pos}:PE X (.Constant .none j pos) (tC .non):=λ_ _ _ H _ I h=>Constant_none ⟨.non,H,I,rfl,h⟩
theorem Aq{x j pos}:PE X (.Constant (.str x) j pos) (tC (.str x)):=λ_ _ _ H _ I h=>Calls.Constant_str ⟨.str x,H,I.tok _,⟨_,rfl⟩,h⟩
def Gl(X:Cx)(x:Str):Prop:=X.env.kindOf x=some .globalImplicit
theorem Jb{E:LP->LV->Prop}{pins:List (LZ×Obj)}{s:LV}{σ:St}{H:Hp}{x:Str}{u:LP}{pos:Pos}{Q:LP->LV->Prop}(I:Inv X pins σ H s)(hg:Gl X x)(hm:X.mg x=some u)(h:Q u s)(hd:(x == ("__debug__" : Str))=false:=by decide):ND (NJ X.prog X.w) X.A (RY (.Name x pos) X.env) Q E s:=
 Calls.Name_function_global I.ok.kind hg (Calls.loadGlobal_global (by rw[I.ok.glob];exact I.mod.glob.keeps I.bk) hm h) hd
theorem Il{E:LP->LV->Prop}{pins:List (LZ×Obj)}{s:LV}{σ:St}{H:Hp}{x:Str}{u:LP}{pos:Pos}{Q:LP->LV->Prop}(I:Inv X pins σ H s)(hg:Gl X x)(hm:X.mg x=none)(hv:SA x=some u)(h:Q u s)(hn:x ≠ "__name__" := by decide)(hd:(x == ("__debug__" : Str))=false:=by decide):ND (NJ X.prog X.w) X.A (RY (.Name x pos) X.env) Q E s:=by
 obtain⟨mb,h1,h2⟩:=I.mod.blt
 exact Calls.Name_function_global I.ok.kind hg (Calls.loadGlobal_builtin (by rw[I.ok.glob];exact I.mod.glob.keeps I.bk) hm (by rw[I.ok.blt];exact h1.keeps I.bk) ((h2 x hn).trans hv) h) hd
theorem jI{x:Str}{v:V}{u:LP}{pos:Pos}(hg:Gl X x)(hm:X.mg x=some u)(r:RelV v u)(hd:(x == ("__debug__" : Str))=false:=by decide):PE X (.Name x pos) (tC v):=
 λ_ _ _ H _ I h=>Jb I hg hm ⟨v,H,I,r,h⟩ hd
theorem Ij{x:Str}{v:V}{u:LP}{pos:Pos}(hg:Gl X x)(hm:X.mg x=none)(hv:SA x=some u)(r:RelV v u)(hn:x ≠ "__name__" := by decide)(hd:(x == ("__debug__" : Str))=false:=by decide):PE X (.Name x pos) (tC v):=
 λ_ _ _ H _ I h=>Il I hg hm hv ⟨v,H,I,r,h⟩ hn hd
variable {a b:Expr} {ta tb:TE} {pos:Pos}
def PC(X:Cx)(op:CmpOp)(a b:Expr)(t:TE):Prop:=
 ∀(pins:List (LZ×Obj))(s:LV)(σ:St)(H:Hp)(Q:VK),Inv X pins σ H s->t σ H Q ->
  ND (NJ X.prog X.w) X.A (RY a X.env) (λv s₁=>ND (NJ X.prog X.w) X.A (RY b X.env) (λu s₂=>ND (NJ X.prog X.w) X.A (QW op v u) (EP X pins σ Q) X.xe s₂) X.xe s₁) X.xe s
theorem qD(b:Expr){op:CmpOp}(h:op ≠ .In)(h2:op ≠ .NotIn):UO op b=false:=by
 have e1:(op == CmpOp.In)=false:=by cases op<;>first | rfl | exact absurd rfl h
 have e2:(op == CmpOp.NotIn)=false:=by cases op<;>first | rfl | exact absurd rfl h2
 cases b<;>simp[UO,e1,e2]
def JF(ta:TE):TE:=λσ H Q=>ta σ H λx H1=>Q (.bl (decide (x=.non))) H1
def FH(ta:TE):TE:=λσ H Q=>ta σ H λx H1=>Q (.bl (!decide (x=.non))) H1
theorem RelV.none_iff{x:V}{v:LP}(r:RelV x v):(v == PK)=decide (x=.non):=by
 cases x with
 | non=>cases r;rfl
 | bl _=>cases r;rfl
 | int _=>obtain⟨t,rfl⟩:=r;rfl
 | str _=>obtain⟨t,rfl⟩:=r;rfl
 | byt _=>obtain⟨t,rfl⟩:=r;rfl
 | flt _=>obtain⟨t,rfl⟩:=r;rfl
 | ref _=>cases r;rfl
 | ty _=>cases r;rfl
theorem cP{j pos'}(ha:PE X a ta):PC X .Is a (.Constant .none j pos') (JF ta):=by
 intro pins s σ H Q I h
 refine Bv (ha pins s σ H _ I h) λv s1 ⟨x,H1,I1,r1,q1⟩=>?_
 exact Constant_none (is_none_gen ⟨.bl _,H1,I1,by rw[r1.none_iff];rfl,q1⟩)
theorem iS{j pos'}(ha:PE X a ta):PC X .IsNot a (.Constant .none j pos') (FH ta):=by
 intro pins s σ H Q I h
 refine Bv (ha pins s σ H _ I h) λv s1 ⟨x,H1,I1,r1,q1⟩=>?_
 exact Constant_none (isnot_none_gen ⟨.bl _,H1,I1,by rw[r1.none_iff];rfl,q1⟩)
def tB(t:TE):TT:=λσ H Q=>t σ H λx H1=>∃c,x=.bl c/\Q c H1
theorem Gq{op:CmpOp}{t:TE}(h:PC X op a b t)(h1:UO op b=false:=by first | exact qD _ (by decide) (by decide) | rfl):PT X (.Compare a [op] [b] pos) (tB t):=by
 intro pins s σ H Q I hw
 refine wpAny_isTrue_Compare1 (Bv (h pins s σ H _ I hw) λv s1 h1=>Bv h1 λu s2 h2=>Bv h2 λc s3 ⟨x,H1,I1,r1,q1⟩=>?_) h1
 obtain⟨d,rfl,q⟩:=q1
 cases r1
 exact QJ ⟨H1,I1,q⟩
theorem Ej{e:Expr}{t:TE}(h:PE X e t)(he:∀whole,isTrue e X.env whole=(do let v <- whole;standAt e.pos;holding [v] (truthy v)):=by intro _;rfl):PT X e (tB t):=by
 intro pins s σ H Q I hw
 refine isTrue_plain (Bv (h pins s σ H _ I hw) λv s1 ⟨x,H1,I1,r1,q1⟩=>?_) (he _)
 obtain⟨d,rfl,q⟩:=q1
 cases r1
 exact QJ ⟨H1,I1,q⟩
variable {tA tB':TT} {rest:List Expr}
def JQ(t u:TT):TT:=λσ H Q=>t σ H λc H1=>if c=true then u σ H1 Q else Q false H1
def LI(t u:TT):TT:=λσ H Q=>t σ H λc H1=>if c=true then Q true H1 else u σ H1 Q
def IJ(t:TT):TT:=λσ H Q=>t σ H λc H1=>Q (!c) H1
theorem Ez(ha:PT X a tA):PW X (.BoolOp .And [a] pos) tA:=by
 intro wh pins s σ H Q I h
 refine isTrue_and (Bv (ha pins s σ H Q I h) λc s1 e=>?_)
 cases c with
 | true=>exact isTrue_and_nil e
 | false=>exact e
theorem Lq(ha:PT X a tA):PW X (.BoolOp .Or [a] pos) tA:=by
 intro wh pins s σ H Q I h
 refine isTrue_or (Bv (ha pins s σ H Q I h) λc s1 e=>?_)
 cases c with
 | false=>exact isTrue_or_nil e
 | true=>exact e
theorem Fe(ha:PT X a tA)(hb:PW X (.BoolOp .And (b::rest) pos) tB'):PW X (.BoolOp .And (a::b::rest) pos) (JQ tA tB'):=by
 intro wh pins s σ H Q I h
 refine isTrue_and (Bv (ha pins s σ H _ I h) λc s1 ⟨H1,I1,q1⟩=>?_)
 cases c with
 | true=>exact hb wh pins s1 σ H1 Q I1 q1
 | false=>exact⟨H1,I1,q1⟩
theorem Nj(ha:PT X a tA)(hb:PW X (.BoolOp .Or (b::rest) pos) tB'):PW X (.BoolOp .Or (a::b::rest) pos) (LI tA tB'):=by
 intro wh pins s σ H Q I h
 refine isTrue_or (Bv (ha pins s σ H _ I h) λc s1 ⟨H1,I1,q1⟩=>?_)
 cases c with
 | true=>exact⟨H1,I1,q1⟩
 | false=>exact hb wh pins s1 σ H1 Q I1 q1
theorem Fv(ha:PT X a tA):PT X (.UnaryOp .Not a pos) (IJ tA):=by
 intro pins s σ H Q I h
 exact isTrue_not (ha pins s σ H (λc H1=>Q (!c) H1) I h)
def HC(ta tb:TE):TE:=λσ H Q=>ta σ H λx H1=>∃c,x=.bl c/\if c=true then tb σ H1 Q else Q (.bl false) H1
def JA(ta tb:TE):TE:=λσ H Q=>ta σ H λx H1=>∃c,x=.bl c/\if c=true then Q (.bl true) H1 else tb σ H1 Q
def HN(ta:TE):TE:=λσ H Q=>ta σ H λx H1=>∃c,x=.bl c/\Q (.bl (!c)) H1
theorem Oi{op}{t:TE}(h:PE X a t):PE X (.BoolOp op [a] pos) t:=λpins s σ H Q I hw=>BoolOp_one (h pins s σ H Q I hw)
theorem Jq(ha:PE X a ta)(hb:PE X (.BoolOp .And (b::rest) pos) tb):PE X (.BoolOp .And (a::b::rest) pos) (HC ta tb):=by
 intro pins s σ H Q I h
 refine BoolOp_and (Bv (ha pins s σ H _ I h) λv s1 ⟨x,H1,I1,r1,q1⟩=>?_)
 obtain⟨c,rfl,q1⟩:=q1
 cases r1
 refine QJ ?_
 cases c with
 | true=>exact hb pins s1 σ H1 Q I1 q1
 | false=>exact⟨.bl false,H1,I1,rfl,q1⟩
theorem FK(ha:PE X a ta)(hb:PE X (.BoolOp .Or (b::rest) pos) tb):PE X (.BoolOp .Or (a::b::rest) pos) (JA ta tb):=by
 intro pins s σ H Q I h
 refine BoolOp_or (Bv (ha pins s σ H _ I h) λv s1 ⟨x,H1,I1,r1,q1⟩=>?_)
 obtain⟨c,rfl,q1⟩:=q1
 cases r1
 refine QJ ?_
 cases c with
 | false=>exact hb pins s1 σ H1 Q I1 q1
 | true=>exact⟨.bl true,H1,I1,rfl,q1⟩
theorem BA(ha:PE X a ta):PE X (.UnaryOp .Not a pos) (HN ta):=by
 intro pins s σ H Q I h
 refine UnaryOp_ (Bv (ha pins s σ H _ I h) λv s1 ⟨x,H1,I1,r1,q1⟩=>?_)
 obtain⟨c,rfl,q1⟩:=q1
 cases r1
 exact not_of (QJ ⟨.bl (!c),H1,I1,rfl,q1⟩)
def LH(t:TT)(ta tb:TE):TE:=λσ H Q=>t σ H λc H1=>if c=true then ta σ H1 Q else tb σ H1 Q
theorem Hw{c:Expr}(hc:PT X c tA)(ha:PE X a ta)(hb:PE X b tb):PE X (.IfExp c a b pos) (LH tA ta tb):=by
 intro pins s σ H Q I h
 refine wpAny_IfExp (Bv (hc pins s σ H _ I h) λd s1 ⟨H1,I1,q1⟩=>?_)
 cases d with
 | true=>exact ha pins s1 σ H1 Q I1 q1
 | false=>exact hb pins s1 σ H1 Q I1 q1
end
def Av(K:LO)(H:Hp)(a:LZ)(xs:List V):Prop:=
 Rd H a (.lst xs) ∨
  ∃(o:Obj)(its:Array LP)(n:Nat),K.lookup a=some o/\o.cls=.type "list" /\ o.dict=none/\o.data=.seq its n/\its.size<=MG/\Vals xs its.toList
def Dq(K:LO)(H:Hp)(a:LZ)(xs:List V):Prop:=
 Rd H a (.tup xs) ∨
  ∃(o:Obj)(its:Array LP)(n:Nat),K.lookup a=some o/\o.cls=.type "tuple" /\ o.data=.seq its n/\its.size<=MG/\Vals xs its.toList
def JW:LP->Option V
 | .none=>some .non
 | .bool b=>some (.bl b)
 | .int i _=>some (.int i)
 | .str x _=>some (.str x)
 | .bytes b _=>some (.byt b)
 | .float b _=>some (.flt b)
 | .ref a=>some (.ref a)
 | .type n=>some (.ty n)
 | _=>none
theorem RelV.abs{x:V}{u:LP}(r:RelV x u):JW u=some x:=by
 cases x with
 | non=>cases r;rfl
 | bl _=>cases r;rfl
 | int _=>obtain⟨t,rfl⟩:=r;rfl
 | str _=>obtain⟨t,rfl⟩:=r;rfl
 | byt _=>obtain⟨t,rfl⟩:=r;rfl
 | flt _=>obtain⟨t,rfl⟩:=r;rfl
 | ref _=>cases r;rfl
 | ty _=>cases r;rfl
theorem RelV.inj{x y:V}{u:LP}(r:RelV x u)(q:RelV y u):x=y:=MZ (r.abs.symm.trans q.abs)
theorem Vals.inj:∀ {xs ys:List V} {us:List LP},Vals xs us->Vals ys us->xs=ys
 | _,_,_,.nil,.nil=>rfl
 | _,_,_,.cons r t,.cons r' t'=>by rw[r.inj r',Vals.inj t t']
section
variable {X:Cx} {pins:List (LZ×Obj)} {σ:St} {H:Hp} {s:LV} {a:LZ} {xs ys:List V}
theorem Av.of{K:LO}(h:H a=some (.lst xs)):Av K H a xs:=.inl (.inl h)
theorem Dq.of{K:LO}(h:H a=some (.tup xs)):Dq K H a xs:=.inl (.inl h)
theorem Inv.list(I:Inv X pins σ H s)(h:Av X.K H a xs):∃its:List LP,Vals xs its/\PlainL s.heap a its.toArray/\xs.length<=MG:=by
 rcases h with h | ⟨o,its,n,hk,hc,hd,hs,hz,r⟩
 ·obtain⟨z,its,n,r,e⟩:=h.ok I.hok
  exact⟨its,r,⟨_,n,e,rfl,rfl,rfl⟩,z⟩
 ·refine⟨its.toList,r,⟨o,n,I.kIn a o hk,hc,hd,by simpa using hs⟩,?_⟩
  have e:=r.length
  simp only[SJ] at e
  omega
theorem Inv.tuple(I:Inv X pins σ H s)(h:Dq X.K H a xs):∃its:List LP,Vals xs its/\IsTup s.heap a its.toArray/\xs.length<=MG:=by
 rcases h with h | ⟨o,its,n,hk,hc,hs,hz,r⟩
 ·obtain⟨z,its,r,p⟩:=h.ok I.hok
  exact⟨its,r,p,z⟩
 ·refine⟨its.toList,r,⟨o,I.kIn a o hk,hc,n,by simpa using hs⟩,?_⟩
  have e:=r.length
  simp only[SJ] at e
  omega
theorem Inv.list_inj(I:Inv X pins σ H s)(h:Av X.K H a xs)(h':Av X.K H a ys):xs=ys:=by
 obtain⟨its,r,⟨o,n,e,_,_,d⟩,_⟩:=I.list h
 obtain⟨its',r',⟨o',n',e',_,_,d'⟩,_⟩:=I.list h'
 rw[e] at e';cases e'
 rw[d] at d'
 injection d' with d1 _
 have:its=its':=by simpa using congrArg Array.toList d1
 subst this
 exact r.inj r'
theorem Inv.tuple_inj(I:Inv X pins σ H s)(h:Dq X.K H a xs)(h':Dq X.K H a ys):xs=ys:=by
 obtain⟨its,r,⟨o,e,_,n,d⟩,_⟩:=I.tuple h
 obtain⟨its',r',⟨o',e',_,n',d'⟩,_⟩:=I.tuple h'
 rw[e] at e';cases e'
 rw[d] at d'
 injection d' with d1 _
 have:its=its':=by simpa using congrArg Array.toList d1
 subst this
 exact r.inj r'
end
abbrev Cx.wish(X:Cx)(E:LP->LV->Prop):Cx:={ X with xe:=E }
abbrev Cx.nox(X:Cx):Cx:=X.wish λ_ _=>False
theorem Cx.Ok.wish{X:Cx}(ok:X.Ok)(E:LP->LV->Prop):(X.wish E).Ok:=
 ⟨ok.mod,ok.kind,ok.glob,ok.blt,ok.above,ok.inj,ok.has,ok.cab,ok.hd,ok.st,ok.frames,ok.stk,ok.exf,ok.bs,ok.bsz,ok.noex,ok.exfs,ok.funs,ok.frf⟩
theorem Cx.Ok.unwish{X:Cx}{E:LP->LV->Prop}(ok:(X.wish E).Ok):X.Ok:=
 ⟨ok.mod,ok.kind,ok.glob,ok.blt,ok.above,ok.inj,ok.has,ok.cab,ok.hd,ok.st,ok.frames,ok.stk,ok.exf,ok.bs,ok.bsz,ok.noex,ok.exfs,ok.funs,ok.frf⟩
section
variable {X:Cx} {pins:List (LZ×Obj)} {σ:St} {H:Hp} {s:LV} {E:LP->LV->Prop}
theorem Inv.wish(I:Inv X pins σ H s)(E:LP->LV->Prop):Inv (X.wish E) pins σ H s:=⟨I.ok.wish E,I.os,I.bare,I.base,I.loc,I.cell,I.free,I.freeC,I.pin,I.hok,I.len⟩
theorem Inv.unwish(I:Inv (X.wish E) pins σ H s):Inv X pins σ H s:=⟨I.ok.unwish,I.os,I.bare,I.base,I.loc,I.cell,I.free,I.freeC,I.pin,I.hok,I.len⟩
theorem SP.unwish{D:Ends}{f:Flow}{s':LV}(h:SP (X.wish E) pins D f s'):SP X pins D f s':=by
 cases f with
 | next=>obtain⟨σ',H',I,q⟩:=h;exact⟨σ',H',I.unwish,q⟩
 | brk=>obtain⟨σ',H',I,q⟩:=h;exact⟨σ',H',I.unwish,q⟩
 | cont=>obtain⟨σ',H',I,q⟩:=h;exact⟨σ',H',I.unwish,q⟩
 | ret u=>obtain⟨v,σ',H',I,r,q⟩:=h;exact⟨v,σ',H',I.unwish,r,q⟩
theorem Ib.nox{st:List RL}{t:TS}(h:Ib X.nox st t):Ib X st t:=λpins s σ H D I hw=>
 OR (h pins s σ H D (I.wish _) hw) (λ_ _ q=>q.unwish) λ_ _ z=>OT z
end
section
variable {X:Cx} {st:RL} {rest:List RL} {t u:TS} {e:Expr} {te:TE} {pos:Pos}
def ES:TS:=λD σ H=>D.nx σ H
def EC(t u:TS):TS:=λD σ H=>t { D with nx:=u D } σ H
theorem Ar:Ib X [] ES:=λ_ _ σ H _ I h=>UM ⟨σ,H,I,h⟩
theorem Ab(h1:PS X st t)(h2:Ib X rest u):Ib X (st::rest) (EC t u):=by
 intro pins s σ H D I h
 refine wpAny_execs_cons (Bv (h1 pins s σ H { D with nx:=u D } I h) λf s1 q=>?_)
 cases f with
 | next=>
  obtain⟨σ',H',I',q⟩:=q
  exact h2 pins s1 σ' H' D I' q
 | ret v=>exact q
 | brk=>exact q
 | cont=>exact q
theorem Ag(h1:PS X st t):Ib X [st] t:=by
 intro pins s σ H D I h
 refine wpAny_execs_cons (Bv (h1 pins s σ H D I h) λf s1 q=>?_)
 cases f with
 | next=>exact UM q
 | ret v=>exact q
 | brk=>exact q
 | cont=>exact q
theorem Inv.quiet{pins:List (LZ×Obj)}{σ:St}{H:Hp}{s:LV}(I:Inv X pins σ H s):interactive X.env=false:=by simp[interactive,I.ok.kind]
def GY(te:TE):TS:=λD σ H=>te σ H λ_ H1=>D.nx σ H1
theorem Cu(he:PE X e te)(hs:swapsWith e none pos.line X.env=pure false:=by rfl):PS X (.Expr e pos) (GY te):=by
 intro pins s σ H D I h
 exact wpAny_Expr_any (Bv (he pins s σ H _ I h) λv s1 ⟨x,H1,I1,r1,q1⟩=>⟨σ,H1,I1,q1⟩) I.quiet hs
def IF(te:TE):TS:=λD σ H=>te σ H D.rt
theorem Ap(he:PE X e te):PS X (.Return (some e) pos) (IF te):=by
 intro pins s σ H D I h
 exact wpAny_Return_some (Bv (he pins s σ H _ I h) λv s1 ⟨x,H1,I1,r1,q1⟩=>⟨x,σ,H1,I1,r1,q1⟩)
def JN(c:TT)(t u:TS):TS:=λD σ H=>c σ H λb H1=>if b=true then t D σ H1 else u D σ H1
theorem Bh{c:Expr}{a b:List RL}{tc:TT}(hc:PT X c tc)(ha:Ib X a t)(hb:Ib X b u):PS X (.If c a b pos) (JN tc t u):=by
 intro pins s σ H D I h
 refine wpAny_If (Bv (hc pins s σ H _ I h) λd s1 ⟨H1,I1,q1⟩=>?_)
 cases d with
 | true=>exact ha pins s1 σ H1 D I1 q1
 | false=>exact hb pins s1 σ H1 D I1 q1
def DC:TS:=λ_ _ _=>False
theorem Br{sts:List RL}:Ib X sts DC:=λ_ _ _ _ _ _ h=>h.elim
end
abbrev TG:=V->St->Hp->(St->Hp->Prop)->Prop
abbrev uL:=List V->St->Hp->(St->Hp->Prop)->Prop
def PG(X:Cx)(target:Expr)(t:TG):Prop:=
 ∀(pins:List (LZ×Obj))(s:LV)(σ:St)(H:Hp)(v:V)(u:LP)(Q:St->Hp->Prop),Inv X pins σ H s->RelV v u->t v σ H Q ->
  ND (NJ X.prog X.w) X.A (assign target X.env u) (λ_ s'=>∃σ' H',Inv X pins σ' H' s'/\Q σ' H') X.xe s
def HU(X:Cx)(ts:List Expr)(t:uL):Prop:=
 ∀(pins:List (LZ×Obj))(s:LV)(σ:St)(H:Hp)(vs:List V)(us:List LP)(Q:St->Hp->Prop),Inv X pins σ H s->Vals vs us->t vs σ H Q ->
  ND (NJ X.prog X.w) X.A (assignInOrder ((assignEach ts X.env).map (·.2)) us) (λ_ s'=>∃σ' H',Inv X pins σ' H' s'/\Q σ' H') X.xe s
abbrev AG:=V->V->V->Hp->(Hp->Prop)->Prop
def FN(X:Cx)(t:AG):Prop:=
 ∀(pins:List (LZ×Obj))(s:LV)(σ:St)(H:Hp)(o i v:V)(ov iv u:LP)(Q:Hp->Prop),Inv X pins σ H s->RelV o ov->RelV i iv->RelV v u->t o i v H Q ->
  ND (NJ X.prog X.w) X.A (setItem ov iv u) (λ_ s'=>∃H',Inv X pins σ H' s'/\Q H') X.xe s
section
variable {X:Cx} {pos:Pos}
def Ly(i:Nat):TG:=λv σ H Q=>Q (σ.set i (some v)) H
theorem Xf{i:Nat}{x:Str}(hN:X.N.Nodup)(hi:X.N[i]? = some x)(hx:Loc X.env.scope x)(hf:X.fn x=true∨X.env.scope.names.lookup x=some .local:=by first | exact .inl rfl | exact .inr rfl | assumption):PG X (.Name x pos) (Ly i):=by
 intro pins s σ H v u Q I r h
 exact wpAny_assign_Name (Qo I hN hi hx r (λs' I'=>⟨_,H,I',h⟩) hf)
def FD:uL:=λvs σ H Q=>vs=[]/\Q σ H
def zR(t:TG)(u:uL):uL:=λvs σ H Q=>∃v r,vs=v::r/\t v σ H λσ' H'=>u r σ' H' Q
theorem Ii:HU X [] FD:=by
 intro pins s σ H vs us Q I r h
 obtain⟨e,h⟩:=h
 subst e
 cases r
 exact assignInOrder_nil ⟨σ,H,I,h⟩
theorem Cy{e:Expr}{es:List Expr}{t:TG}{u:uL}(h1:PG X e t)(h2:HU X es u)(hs:(assignEach (e::es) X.env).map (·.2)=assign e X.env::(assignEach es X.env).map (·.2):=by rfl):HU X (e::es) (zR t u):=by
 intro pins s σ H vs us Q I r h
 obtain⟨v,vr,e1,h⟩:=h
 subst e1
 cases r with
 | cons r rr=>
  rw[hs]
  refine assignInOrder_cons (Bv (h1 pins s σ H _ _ _ I r h) λ_ s1 ⟨σ1,H1,I1,q1⟩=>?_)
  exact h2 pins s1 σ1 H1 _ _ Q I1 rr q1
def EO(K:LO)(n:Nat)(t:uL):TG:=λv σ H Q=>∃a xs,v=.ref a/\Dq K H a xs/\xs.length=n/\t xs σ H Q
theorem Lf{es:List Expr}{k:Nat}{t:uL}{n:Nat}(hc:X.calm=true)(h:HU X es t)(hn:(assignEach es X.env).length=n:=by rfl)(hst:(assignEach es X.env).findIdx? (·.1)=none:=by rfl):PG X (.Tuple es k pos) (EO X.K n t):=by
 intro pins s σ H v u Q I r hw
 obtain⟨a,xs,e1,hq,hl,hw⟩:=hw
 subst e1
 cases r
 obtain⟨its,rv,ht,hz⟩:=I.tuple hq
 refine vC (I.calmS hc) ht (by simp[hn,<- hl,rv.length]) hst λh' hx=>?_
 have I1:Inv X pins σ H { s with heap:=h' }:=I.kept (t':=s.toks) λb o e=>hx b o (NF (MQ e)) e
 exact h pins _ σ H xs _ Q I1 (by simpa using rv) hw
def JM(to ti:TE)(t:AG):TG:=λv σ H Q=>to σ H λo H1=>ti σ H1 λi H2=>t o i v H2 λH3=>Q σ H3
theorem CI{o i:Expr}{to ti:TE}{t:AG}(ho:PE X o to)(hi:PE X i ti)(hs:FN X t)(ha:∀v,assign (.Subscript o i pos) X.env v=(do
  let ov <- holding [v] (RY o X.env)
  let iv <- holding [v,ov] (RY i X.env)
  standAt pos
  holding [v,ov,iv] (setItem ov iv v)
  release [v,ov,iv] []):=by intro _;rfl):PG X (.Subscript o i pos) (JM to ti t):=by
 intro pins s σ H v u Q I r h
 rw[ha]
 refine LL (PM (Bv (ho pins s σ H _ I h) λov s1 ⟨x,H1,I1,r1,q1⟩=>?_))
 refine LL (PM (Bv (hi pins s1 σ H1 _ I1 q1) λiv s2 ⟨y,H2,I2,r2,q2⟩=>?_))
 refine LL (UL (LL (PM (Bv (hs pins s2 σ H2 x y v ov iv u _ I2 r1 r2 r q2) λ_ s3 ⟨H3,I3,q3⟩=>?_))))
 exact wpAny_release ⟨σ,H3,I3,q3⟩
def eM(te:TE)(g:TG):TS:=λD σ H=>te σ H λx H1=>g x σ H1 D.nx
theorem CQ{tg e:Expr}{te:TE}{g:TG}(he:PE X e te)(hg:PG X tg g)(hs:swapsWithSole [tg] e pos.line X.env=pure false:=by rfl)(hw:swappedStores [tg] e X.env=pure none:=by rfl)(h1:(assignEach [tg] X.env).map (·.2)=[assign tg X.env]:=by rfl):PS X (.Assign [tg] e pos) (eM te g):=by
 intro pins s σ H D I h
 refine wpAny_Assign_stores (Bv (he pins s σ H _ I h) λv s1 ⟨x,H1,I1,r1,q1⟩=>?_) hs hw
 rw[h1]
 exact Bv (hg pins s1 σ H1 x v _ I1 r1 q1) λ_ s2 q=>q
theorem Lk{i:Nat}{x:Str}{e:Expr}{te:TE}{pos':Pos}(hN:X.N.Nodup)(hi:X.N[i]? = some x)(hx:Loc X.env.scope x)(he:PE X e te)(hs:swapsWith e (some (.Name x pos')) pos.line X.env=pure false:=by rfl)(hf:X.fn x=true∨X.env.scope.names.lookup x=some .local:=by first | exact .inl rfl | exact .inr rfl | assumption):
 PS X (.Assign [.Name x pos'] e pos) (eM te (Ly i)):=by
 intro pins s σ H D I h
 refine wpAny_Assign_Name (Bv (he pins s σ H _ I h) λv s1 ⟨y,H1,I1,r1,q1⟩=>?_) hs
 exact Qo I1 hN hi hx r1 (λs2 I2=>⟨_,H1,I2,q1⟩) hf
end
section
variable {X:Cx} {pos:Pos}
def BK(c:TT)(tb:TS):TS:=λD σ H=>∃W:Nat->St->Hp->Prop,(∃m,W m σ H)/\∀m σ H,W m σ H ->
 c σ H λb H1=>if b=true then ∃N:St->Hp->Prop,(∀σ' H',N σ' H'->∃m',m' < m/\W m' σ' H')/\tb { D with nx:=N,ct:=N,bk:=D.nx } σ H1 else D.nx σ H1
theorem Sq{c:Expr}{body:List RL}{tc:TT}{tb:TS}(hp:PassesOwn (NJ X.prog X.w) X.A X.env X.xe)(hc:PT X c tc)(hb:Ib X body tb):PS X (.While c body [] pos) (BK tc tb):=by
 intro pins s σ H D I h
 obtain⟨W,⟨m0,w0⟩,turn⟩:=h
 refine wpAny_While (codeAny_whileLoop (λn s'=>∃σ' H',Inv X pins σ' H' s'/\W n σ' H') ?_ m0 ⟨σ,H,I,w0⟩)
 rintro n s1 ⟨σ1,H1,I1,w1⟩
 refine TH hp (Bv (hc pins s1 σ1 H1 _ I1 (turn n σ1 H1 w1)) λb s2 ⟨H2,I2,q2⟩=>?_)
 cases b with
 | true=>
  obtain⟨N,hN,q2⟩:=q2
  rw[if_pos rfl]
  refine TH hp (Bv (hb pins s2 σ1 H2 _ I2 q2) λf s3 q3=>?_)
  cases f with
  | next=>
   obtain⟨σ3,H3,I3,n3⟩:=q3
   obtain⟨m',hm,w3⟩:=hN σ3 H3 n3
   exact⟨m',hm,σ3,H3,I3,w3⟩
  | cont=>
   obtain⟨σ3,H3,I3,n3⟩:=q3
   obtain⟨m',hm,w3⟩:=hN σ3 H3 n3
   exact⟨m',hm,σ3,H3,I3,w3⟩
  | brk=>exact q3
  | ret v=>exact q3
 | false=>
  rw[if_neg LY]
  exact UM ⟨σ1,H2,I2,q2⟩
end
structure It where
 go:Nat->Hp->Prop
 yld:Nat->Hp->V->Hp->Prop
 stop:Nat->Hp->Prop
def Dd(X:Cx)(pins:List (LZ×Obj))(H:Hp)(b:LZ):Prop:=
 H b=none/\b≠X.env.locals/\b∉X.fs/\(b∈X.ex∨X.s₀.heap.objs.size<=b)/\(∀x c,X.env.cells.lookup x=some c->c≠b)/\∀p∈X.pn++pins,p.1≠b
theorem Inv.fpOk{X:Cx}{pins:List (LZ×Obj)}{σ:St}{H H':Hp}{s:LV}{b:LZ}(I:Inv X pins σ H s)(hb:s.heap.objs.size<=b)(hn:H' b=none):Dd X pins H' b:=by
 refine⟨hn,RJ (NQ I.lt hb),I.nofs hb,.inr (NA I.sz hb),λx c e z=>?_,λp hp z=>?_⟩
 ·obtain⟨v,q⟩:=I.cell x c e
  exact absurd (NQ q.lt (by rw[z];exact hb)) (SH _)
 ·exact absurd (NQ (MQ (I.pin p hp).1) (by rw[z];exact hb)) (SH _)
structure Turn(P:MV)(w:NU)(K:LO)(tg:Expr)(J:It)(fp:List LZ)(it:LZ)(tn:Nat->OS->Prop):Prop where
 mem:it∈fp
 obj:∀i h,tn i h->∀b∈fp,∃o,h.get? b=some o/\∀v,o.data ≠ .cell v
 keep:∀i h h',tn i h->(∀b∈fp,∀o,h.get? b=some o->h'.get? b=some o)->tn i h'
 item:∀(X:Cx),X.prog=P->X.w=w->X.K=K->X.calm=true->∀(i:Nat)(pins:List (LZ×Obj))(s:LV)(σ:St)(H:Hp)(E:LP->LV->Prop),Inv X pins σ H s->(∀b∈fp,Dd X pins H b)->tn i s.heap->J.go i H ->
  ND (NJ P w) X.A (RI (.ref it)) (λr s1=>∃u,r=some u /\
   ND (NJ P w) X.A (letOwnedTupleGo tg (.ref it) u) (λ_ s2=>∃x H',Inv X pins σ H' s2/\RelV x u/\J.yld i H x H'/\tn (i+1) s2.heap/\∀b∈fp,H' b=none) E s1) E s
 done:∀(X:Cx),X.prog=P->X.w=w->X.K=K->X.calm=true->∀(i:Nat)(pins:List (LZ×Obj))(s:LV)(σ:St)(H:Hp)(E:LP->LV->Prop),Inv X pins σ H s->(∀b∈fp,Dd X pins H b)->tn i s.heap->J.stop i H ->
  ND (NJ P w) X.A (RI (.ref it)) (λr s1=>r=none/\Inv X pins σ H s1) E s
 self:∀(A:NV)(i:Nat)(s:LV)(Q:LP->LV->Prop)(E:LP->LV->Prop),tn i s.heap->Q (.ref it) s->ND (NJ P w) A (pyIter (.ref it)) Q E s
abbrev TI:=St->Hp->(It->Hp->Prop)->Prop
def JS(X:Cx)(pins:List (LZ×Obj))(σ:St)(tg:Expr)(R:It->Hp->Prop)(itv:LP)(s2:LV):Prop:=
 ∃(it:LZ)(fp:List LZ)(tn:Nat->OS->Prop)(J:It)(H':Hp),itv=.ref it/\Inv X pins σ H' s2/\Turn X.prog X.w X.K tg J fp it tn/\tn 0 s2.heap/\(∀b∈fp,Dd X pins H' b)/\R J H'
def PI(X:Cx)(tg iter:Expr)(wi:TI):Prop:=
 ∀(pins:List (LZ×Obj))(s:LV)(σ:St)(H:Hp)(R:It->Hp->Prop),Inv X pins σ H s->wi σ H R ->
  ND (NJ X.prog X.w) X.A (RY iter X.env) (λv s1=>ND (NJ X.prog X.w) X.A (pyIter v) (JS X pins σ tg R) X.xe s1) X.xe s
theorem Qr{M:Model}{A:NV}{E:LP->LV->Prop}{s:LV}{tg:Expr}{it:LZ}{u:LP}{o:Obj}{n:String}{vs:Array LP}{Q:Unit->LV->Prop}(ho:s.heap.get? it=some o)(hc:o.cls=.type n)(hd:o.data=.fields vs)(hn:["enumerate","zip","dict_itemiterator","dict_reverseitemiterator","odict_iterator","itertools.zip_longest","itertools.pairwise"].contains n=false)(hQ:Q () s):ND M A (letOwnedTupleGo tg (.ref it) u) Q E s:=by
  unfold letOwnedTupleGo
  cases tg<;>first
    | exact MI hQ
    | (cases u<;>first
        | exact MI hQ
        | (refine LL (wpAny_load ho ?_)
           rw[hc,hd]
           show ND M A (if (["enumerate","zip","dict_itemiterator","dict_reverseitemiterator","odict_iterator","itertools.zip_longest","itertools.pairwise"].contains n && vs[0]? == some (RP _))=true then _ else _) Q E s
           rw[if_neg (by intro h;rw[hn,OZ] at h;cases h)]
           exact MI hQ))
def BP(K:LO)(a:LZ):It:=
 ⟨λi H=>∃xs x,Av K H a xs/\xs[i]? = some x,λi H x H'=>H'=H/\∀xs,Av K H a xs->xs[i]? = some x,λi H=>∃xs,Av K H a xs/\xs.length<=i⟩
def JL(K:LO)(a:LZ):It:=
 ⟨λi H=>∃xs x,Dq K H a xs/\xs[i]? = some x,λi H x H'=>H'=H/\∀xs,Dq K H a xs->xs[i]? = some x,λi H=>∃xs,Dq K H a xs/\xs.length<=i⟩
def yZ(lo:Int)(n:Nat):It:=⟨λi _=>i < n,λi H x H'=>H'=H/\x=.int (lo+i),λi _=>n<=i⟩
theorem Oh{P:MV}{w:NU}{K:LO}{tg:Expr}(a it:LZ):Turn P w K tg (BP K a) [it] it (λi h=>h.IsListIter it a i) where
 mem:=by simp
 obj:=λi h st b hb=>by
  have e:b=it:=by simpa using hb
  subst e
  obtain⟨o,e,c,d⟩:=st
  exact⟨o,e,λv z=>by rw[d] at z;cases z⟩
 keep:=λi h h' st k=>st.at λo e=>k it (by simp) o e
 item:=by
  intro X hP hw hK hc i pins s σ H E I hf st hg
  subst hP hw hK
  obtain⟨xs,x,hq,hx⟩:=hg
  obtain⟨its,rv,p,hz⟩:=I.list hq
  obtain⟨u,hu,ru⟩:=rv.get hx
  obtain⟨f0,f1,f2,f3,f4,f5⟩:=hf it (by simp)
  refine UV st p.isList (x:=u) (by simpa using hu) λh' st' sb=>?_
  have I1:Inv X pins σ H { s with heap:=h' }:=I.turned (t':=s.toks) (λb o hb e=>(sb.2 b hb).trans e) f0 f1 f3 f4 f5
  obtain⟨o,e,c,d⟩:=id st'
  exact⟨u,rfl,Qr (s:={ s with heap:=h' }) e c d (by decide) ⟨x,H,I1,ru,⟨rfl,λys hy=>by rw[I.list_inj hy hq];exact hx⟩,st',λb hb=>(hf b hb).1⟩⟩
 done:=by
  intro X hP hw hK hc i pins s σ H E I hf st hg
  subst hP hw hK
  obtain⟨xs,hq,hx⟩:=hg
  obtain⟨its,rv,p,hz⟩:=I.list hq
  obtain⟨f0,f1,f2,f3,f4,f5⟩:=hf it (by simp)
  have hl:=rv.length
  exact jT (I.calmS hc) st p.isList (by simp;omega) λh' eb=>⟨rfl,I.turned (t':=s.toks) (λb o hb e=>eb b o hb e) f0 f1 f3 f4 f5⟩
 self:=λ_ _ _ _ _ st h=>wpAny_pyIter_listiter st h
theorem dQ{P:MV}{w:NU}{K:LO}{tg:Expr}(a it:LZ):Turn P w K tg (JL K a) [it] it (λi h=>h.IsTupleIter it a i) where
 mem:=by simp
 obj:=λi h st b hb=>by
  have e:b=it:=by simpa using hb
  subst e
  obtain⟨o,e,c,d⟩:=st
  exact⟨o,e,λv z=>by rw[d] at z;cases z⟩
 keep:=λi h h' st k=>st.at λo e=>k it (by simp) o e
 item:=by
  intro X hP hw hK hc i pins s σ H E I hf st hg
  subst hP hw hK
  obtain⟨xs,x,hq,hx⟩:=hg
  obtain⟨its,rv,p,hz⟩:=I.tuple hq
  obtain⟨u,hu,ru⟩:=rv.get hx
  obtain⟨f0,f1,f2,f3,f4,f5⟩:=hf it (by simp)
  refine wpAny_pyNext_tuple_item st (show s.heap.IsTuple a its.toArray from p) (x:=u) (by simpa using hu) λh' st' sb=>?_
  have I1:Inv X pins σ H { s with heap:=h' }:=I.turned (t':=s.toks) (λb o hb e=>(sb.2 b hb).trans e) f0 f1 f3 f4 f5
  obtain⟨o,e,c,d⟩:=id st'
  exact⟨u,rfl,Qr (s:={ s with heap:=h' }) e c d (by decide) ⟨x,H,I1,ru,⟨rfl,λys hy=>by rw[I.tuple_inj hy hq];exact hx⟩,st',λb hb=>(hf b hb).1⟩⟩
 done:=by
  intro X hP hw hK hc i pins s σ H E I hf st hg
  subst hP hw hK
  obtain⟨xs,hq,hx⟩:=hg
  obtain⟨its,rv,p,hz⟩:=I.tuple hq
  obtain⟨f0,f1,f2,f3,f4,f5⟩:=hf it (by simp)
  have hl:=rv.length
  exact tQ (I.calmS hc) st (show s.heap.IsTuple a its.toArray from p) (by simp;omega) λh' eb=>⟨rfl,I.turned (t':=s.toks) (λb o hb e=>eb b o hb e) f0 f1 f3 f4 f5⟩
 self:=λ_ _ _ _ _ st h=>wpAny_pyIter_tupleiter st h
theorem eU{P:MV}{w:NU}{K:LO}{tg:Expr}(it:LZ)(lo:Int)(n:Nat):Turn P w K tg (yZ lo n) [it] it (λi h=>IsRangeIter h it (lo+(i:Nat) * 1) ((n:Int)-(i:Nat)) 1) where
 mem:=by simp
 obj:=λi h st b hb=>by
  have e:b=it:=by simpa using hb
  subst e
  exact⟨_,st,λv z=>by
   have z':Data.fields _=Data.cell v:=z
   cases z'⟩
 keep:=λi h h' st k=>k it (by simp) _ st
 item:=by
  intro X hP hw hK hc i pins s σ H E I hf st hg
  subst hP hw hK
  obtain⟨f0,f1,f2,f3,f4,f5⟩:=hf it (by simp)
  have W0:True:=trivial
  refine Yl i s _ _ hg st λv h' tk hv st' kk=>?_
  obtain⟨t,rfl⟩:=hv
  have I1:Inv X pins σ H { s with heap:=h',toks:=tk }:=I.turned (λb o hb e=>kk b o (by simpa using hb) e) f0 f1 f3 f4 f5
  refine⟨_,rfl,Qr (s:={ s with heap:=h',toks:=tk }) (n := "range_iterator") st' rfl rfl (by decide) ⟨.int (lo+i),H,I1,⟨t,?_⟩,⟨rfl,rfl⟩,st',λb hb=>(hf b hb).1⟩⟩
  rw[Int.mul_one]
 done:=by
  intro X hP hw hK hc i pins s σ H E I hf st hg
  subst hP hw hK
  obtain⟨f0,f1,f2,f3,f4,f5⟩:=hf it (by simp)
  exact Zy (I.calmS hc) st (by have:n<=i:=hg;omega) λh' eb=>⟨rfl,I.turned (t':=s.toks) (λb o hb e=>eb b o hb e) f0 f1 f3 f4 f5⟩
 self:=λ_ _ _ _ _ st h=>wpAny_pyIter_rangeiter st h
section
variable {X:Cx} {tg:Expr}
def EB(K:LO)(tl:TE):TI:=λσ H R=>tl σ H λx H1=>∃a,x=.ref a/\(∃xs,Av K H1 a xs)/\R (BP K a) H1
def JK(K:LO)(tl:TE):TI:=λσ H R=>tl σ H λx H1=>∃a,x=.ref a/\(∃xs,Dq K H1 a xs)/\R (JL K a) H1
theorem Bz{l:Expr}{tl:TE}(hl:PE X l tl):PI X tg l (EB X.K tl):=by
 intro pins s σ H R I h
 refine Bv (hl pins s σ H _ I h) λv s1 ⟨x,H1,I1,r1,q1⟩=>?_
 obtain⟨a,e,⟨xs,hq⟩,q⟩:=q1
 subst e
 cases r1
 obtain⟨its,rv,p,hz⟩:=I1.list hq
 refine SM p.isList ?_
 refine⟨s1.heap.objs.size,[s1.heap.objs.size],_,_,H1,rfl,I1.kept (t':=s1.toks) λb o e=>LQ _ e,Oh a _,⟨_,MS _ rfl,rfl,rfl⟩,λb hb=>?_,q⟩
 have e:b=s1.heap.objs.size:=by simpa using hb
 subst e
 exact I1.fpOk (MC _) (I1.hok.fresh (MC _))
theorem DG{l:Expr}{tl:TE}(hl:PE X l tl):PI X tg l (JK X.K tl):=by
 intro pins s σ H R I h
 refine Bv (hl pins s σ H _ I h) λv s1 ⟨x,H1,I1,r1,q1⟩=>?_
 obtain⟨a,e,⟨xs,hq⟩,q⟩:=q1
 subst e
 cases r1
 obtain⟨its,rv,p,hz⟩:=I1.tuple hq
 refine wpAny_pyIter_tuple (show s1.heap.IsTuple a its.toArray from p) ?_
 refine⟨s1.heap.objs.size,[s1.heap.objs.size],_,_,H1,rfl,I1.kept (t':=s1.toks) λb o e=>LQ _ e,dQ a _,⟨_,MS _ rfl,rfl,rfl⟩,λb hb=>?_,q⟩
 have e:b=s1.heap.objs.size:=by simpa using hb
 subst e
 exact I1.fpOk (MC _) (I1.hok.fresh (MC _))
theorem qZ{pins:List (LZ×Obj)}{σ:St}{H:Hp}{s:LV}{R:It->Hp->Prop}{E:LP->LV->Prop}{lo hi:Int}{t u v:Tok}{tk:Nat}(I:Inv X pins σ H s)(h1 : -(2 ^ 62)<=lo)(h2:lo < 2 ^ 62)(h3 : -(2 ^ 62)<=hi)(h4:hi < 2 ^ 62)(q:R (yZ lo (hi-lo).toNat) H):ND (NJ X.prog X.w) X.A (pyIter (.ref s.heap.objs.size)) (JS X pins σ tg R) E { s with heap:=s.heap.push { cls:=.type "range", data:=.fields #[.int lo t,.int hi u,.int 1 v] },toks:=tk }:=by
 refine wpAny_pyIter_range (IsRange.new ..) (small_one h1 h2 h3 h4) ?_
 have I1:Inv X pins σ H { s with heap:=s.heap.push { cls:=.type "range", data:=.fields #[.int lo t,.int hi u,.int 1 v] },toks:=tk }:=I.kept λb o e=>LQ _ e
 refine⟨(s.heap.push { cls:=.type "range", data:=.fields #[.int lo t,.int hi u,.int 1 v] }).objs.size,[(s.heap.push { cls:=.type "range", data:=.fields #[.int lo t,.int hi u,.int 1 v] }).objs.size],_,_,H,rfl,
  I1.kept (t':=tk) λb o e=>LQ _ e,eU _ lo (hi-lo).toNat,?_,λb hb=>?_,q⟩
 ·have e1:lo+((0:Nat):Int) * 1=lo:=by simp
  have e2:(((hi-lo).toNat:Nat):Int)-((0:Nat):Int)=UT lo hi 1:=by rw[rangeSize_one];split<;>omega
  show IsRangeIter _ _ (lo+((0:Nat):Int) * 1) ((((hi-lo).toNat:Nat):Int)-((0:Nat):Int)) 1
  rw[e1,e2]
  exact MS _ rfl
 ·have e:b=(s.heap.push { cls:=.type "range", data:=.fields #[.int lo t,.int hi u,.int 1 v] }).objs.size:=by simpa using hb
  subst e
  exact I1.fpOk (MC _) (I1.hok.fresh (MC _))
def FG(ta:TA):TI:=λσ H R=>ta σ H λvs H1=>∃j:Int,vs=[.int j] /\ -(2 ^ 62)<=j/\j < 2 ^ 62/\R (yZ 0 j.toNat) H1
theorem Ol{a:Expr}{ta:TA}{p pos:Pos}(hg:Gl X "range")(hm:X.mg "range" = none)(ha:PA X [a] ta)(hs:NH [a] X.env=[(false,RY a X.env)]:=by rfl):PI X tg (.Call (.Name "range" p) [a] [] pos) (FG ta):=by
 intro pins s σ H R I h
 refine Call_ (Il I hg hm boot_range (QL (Bv (ha pos pins s σ H _ I h) λus s1 ⟨vs,H1,I1,r1,q1⟩=>?_) hs rfl))
 obtain⟨j,e,q1,q2,q⟩:=q1
 subst e
 cases r1 with
 | cons r rr=>
  cases rr
  obtain⟨t,rfl⟩:=r
  exact call_range_1 (qZ I1 (by omega) (by omega) q1 q2 (by simpa using q))
def IH(wi:TI)(g:TG)(tb:TS):TS:=λD σ H=>wi σ H λJ H1=>∃W:Nat->Nat->St->Hp->Prop,(∃m,W 0 m σ H1)/\∀i m σ H,W i m σ H ->
 (J.stop i H/\D.nx σ H)∨(J.go i H/\∃N:St->Hp->Prop,(∀σ' H',N σ' H'->∃m',m' < m/\W (i+1) m' σ' H')/\∀x H',J.yld i H x H'->g x σ H' λσ2 H2=>tb { D with nx:=N,ct:=N,bk:=D.nx } σ2 H2)
def Vy(fp:List LZ)(h:OS):List (LZ×Obj):=fp.filterMap λb=>(h.get? b).map λo=>(b,o)
theorem Fc{fp:List LZ}{h:OS}{b:LZ}{o:Obj}(hb:b∈fp)(e:h.get? b=some o):(b,o)∈Vy fp h:=List.mem_filterMap.mpr ⟨b,hb,by rw[e];rfl⟩
theorem kX{fp:List LZ}{h:OS}{p:LZ×Obj}(hp:p∈Vy fp h):p.1∈fp/\h.get? p.1=some p.2:=by
 obtain⟨b,hb,e⟩:=List.mem_filterMap.mp hp
 cases q:h.get? b with
 | none=>rw[q] at e;cases e
 | some o=>
  rw[q] at e
  have e':(b,o)=p:=MZ e
  subst e'
  exact⟨hb,q⟩
theorem Inv.pinned{pins:List (LZ×Obj)}{σ:St}{H:Hp}{s:LV}{fp:List LZ}(I:Inv X pins σ H s)(hf:∀b∈fp,Dd X pins H b)(ho:∀b∈fp,∃o,s.heap.get? b=some o/\∀v,o.data ≠ .cell v):Inv X (pins++Vy fp s.heap) σ H s:=
 I.pins_of λp hp=>(MJ.mp hp).elim (λz=>I.pin p (MP _ z)) λz=>by
  obtain⟨hb,e⟩:=kX z
  obtain⟨f0,f1,f2,_⟩:=hf p.1 hb
  obtain⟨o,e',d⟩:=ho p.1 hb
  rw[e] at e';cases e'
  exact⟨e,f0,f1,f2,d⟩
theorem Inv.unpinned{pins pl:List (LZ×Obj)}{σ:St}{H:Hp}{s:LV}(I:Inv X (pins++pl) σ H s):Inv X pins σ H s:=I.pins_of λp hp=>I.pin p (MP _ (QA _ hp))
theorem Gp{iter:Expr}{body:List RL}{wi:TI}{g:TG}{tb:TS}{pos:Pos}(hp:PassesOwn (NJ X.prog X.w) X.A X.env X.xe)(hc:X.calm=true)(hi:PI X tg iter wi)(hg:PG X tg g)(hb:Ib X body tb)(hs:∀x,foldedSetIterable iter X.env x=pure x:=by intro _;rfl):PS X (.For tg iter body [] pos) (IH wi g tb):=by
 intro pins s σ H D I h
 refine wpAny_For (Bv (hi pins s σ H _ I h) λv s1 h1=>Bv h1 λitv s2 h2=>?_) hs
 obtain⟨it,fp,tn,J,H2,e,I2,T,st2,f2,W,⟨m0,w0⟩,turn⟩:=h2
 subst e
 -- what stays true of the iterator's objects through the loop
 have stat:∀ {H':Hp},(∀b∈fp,H' b=none)->∀b∈fp,Dd X pins H' b:=λhn b hb=>⟨hn b hb,(f2 b hb).2⟩
 refine codeAny_forLoop_any (λn s'=>∃i σ' H',Inv X pins σ' H' s'/\tn i s'.heap/\(∀b∈fp,H' b=none)/\W i n σ' H') ?_ m0 ⟨0,σ,H2,I2,st2,λb hb=>(f2 b hb).1,w0⟩
 rintro n s3 ⟨i,σ3,H3,I3,st3,fr3,w3⟩
 rcases turn i n σ3 H3 w3 with ⟨stop,qn⟩ | ⟨go,N,hN,step⟩
 ·refine TH hp (Bv (T.done X rfl rfl rfl hc i pins s3 σ3 H3 X.xe I3 (stat fr3) st3 stop) λr s4 ⟨hr,I4⟩=>?_)
  subst hr
  exact UM ⟨σ3,H3,I4,qn⟩
 ·refine TH hp (Bv (T.item X rfl rfl rfl hc i pins s3 σ3 H3 X.xe I3 (stat fr3) st3 go) λr s4 ⟨u,hr,h4⟩=>?_)
  subst hr
  refine TH hp (Bv h4 λ_ s5 ⟨x,H5,I5,r5,y5,st5,fr5⟩=>?_)
  have I5':=I5.pinned (stat fr5) (T.obj _ _ st5)
  refine TH hp (Bv (hg _ s5 σ3 H5 x u _ I5' r5 (step x H5 y5)) λ_ s6 ⟨σ6,H6,I6,q6⟩=>?_)
  refine TH hp (Bv (hb _ s6 σ6 H6 _ I6 q6) λf s7 q7=>?_)
  have again:∀ {σ7:St} {H7:Hp},Inv X (pins++Vy fp s5.heap) σ7 H7 s7->N σ7 H7->∃m,m < n/\∃i σ' H',Inv X pins σ' H' s7/\tn i s7.heap/\(∀b∈fp,H' b=none)/\W i m σ' H':=λ{σ7 H7} I7 n7=>by
   obtain⟨m',hm,w7⟩:=hN σ7 H7 n7
   refine⟨m',hm,i+1,σ7,H7,I7.unpinned,T.keep _ _ _ st5 λb hb o e=>(I7.pin (b,o) (MP _ (MP _ (Fc hb e)))).1,λb hb=>?_,w7⟩
   obtain⟨o,e,d⟩:=T.obj _ _ st5 b hb
   exact(I7.pin (b,o) (MP _ (MP _ (Fc hb e)))).2.1
  cases f with
  | next=>obtain⟨σ7,H7,I7,n7⟩:=q7;exact again I7 n7
  | cont=>obtain⟨σ7,H7,I7,n7⟩:=q7;exact again I7 n7
  | brk=>obtain⟨σ7,H7,I7,q7⟩:=q7;exact⟨σ7,H7,I7.unpinned,q7⟩
  | ret v=>obtain⟨x7,σ7,H7,I7,r7,q7⟩:=q7;exact⟨x7,σ7,H7,I7.unpinned,r7,q7⟩
end
theorem Jk{K:LO}{a:LZ}{xs:List V}{g:TG}{tb:TS}{D:Ends}{σ:St}{H:Hp}(Pv:Nat->St->Hp->Prop)(h0:Pv 0 σ H)(hl:∀i σ H,i<=xs.length->Pv i σ H->Av K H a xs)(hs:∀i x σ H,xs[i]? = some x->Pv i σ H->g x σ H λσ2 H2=>tb { D with nx:=Pv (i+1),ct:=Pv (i+1),bk:=D.nx } σ2 H2)(hd:∀σ H,Pv xs.length σ H->D.nx σ H):
 ∃W:Nat->Nat->St->Hp->Prop,(∃m,W 0 m σ H)/\∀i m σ H,W i m σ H ->
  ((BP K a).stop i H/\D.nx σ H)∨((BP K a).go i H/\∃N:St->Hp->Prop,(∀σ' H',N σ' H'->∃m',m' < m/\W (i+1) m' σ' H')/\∀x H',(BP K a).yld i H x H'->g x σ H' λσ2 H2=>tb { D with nx:=N,ct:=N,bk:=D.nx } σ2 H2):=by
 refine⟨λi m σ H=>m=xs.length-i/\i<=xs.length/\Pv i σ H,⟨xs.length,by simp,NI _,h0⟩,?_⟩
 rintro i m σ H ⟨rfl,hi,p⟩
 have q:=hl i σ H hi p
 by_cases hlt:i < xs.length
 ·refine .inr ⟨⟨xs,xs[i],q,by simp[hlt]⟩,Pv (i+1),λσ' H' p'=>⟨xs.length-(i+1),by omega,rfl,hlt,p'⟩,λx H' y=>?_⟩
  obtain⟨e,y⟩:=y
  subst e
  exact hs i x σ _ (y xs q) p
 ·have e:i=xs.length:=by omega
  subst e
  exact .inl ⟨⟨xs,q,MC _⟩,hd σ H p⟩
theorem nN{lo:Int}{n:Nat}{g:TG}{tb:TS}{D:Ends}{σ:St}{H:Hp}(Pv:Nat->St->Hp->Prop)(h0:Pv 0 σ H)(hs:∀i σ H,i < n->Pv i σ H->g (.int (lo+i)) σ H λσ2 H2=>tb { D with nx:=Pv (i+1),ct:=Pv (i+1),bk:=D.nx } σ2 H2)(hd:∀σ H,Pv n σ H->D.nx σ H):
 ∃W:Nat->Nat->St->Hp->Prop,(∃m,W 0 m σ H)/\∀i m σ H,W i m σ H ->
  ((yZ lo n).stop i H/\D.nx σ H)∨((yZ lo n).go i H/\∃N:St->Hp->Prop,(∀σ' H',N σ' H'->∃m',m' < m/\W (i+1) m' σ' H')/\∀x H',(yZ lo n).yld i H x H'->g x σ H' λσ2 H2=>tb { D with nx:=N,ct:=N,bk:=D.nx } σ2 H2):=by
 refine⟨λi m σ H=>m=n-i/\i<=n/\Pv i σ H,⟨n,by simp,NI _,h0⟩,?_⟩
 rintro i m σ H ⟨rfl,hi,p⟩
 by_cases hlt:i < n
 ·refine .inr ⟨hlt,Pv (i+1),λσ' H' p'=>⟨n-(i+1),by omega,rfl,hlt,p'⟩,λx H' y=>?_⟩
  obtain⟨e,y⟩:=y
  subst e y
  exact hs i σ _ hlt p
 ·have e:i=n:=by omega
  subst e
  exact .inl ⟨MC _,hd σ H p⟩
abbrev R2:=V->V->Hp->VK->Prop
def Mr(X:Cx)(f:LP->LP->Sem LP)(r:R2):Prop:=
 ∀(pins:List (LZ×Obj))(s:LV)(σ:St)(H:Hp)(x y:V)(v u:LP)(Q:VK),Inv X pins σ H s->RelV x v->RelV y u->r x y H Q ->
  ND (NJ X.prog X.w) X.A (f v u) (EP X pins σ Q) X.xe s
def IT(X:Cx)(f:LP->Sem LP)(r:V->Hp->VK->Prop):Prop:=
 ∀(pins:List (LZ×Obj))(s:LV)(σ:St)(H:Hp)(x:V)(v:LP)(Q:VK),Inv X pins σ H s->RelV x v->r x H Q ->
  ND (NJ X.prog X.w) X.A (f v) (EP X pins σ Q) X.xe s
def Fs(X:Cx)(f:LP)(r:List V->Hp->VK->Prop):Prop:=
 ∀(pins:List (LZ×Obj))(s:LV)(σ:St)(H:Hp)(xs:List V)(us:List LP)(Q:VK),Inv X pins σ H s->Vals xs us->r xs H Q ->
  ND (NJ X.prog X.w) X.A (call f us) (EP X pins σ Q) X.xe s
def IQ(X:Cx)(r:V->Hp->(Bool->Hp->Prop)->Prop):Prop:=
 ∀(pins:List (LZ×Obj))(s:LV)(σ:St)(H:Hp)(x:V)(v:LP)(Q:Bool->Hp->Prop),Inv X pins σ H s->RelV x v->r x H Q ->
  ND (NJ X.prog X.w) X.A (truthy v) (TP X pins σ Q) X.xe s
def HY(r:R2)(ta tb:TE):TE:=λσ H Q=>ta σ H λx H1=>tb σ H1 λy H2=>r x y H2 Q
def KZ(r:V->Hp->VK->Prop)(ta:TE):TE:=λσ H Q=>ta σ H λx H1=>r x H1 Q
def rI(C:Int->Int->Prop)(g:Int->Int->V):R2:=λx y H Q=>∃i j,x=.int i/\y=.int j/\C i j/\Q (g i j) H
def BS(g:Int->Int->V):R2:=λx y H Q=>∃i j,x=.int i/\y=.int j/\Q (g i j) H
def rU(g:Int->V):V->Hp->VK->Prop:=λx H Q=>∃i,x=.int i/\Q (g i) H
section
variable {X:Cx} {a b c:Expr} {ta tb tc:TE} {pos:Pos}
theorem AE(ha:PE X a ta)(hb:PE X b tb){pins:List (LZ×Obj)}{s:LV}{σ:St}{H:Hp}{R:V->V->Hp->Prop}(I:Inv X pins σ H s)(h:ta σ H λx H1=>tb σ H1 λy H2=>R x y H2){Q:LP->LV->Prop}{f:LP->LP->Sem LP}(hf:∀v u s2 x y H2,Inv X pins σ H2 s2->RelV x v->RelV y u->R x y H2->ND (NJ X.prog X.w) X.A (f v u) Q X.xe s2):
 ND (NJ X.prog X.w) X.A (RY a X.env) (λv s₁=>ND (NJ X.prog X.w) X.A (RY b X.env) (λu s₂=>ND (NJ X.prog X.w) X.A (f v u) Q X.xe s₂) X.xe s₁) X.xe s:=by
 refine Bv (ha pins s σ H _ I h) λv s1 ⟨x,H1,I1,r1,q1⟩=>?_
 refine Bv (hb pins s1 σ H1 _ I1 q1) λu s2 ⟨y,H2,I2,r2,q2⟩=>?_
 exact hf v u s2 x y H2 I2 r1 r2 q2
theorem Am{op:Operator}{r:R2}(ho:Mr X (binaryOp op) r)(ha:PE X a ta)(hb:PE X b tb):PE X (.BinOp a op b pos) (HY r ta tb):=by
 intro pins s σ H Q I h
 exact wpAny_BinOp (AE ha hb I h λv u s2 x y H2 I2 rx ry q=>ho pins s2 σ H2 x y v u Q I2 rx ry q)
theorem Oz{op:UnaryOp}{r:V->Hp->VK->Prop}(ho:IT X (unaryOp op) r)(ha:PE X a ta):PE X (.UnaryOp op a pos) (KZ r ta):=by
 intro pins s σ H Q I h
 exact UnaryOp_ (Bv (ha pins s σ H _ I h) λv s1 ⟨x,H1,I1,r1,q1⟩=>ho pins s1 σ H1 x v Q I1 r1 q1)
theorem HV{f:LP->LP->Sem LP}{C:Int->Int->Prop}{g:Int->Int->Int}(rule:∀(i j:Int)(t u:Tok)(s:LV)(Q:LP->LV->Prop)(E:LP->LV->Prop),C i j->Q (.int (g i j) s.toks) { s with toks:=s.toks+1 }->ND (NJ X.prog X.w) X.A (f (.int i t) (.int j u)) Q E s):
 Mr X f (rI C λi j=>.int (g i j)):=by
 intro pins s σ H x y v u Q I rx ry h
 obtain⟨i,j,rfl,rfl,hc,q⟩:=h
 obtain⟨t,rfl⟩:=rx
 obtain⟨t',rfl⟩:=ry
 exact rule i j t t' s _ _ hc ⟨.int (g i j),H,I.tok _,⟨_,rfl⟩,q⟩
theorem FP{f:LP->LP->Sem LP}{g:Int->Int->Int}(rule:∀(i j:Int)(t u:Tok)(s:LV)(Q:LP->LV->Prop)(E:LP->LV->Prop),Q (.int (g i j) s.toks) { s with toks:=s.toks+1 }->ND (NJ X.prog X.w) X.A (f (.int i t) (.int j u)) Q E s):
 Mr X f (BS λi j=>.int (g i j)):=by
 intro pins s σ H x y v u Q I rx ry h
 obtain⟨i,j,rfl,rfl,q⟩:=h
 obtain⟨t,rfl⟩:=rx
 obtain⟨t',rfl⟩:=ry
 exact rule i j t t' s _ _ ⟨.int (g i j),H,I.tok _,⟨_,rfl⟩,q⟩
theorem BZ{f:LP->LP->Sem LP}{g:Int->Int->Bool}(rule:∀(i j:Int)(t u:Tok)(s:LV)(Q:LP->LV->Prop)(E:LP->LV->Prop),Q (.bool (g i j)) s->ND (NJ X.prog X.w) X.A (f (.int i t) (.int j u)) Q E s):
 Mr X f (BS λi j=>.bl (g i j)):=by
 intro pins s σ H x y v u Q I rx ry h
 obtain⟨i,j,rfl,rfl,q⟩:=h
 obtain⟨t,rfl⟩:=rx
 obtain⟨t',rfl⟩:=ry
 exact rule i j t t' s _ _ ⟨.bl (g i j),H,I,rfl,q⟩
def JT(i j:Int):Prop:=0 < j/\j < 1073741824
def KC(i j:Int):Prop:=0<=j/\j<=1000000/\i.natAbs < 2 ^ 64
def BU(i j:Int):Prop:=(-(2 ^ 64) < i/\i < 2 ^ 64)∨(-(2 ^ 64) < j/\j < 2 ^ 64)
theorem BU.ok{i j:Int}(h:BU i j):IntMulOk i j:=by
 rcases h with ⟨h1,h2⟩ | ⟨h1,h2⟩
 ·exact .of_left (intBits_le_64 h1 h2)
 ·exact .of_right (intBits_le_64 h1 h2)
theorem En:Mr X (binaryOp .Add) (BS λi j=>.int (i+j)):=FP λ_ _ _ _ _ _ _ q=>add_int q
theorem Ws:Mr X (binaryOp .Sub) (BS λi j=>.int (i-j)):=FP λ_ _ _ _ _ _ _ q=>sub_int q
theorem Lg:Mr X (binaryOp .Mult) (rI BU λi j=>.int (i * j)):=HV λ_ _ _ _ _ _ _ hc q=>mul_int q hc.ok
theorem Eh:Mr X (binaryOp .FloorDiv) (rI JT λi j=>.int (i / j)):=HV λi j _ _ _ _ _ hc q=>by
 have h1:(0:Int) < j:=hc.1
 have h2:j < 1073741824:=hc.2
 exact floordiv_int (by omega) (by rw[Int.fdiv_eq_ediv_of_nonneg i (by omega)];exact q) (.inl (PyProof.noPylong_small (by omega)))
theorem Cb:Mr X (binaryOp .Mod) (rI (λ_ j=>0 < j) λi j=>.int (i % j)):=HV λi j _ _ _ _ _ hc q=>by
 have h1:(0:Int) < j:=hc
 exact mod_int' (by omega) (by rw[Int.fmod_eq_emod_of_nonneg i (by omega)];exact q)
theorem Rj:Mr X (binaryOp .Pow) (rI KC λi j=>.int (i ^ j.toNat)):=HV λ_ _ _ _ _ _ _ hc q=>pow_int_small hc.1 hc.2.1 hc.2.2 q
theorem LF{f:LP->Sem LP}{g:Int->Int}(rule:∀(i:Int)(t:Tok)(s:LV)(Q:LP->LV->Prop)(E:LP->LV->Prop),Q (.int (g i) s.toks) { s with toks:=s.toks+1 }->ND (NJ X.prog X.w) X.A (f (.int i t)) Q E s):
 IT X f (rU λi=>.int (g i)):=by
 intro pins s σ H x v Q I rx h
 obtain⟨i,rfl,q⟩:=h
 obtain⟨t,rfl⟩:=rx
 exact rule i t s _ _ ⟨.int (g i),H,I.tok _,⟨_,rfl⟩,q⟩
theorem Jr:IT X (unaryOp .USub) (rU λi=>.int (-i)):=LF λ_ _ _ _ _ q=>neg_int q
end
def FQ:V->V->Bool
 | .non,.non=>true | .non,.int _=>true | .int _,.non=>true | .non,.bl _=>true | .bl _,.non=>true | .non,.str _=>true | .str _,.non=>true
 | .int _,.int _=>true | .bl _,.bl _=>true | .str _,.str _=>true | .byt _,.byt _=>true
 | .int _,.str _=>true | .str _,.int _=>true | .bl _,.str _=>true | .str _,.bl _=>true
 | _,_=>false
def LC:R2:=λx y H Q=>FQ x y=true/\Q (.bl (decide (x=y))) H
def LJ:R2:=λx y H Q=>FQ x y=true/\Q (.bl (!decide (x=y))) H
theorem jW{i j:Int}:decide (V.int i=V.int j)=(i == j):=by
 rw[Bool.eq_iff_iff]
 simp
theorem qR{i j:Bool}:decide (V.bl i=V.bl j)=(i == j):=by
 rw[Bool.eq_iff_iff]
 simp
theorem iV{i j:Str}:decide (V.str i=V.str j)=(i == j):=by
 rw[Bool.eq_iff_iff]
 simp
theorem jM{i j:Array UInt8}:decide (V.byt i=V.byt j)=(i.toList == j.toList):=by
 rw[Bool.eq_iff_iff]
 cases i
 cases j
 simp
section
variable {X:Cx} {a b c:Expr} {ta tb tc:TE} {pos:Pos}
theorem Bt{pins:List (LZ×Obj)}{σ:St}{H:Hp}{s:LV}{Q:VK}{k k':Bool}(I:Inv X pins σ H s)(q:Q (.bl k) H)(e:k=k'):EP X pins σ Q (.bool k') s:=by
 subst e
 exact⟨.bl k,H,I,rfl,q⟩
theorem Cf:Mr X (QW .Eq) LC:=by
 intro pins s σ H x y v u Q I rx ry h
 obtain⟨hs,q⟩:=h
 cases x with
 | non=>
  cases rx
  cases y with
  | non=>cases ry;exact PySem.EqNone.eq_none_none (Bt I q (by simp))
  | bl j=>cases ry;exact PySem.EqNone.eq_none_bool (Bt I q (by simp))
  | int j=>obtain⟨t',rfl⟩:=ry;exact PySem.EqNone.eq_none_int (Bt I q (by simp))
  | str j=>obtain⟨t',rfl⟩:=ry;exact PySem.EqNone.eq_none_str (Bt I q (by simp))
  | _=>exact absurd (show false=true from hs) LY
 | bl i=>
  cases rx
  cases y with
  | non=>cases ry;exact PySem.EqNone.eq_bool_none (Bt I q (by simp))
  | bl j=>cases ry;exact eq_bool (Bt I q qR)
  | str j=>obtain⟨t',rfl⟩:=ry;exact PySem.EqMixed.eq_bool_str (Bt I q (by simp))
  | _=>exact absurd (show false=true from hs) LY
 | int i=>
  obtain⟨t,rfl⟩:=rx
  cases y with
  | non=>cases ry;exact PySem.EqNone.eq_int_none (Bt I q (by simp))
  | int j=>obtain⟨t',rfl⟩:=ry;exact eq_int (Bt I q jW)
  | str j=>obtain⟨t',rfl⟩:=ry;exact PySem.EqMixed.eq_int_str (Bt I q (by simp))
  | _=>exact absurd (show false=true from hs) LY
 | str i=>
  obtain⟨t,rfl⟩:=rx
  cases y with
  | non=>cases ry;exact PySem.EqNone.eq_str_none (Bt I q (by simp))
  | bl j=>cases ry;exact PySem.EqMixed.eq_str_bool (Bt I q (by simp))
  | int j=>obtain⟨t',rfl⟩:=ry;exact PySem.EqMixed.eq_str_int (Bt I q (by simp))
  | str j=>obtain⟨t',rfl⟩:=ry;exact eq_str (Bt I q iV)
  | _=>exact absurd (show false=true from hs) LY
 | byt i=>
  obtain⟨t,rfl⟩:=rx
  cases y with
  | byt j=>obtain⟨t',rfl⟩:=ry;exact PySem.W.eq_bytes (Bt I q jM)
  | _=>exact absurd (show false=true from hs) LY
 | _=>cases y<;>exact absurd (show false=true from hs) LY
theorem Kx:Mr X (QW .NotEq) LJ:=by
 intro pins s σ H x y v u Q I rx ry h
 obtain⟨hs,q⟩:=h
 cases x with
 | non=>
  cases rx
  cases y with
  | non=>cases ry;exact PySem.EqNone.ne_none_none (Bt I q (by simp))
  | bl j=>cases ry;exact PySem.EqNone.ne_none_bool (Bt I q (by simp))
  | int j=>obtain⟨t',rfl⟩:=ry;exact PySem.EqNone.ne_none_int (Bt I q (by simp))
  | str j=>obtain⟨t',rfl⟩:=ry;exact PySem.EqNone.ne_none_str (Bt I q (by simp))
  | _=>exact absurd (show false=true from hs) LY
 | bl i=>
  cases rx
  cases y with
  | non=>cases ry;exact PySem.EqNone.ne_bool_none (Bt I q (by simp))
  | bl j=>cases ry;exact ne_bool (Bt I q (congrArg not qR))
  | str j=>obtain⟨t',rfl⟩:=ry;exact PySem.EqMixed.ne_bool_str (Bt I q (by simp))
  | _=>exact absurd (show false=true from hs) LY
 | int i=>
  obtain⟨t,rfl⟩:=rx
  cases y with
  | non=>cases ry;exact PySem.EqNone.ne_int_none (Bt I q (by simp))
  | int j=>obtain⟨t',rfl⟩:=ry;exact ne_int (Bt I q (congrArg not jW))
  | str j=>obtain⟨t',rfl⟩:=ry;exact PySem.EqMixed.ne_int_str (Bt I q (by simp))
  | _=>exact absurd (show false=true from hs) LY
 | str i=>
  obtain⟨t,rfl⟩:=rx
  cases y with
  | non=>cases ry;exact PySem.EqNone.ne_str_none (Bt I q (by simp))
  | bl j=>cases ry;exact PySem.EqMixed.ne_str_bool (Bt I q (by simp))
  | int j=>obtain⟨t',rfl⟩:=ry;exact PySem.EqMixed.ne_str_int (Bt I q (by simp))
  | str j=>obtain⟨t',rfl⟩:=ry;exact ne_str (Bt I q (congrArg not iV))
  | _=>exact absurd (show false=true from hs) LY
 | byt i=>
  obtain⟨t,rfl⟩:=rx
  cases y with
  | byt j=>obtain⟨t',rfl⟩:=ry;exact PySem.W.ne_bytes (Bt I q (congrArg not jM))
  | _=>exact absurd (show false=true from hs) LY
 | _=>cases y<;>exact absurd (show false=true from hs) LY
theorem Ph:Mr X (QW .Lt) (BS λi j=>.bl (decide (i < j))):=BZ λ_ _ _ _ _ _ _ q=>lt_int q
theorem Sg:Mr X (QW .LtE) (BS λi j=>.bl (decide (i<=j))):=BZ λ_ _ _ _ _ _ _ q=>le_int q
theorem GD:Mr X (QW .Gt) (BS λi j=>.bl (decide (j < i))):=BZ λ_ _ _ _ _ _ _ q=>gt_int q
theorem lT:Mr X (QW .In) (λx y H Q=>∃i j,x=.str i/\y=.str j/\Q (.bl (!(Builtin.Str.occurrences j i 0 j.length 1).isEmpty)) H):=by
 intro pins s σ H x y v u Q I rx ry h
 obtain⟨i,j,rfl,rfl,q⟩:=h
 obtain⟨t,rfl⟩:=rx
 obtain⟨t',rfl⟩:=ry
 exact in_str (Bt I q rfl)
theorem Aw(b:Expr){op:CmpOp}(h:op ≠ .In:=by decide)(h2:op ≠ .NotIn:=by decide):UO op b=false:=by
 have e1:(op == CmpOp.In)=false:=by cases op<;>first | rfl | exact absurd rfl h
 have e2:(op == CmpOp.NotIn)=false:=by cases op<;>first | rfl | exact absurd rfl h2
 cases b<;>simp[UO,e1,e2]
theorem Ko{op:CmpOp}{r:R2}(ho:Mr X (QW op) r)(ha:PE X a ta)(hb:PE X b tb)(hm:UO op b=false):PE X (.Compare a [op] [b] pos) (HY r ta tb):=by
 intro pins s σ H Q I h
 exact wpAny_Compare1 (AE ha hb I h λv u s2 x y H2 I2 rx ry q=>ho pins s2 σ H2 x y v u Q I2 rx ry q) hm
def zI(t:TE):TT:=λσ H Q=>t σ H λx H'=>∃k,x=.bl k/\Q k H'
theorem Ao{op:CmpOp}{r:R2}(ho:Mr X (QW op) r)(ha:PE X a ta)(hb:PE X b tb)(hm:UO op b=false):PT X (.Compare a [op] [b] pos) (zI (HY r ta tb)):=by
 intro pins s σ H Q I h
 refine wpAny_isTrue_Compare1 (Bv (ha pins s σ H _ I h) λv s1 ⟨x,H1,I1,r1,q1⟩=>Bv (hb pins s1 σ H1 _ I1 q1) λu s2 ⟨y,H2,I2,r2,q2⟩=>
  Bv (ho pins s2 σ H2 x y v u _ I2 r1 r2 q2) λc s3 ⟨z,H3,I3,r3,k,e,q3⟩=>?_) hm
 subst e
 cases r3
 exact QJ ⟨H3,I3,q3⟩
def rL(r r':R2)(ta tb tc:TE):TE:=λσ H Q=>ta σ H λx H1=>tb σ H1 λy H2=>r x y H2 λz H3=>∃k,z=.bl k /\
 (if k=true then tc σ H3 λw' H4=>r' y w' H4 Q else Q (.bl false) H3)
theorem Lz{op op':CmpOp}{r r':R2}(ho:Mr X (QW op) r)(ho':Mr X (QW op') r')(ha:PE X a ta)(hb:PE X b tb)(hc:PE X c tc)(hm:lastMarks [op,op'] [b,c]=false:=by with_unfolding_all rfl):PE X (.Compare a [op,op'] [b,c] pos) (rL r r' ta tb tc):=by
 intro pins s σ H Q I h
 refine Compare_chain (Bv (ha pins s σ H _ I h) λv s1 ⟨x,H1,I1,r1,q1⟩=>chain_link (Bv (hb pins s1 σ H1 _ I1 q1) λu s2 ⟨y,H2,I2,r2,q2⟩=>
  Bv (ho pins s2 σ H2 x y v u _ I2 r1 r2 q2) λd s3 ⟨z,H3,I3,r3,k,e,q3⟩=>?_)) hm
 subst e
 cases r3
 refine QJ ?_
 cases k with
 | false=>exact ite_ff ⟨.bl false,H3,I3,rfl,q3⟩
 | true=>exact ite_tt (chain_last (Bv (hc pins s3 σ H3 _ I3 q3) λw' s4 ⟨z',H4,I4,r4,q4⟩=>ho' pins s4 σ H4 y z' u w' Q I4 r2 r4 q4))
theorem rX{op op':CmpOp}{r r':R2}(ho:Mr X (QW op) r)(ho':Mr X (QW op') r')(ha:PE X a ta)(hb:PE X b tb)(hc:PE X c tc)(hm:lastMarks [op,op'] [b,c]=false:=by with_unfolding_all rfl):PT X (.Compare a [op,op'] [b,c] pos) (zI (rL r r' ta tb tc)):=by
 intro pins s σ H Q I h
 refine isTrue_chain (Bv (ha pins s σ H _ I h) λv s1 ⟨x,H1,I1,r1,q1⟩=>test_link (Bv (hb pins s1 σ H1 _ I1 q1) λu s2 ⟨y,H2,I2,r2,q2⟩=>
  Bv (ho pins s2 σ H2 x y v u _ I2 r1 r2 q2) λd s3 ⟨z,H3,I3,r3,k,e,q3⟩=>?_)) hm
 subst e
 cases r3
 refine QJ ?_
 cases k with
 | false=>
  obtain⟨k',e',q'⟩:=q3
  cases e'
  exact ite_ff ⟨H3,I3,q'⟩
 | true=>
  refine ite_tt (test_last (Bv (hc pins s3 σ H3 _ I3 q3) λw' s4 ⟨z',H4,I4,r4,q4⟩=>Bv (ho' pins s4 σ H4 y z' u w' _ I4 r2 r4 q4) λd' s5 ⟨z2,H5,I5,r5,k2,e2,q5⟩=>?_))
  subst e2
  cases r5
  exact QJ ⟨H5,I5,q5⟩
def xB(K:LO)(x:V)(H:Hp)(k:Bool):Prop:=
 match x with
 | .non=>k=false
 | .bl b=>k=b
 | .int i=>k=(i != 0)
 | .str y=>y.length<=MG/\k=((y.length:Int) != 0)
 | .byt y=>y.size<=MG/\k=((y.size:Int) != 0)
 | .ref p=>(∃xs,Av K H p xs/\k = !xs.isEmpty)∨(∃xs,Dq K H p xs/\k = !xs.isEmpty) ∨ ∃kvs,H p=some (.dK kvs)/\k = !kvs.isEmpty
 | _=>False
theorem cB{κ:Type}{kvs:List (κ×V)}{vs:List (κ×LP)}(r:KV kvs vs):(!vs.isEmpty) = !kvs.isEmpty:=by
 cases r<;>rfl
theorem Si{xs:List V}{its:List LP}(r:Vals xs its):(!its.toArray.isEmpty) = !xs.isEmpty:=by
 cases r<;>simp
theorem Lj:(MG:Nat) < 2 ^ 63:=by rw[LR];decide
theorem eJ:IQ X (λx H Q=>∃k,xB X.K x H k/\Q k H):=by
 intro pins s σ H x v Q I rx h
 obtain⟨k,e,q⟩:=h
 have hl:=Lj
 have hs:MG=16777216:=LR
 cases x with
 | non=>
  cases rx
  have e':k=false:=e
  subst e'
  exact truthy_none ⟨H,I,q⟩
 | bl b=>
  cases rx
  have e':k=b:=e
  subst e'
  exact QJ ⟨H,I,q⟩
 | int i=>
  obtain⟨t,rfl⟩:=rx
  have e':k=(i != 0):=e
  subst e'
  exact PySem.P.truthy_int ⟨H,I,q⟩
 | str y=>
  obtain⟨t,rfl⟩:=rx
  obtain⟨hy,e'⟩:y.length<=MG/\k=((y.length:Int) != 0):=e
  subst e'
  exact PySem.P.truthy_str (by omega) ⟨H,I.tok _,q⟩
 | byt y=>
  obtain⟨t,rfl⟩:=rx
  obtain⟨hy,e'⟩:y.size<=MG/\k=((y.size:Int) != 0):=e
  subst e'
  exact PySem.W.truthy_bytes (by omega) ⟨H,I.tok _,q⟩
 | ref p=>
  cases rx
  have e':(∃xs,Av X.K H p xs/\k = !xs.isEmpty)∨(∃xs,Dq X.K H p xs/\k = !xs.isEmpty) ∨ ∃kvs,H p=some (.dK kvs)/\k = !kvs.isEmpty:=e
  rcases e' with ⟨xs,hx,e'⟩ | ⟨xs,hx,e'⟩ | ⟨kvs,hx,e'⟩
  ·subst e'
   obtain⟨its,r,pl,hz⟩:=I.list hx
   have hlen:=r.length
   exact wpAny_truthy_list pl.isList (by simp only[NE];omega) ⟨H,I.tok _,by rw[Si r];exact q⟩
  ·subst e'
   obtain⟨its,r,pl,hz⟩:=I.tuple hx
   have hlen:=r.length
   exact truthy_tuple pl (by simp only[NE];omega) ⟨H,I.tok _,by rw[Si r];exact q⟩
  ·subst e'
   obtain⟨hz,hS,vs,r,m⟩:kvs.length<=MG/\(p == RH)=false/\∃vs,KV kvs vs/\s.heap.DictOf (Bp X.prog X.w) p vs:=I.hok p _ hx
   have hlen:kvs.length=vs.length:=OF r
   exact wpAny_truthy_dict hS m (by omega) ⟨H,I.tok _,by rw[cB r];exact q⟩
 | _=>exact(show False from e).elim
theorem uF(ha:PE X a ta)(he:∀whole,isTrue a X.env whole=(do let v <- whole;standAt a.pos;holding [v] (truthy v))):
 PT X a (λσ H Q=>ta σ H λx H'=>∃k,xB X.K x H' k/\Q k H'):=by
 intro pins s σ H Q I h
 exact isTrue_plain (Bv (ha pins s σ H _ I h) λv s1 ⟨x,H1,I1,r1,q1⟩=>eJ pins s1 σ H1 x v Q I1 r1 q1) (he _)
theorem Bf:Mr X (binaryOp .Add) (λx y H Q=>∃i j,x=.str i/\y=.str j/\i.length+j.length<=MG/\Q (.str (i++j)) H):=by
 intro pins s σ H x y v u Q I rx ry h
 obtain⟨i,j,rfl,rfl,hz,q⟩:=h
 obtain⟨t,rfl⟩:=rx
 obtain⟨t',rfl⟩:=ry
 exact add_str (λt' tk=>⟨.str (i++j),H,I.tok _,⟨_,rfl⟩,q⟩) hz
theorem vals1{x:V}{us:List LP}(r:Vals [x] us):∃u,us=[u]/\RelV x u:=by
 cases r with
 | cons r1 r2=>cases r2;exact⟨_,rfl,r1⟩
theorem vals2{x y:V}{us:List LP}(r:Vals [x,y] us):∃u w',us=[u,w']/\RelV x u/\RelV y w':=by
 cases r with
 | cons r1 r2=>
  cases r2 with
  | cons r3 r4=>cases r4;exact⟨_,_,rfl,r1,r3⟩
end
structure cU(h:OS)(x dx C:LZ)(mA:Str->Option LP):Prop where
 obj:h.get? x=some (SD C dx)
 ns:h.Ns1 dx mA
 ne:dx≠x
theorem kY{h:OS}{dx:LZ}{mA:Str->Option LP}(n:h.Ns1 dx mA):∃od,h.get? dx=some od/\∀name,PySem.W.lookIn name od=some (mA name):=by
 obtain⟨o,es,ep,ho,hd,hk,_,hm⟩:=n
 refine⟨o,ho,λname=>?_⟩
 have e:=hm name
 unfold nsFind findBy at e
 rw[<- Array.find?_toList] at e
 unfold PySem.W.lookIn
 rw[hd]
 dsimp only
 split
 ·rename_i y q
  rw[q] at e
  exact congrArg some e
 ·rename_i q
  rw[q] at e
  have a:es.toList.any (·.refKey)=false:=by
   rw[UK]
   intro y hy
   obtain⟨z,t,hkey⟩:=hk y (Array.mem_toList_iff.mp hy)
   simp[DictEntry.refKey,hkey]
  have a':¬ es.toList.any (·.refKey)=true:=by rw[a];exact LY
  rw[if_neg a']
  exact congrArg some e
theorem cU.look{h:OS}{x dx C:LZ}{mA:Str->Option LP}(I:cU h x dx C mA):∃od,PySem.W.InstAt h x (SD C dx) C (some od)/\∀name,PySem.W.lookIn name od=some (mA name):=
 let ⟨od,ho,hl⟩:=kY I.ns
 ⟨od,⟨I.obj,rfl,rfl,ho⟩,hl⟩
section
variable {prog:MV} {w:NU} {A:NV} {E:LP->LV->Prop} {s:LV} {K:LO} {x dx C f:LZ} {mA:Str->Option LP} {name:Str} {v:LP}
theorem uW{expr:Bool}{Q:LP->LV->Prop}(X:K.In s.heap)(I:cU s.heap x dx C mA)(hg:PySem.W.plainGet K C name=true)(hh:PySem.W.hasDictIn K C=true)(ha:QD K (.ref C) name=some none)(hv:mA name=some v)(hv':PySem.W.handedIn v=true)(h:Q v { s with toks:=s.toks+1 }):
 ND (NJ prog w) A (getAttr (.ref x) name expr) Q E s:=by
 obtain⟨od,J,hl⟩:=I.look
 exact PySem.W.get_value X J (PySem.W.plainGet_of hg).1 (PySem.W.findObj_own hh ha rfl (by rw[hl,hv])) hv' h
theorem pG{pl:Sem Bool}{Q:LP×List LP->LV->Prop}(X:K.In s.heap)(I:cU s.heap x dx C mA)(hg:PySem.W.plainGet K C name=true)(hf:QD K (.ref C) name=some (some (.ref f)))(ht:PySem.W.isFn K (.ref f)=true)(hv:mA name=none)(h:Q (.ref f,[.ref x]) s):
 ND (NJ prog w) A (getMethod (.ref x) name pl) Q E s:=by
 obtain⟨od,J,hl⟩:=I.look
 exact PySem.W.method_fn X J (PySem.W.plainGet_of hg).1 (PySem.W.plainGet_of hg).2 hf (beq_iff_eq.mp ht) (by show (PySem.W.lookIn name od).map (·.isSome)=some false;rw[hl,hv];rfl) h
theorem xV{ns:List Str}{Q:Unit->LV->Prop}(X:K.In s.heap)(I:cU s.heap x dx C mA)(hs:QD K (.ref C) "__setattr__" = some (some (.builtin "object.__setattr__")))(hp:PySem.W.plainOver K C=true)(ht:PySem.W.takerIn K C name=some none)(hh:PySem.W.hasDictIn K C=true)(hw:PySem.Within mA ns)(hsz:ns.length<=MG)(h:∀h',cU h' x dx C (λy=>if y=name then some v else mA y)->RD dx s.heap h'->Q () { s with heap:=h',toks:=s.toks+2 }):
 ND (NJ prog w) A (setAttr (.ref x) name v) Q E s:=by
 obtain⟨od,J,hl⟩:=I.look
 refine PySem.W.set_plain X J hs (PySem.W.osa_open (s:={ s with toks:=s.toks+1 }) (r:=none) X J hp ht λb=>?_)
 obtain⟨cd,hc,hd'⟩:=PySem.W.any_some hh
 have hx:s.heap.get? x=some ⟨.ref C,some dx,.plain,#[]⟩:=I.obj
 refine LL (MI (LL (LL (wpAny_loadPart hx (LL (PySem.W.Looks.here (s:={ s with toks:=s.toks+1 }) (PySem.W.looks_clsIn X hc) ?_))))))
 rw[hd']
 refine MI (a:=some dx) (LL (MI (LL ?_)))
 refine wpAny_nsSet1 (s:={ s with toks:=s.toks+1 }) I.ns λh' hn2 hs2=>?_
 obtain⟨oD,esD,epD,hoD,hdD,hcD⟩:=hn2.count (PySem.Within.cons name v hw)
 refine LL (wpAny_lookBehind hoD (by rw[hdD];exact pastItsLine_dict (NA hcD (by rw[MT];omega))) ?_)
 exact MI (h _ ⟨(hs2.2 _ (NT I.ne)).trans I.obj,hn2,I.ne⟩ hs2)
theorem pX{R:Result->LV->Prop}{vs:List LP}{kw:List (Str×LP)}(X:K.In s.heap)(hm:PySem.W.makesIn K C=true)(hi:QD K (.ref C) "__init__" = some (some (.ref f)))(hf:PySem.W.typeIn K (.ref f)=some (.type "function"))(h:codeAny (NJ prog w) (A.under (.builtin "type.__call__" ⟨.ref C::vs,kw⟩)) (.call (.ref f) ⟨.ref (s.heap.objs.size+1)::vs,kw⟩) (PySem.W.InitBack (s.heap.objs.size+1) R)
  { s with heap:=(s.heap.push QS).push (SD C s.heap.objs.size) }):
 codeAny (NJ prog w) A (.call (.ref C) ⟨vs,kw⟩) R s:=by
 obtain⟨hh,g,d,t,os⟩:=s
 exact PySem.W.make_core (PySem.W.makes_of X hm) (PySem.W.looks_findIn X hi) (λself=>PySem.W.bind_fn X self hf) (.inl rfl) h
end
def Hk(f:Str)(v:V):List (Str×V)->List (Str×V)
 | []=>[(f,v)]
 | (g,x)::r=>if g=f then (g,v)::r else (g,x)::Hk f v r
theorem Ox(f g:Str)(v:V):∀fs:List (Str×V),(Hk f v fs).lookup g=if g=f then some v else fs.lookup g
 | []=>by
  show TX g [(f,v)]=_
  by_cases h:g=f
  ·have hb:(g == f)=true:=beq_iff_eq.mpr h
   simp only[TX,hb,if_pos h]
  ·have hb:(g == f)=false:=beq_eq_false_iff_ne.mpr h
   simp only[TX,hb,if_neg h]
 | (k,x)::r=>by
  have ih:=Ox f g v r
  rw[show Hk f v ((k,x)::r)=(if k=f then (k,v)::r else (k,x)::Hk f v r) from rfl]
  by_cases hk:k=f
  ·rw[if_pos hk]
   by_cases h:g=k
   ·have hb:(g == k)=true:=beq_iff_eq.mpr h
    simp only[TX,hb,if_pos (h.trans hk)]
   ·have hb:(g == k)=false:=beq_eq_false_iff_ne.mpr h
    simp only[TX,hb,if_neg (λe:g=f=>h (e.trans hk.symm))]
  ·rw[if_neg hk]
   by_cases h:g=k
   ·have hb:(g == k)=true:=beq_iff_eq.mpr h
    simp only[TX,hb,if_neg (λe:g=f=>hk (h.symm.trans e))]
   ·have hb:(g == k)=false:=beq_eq_false_iff_ne.mpr h
    simp only[TX,hb]
    exact ih
theorem Nn(f:Str)(v:V):∀fs:List (Str×V),f∈(Hk f v fs).map (·.1)/\∀g,g∈fs.map (·.1)->g∈(Hk f v fs).map (·.1)
 | []=>⟨by simp[Hk],λg h=>by simp at h⟩
 | (k,x)::r=>by
  obtain⟨i1,i2⟩:=Nn f v r
  rw[show Hk f v ((k,x)::r)=(if k=f then (k,v)::r else (k,x)::Hk f v r) from rfl]
  by_cases hk:k=f
  ·rw[if_pos hk]
   subst hk
   exact⟨by simp,λg h=>by simpa using h⟩
  ·rw[if_neg hk]
   refine⟨?_,λg h=>?_⟩
   ·rw[MU]
    exact ME _ i1
   ·rw[MU] at h ⊢
    rcases LX.mp h with e | e
    ·exact LX.mpr (.inl e)
    ·exact ME _ (i2 g e)
theorem Jz(f:Str)(v:V):∀fs:List (Str×V),(Hk f v fs).length<=fs.length+1
 | []=>by simp[Hk]
 | (k,x)::r=>by
  have ih:=Jz f v r
  rw[show Hk f v ((k,x)::r)=(if k=f then (k,v)::r else (k,x)::Hk f v r) from rfl]
  by_cases hk:k=f
  ·rw[if_pos hk,MT,MT];omega
  ·rw[if_neg hk,MT,MT];omega
theorem Hg.some_of{v:V}{o:Option LP}(r:Hg (some v) o):∃u,o=some u/\RelV v u:=by
 cases o with
 | none=>exact(show False from r).elim
 | some u=>exact⟨u,rfl,r⟩
theorem Hg.none_of{o:Option LP}(r:Hg none o):o=none:=by
 cases o with
 | none=>rfl
 | some u=>exact(show False from r).elim
theorem lQ{v:V}{u:LP}(r:RelV v u):PySem.W.handedIn u=true:=by
 cases v with
 | non=>cases (show u=PK from r);rfl
 | bl b=>cases (show u=Value.bool b from r);rfl
 | int i=>obtain⟨t,e⟩:=(show ∃t,u=Value.int i t from r);cases e;rfl
 | str x=>obtain⟨t,e⟩:=(show ∃t,u=Value.str x t from r);cases e;rfl
 | byt b=>obtain⟨t,e⟩:=(show ∃t,u=Value.bytes b t from r);cases e;rfl
 | flt b=>obtain⟨t,e⟩:=(show ∃t,u=Value.float b t from r);cases e;rfl
 | ref a=>cases (show u=MO a from r);rfl
 | ty n=>cases (show u=QX n from r);rfl
section
variable {P:MV} {w:NU} {H H':Hp} {h h':OS} {a C dx:LZ} {fs fs':List (Str×V)}
theorem Py(hok:Kw P w H h)(e:H a=some (.ins C dx fs)):∃mA,cU h a dx C mA/\(∀f,Hg (fs.lookup f) (mA f))/\PySem.Within mA (fs.map (·.1))/\fs.length<=1000/\H dx=some (.own a):=by
 obtain⟨d,z,ne,ob,mA,n,r,q⟩:=(show Cg P w H h a (.ins C dx fs) from hok a _ e)
 exact⟨mA,⟨ob,n,ne⟩,r,q,z,d⟩
end
structure dY(K:LO)(C:LZ):Prop where
 pg:PySem.W.plainGet K C Str.empty=true
 hd:PySem.W.hasDictIn K C=true
 po:PySem.W.plainOver K C=true
 sa:QD K (.ref C) "__setattr__" = some (some (.builtin "object.__setattr__"))
theorem dY.get{K:LO}{C:LZ}(c:dY K C)(f:Str):PySem.W.plainGet K C f=true:=c.pg
def Gn(K:LO)(C:LZ)(f:Str):Prop:=QD K (.ref C) f=some none
theorem Gn.taker{K:LO}{C:LZ}{f:Str}(n:Gn K C f):PySem.W.takerIn K C f=some none:=by
 unfold PySem.W.takerIn
 rw[show QD K (.ref C) f=some none from n]
 rfl
structure Meth(K:LO)(C:LZ)(m:Str)(f:LZ):Prop where
 at_:QD K (.ref C) m=some (some (.ref f))
 fn:PySem.W.isFn K (.ref f)=true
 kp:MN K (.ref f)=true
section
variable {X:Cx} {pins:List (LZ×Obj)} {σ:St} {H:Hp} {s:LV} {a C dx:LZ} {fs:List (Str×V)} {f:Str} {v:V} {A:NV} {E:LP->LV->Prop}
theorem cM{b:Bool}{Q:LP->LV->Prop}(I:Inv X pins σ H s)(e:H a=some (.ins C dx fs))(c:dY X.K C)(n:Gn X.K C f)(l:fs.lookup f=some v)(h:∀u s',Inv X pins σ H s'->RelV v u->Q u s'):ND (NJ X.prog X.w) A (getAttr (.ref a) f b) Q E s:=by
 obtain⟨mA,O,r,_,_,_⟩:=Py I.hok e
 obtain⟨u,hu,ru⟩:=Hg.some_of (v:=v) (o:=mA f) (by rw[<- l];exact r f)
 exact uW I.kIn O (c.get f) c.hd n hu (lQ ru) (h u _ (I.tok _) ru)
theorem Gz{m:Str}{g:LZ}{pl:Sem Bool}{Q:LP×List LP->LV->Prop}(I:Inv X pins σ H s)(e:H a=some (.ins C dx fs))(c:dY X.K C)(k:Meth X.K C m g)(l:fs.lookup m=none)(h:Q (.ref g,[.ref a]) s):ND (NJ X.prog X.w) A (getMethod (.ref a) m pl) Q E s:=by
 obtain⟨mA,O,r,_,_,_⟩:=Py I.hok e
 have hn:mA m=none:=Hg.none_of (by rw[<- l];exact r m)
 exact pG I.kIn O (c.get m) k.at_ k.fn hn h
theorem dJ{y:V}{u:LP}{Q:Unit->LV->Prop}(I:Inv X pins σ H s)(e:H a=some (.ins C dx fs))(c:dY X.K C)(n:Gn X.K C f)(hl:fs.length < 1000)(ry:RelV y u)(h:∀s',Inv X pins σ (upd H a (.ins C dx (Hk f y fs))) s'->Q () s'):ND (NJ X.prog X.w) A (setAttr (.ref a) f u) Q E s:=by
 obtain⟨mA,O,r,wi,_,ho⟩:=Py I.hok e
 have hz:(fs.map (·.1)).length<=MG:=by rw[LN,LR];omega
 refine xV I.kIn O c.sa c.po n.taker c.hd wi hz λh' O' sb=>h _ ?_
 have hd:∃o,h'.get? dx=some o:=let ⟨o,_,_,e',_⟩:=O'.ns;⟨o,e'⟩
 refine I.write (x:=a) (e:=dx) (by rw[e];exact RK) (.inr ho) (λb q hb z=>(sb.2 b hb).trans z) hd ?_
 refine⟨by rw[Ai O.ne];exact ho,?_,O.ne,O'.obj,_,O'.ns,λg=>?_,λg hg=>?_⟩
 ·have:=Jz f y fs;omega
 ·show Hg ((Hk f y fs).lookup g) (if g=f then some u else mA g)
  rw[Ox]
  by_cases q:g=f
  ·rw[if_pos q,if_pos q];exact ry
  ·rw[if_neg q,if_neg q];exact r g
 ·by_cases q:g=f
  ·rw[q];exact(Nn f y fs).1
  ·refine(Nn f y fs).2 g (wi g λz=>hg ?_)
   show (if g=f then some u else mA g)=none
   rw[if_neg q];exact z
theorem Inv.made(I:Inv X pins σ H s):Inv X pins σ (upd (upd H s.heap.objs.size (.own (s.heap.objs.size+1))) (s.heap.objs.size+1) (.ins C s.heap.objs.size []))
 { s with heap:=(s.heap.push QS).push (SD C s.heap.objs.size) }:=by
 have e1:(s.heap.push QS).get? s.heap.objs.size=some QS:=MS s.heap rfl
 have e2:((s.heap.push QS).push (SD C s.heap.objs.size)).get? (s.heap.objs.size+1)=some (SD C s.heap.objs.size):=by
  have:=MS (s.heap.push QS) (o:=SD C s.heap.objs.size) rfl
  rwa [QG] at this
 have e3:(s.heap.push QS).Ns s.heap.objs.size (λ_=>none):=⟨QS,#[],_,e1,rfl,(λe he=>absurd he (by simp)),λ_=>rfl⟩
 have I1:=I.laid (a:=s.heap.objs.size) (o:=.own (s.heap.objs.size+1)) (h':=s.heap.push QS) (t':=s.toks) (λb u q=>LQ _ q) (MC _) ⟨_,e1⟩
 refine I1.laid (a:=s.heap.objs.size+1) (o:=.ins C s.heap.objs.size []) (t':=s.toks) (λb u q=>LQ _ q) (TB (QG _ _)) ?_
 have ne:s.heap.objs.size≠s.heap.objs.size+1:=NF (Nat.lt_succ_self _)
 refine⟨by rw[Ai ne,Aa],NI _,ne,e2,λ_=>none,(Heap.Ns1.of_empty e3).at λo q=>LQ _ q,λ_=>RK,λy hy=>absurd rfl hy⟩
theorem uS{prog:MV}{w:NU}{env:Env}{e:Expr}{f:Str}{pos:Pos}{s:LV}{Q:LP->LV->Prop}(hb:attributeBase e f env (RY e env)=RY e env)(h:ND (NJ prog w) A (RY e env) (λo s₁=>ND (NJ prog w) A (getAttr o f true) Q E s₁) E s):ND (NJ prog w) A (RY (.Attribute e f pos) env) Q E s:=
 Attribute_any_ h (by rw[arm_eval_Attribute,hb])
end
def IM(K:LO)(ta:TE)(f:Str):TE:=λσ H Q=>ta σ H λx H1=>∃a C dx fs v,x=.ref a/\H1 a=some (.ins C dx fs)/\dY K C/\Gn K C f/\fs.lookup f=some v/\Q v H1
def IW(K:LO)(ta tv:TE)(f:Str):TS:=λD σ H=>tv σ H λy H1=>ta σ H1 λx H2=>∃a C dx fs,x=.ref a/\H2 a=some (.ins C dx fs)/\dY K C/\Gn K C f/\fs.length < 1000 /\
 D.nx σ (upd H2 a (.ins C dx (Hk f y fs)))
section
variable {X:Cx} {o e value:Expr} {f:Str} {pos pos' tpos:Pos} {ta tv:TE}
theorem Fj(he:PE X e ta)(hb:attributeBase e f X.env (RY e X.env)=RY e X.env):PE X (.Attribute e f pos) (IM X.K ta f):=by
 intro pins s σ H Q I h
 refine uS hb (Bv (he pins s σ H _ I h) λu s1 ⟨x,H1,I1,rx,a,C,dx,fs,v,ex,ea,c,n,l,q⟩=>?_)
 subst ex
 obtain rfl:u=MO a:=rx
 exact cM I1 ea c n l λu' s2 I2 ru=>⟨v,H1,I2,ru,q⟩
theorem We(ha:PE X o ta)(hv:PE X value tv)(hs:swapsWith value (some (.Attribute o f pos')) pos.line X.env=pure false):PS X (.Assign [.Attribute o f pos'] value pos) (IW X.K ta tv f):=by
 intro pins s σ H D I h
 refine plainObj_wpAny_Assign_Attribute (Bv (hv pins s σ H _ I h) λu s1 ⟨y,H1,I1,ry,q⟩=>Bv (ha pins s1 σ H1 _ I1 q) λov s2 ⟨x,H2,I2,rx,a,C,dx,fs,ex,ea,c,n,l,q2⟩=>?_) hs
 subst ex
 obtain rfl:ov=MO a:=rx
 exact dJ I2 ea c n l ry λs3 I3=>⟨σ,_,I3,q2⟩
theorem zM{pl:Sem Bool}{m:Str}{apos:Pos}{args:List Expr}{pins:List (LZ×Obj)}{s:LV}{σ:St}{H:Hp}{Q:LP->LV->Prop}{te:TE}(he:PE X e te)(I:Inv X pins σ H s)(h:te σ H λx H1=>∃a C dx fs g,x=.ref a/\H1 a=some (.ins C dx fs)/\dY X.K C/\Meth X.K C m g/\fs.lookup m=none /\
  ∀s1,Inv X pins σ H1 s1->ND (NJ X.prog X.w) X.A (callWith pos (.ref g) [.ref a] (SR pos (NH args X.env)) (backToKw pos (SS [] X.env))) Q X.xe s1)(ht:RY (.Call (.Attribute e m apos) args [] pos) X.env=(do
  let ov <- RY e X.env
  standAt apos.atName
  let (f,first) <- holding [ov] (getMethod ov m pl)
  callWith pos f first (SR pos (NH args X.env)) (backToKw pos (SS [] X.env)))):
 ND (NJ X.prog X.w) X.A (RY (.Call (.Attribute e m apos) args [] pos) X.env) Q X.xe s:=by
 refine SX (pl:=pl) (Bv (he pins s σ H _ I h) λu s1 ⟨x,H1,I1,rx,a,C,dx,fs,g,ex,ea,c,k,l,q⟩=>?_) ht
 subst ex
 obtain rfl:u=MO a:=rx
 exact Gz I1 ea c k l (q s1 I1)
end
section
variable {X:Cx} {pins:List (LZ×Obj)} {σ:St} {H:Hp} {s:LV} {A:NV} {E:LP->LV->Prop} {Q:LP->LV->Prop} {c:LP} {b:Bool}
inductive Ob(K:LO)(H:Hp):V->LP->Prop where
 | non:Ob K H .non (.type "NoneType")
 | bl (x:Bool):Ob K H (.bl x) (.type "bool")
 | int (i:Int):Ob K H (.int i) (.type "int")
 | str (x:Str):Ob K H (.str x) (.type "str")
 | flt (x:UInt64):Ob K H (.flt x) (.type "float")
 | lst {a:LZ} {xs:List V} (e:H a=some (.lst xs)):Ob K H (.ref a) (.type "list")
 | frz {a:LZ} {o:Obj} {xs:List V} (e:H a=some (.frz o (.lst xs))):Ob K H (.ref a) (.type "list")
 | tup {a:LZ} {xs:List V} (e:H a=some (.tup xs)):Ob K H (.ref a) (.type "tuple")
 | dK {a:LZ} {kvs:List (Key×V)} (e:H a=some (.dK kvs)):Ob K H (.ref a) (.type "dict")
 | dT {a:LZ} {kvs:List (List Key×V)} (e:H a=some (.dT kvs)):Ob K H (.ref a) (.type "dict")
 | ins {a C dx:LZ} {fs:List (Str×V)} (e:H a=some (.ins C dx fs)) (cl:dY K C) (ha:QD K (.ref C) "__class__" = some (some (.builtin "object.__class__")))
  (hn:PySem.W.specialIn K (.builtin "object.__class__") "__get__" = some (some (.builtin "getset_descriptor.__get__"))) (htk:PySem.W.takesIn K (.builtin "object.__class__")=some true)
  (hm:PySem.W.mroIn K C (.type "object")=some true):Ob K H (.ref a) (.ref C)
theorem nY{x:V}{u t:LP}(I:Inv X pins σ H s)(rx:RelV x u)(ty:Ob X.K H x t)(e:TL X.K t c=some b)(h:∀tk,Q (.bool b) { s with toks:=tk }):
 ND (NJ X.prog X.w) A (call (.builtin "isinstance") [u,c]) Q E s:=by
 cases ty with
 | non=>cases (show u=PK from rx);exact QK PySem.W.kitx_none I.kIn RK e (λz=>nomatch z) h
 | bl y=>cases (show u=Value.bool y from rx);exact QK PySem.W.kitx_bool I.kIn RK e (λz=>nomatch z) h
 | int i=>obtain⟨t,q⟩:=(show ∃t,u=Value.int i t from rx);cases q;exact QK PySem.W.kitx_int I.kIn RK e (λz=>nomatch z) h
 | str y=>obtain⟨t,q⟩:=(show ∃t,u=Value.str y t from rx);cases q;exact QK PySem.W.kitx_str I.kIn RK e (λz=>nomatch z) h
 | flt y=>obtain⟨t,q⟩:=(show ∃t,u=Value.float y t from rx);cases q;exact QK PySem.W.kitx_float I.kIn RK e (λz=>nomatch z) h
 | @lst a xs ea=>
  cases (show u=MO a from rx)
  obtain⟨_,_,n,_,h1⟩:=(show Cg X.prog X.w H s.heap a (.lst xs) from I.hok a _ ea)
  exact QK PySem.W.kitx_list I.kIn ⟨_,h1,rfl⟩ e (λz=>nomatch z) h
 | @frz a ob xs ea=>
  cases (show u=MO a from rx)
  obtain⟨_,_,_,n,_,h1⟩:=(show Cg X.prog X.w H s.heap a (.frz ob (.lst xs)) from I.hok a _ ea)
  exact QK PySem.W.kitx_list I.kIn ⟨_,h1,rfl⟩ e (λz=>nomatch z) h
 | @tup a xs ea=>
  cases (show u=MO a from rx)
  obtain⟨_,_,_,p⟩:=(show Cg X.prog X.w H s.heap a (.tup xs) from I.hok a _ ea)
  obtain⟨o,h1,h2,_⟩:=p
  exact QK PySem.W.kitx_tuple I.kIn ⟨o,h1,h2⟩ e (λz=>nomatch z) h
 | @dK a kvs ea=>
  cases (show u=MO a from rx)
  obtain⟨_,_,vs,_,p⟩:=(show Cg X.prog X.w H s.heap a (.dK kvs) from I.hok a _ ea)
  obtain⟨o,es,ep,h1,h2,_⟩:=p
  exact QK PySem.W.kitx_dict I.kIn ⟨o,h1,h2.1⟩ e (λz=>nomatch z) h
 | @dT a kvs ea=>
  cases (show u=MO a from rx)
  obtain⟨_,_,xs,_,o,es,ep,h1,h2,_⟩:=(show Cg X.prog X.w H s.heap a (.dT kvs) from I.hok a _ ea)
  exact QK PySem.W.kitx_dict I.kIn ⟨o,h1,h2.1⟩ e (λz=>nomatch z) h
 | @ins a C dx fs ea cl ha hn htk hm=>
  cases (show u=MO a from rx)
  obtain⟨mA,O,_⟩:=Py I.hok ea
  obtain⟨od,J,_⟩:=O.look
  exact QK (PySem.W.kitx_own (cl.get _) cl.hd ha hn htk hm) I.kIn J e (λz=>nomatch z) h
end
structure Cq(k:Nat)(A:NV):Prop where
 dp:A.depth+3 * k+5 < recursionLimit
 un:A.units+16 * k+200 < cLine
theorem Cq.mono{j k:Nat}{A:NV}(r:Cq k A)(h:j<=k):Cq j A:=⟨by have:=r.dp;omega,by have:=r.un;omega⟩
theorem Cq.deeper{k:Nat}{A:NV}(r:Cq (k+1) A)(env:Env):Cq k (A.deeper env):=
 ⟨by have:=r.dp;show A.depth+1+3 * k+5 < _;omega,by have:=r.un;show A.units+3+16 * k+200 < _;omega⟩
theorem cE{A:NV}{C:LZ}{us:List LP}{kw:List (Str×LP)}:(A.under (.builtin "type.__call__" ⟨.ref C::us,kw⟩)).depth=A.depth+1:=by
 first | rfl | simp[Around.under,Code.weight,Code.isCreation,Code.isGuard,Code.isCaller,Code.frames,Code.isFrame,guardIds]
theorem gH{A:NV}{C:LZ}{us:List LP}{kw:List (Str×LP)}:(A.under (.builtin "type.__call__" ⟨.ref C::us,kw⟩)).units=A.units+1:=by
 first | rfl | simp[Around.under,Code.cUnits,Code.frames,Code.isFrame]
theorem Cq.make{k:Nat}{A:NV}(r:Cq (k+1) A)(C:LZ)(us:List LP)(kw:List (Str×LP)):Cq k (A.under (.builtin "type.__call__" ⟨.ref C::us,kw⟩)):=
 ⟨by have:=r.dp;rw[cE];omega,by have:=r.un;rw[gH];omega⟩
theorem Cq.depth{k:Nat}{A:NV}(r:Cq k A):A.depth < recursionLimit:=by have:=r.dp;omega
theorem Cq.units{k:Nat}{A:NV}(r:Cq k A):A.units+64 < cLine:=by have:=r.un;omega
def Wf:TA:=λ_ H Q=>Q [] H
def Je(ta:TE)(tr:TA):TA:=λσ H Q=>ta σ H λx H1=>tr σ H1 λxs H2=>Q (x::xs) H2
section
variable {X:Cx} {e:Expr} {es:List Expr} {te:TE} {t:TA} {pos:Pos}
theorem Gr:PA X [] Wf:=λ_ _ _ _ H Q I h=>Calls.spliced_nil ⟨[],H,I,.nil,h⟩
theorem Mj(ha:PE X e te)(hr:PA X es t)(hs:NH (e::es) X.env=(false,RY e X.env)::NH es X.env:=by rfl):PA X (e::es) (Je te t):=by
 intro pos pins s σ H Q I h
 rw[hs]
 show ND _ _ (spliced ((false,RY e X.env)::SR pos (NH es X.env))) _ _ s
 refine US (Bv (ha pins s σ H _ I h) λu s1 ⟨x,H1,I1,r1,q1⟩=>?_)
 exact Bv (hr pos pins s1 σ H1 _ I1 q1) λus s2 ⟨xs,H2,I2,r2,q2⟩=>⟨x::xs,H2,I2,.cons r1 r2,q2⟩
def JD(t:TA):TE:=λσ H Q=>t σ H λxs H1=>xs.length<=MG/\∀p,H1 p=none->Q (.ref p) (upd H1 p (.tup xs))
def wW(t:TA):TE:=λσ H Q=>t σ H λxs H1=>xs.length<=MG/\∀p,H1 p=none->Q (.ref p) (upd H1 p (.lst xs))
theorem Eu{x1}(h:PA X es t):PE X (.Tuple es x1 pos) (JD t):=by
 intro pins s σ H Q I hq
 refine wpAny_Tuple_spliced (Bv (h pos pins s σ H _ I hq) λus s1 ⟨xs,H1,I1,r,z,q⟩=>⟨by rw[<- r.length];exact z,?_⟩)
 have hf:H1 s1.heap.objs.size=none:=I1.hok.fresh (MC _)
 refine⟨.ref s1.heap.objs.size,upd H1 s1.heap.objs.size (.tup xs),I1.laid (t':=s1.toks) (λb u e=>LQ _ e) (MC _) ?_,rfl,q _ hf⟩
 exact⟨z,us,r,⟨_,MS _ rfl,rfl,_,rfl⟩⟩
theorem Dn(h:PA X es t):PE X (.List es pos) (wW t):=by
 intro pins s σ H Q I hq
 refine wpAny_List_spliced (Bv (h pos pins s σ H _ I hq) λus s1 ⟨xs,H1,I1,r,z,q⟩=>⟨by rw[<- r.length];exact z,?_⟩)
 have hf:H1 s1.heap.objs.size=none:=I1.hok.fresh (MC _)
 refine⟨.ref s1.heap.objs.size,upd H1 s1.heap.objs.size (.lst xs),I1.laid (t':=s1.toks) (λb u e=>LQ _ e) (MC _) ?_,rfl,q _ hf⟩
 exact⟨z,us,0,r,MS _ rfl⟩
end
abbrev Sp:=List V->Hp->VK->XK->Prop
structure bD where
 f:List Env->Hp->LV->XK->LP->LV->Prop
 st:Bool
structure zQ(CX:bD)(base:OS)(k:Nat)(A:NV):Prop where
 rm:Cq k A
 st:CX.st=true->A.handled=none
 hd:Bm A base
structure Zg(P:MV)(w:NU)(K:LO)(mg:Str->Option LP)(base:OS)(A:NV)(outer:List Env)(s:LV)(H:Hp):Prop where
 frames:A.frames=some outer
 mod:Mod K mg base
 bs:∀b o,base.get? b=some o->s.heap.get? b=some o/\H b=none
 bsz:base.objs.size<=s.heap.objs.size
 funs:s.heap.FunFrames base outer
 frf:∀b∈Ta outer,H b=none
 hok:Kw P w H s.heap
 bare:AllBare s.gens
def CE(outer:List Env)(P:MV)(w:NU)(H:Hp)(s:LV)(Q:VK)(u:LP)(s':LV):Prop:=
 ∃v H',s'.os=s.os/\AllBare s'.gens/\Un (Ta outer) [] H H' s.heap s'.heap/\Kw P w H' s'.heap/\RelV v u/\Q v H'
def CR(CX:bD)(outer:List Env)(P:MV)(w:NU)(H:Hp)(s:LV)(Q:VK)(E:XK)(r:Result)(s':LV):Prop:=
 match r with
 | .ok (.ret u)=>CE outer P w H s Q u s'
 | .ok _=>False
 | .error e=>CX.f outer H s E e s'
structure Aj(P:MV)(w:NU)(K:LO)(mg:Str->Option LP)(base:OS)(CX:bD)(k:Nat)(f:LZ)(fd:NP)(ps:List Str)(sp:Sp):Prop where
 len:∀vs H Q E,sp vs H Q E->vs.length=ps.length
 run:∀(A:NV)(outer:List Env)(s:LV)(H:Hp)(args:Args)(us:List LP)(vs:List V)(Q:VK)(E:XK),zQ CX base k A->Zg P w K mg base A outer s H->BindsTo s fd args (ps.zip us)->Vals vs us->sp vs H Q E ->
  codeAny (NJ P w) A (.call (.ref f) args) (CR CX outer P w H s Q E) s
theorem Zg.make{P:MV}{w:NU}{K:LO}{mg:Str->Option LP}{base:OS}{A:NV}{outer:List Env}{s:LV}{H:Hp}(e:Zg P w K mg base A outer s H)(C:LZ)(us:List LP)(kw:List (Str×LP)):
 Zg P w K mg base (A.under (.builtin "type.__call__" ⟨.ref C::us,kw⟩)) outer s H:=⟨by first | exact e.frames | (simpa [Around.under,Code.envs,Code.isFrame,pushEnvs] using e.frames),e.mod,e.bs,e.bsz,e.funs,e.frf,e.hok,e.bare⟩
section
variable {X:Cx} {pins:List (LZ×Obj)} {σ:St} {H:Hp} {s s':LV}
theorem Inv.env0(I:Inv X pins σ H s):Zg X.prog X.w X.K X.mg X.base X.A X.stack s H:=
 ⟨I.ok.frames,I.ok.mod,I.bs,NA I.ok.bsz I.sz,I.stack,I.stkFree,I.hok,I.bare⟩
theorem Inv.after{Q:VK}{u:LP}(I:Inv X pins σ H s)(h:CE X.stack X.prog X.w H s Q u s'):EP X pins σ Q u s':=by
 obtain⟨v,H',os,bare,un,hok,r,q⟩:=h
 obtain⟨hh,g,d,t,os'⟩:=s'
 obtain rfl:os'=s.os:=os
 exact⟨v,H',I.call (h':=hh) (g':=g) (d':=d) (t':=t) (ch:=[]) un hok bare (λb z=>absurd z (by simp)),r,q⟩
end
def zH(sp:Sp)(dvs:List V)(E:XK)(t:TA):TE:=λσ H Q=>t σ H λvs H1=>sp (vs++dvs) H1 Q E
def sX(C:LZ)(m:Str)(sp:Sp)(dvs:List V)(E:XK)(ta:TE)(t:TA):TE:=λσ H Q=>ta σ H λx H1=>∃a dx fs,x=.ref a/\H1 a=some (.ins C dx fs)/\fs.lookup m=none /\
 t σ H1 λvs H2=>sp (x::(vs++dvs)) H2 Q E
def yY(C:LZ)(sp:Sp)(dvs:List V)(E:XK)(t:TA):TE:=λσ H Q=>t σ H λvs H1=>∀x dx,H1 x=none->H1 dx=none->dx≠x ->
 sp (.ref x::(vs++dvs)) (upd (upd H1 dx (.own x)) x (.ins C dx [])) (λv H2=>v=.non/\Q (.ref x) H2) E
def Binds(K:LO)(fd:NP)(ps:List Str)(ds:List LP):Prop:=
 ∀(s:LV)(us:List LP),K.In s.heap->(us++ds).length=ps.length->BindsTo s fd ⟨us,[]⟩ (ps.zip (us++ds))
theorem Binds.all{K:LO}{fd:NP}{ps:List Str}(h:∀us:List LP,us.length=ps.length->bindArgs fd ⟨us,[]⟩=pure (ps.zip us)):Binds K fd ps []:=λs us _ hl=>by
 rw[NL] at hl ⊢
 exact .of_eq (h us hl)
structure Gk(CX:bD)(X:Cx)(E:XK):Prop where
 cl:X.calm=true
 st:CX.st=true->X.sx=true
 go:∀(pins:List (LZ×Obj))(σ:St)(H:Hp)(s:LV)(e:LP)(s':LV),Inv X pins σ H s->CX.f X.stack H s E e s'->X.xe e s'
theorem Gk.room{CX:bD}{X:Cx}{E:XK}{pins:List (LZ×Obj)}{σ:St}{H:Hp}{s:LV}{k:Nat}(p:Gk CX X E)(I:Inv X pins σ H s)(r:Cq k X.A):zQ CX X.base k X.A:=⟨r,λz=>I.ok.st (p.st z),I.ok.hd p.cl⟩
section
variable {X:Cx} {CX:bD} {k:Nat} {f C:LZ} {fd:NP} {ps:List Str} {sp:Sp} {dvs:List V} {ds:List LP} {E:XK} {x m:Str} {p pos apos:Pos} {e o:Expr} {es:List Expr} {ta:TE} {t:TA}
theorem dU{pins:List (LZ×Obj)}{σ:St}{H:Hp}{s:LV}{Q:VK}{us:List LP}{vs:List V}(F:Aj X.prog X.w X.K X.mg X.base CX k f fd ps sp)(hr:Cq k X.A)(hb:Binds X.K fd ps ds)(hd:Vals dvs ds)(hx:Gk CX X E)(I:Inv X pins σ H s)(r:Vals vs us)(h:sp (vs++dvs) H Q E):ND (NJ X.prog X.w) X.A (call (.ref f) us) (EP X pins σ Q) X.xe s:=by
 have r2:Vals (vs++dvs) (us++ds):=r.append hd
 have hl:(us++ds).length=ps.length:=by rw[<- r2.length];exact F.len _ _ _ _ h
 refine wpAny_call (RM (F.run X.A X.stack s H ⟨us,[]⟩ (us++ds) (vs++dvs) Q E (hx.room I hr) I.env0 (hb s us I.kIn hl) r2 h) λr s' hq=>?_)
 cases r with
 | error e=>exact hx.go pins σ H s e s' I hq
 | ok fl=>
  cases fl with
  | ret u=>exact I.after hq
  | next=>exact OT hq
  | brk=>exact OT hq
  | cont=>exact OT hq
theorem Ci(F:Aj X.prog X.w X.K X.mg X.base CX k f fd ps sp)(hr:Cq k X.A)(hg:Gl X x)(hm:X.mg x=some (.ref f))(hk:MN X.K (.ref f)=true)(hb:Binds X.K fd ps ds)(hd:Vals dvs ds)(hx:Gk CX X E)(ha:PA X (e::es) t)(hdb:(x == ("__debug__" : Str))=false:=by decide)(he:NH (e::es) X.env=(false,RY e X.env)::NH es X.env:=by rfl)(hpl:(SR pos (NH es X.env)).any (·.1)=false:=by rfl):
 PE X (.Call (.Name x p) (e::es) [] pos) (zH sp dvs E t):=by
 intro pins s σ H Q I h
 refine RZ (Jb I hg hm ?_ hdb)
 refine RU (h₀:=X.base) I.ok.mod.kin hk (Bv (ha pos pins s σ H _ I h) λus s1 ⟨vs,H1,I1,r,q⟩=>⟨I1.kIn,?_⟩) he hpl
 exact dU F hr hb hd hx I1 r q
theorem Cn{pl:Sem Bool}(he:PE X o ta)(c:dY X.K C)(hm:Meth X.K C m f)(F:Aj X.prog X.w X.K X.mg X.base CX k f fd ps sp)(hr:Cq k X.A)(hb:Binds X.K fd ps ds)(hd:Vals dvs ds)(hx:Gk CX X E)(ha:PA X (e::es) t)(hst:NH (e::es) X.env=(false,RY e X.env)::NH es X.env:=by rfl)(hpl:(SR pos (NH es X.env)).any (·.1)=false:=by rfl)(ht:RY (.Call (.Attribute o m apos) (e::es) [] pos) X.env=(do
  let ov <- RY o X.env
  standAt apos.atName
  let (f,first) <- holding [ov] (getMethod ov m pl)
  callWith pos f first (SR pos (NH (e::es) X.env)) (backToKw pos (SS [] X.env))):=by rfl):
 PE X (.Call (.Attribute o m apos) (e::es) [] pos) (sX C m sp dvs E ta t):=by
 intro pins s σ H Q I h
 refine SX (pl:=pl) (Bv (he pins s σ H _ I h) λu s1 ⟨x,H1,I1,rx,a,dx,fs,ex,ea,l,q⟩=>?_) ht
 subst ex
 obtain rfl:u=MO a:=rx
 refine Gz I1 ea c hm l ?_
 refine RU (first:=[.ref a]) (h₀:=X.base) I.ok.mod.kin hm.kp (Bv (ha pos pins s1 σ H1 _ I1 q) λus s2 ⟨vs,H2,I2,r,q2⟩=>⟨I2.kIn,?_⟩) hst hpl
 exact dU (us:=.ref a::us) (vs:=.ref a::vs) F hr hb hd hx I2 (.cons rfl r) q2
theorem aA{pl:Sem Bool}(he:PE X o ta)(c:dY X.K C)(hm:Meth X.K C m f)(F:Aj X.prog X.w X.K X.mg X.base CX k f fd ps sp)(hr:Cq k X.A)(hb:Binds X.K fd ps ds)(hd:Vals dvs ds)(hx:Gk CX X E)(ht:RY (.Call (.Attribute o m apos) [] [] pos) X.env=(do
  let ov <- RY o X.env
  standAt apos.atName
  let (f,first) <- holding [ov] (getMethod ov m pl)
  callWith pos f first (SR pos (NH [] X.env)) (backToKw pos (SS [] X.env))):=by rfl):
 PE X (.Call (.Attribute o m apos) [] [] pos) (sX C m sp dvs E ta Wf):=by
 intro pins s σ H Q I h
 refine SX (pl:=pl) (Bv (he pins s σ H _ I h) λu s1 ⟨x,H1,I1,rx,a,dx,fs,ex,ea,l,q⟩=>?_) ht
 subst ex
 obtain rfl:u=MO a:=rx
 refine Gz I1 ea c hm l ?_
 exact PySem.W.callWith_K0 (first:=[.ref a]) I1.kIn hm.kp (dU (us:=[.ref a]) (vs:=[.ref a]) F hr hb hd hx I1 (.cons rfl .nil) q)
structure Mk(K:LO)(C f:LZ):Prop where
 makes:PySem.W.makesIn K C=true
 init:QD K (.ref C) "__init__" = some (some (.ref f))
 fn:PySem.W.isFn K (.ref f)=true
 kp:MN K (.ref C)=true
theorem Xo{pins:List (LZ×Obj)}{σ:St}{H:Hp}{s:LV}{Q:VK}{us:List LP}{vs:List V}(M:Mk X.K C f)(F:Aj X.prog X.w X.K X.mg X.base CX k f fd ps sp)(hr:Cq (k+1) X.A)(hb:Binds X.K fd ps ds)(hd:Vals dvs ds)(hx:Gk CX X E)(I:Inv X pins σ H s)(r:Vals vs us)(h:∀x dx,H x=none->H dx=none->dx≠x->sp (.ref x::(vs++dvs)) (upd (upd H dx (.own x)) x (.ins C dx [])) (λv H2=>v=.non/\Q (.ref x) H2) E):
 ND (NJ X.prog X.w) X.A (call (.ref C) us) (EP X pins σ Q) X.xe s:=by
 have hq:=h (s.heap.objs.size+1) s.heap.objs.size (I.hok.fresh (TV _)) (I.hok.fresh (MC _)) (NF (Nat.lt_succ_self _))
 have I2:=Inv.made (C:=C) I
 have r2:Vals (V.ref (s.heap.objs.size+1)::(vs++dvs)) (MO (s.heap.objs.size+1)::(us++ds)):=.cons rfl (r.append hd)
 have hl:(MO (s.heap.objs.size+1)::us++ds).length=ps.length:=by
  have e:=r2.length
  rw[F.len _ _ _ _ hq] at e
  exact e.symm
 refine wpAny_call (pX (f:=f) I.kIn M.makes M.init (beq_iff_eq.mp M.fn) (RM (F.run _ X.stack _ _ ⟨MO (s.heap.objs.size+1)::us,[]⟩ (MO (s.heap.objs.size+1)::(us++ds)) _ _ E ⟨hr.make C us [],λz=>I2.ok.st (hx.st z),I2.ok.hd hx.cl⟩
  (I2.env0.make C us []) (hb _ (MO (s.heap.objs.size+1)::us) I2.kIn hl) r2 hq) λr s' hq'=>?_))
 cases r with
 | error e=>exact hx.go pins σ _ _ e s' I2 hq'
 | ok fl=>
  cases fl with
  | ret u=>
   obtain⟨v,H',I3,rv,ev,q3⟩:=I2.after hq'
   subst ev
   exact⟨rv,⟨V.ref (s.heap.objs.size+1),H',I3,rfl,q3⟩⟩
  | next=>exact OT hq'
  | brk=>exact OT hq'
  | cont=>exact OT hq'
theorem jE(M:Mk X.K C f)(F:Aj X.prog X.w X.K X.mg X.base CX k f fd ps sp)(hr:Cq (k+1) X.A)(hg:Gl X x)(hm:X.mg x=some (.ref C))(hb:Binds X.K fd ps ds)(hd:Vals dvs ds)(hx:Gk CX X E)(ha:PA X (e::es) t)(hdb:(x == ("__debug__" : Str))=false:=by decide)(he:NH (e::es) X.env=(false,RY e X.env)::NH es X.env:=by rfl)(hpl:(SR pos (NH es X.env)).any (·.1)=false:=by rfl):
 PE X (.Call (.Name x p) (e::es) [] pos) (yY C sp dvs E t):=by
 intro pins s σ H Q I h
 refine RZ (Jb I hg hm ?_ hdb)
 refine RU (h₀:=X.base) I.ok.mod.kin M.kp (Bv (ha pos pins s σ H _ I h) λus s1 ⟨vs,H1,I1,r,q⟩=>⟨I1.kIn,?_⟩) he hpl
 exact Xo M F hr hb hd hx I1 r q
theorem Ya(M:Mk X.K C f)(F:Aj X.prog X.w X.K X.mg X.base CX k f fd ps sp)(hr:Cq (k+1) X.A)(hg:Gl X x)(hm:X.mg x=some (.ref C))(hb:Binds X.K fd ps ds)(hd:Vals dvs ds)(hx:Gk CX X E)(hdb:(x == ("__debug__" : Str))=false:=by decide):PE X (.Call (.Name x p) [] [] pos) (yY C sp dvs E Wf):=by
 intro pins s σ H Q I h
 refine RZ (Jb I hg hm ?_ hdb)
 exact PySem.W.callWith_K0 I.kIn M.kp (Xo (us:=[]) M F hr hb hd hx I .nil h)
end
section
variable {X:Cx} {CX:bD} {k:Nat} {f C:LZ} {fd:NP} {ps ks:List Str} {sp:Sp} {E:XK} {x m:Str} {p pos apos kpos:Pos} {e o:Expr} {es:List Expr} {kws:List Keyword} {te ta:TE} {t tk:TA} {nm:Option Str}
variable {g:List LP->List LP->List LP} {gV:List V->List V->List V}
end
structure Al(N P:List Str)(sc:Scope):Prop where
 kind:sc.kind=.function
 co:sc.isCoroutine=false
 gen:sc.isGenerator=false
 nd:N.Nodup
 pre:N.take P.length=P
 par:∀x∈P,sc.names.lookup x=some .local∨sc.names.lookup x=some .cell
 nofree:∀y∈sc.names,y.2 ≠ .free
theorem Uw{kindOf:Str->Option NameKind}{x:Str}:∀ {binds:List (Str×LP)} {m:Str->Option LP},(∀v,(x,v)∉binds)->bindL kindOf binds m x=m x
 | [],_,_=>rfl
 | (n,v)::r,m,h=>by
  unfold bindL
  rw[Uw λw hw=>h w (ME _ hw)]
  split
  ·have:x≠n:=by rintro rfl;exact h v MD
   simp[this]
  ·rfl
theorem Ug{kindOf:Str->Option NameKind}{x:Str}:∀ {binds:List (Str×LP)} {m:Str->Option LP},(∀v,(x,v)∉binds)->bindC kindOf binds m x=m x
 | [],_,_=>rfl
 | (n,v)::r,m,h=>by
  unfold bindC
  rw[Ug λw hw=>h w (ME _ hw)]
  split
  ·rfl
  ·have:x≠n:=by rintro rfl;exact h v MD
   simp[this]
theorem Vi{kindOf:Str->Option NameKind}{x:Str}{v:LP}:∀ {P:List Str} {vs:List LP} {i:Nat} {m:Str->Option LP},P.Nodup->P[i]? = some x->vs[i]? = some v->kindOf x=some .local ->
 bindL kindOf (P.zip vs) m x=some v
 | [],_,_,_,_,h,_,_=>by simp at h
 | _::_,[],_,_,_,_,h,_=>by simp at h
 | p::P,w::vs,0,m,nd,h1,h2,hk=>by
  simp at h1 h2;subst h1;subst h2
  show bindL kindOf ((p,w)::P.zip vs) m p=_
  unfold bindL
  rw[Uw λv hv=>(OP.mp nd).1 (List.of_mem_zip hv).1,if_pos hk]
  simp
 | p::P,w::vs,i+1,m,nd,h1,h2,hk=>by
  show bindL kindOf ((p,w)::P.zip vs) m x=_
  unfold bindL
  exact Vi (i:=i) (OP.mp nd).2 (by simpa using h1) (by simpa using h2) hk
theorem Tu{kindOf:Str->Option NameKind}{x:Str}{v:LP}:∀ {P:List Str} {vs:List LP} {i:Nat} {m:Str->Option LP},P.Nodup->P[i]? = some x->vs[i]? = some v->kindOf x≠some .local ->
 bindC kindOf (P.zip vs) m x=some v
 | [],_,_,_,_,h,_,_=>by simp at h
 | _::_,[],_,_,_,_,h,_=>by simp at h
 | p::P,w::vs,0,m,nd,h1,h2,hk=>by
  simp at h1 h2;subst h1;subst h2
  show bindC kindOf ((p,w)::P.zip vs) m p=_
  unfold bindC
  rw[Ug λv hv=>(OP.mp nd).1 (List.of_mem_zip hv).1,if_neg hk]
  simp
 | p::P,w::vs,i+1,m,nd,h1,h2,hk=>by
  show bindC kindOf ((p,w)::P.zip vs) m x=_
  unfold bindC
  exact Tu (i:=i) (OP.mp nd).2 (by simpa using h1) (by simpa using h2) hk
def start(N:List Str)(vs:List V):St:=vs.map some++NC (N.length-vs.length) none
def Ft(CX:bD)(P:MV)(w:NU)(K:LO)(mg:Str->Option LP)(base:OS)(N:List Str)(qual:Str)(scope:Scope)(f:LZ)(cd:LP)(A:NV)(outer:List Env)(s:LV)(H:Hp)(E:XK):Cx where
 prog:=P
 w:=w
 K:=K
 mg:=mg
 base:=base
 A:=A.deeper (envOfC qual scope s.heap.objs.size f cd)
 N:=N
 s₀:=s
 H₀:=H
 env:=envOfC qual scope s.heap.objs.size f cd
 outer:=outer
 stack:=envOfC qual scope s.heap.objs.size f cd::outer
 ex:=[]
 calm:=true
 sx:=CX.st
 fn:=λ_=>true
 pn:=[]
 xe:=λe s'=>ND (NJ P w) (A.deeper (envOfC qual scope s.heap.objs.size f cd)) (leaving (envOfC qual scope s.heap.objs.size f cd) e) (λ_ s''=>CX.f outer H s E e s'') (λe' s''=>CX.f outer H s E e' s'') s'
theorem aF{sc:Scope}{n:Nat}{x:Str}(h:sc.names.lookup x=some .cell):∃c,(cellsFrom n sc.names []).lookup x=some c:=by
 have q:=PySem.W.cellsFrom_some sc.names n [] (.inl h)
 exact Option.isSome_iff_exists.mp q
theorem nS{CX:bD}{P:MV}{w:NU}{K:LO}{mg:Str->Option LP}{base:OS}{N ps:List Str}{qual:Str}{scope:Scope}{f:LZ}{cd:LP}{A:NV}{outer:List Env}{s s1:LV}{H:Hp}{E:XK}{us:List LP}{vs:List V}(S:Al N ps scope)(hd:CX.st=true->A.handled=none)(hc:Bm A base)(e0:Zg P w K mg base A outer s H)(hl:vs.length=ps.length)(r:Vals vs us)(x:InCallC s s.heap.objs.size (bindL (envOfC qual scope s.heap.objs.size f cd).kindOf (ps.zip us) λ_=>none) (cellsFrom (s.heap.objs.size+1) scope.names []) (bindC (envOfC qual scope s.heap.objs.size f cd).kindOf (ps.zip us) λ_=>none) s1):
 Inv (Ft CX P w K mg base N qual scope f cd A outer s H E) [] (start N vs) H s1:=by
 have hpl:ps.length<=N.length:=by have:=congrArg List.length S.pre;rw[NM] at this;omega
 obtain⟨h1,tk,rfl,hk⟩:=x.done
 have noA:∀b:LZ,b∉(Ft CX P w K mg base N qual scope f cd A outer s H E).ex:=λb z=>absurd (show b∈([]:List LZ) from z) (by simp)
 refine⟨⟨e0.mod,S.kind,rfl,rfl,MC _,λy z c h1 h2=>?_,λy hy=>?_,λy c _ h=>?_,λ_=>hc,hd,Around.frames_deeper e0.frames,.inr ⟨rfl,rfl⟩,λb z=>absurd z (noA b),e0.bs,e0.bsz,λb _ _=>noA b,λb z=>absurd z (noA b),e0.funs,e0.frf⟩,
  rfl,e0.bare,Un.kept hk,⟨_,x.toInCall.ns,λi y v h1 h2 h3=>?_⟩,λy c h=>⟨_,x.cell y c h⟩,e0.hok.fresh (MC _),λy c h=>?_,λp hp=>absurd (show p∈([]:List (LZ×Obj)) from hp) (by simp),e0.hok.kept hk,?_⟩
 ·exact name_of_addr x.apart (TU h1) (TU h2)
 ·have hy:scope.names.lookup y=some .cell∨scope.names.lookup y=some .free:=hy
  rcases hy with hy | hy
  ·exact aF hy
  ·exact absurd rfl (S.nofree _ (TU hy))
 ·exact Nat.le_of_lt (x.above y c (TU h))
 ·have hi:i < vs.length:=by
   unfold start at h2
   by_cases hi:i < vs.length
   ·exact hi
   ·rw[OG (by simpa using hi)] at h2
    rw[RF] at h2
    split at h2<;>cases h2
  have ha:vs[i]? = some v:=by
   unfold start at h2
   rw[MW (by simpa using hi),MX] at h2
   cases e:vs[i]? with
   | none=>rw[e] at h2;cases h2
   | some a=>rw[e] at h2;cases h2;rfl
  obtain⟨u,hu,rv⟩:=r.get ha
  have hp:ps[i]? = some y:=by
   rw[<- S.pre,List.getElem?_take_of_lt (by omega)];exact h1
  have ndP:ps.Nodup:=by rw[<- S.pre];exact S.nd.sublist (List.take_sublist _ _)
  refine⟨u,rv,?_⟩
  rcases S.par y (MK hp) with k | k
  ·exact .inl ⟨k,Vi ndP hp hu k⟩
  ·obtain⟨c,e⟩:=aF (n:=s.heap.objs.size+1) k
   refine .inr ⟨.inl k,c,e,?_⟩
   have q:=x.cell y c e
   rw[Tu ndP hp hu (by show scope.names.lookup y≠_;rw[k];decide)] at q
   exact q
 ·exact e0.hok.fresh (Nat.le_of_lt (x.above y c (TU h)))
 ·unfold start
  show _=N.length
  rw[LS,LN,OL]
  omega
theorem Xw{CX:bD}{P:MV}{w:NU}{K:LO}{mg:Str->Option LP}{base:OS}{k:Nat}{f:LZ}{name qual:Str}{params:Arguments}{body:List RL}{scope:Scope}{dV kV doc pm cdv ct oc:LP}{an od:Option LZ}{osl:Array (Option LP)}{N ps:List Str}{sp:Sp}(lk:K.lookup f=some ⟨oc,od,.func (SG name qual params body scope dV kV doc pm an cdv ct),osl⟩)(hcd:PySem.W.codeIn K cdv qual=true)(S:Al N ps scope)(len:∀vs H Q E,sp vs H Q E->vs.length=ps.length)(hbody:∀(A:NV)(outer:List Env)(s:LV)(H:Hp)(vs:List V)(Q:VK)(E:XK),Cq k (A.deeper (envOfC qual scope s.heap.objs.size f cdv))->sp vs H Q E ->
  ∃t,Ib (Ft CX P w K mg base N qual scope f cdv A outer s H E) body t/\t { nx:=λ_ H'=>Q .non H',rt:=Q } (start N vs) H):
 Aj P w K mg base CX (k+1) f (SG name qual params body scope dV kV doc pm an cdv ct) ps sp:=by
 refine⟨len,λA outer s H args us vs Q E hr e0 hb r hsp=>?_⟩
 have hl:=len _ _ _ _ hsp
 have KX:K.In s.heap:=e0.mod.kin.keeps λb o e=>(e0.bs b o e).1
 have lim:s.heap.NoLimit:=e0.mod.nolimit.keeps λb o e=>(e0.bs b o e).1
 have hkind:∀y∈ps.zip us,scope.names.lookup y.1=some .local∨(scope.names.lookup y.1=some .cell/\((cellsFrom (s.heap.objs.size+1) scope.names []).lookup y.1).isSome=true):=λ⟨n,v⟩ hy=>by
  rcases S.par n (List.of_mem_zip hy).1 with q | q
  ·exact .inl q
  ·exact .inr ⟨q,PySem.W.cellsFrom_some _ _ _ (.inl q)⟩
 refine codeAny_call_function hr.rm.depth (KX _ _ lk) rfl S.co S.gen rfl (PySem.W.codeRec_of KX hcd) (hb _ _ _ _ ?_)
 refine wpAny_newFunctionEnv_cells S.kind hkind λenv he s1 x=>?_
 subst he
 refine⟨lim.keeps x.toInCall.keep,codeAny_func ?_⟩
 obtain⟨t,ht,hq⟩:=hbody A outer s H vs Q E (hr.rm.deeper _) hsp
 have I:Inv (Ft CX P w K mg base N qual scope f cdv A outer s H E) [] (start N vs) H s1:=nS S hr.st hr.hd e0 hl r x
 refine OR (ht [] s1 (start N vs) H _ I hq) (λfl s' hs=>?_) λe s' hs=>hs
 have fin:∀ {σ':St} {H':Hp} {v:V} {u:LP},Inv (Ft CX P w K mg base N qual scope f cdv A outer s H E) [] σ' H' s'->RelV v u->Q v H'->CE outer P w H s Q u s':=
  λ{σ' H' v u} J rv q=>⟨v,H',J.os,J.bare,J.base,J.hok,rv,q⟩
 cases fl with
 | ret u=>
  obtain⟨v,σ',H',J,rv,q⟩:=hs
  exact fin J rv q
 | next=>
  obtain⟨σ',H',J,q⟩:=hs
  exact fin (v:=V.non) (u:=PK) J rfl q
 | brk=>
  obtain⟨_,_,_,q⟩:=hs
  exact OT q
 | cont=>
  obtain⟨_,_,_,q⟩:=hs
  exact OT q
section
variable {X:Cx} {x:Str} {p pos:Pos} {e:Expr} {es:List Expr} {t:TA} {id T:String} {r:List V->Hp->VK->Prop}
def JU(r:List V->Hp->VK->Prop)(t:TA):TE:=λσ H Q=>t σ H λvs H1=>r vs H1 Q
theorem Bg(hc:Fs X (.builtin id) r)(hg:Gl X x)(hm:X.mg x=none)(hv:SA x=some (.builtin id))(ha:PA X (e::es) t)(hn:x ≠ "__name__" := by decide)(hdb:(x == ("__debug__" : Str))=false:=by decide)(he:NH (e::es) X.env=(false,RY e X.env)::NH es X.env:=by rfl)(hpl:(SR pos (NH es X.env)).any (·.1)=false:=by rfl):PE X (.Call (.Name x p) (e::es) [] pos) (JU r t):=by
 intro pins s σ H Q I h
 refine RZ (Il I hg hm hv ?_ hn hdb)
 exact PyProof.Rows.callWith_builtin1 (Bv (ha pos pins s σ H _ I h) λus s1 ⟨vs,H1,I1,r1,q1⟩=>hc pins s1 σ H1 vs us Q I1 r1 q1) he hpl
theorem Bo(hc:Fs X (.type T) r)(hg:Gl X x)(hm:X.mg x=none)(hv:SA x=some (.type T))(ha:PA X (e::es) t)(hn:x ≠ "__name__" := by decide)(hdb:(x == ("__debug__" : Str))=false:=by decide)(he:NH (e::es) X.env=(false,RY e X.env)::NH es X.env:=by rfl)(hpl:(SR pos (NH es X.env)).any (·.1)=false:=by rfl):PE X (.Call (.Name x p) (e::es) [] pos) (JU r t):=by
 intro pins s σ H Q I h
 refine RZ (Il I hg hm hv ?_ hn hdb)
 exact QL (Bv (ha pos pins s σ H _ I h) λus s1 ⟨vs,H1,I1,r1,q1⟩=>hc pins s1 σ H1 vs us Q I1 r1 q1) he hpl
end
end L2
namespace HT
open PySem PyProof.Rows
section
open PySem.SeqAt
open PySem.AutoSeq1 (wpAny_loadPart')
open PySem.MeetsSeq PySem.MeetsSeq2 PySem.MeetsSeq3
end
section
variable {prog:MV} {w:NU} {A:NV} {E:LP->LV->Prop} {s:LV}
def sIx(n d:Nat):Option Int->Nat
 | none=>d
 | some v=>if v < 0 then (v+(n:Int)).toNat else min v.toNat n
theorem sIx_none(n d:Nat):sIx n d none=d:=rfl
theorem sIx_nat(n d k:Nat):sIx n d (some (k:Int))=min k n:=by
 show (if (k:Int) < 0 then ((k:Int)+(n:Int)).toNat else min (k:Int).toNat n)=min k n
 rw[if_neg (by omega),OY]
theorem zX(n d:Nat)(hd:d<=n)(o:Option Int):sIx n d o<=n:=by
 cases o with
 | none=>exact hd
 | some v=>
  show (if v < 0 then (v+(n:Int)).toNat else min v.toNat n)<=n
  by_cases hv:v < 0
  ·rw[if_pos hv];omega
  ·rw[if_neg hv];exact Nat.min_le_right _ _
theorem iG(v:Int)(n d:Nat):(if v < 0 then max (v+(n:Int)) 0 else min v (n:Int))=((sIx n d (some v):Nat):Int):=by
 show (if v < 0 then max (v+(n:Int)) 0 else min v (n:Int))=(((if v < 0 then (v+(n:Int)).toNat else min v.toNat n):Nat):Int)
 by_cases hv:v < 0
 ·simp only[if_pos hv];omega
 ·simp only[if_neg hv];omega
theorem gE(lo hi:Option Int)(n:Nat):Builtin.Slice.sliceAdjust lo hi 1 (n:Int)=(((sIx n 0 lo:Nat):Int),((sIx n n hi:Nat):Int)):=by
 have h1:¬ ((1:Int) < 0):=by omega
 unfold Builtin.Slice.sliceAdjust
 simp only[h1,if_false]
 refine Prod.ext ?_ ?_
 ·cases lo with
  | none=>rfl
  | some v=>exact iG v n 0
 ·cases hi with
  | none=>rfl
  | some v=>exact iG v n n
theorem dX(i j:Nat):UE (i:Int) (j:Int) 1=j-i:=by
 unfold UE
 have h1:(1:Int) > 0:=by omega
 simp only[h1,if_true,Int.ediv_one]
 split<;>omega
theorem Sh{v:LP}{o:Option Int}{Q:Option Int->LV->Prop}(p:IsPart v o)(h:Q o s):ND (NJ prog w) A (Builtin.Slice.slicePartIndex v) Q E s:=by
 cases p with
 | none=>exact slicePart_none h
 | int i t=>exact slicePart_int h
theorem Ny{sl:LZ}{vl vu:LP}{lo hi:Option Int}{n:Nat}{Q:Int×Int×Nat->LV->Prop}(hs:s.heap.IsSliceOf sl vl vu .none)(pl:IsPart vl lo)(pu:IsPart vu hi)(h:Q (((sIx n 0 lo:Nat):Int),1,sIx n n hi-sIx n 0 lo) s):ND (NJ prog w) A (Builtin.Slice.sliceApplied (.ref sl) (pure (n:Int))) Q E s:=by
 obtain⟨os,hos,hcs,hds⟩:=id hs
 unfold Builtin.Slice.sliceApplied Builtin.Slice.sliceFields
 refine LL (LL (NG hos hds (x:=vl) rfl (LL (NG hos hds (x:=vu) rfl (LL (NG hos hds (x:=.none) rfl (MI ?_)))))))
 refine LL (slicePart_none ?_)
 show ND _ _ (if ((1:Int) == 0)=true then _ else _) _ _ s
 rw[if_neg (by decide)]
 refine LL (Sh pl (LL (Sh pu (LL (MI ?_)))))
 show ND _ _ (match Builtin.Slice.sliceAdjust lo hi 1 (n:Int) with | (lo,hi)=>pure (lo,(1:Int),UE lo hi 1)) _ _ s
 rw[gE lo hi n]
 show ND _ _ (pure (((sIx n 0 lo:Nat):Int),(1:Int),UE ((sIx n 0 lo:Nat):Int) ((sIx n n hi:Nat):Int) 1)) _ _ s
 rw[dX]
 exact MI h
theorem pU(xs:Array LP)(i k:Nat):((List.range k).filterMap λ(m:Nat)=>xs[((i:Int)+(m:Int) * 1).toNat]?).toArray=((xs.toList.drop i).take k).toArray:=by
 have e:(λ(m:Nat)=>xs[((i:Int)+(m:Int) * 1).toNat]?)=λm=>xs[i+m]?:=by
  funext m
  have:((i:Int)+(m:Int) * 1).toNat=i+m:=by omega
  rw[this]
 rw[e]
 have:=pick_run xs i k
 rw[List.filterMap_map] at this
 have e2:((λx=>xs[x]?) ∘ λx=>i+x)=λm=>xs[i+m]?:=rfl
 rw[e2] at this
 rw[this]
theorem getItem_tuple_cut{t sl:LZ}{items:Array LP}{vl vu:LP}{lo hi:Option Int}{Q:LP->LV->Prop}(ht:IsTup s.heap t items)(hs:s.heap.IsSliceOf sl vl vu .none)(pl:IsPart vl lo)(pu:IsPart vu hi)(hw:¬ (sIx items.size 0 lo=0/\sIx items.size items.size hi=items.size))(h:Q (.ref s.heap.objs.size) { s with heap:=s.heap.push { cls:=.type "tuple", data:=.seq ((items.toList.drop (sIx items.size 0 lo)).take (sIx items.size items.size hi-sIx items.size 0 lo)).toArray } })(hsz:items.size<=MG):ND (NJ prog w) A (getItem (.ref t) (.ref sl)) Q E s:=by
 have htake:sizeOk (.seq ((items.toList.drop (sIx items.size 0 lo)).take (sIx items.size items.size hi-sIx items.size 0 lo)).toArray):=by
  show ((items.toList.drop (sIx items.size 0 lo)).take (sIx items.size items.size hi-sIx items.size 0 lo)).toArray.size<=MG
  rw[NE,NM,OW,SJ]
  omega
 have hj:sIx items.size items.size hi<=items.size:=zX _ _ (MC _) hi
 obtain⟨os,hos,hcs,hds⟩:=id hs
 have hTs:s.TypeIs (.ref sl) "slice" := ⟨os,hos,hcs⟩
 unfold getItem
 try with_reducible refine PM ?_
 first | refine LL (MI ?_) | skip
 refine LL (wpAny_sequenceKey ht.typeIs (by decide) ?_)
 refine LL (NN (name:=ON "__getitem__") ht.typeIs UJ
  (OC UJ ht.typeIs entry_tuple_getitem ?_ (args_tuple_getitem _ _)))
 show ND _ _ (Builtin.Tuple.tupleItemsOf (.ref t) >>= _) _ _ s
 refine LL (tupleItemsOf_ ht ?_)
 refine LL (wpAny_typeOf hTs ?_)
 rw[if_pos (by decide)]
 refine LL (Ny hs pl pu ?_)
 have hno:¬ ((((sIx items.size 0 lo:Nat):Int) == 0 && (1:Int) == 1 && (sIx items.size items.size hi-sIx items.size 0 lo) == items.size)=true):=by
  intro q
  rw[OX,OX] at q
  have q1:((sIx items.size 0 lo:Nat):Int)=0:=eq_of_beq q.1.1
  have q2:sIx items.size items.size hi-sIx items.size 0 lo=items.size:=eq_of_beq q.2
  exact hw ⟨by omega,by omega⟩
 show ND _ _ (if (((sIx items.size 0 lo:Nat):Int) == 0 && (1:Int) == 1 && (sIx items.size items.size hi-sIx items.size 0 lo) == items.size)=true then _ else _) _ _ s
 rw[if_neg hno,pU]
 first
  | exact LL (m:=UH _) (RO (MI ⟨_,rfl,MI h⟩) htake)
  | exact LL (m:=UH _) (RO (LL (MI (MI ⟨_,rfl,MI h⟩))) htake)
  | exact LL (LL (m:=UH _) (RO (MI (MI ⟨_,rfl,MI h⟩)) htake))
  | exact LL (LL (m:=UH _) (RO (MI ⟨_,rfl,MI h⟩) htake))
end
end HT
namespace L2
open PySem PySem.Spec PyProof.Rows
abbrev TO:=St->Hp->(Option Int->Hp->Prop)->Prop
def PO(X:Cx)(e:Option Expr)(t:TO):Prop:=
 ∀(pins:List (LZ×Obj))(s:LV)(σ:St)(H:Hp)(Q:Option Int->Hp->Prop),Inv X pins σ H s->t σ H Q ->
  ND (NJ X.prog X.w) X.A (evalPart e X.env) (λu s'=>∃o H',Inv X pins σ H' s'/\IsPart u o/\Q o H') X.xe s
def wJ:TO:=λ_ H Q=>Q none H
def EE(t:TE):TO:=λσ H Q=>t σ H λx H1=>∃i,x=.int i/\Q (some i) H1
section
variable {X:Cx} {e:Expr} {te:TE} {lo hi:Option Expr} {tl th:TO} {pos p2:Pos}
theorem Dt:PO X none wJ:=by
 intro pins s σ H Q I h
 rw[evalPart_none]
 exact MI ⟨none,H,I,.none,h⟩
theorem Cv(h:PE X e te):PO X (some e) (EE te):=by
 intro pins s σ H Q I hw
 rw[evalPart_some]
 refine Bv (h pins s σ H _ I hw) λu s1 ⟨x,H1,I1,r1,q1⟩=>?_
 obtain⟨i,rfl,q⟩:=q1
 obtain⟨t,rfl⟩:=r1
 exact⟨some i,H1,I1,.int i t,q⟩
def FV(X:Cx)(r:V->Option Int->Option Int->Hp->VK->Prop):Prop:=
 ∀(pins:List (LZ×Obj))(s:LV)(σ:St)(H:Hp)(x:V)(v vl vu:LP)(lo hi:Option Int)(sl:LZ)(Q:VK),Inv X pins σ H s->RelV x v->s.heap.IsSliceOf sl vl vu .none->IsPart vl lo->IsPart vu hi->r x lo hi H Q ->
  ∃T id,typeLookup (.type T) "__getitem__" = pure (some (.builtin id))/\s.TypeIs v T/\ND (NJ X.prog X.w) X.A (getItem v (.ref sl)) (EP X pins σ Q) X.xe s
def LG(r:V->Option Int->Option Int->Hp->VK->Prop)(te:TE)(tl th:TO):TE:=λσ H Q=>te σ H λx H1=>tl σ H1 λl H2=>th σ H2 λu H3=>r x l u H3 Q
theorem Ck{r:V->Option Int->Option Int->Hp->VK->Prop}(hr:FV X r)(he:PE X e te)(hl:PO X lo tl)(hu:PO X hi th):PE X (.Subscript e (.Slice lo hi none p2) pos) (LG r te tl th):=by
 intro pins s σ H Q I h
 refine Subscript_ (Bv (he pins s σ H _ I h) λv s1 ⟨x,H1,I1,r1,q1⟩=>?_)
 refine wpAny_Slice (Bv (hl pins s1 σ H1 _ I1 q1) λvl s2 ⟨l,H2,I2,pl,q2⟩=>Bv (hu pins s2 σ H2 _ I2 q2) λvu s3 ⟨u,H3,I3,pu,q3⟩=>?_)
 rw[evalPart_none]
 refine MI ?_
 have I4:Inv X pins σ H3 { s3 with heap:=s3.heap.push { cls:=.type "slice", data:=.fields #[vl,vu,.none] } }:=I3.kept (t':=s3.toks) λb ob q=>LQ _ q
 obtain⟨T,id,hT,ht,hg⟩:=hr pins { s3 with heap:=s3.heap.push { cls:=.type "slice", data:=.fields #[vl,vu,.none] } } σ H3 x v vl vu l u s3.heap.objs.size Q I4 r1 (Heap.IsSliceOf.new ..) pl pu q3
 show ND (NJ X.prog X.w) X.A (subscriptTail e (.Slice lo hi none p2) v (.ref s3.heap.objs.size)) (EP X pins σ Q) X.xe { s3 with heap:=s3.heap.push { cls:=.type "slice", data:=.fields #[vl,vu,.none] } }
 exact tail_any (ops:=[.ref s3.heap.objs.size,v]) ht hT hg (by with_unfolding_all rfl)
def Es(xs:List V)(lo hi:Option Int):List V:=(xs.drop (HT.sIx xs.length 0 lo)).take (HT.sIx xs.length xs.length hi-HT.sIx xs.length 0 lo)
theorem Pi(xs:List V)(lo hi:Option Int):(Es xs lo hi).length<=xs.length:=by
 unfold Es
 rw[NM,OW]
 omega
def IK(K:LO):V->Option Int->Option Int->Hp->VK->Prop:=λx lo hi H Q=>∃a xs,x=.ref a/\Dq K H a xs /\
 ¬ (HT.sIx xs.length 0 lo=0/\HT.sIx xs.length xs.length hi=xs.length)/\∀p,H p=none->Q (.ref p) (upd H p (.tup (Es xs lo hi)))
theorem zU:FV X (IK X.K):=by
 intro pins s σ H x v vl vu lo hi sl Q I rx hs pl pu h
 obtain⟨a,xs,rfl,hx,hw,q⟩:=h
 cases rx
 obtain⟨its,r,ht,hz⟩:=I.tuple hx
 have hlen:its.toArray.size=xs.length:=by rw[NE];exact r.length.symm
 refine⟨"tuple", _,UJ.lookup,ht.typeIs,?_⟩
 refine HT.getItem_tuple_cut ht hs pl pu (by rw[hlen];exact hw) ?_ (by rw[hlen];exact hz)
 rw[hlen]
 refine⟨.ref s.heap.objs.size,_,I.laid (t':=s.toks) (o:=.tup (Es xs lo hi)) (λb ob q=>LQ _ q) (MC _) ?_,rfl,q _ (I.hok.fresh (MC _))⟩
 exact⟨NA (Pi xs lo hi) hz,_,(r.drop (HT.sIx xs.length 0 lo)).take (HT.sIx xs.length xs.length hi-HT.sIx xs.length 0 lo),IsTup.new _ _⟩
end
def pQ(n:Nat)(i:Int):Option Nat:=if 0<=i then (if i < n then some i.toNat else none) else if -(n:Int)<=i then some (i+n).toNat else none
def Sz{α:Type}(xs:List α)(i:Int):Option α:=(pQ xs.length i).bind λj=>xs[j]?
theorem jU{n:Nat}{i:Int}{j:Nat}(h:pQ n i=some j):seqIndex? i n=some j/\j < n /\ -(n:Int)<=i/\i < n:=by
 unfold pQ at h
 by_cases h0:0<=i
 ·rw[if_pos h0] at h
  by_cases h1:i < n
  ·rw[if_pos h1] at h
   have e:i.toNat=j:=MZ h
   exact⟨by rw[seqIndex_of h0 h1,e],by omega,by omega,h1⟩
  ·rw[if_neg h1] at h;cases h
 ·rw[if_neg h0] at h
  by_cases h1 : -(n:Int)<=i
  ·rw[if_pos h1] at h
   have e:(i+n).toNat=j:=MZ h
   exact⟨by rw[seqIndex_neg (by omega) h1,e],by omega,h1,by omega⟩
  ·rw[if_neg h1] at h;cases h
theorem Wr{α:Type}{xs:List α}{i:Int}{v:α}(h:Sz xs i=some v):∃j,seqIndex? i xs.length=some j/\xs[j]? = some v/\j < xs.length /\ -(xs.length:Int)<=i/\i < xs.length:=by
 unfold Sz at h
 cases e:pQ xs.length i with
 | none=>rw[e] at h;cases h
 | some j=>
  rw[e] at h
  obtain⟨h1,h2,h3,h4⟩:=jU e
  exact⟨j,h1,h,h2,h3,h4⟩
theorem Cj{α:Type}{xs:List α}{j:Nat}{v:α}(h:xs[j]? = some v):Sz xs (j:Int)=some v:=by
 have hj:j < xs.length:=(LM.mp h).1
 have e:pQ xs.length (j:Int)=some j:=by
  unfold pQ
  rw[if_pos (by omega),if_pos (by omega)];simp
 unfold Sz;rw[e];exact h
theorem Zk{α:Type}(xs:List α)(v:α):Sz (xs++[v]) (-1)=some v:=by
 have hl:(xs++[v]).length=xs.length+1:=by simp
 have e:pQ (xs++[v]).length (-1)=some xs.length:=by
  unfold pQ
  rw[hl,if_neg (by decide),if_pos (by omega)]
  congr 1
  omega
 unfold Sz
 rw[e]
 show (xs++[v])[xs.length]? = some v
 simp
def vG(b:Expr):Prop:=∀o i,subscripted b false o i=operate [o,i] (getItem o i)
def DN(X:Cx)(r:R2):Prop:=
 ∀(value slice:Expr)(pins:List (LZ×Obj))(s:LV)(σ:St)(H:Hp)(x y:V)(v u:LP)(Q:VK),Inv X pins σ H s->RelV x v->RelV y u->r x y H Q ->
  subscripted slice false v u=operate [v,u] (getItem v u)->ND (NJ X.prog X.w) X.A (subscriptTail value slice v u) (EP X pins σ Q) X.xe s
def KJ(X:Cx)(id:String)(r:V->List V->Hp->VK->Prop):Prop:=
 ∀(pins:List (LZ×Obj))(s:LV)(σ:St)(H:Hp)(x:V)(xs:List V)(v:LP)(us:List LP)(Q:VK),Inv X pins σ H s->RelV x v->Vals xs us->r x xs H Q ->
  ND (NJ X.prog X.w) X.A (call (.builtin id) (v::us)) (EP X pins σ Q) X.xe s
section
variable {X:Cx} {a b:Expr} {ta tb:TE} {pos:Pos}
theorem Az{r:R2}(hr:DN X r)(ha:PE X a ta)(hb:PE X b tb)(hs:vG b):PE X (.Subscript a b pos) (HY r ta tb):=by
 intro pins s σ H Q I h
 exact Subscript_ (AE ha hb I h λv u s2 x y H2 I2 rx ry q=>hr a b pins s2 σ H2 x y v u Q I2 rx ry q (hs _ _))
def mJ(K:LO):R2:=λx y H Q=>∃p xs i v,x=.ref p/\y=.int i/\Av K H p xs/\Sz xs i=some v/\Q v H
def DS(K:LO):R2:=λx y H Q=>∃p xs i v,x=.ref p/\y=.int i/\Dq K H p xs/\Sz xs i=some v/\Q v H
def JJ:R2:=λx y H Q=>∃z i c,x=.str z/\y=.int i/\z.length<=MG/\Sz z.cps.toList i=some c/\Q (.str ⟨#[c]⟩) H
theorem Be:DN X (mJ X.K):=by
 intro value slice pins s σ H x y v u Q I rx ry h hs
 obtain⟨p,xs,i,z,rfl,rfl,hq,he,q⟩:=h
 cases rx
 obtain⟨t,rfl⟩:=ry
 obtain⟨its,r,pl,hz⟩:=I.list hq
 obtain⟨j,h1,h2,h3,h4,h5⟩:=Wr he
 obtain⟨w,ew,rw'⟩:=r.get h2
 have hl:=r.length
 have hn:=Lj
 have fin:EP X pins σ Q w s:=⟨z,H,I,rw',q⟩
 by_cases h0:0<=i
 ·have hj:i.toNat=j:=by
   rw[seqIndex_of h0 h5] at h1
   exact MZ h1
  exact item_listR pl.isList h0 (by omega) (by rw[hj];simpa using ew) fin hs
 ·have hj:(i+(its.toArray.size:Int)).toNat=j:=by
   rw[seqIndex_neg (by omega) h4] at h1
   rw[NE,<- hl]
   exact MZ h1
  exact subscriptTail_builtinR (x:=w) pl.isList.typeIs slot_list_getitem.lookup
   (wpAny_getItem_list_neg (Q:=λr s'=>r=w/\EP X pins σ Q r s') pl.isList (by omega) (by rw[NE]<;>omega) (by omega) (by rw[hj];simpa using ew) ⟨rfl,fin⟩) hs
theorem Df:DN X (DS X.K):=by
 intro value slice pins s σ H x y v u Q I rx ry h hs
 obtain⟨p,xs,i,z,rfl,rfl,hq,he,q⟩:=h
 cases rx
 obtain⟨t,rfl⟩:=ry
 obtain⟨its,r,pl,hz⟩:=I.tuple hq
 obtain⟨j,h1,h2,h3,h4,h5⟩:=Wr he
 obtain⟨w,ew,rw'⟩:=r.get h2
 have hl:=r.length
 have hn:=Lj
 have fin:EP X pins σ Q w s:=⟨z,H,I,rw',q⟩
 exact subscriptTail_builtinR (x:=w) pl.typeIs slot_tuple_getitem.lookup
  (getItem_tuple (j:=j) (Q:=λr s'=>r=w/\EP X pins σ Q r s') pl (by omega) (by omega) (by rw[NE,<- hl];exact h1) (by simpa using ew) ⟨rfl,fin⟩) hs
theorem Xm:DN X JJ:=by
 intro value slice pins s σ H x y v u Q I rx ry h hs
 obtain⟨z,i,c,rfl,rfl,hz,he,q⟩:=h
 obtain⟨t,rfl⟩:=rx
 obtain⟨t',rfl⟩:=ry
 obtain⟨j,h1,h2,h3,h4,h5⟩:=Wr he
 have hl:z.cps.toList.length=z.length:=by simp[Str.length]
 rw[hl] at h1 h4 h5
 have hn:=Lj
 exact tail_any (typeIs_str s z t) slot_str_getitem.lookup (getItem_str (c:=c) (by
  have e1:decide (i < -(2 ^ 63:Int))=false:=decide_eq_false (by omega)
  have e2:decide (i ≥ 2 ^ 63)=false:=decide_eq_false (by omega)
  rw[e1,e2,Bool.or_false]) (by rw[h1];simpa using h2) ⟨.str ⟨#[c]⟩,H,I.tok _,⟨_,rfl⟩,q⟩) hs
theorem cR(its:List LP)(n j:Nat)(u:LP):UG (·.setIfInBounds j u) { cls:=.type "list", data:=.seq its.toArray n }={ cls:=.type "list", data:=.seq (its.set j u).toArray n }:=by
 simp[UG]
theorem Inv.lst{pins:List (LZ×Obj)}{σ:St}{H:Hp}{s:LV}{p:LZ}{xs:List V}(I:Inv X pins σ H s)(h:H p=some (.lst xs)):
 ∃(its:List LP)(n:Nat),Vals xs its/\s.heap.get? p=some { cls:=.type "list", data:=.seq its.toArray n }/\xs.length<=MG:=by
 obtain⟨z,its,n,r,e⟩:=I.hok p _ h
 exact⟨its,n,r,e,z⟩
theorem Inv.lstUpd{pins:List (LZ×Obj)}{σ:St}{H:Hp}{s:LV}{p:LZ}{xs ys:List V}{its its':List LP}{n n':Nat}{f:Obj->Obj}(I:Inv X pins σ H s)(h:H p=some (.lst xs))(ho:s.heap.get? p=some { cls:=.type "list", data:=.seq its.toArray n })(hf:f { cls:=.type "list", data:=.seq its.toArray n }={ cls:=.type "list", data:=.seq its'.toArray n' })(r:Vals ys its')(hz:ys.length<=MG)(t:Nat):
 Inv X pins σ (upd H p (.lst ys)) { s with heap:=s.heap.update p f,toks:=t }:=by
 have e:(s.heap.update p f).get? p=some { cls:=.type "list", data:=.seq its'.toArray n' }:=by
  rw[PY f ho (by rw[hf]<;>rfl),hf]
 refine I.write (x:=p) (e:=p) (by rw[h];trivial) (.inl rfl) (λb u hb q=>(NZ _ _ (NT hb)).trans q) ⟨_,e⟩ ?_
 exact⟨hz,its',n',r,e⟩
def EM:V->V->V->Hp->(Hp->Prop)->Prop:=λo i v H Q=>∃p xs k j,o=.ref p/\i=.int k/\H p=some (.lst xs)/\pQ xs.length k=some j/\Q (upd H p (.lst (xs.set j v)))
theorem set_list:FN X EM:=by
 intro pins s σ H o i v ov iv u Q I ro ri rv h
 obtain⟨p,xs,k,j,rfl,rfl,hp,hj,q⟩:=h
 cases ro
 obtain⟨t,rfl⟩:=ri
 obtain⟨its,n,r,ho,hz⟩:=I.lst hp
 obtain⟨h1,h2,h3,h4⟩:=jU hj
 have hl:=r.length
 have hn:=Lj
 have I':Inv X pins σ (upd H p (.lst (xs.set j v))) { s with heap:=s.heap.update p (UG (·.setIfInBounds j u)) }:=
  I.lstUpd hp ho (cR its n j u) (r.set rv j) (by rw[List.length_set];exact hz) s.toks
 by_cases h0:0<=k
 ·have hk:k.toNat=j:=by
   rw[seqIndex_of h0 h4] at h1
   exact MZ h1
  exact PySem.W.ki_setAt ho h0 (by omega) (by rw[NE,<- hl];exact h4) (by rw[hk];exact⟨_,I',q⟩)
 ·have hk:(k+(its.toArray.size:Int)).toNat=j:=by
   rw[seqIndex_neg (by omega) h3] at h1
   rw[NE,<- hl]
   exact MZ h1
  exact PySem.W.ki_setBack ho (by omega) (by rw[NE,<- hl];exact h3) (by omega) (by rw[hk];exact⟨_,I',q⟩)
theorem Xd(lo hi:Option Int)(n:Nat):(sliceBounds lo hi none n).1=((HT.sIx n 0 lo:Nat):Int)/\(sliceBounds lo hi none n).2.1=((HT.sIx n n hi:Nat):Int)/\(sliceBounds lo hi none n).2.2=1:=by
 refine⟨?_,?_,rfl⟩
 ·cases lo with
  | none=>simp[sliceBounds,HT.sIx]
  | some i=>
   simp only[sliceBounds,HT.sIx,Option.getD_none,show (1:Int) > 0 by decide,if_true]
   by_cases h:i < 0
   ·simp only[h,if_true]<;>omega
   ·simp only[h,if_false]<;>omega
 ·cases hi with
  | none=>simp[sliceBounds,HT.sIx]
  | some i=>
   simp only[sliceBounds,HT.sIx,Option.getD_none,show (1:Int) > 0 by decide,if_true]
   by_cases h:i < 0
   ·simp only[h,if_true]<;>omega
   ·simp only[h,if_false]<;>omega
theorem Ts(its:List LP)(lo hi:Option Int):slicePick its.toArray lo hi none=((its.drop (HT.sIx its.length 0 lo)).take (HT.sIx its.length its.length hi-HT.sIx its.length 0 lo)).toArray:=by
 obtain⟨h1,h2,h3⟩:=Xd lo hi its.toArray.size
 unfold slicePick
 rw[h1,h2,h3]
 simp only[sliceRange_one,pick_run,NE]<;>rfl
def rM(K:LO):V->Option Int->Option Int->Hp->VK->Prop:=λx lo hi H Q=>∃a xs,x=.ref a/\Av K H a xs/\∀p,H p=none->Q (.ref p) (upd H p (.lst (Es xs lo hi)))
theorem Ew:FV X (rM X.K):=by
 intro pins s σ H x v vl vu lo hi sl Q I rx hs pl pu h
 obtain⟨a,xs,rfl,hx,q⟩:=h
 cases rx
 obtain⟨its,r,ht,hz⟩:=I.list hx
 have hlen:=r.length
 refine⟨"list", _,slot_list_getitem.lookup,ht.isList.typeIs,?_⟩
 refine wpAny_getItem_list_slice ht.isList hs pl pu .none (by simp) ?_ (by rw[NE]<;>omega)
 rw[Ts,<- hlen]
 refine⟨.ref s.heap.objs.size,_,I.laid (t':=s.toks) (o:=.lst (Es xs lo hi)) (λb ob q=>LQ _ q) (MC _) ?_,rfl,q _ (I.hok.fresh (MC _))⟩
 exact⟨NA (Pi xs lo hi) hz,_,0,(r.drop (HT.sIx xs.length 0 lo)).take (HT.sIx xs.length xs.length hi-HT.sIx xs.length 0 lo),MS _ rfl⟩
def Nb:V->Bool
 | .non=>true
 | .bl _=>true
 | .int _=>true
 | .str _=>true
 | _=>false
def zS:V->V->Bool
 | .non,.non=>true
 | .bl a,.bl b=>a == b
 | .bl a,.int b=>(if a then 1 else 0) == b
 | .int a,.bl b=>a == (if b then 1 else 0)
 | .int a,.int b=>a == b
 | .str a,.str b=>a == b
 | _,_=>false
theorem zW{A:NV}{s:LV}{y x:V}{u v:LP}(ry:RelV y u)(rx:RelV x v)(fy:Nb y=true)(fx:Nb x=true):QF A s u v (zS y x):=by
 cases y with
 | non=>
  cases ry
  cases x with
  | non=>cases rx;exact SeqAt.EqAt.same _
  | bl b=>cases rx;exact SeqAt.EqAt.none_bool b
  | int b=>obtain⟨t,rfl⟩:=rx;exact SeqAt.EqAt.none_int b t
  | str b=>obtain⟨t,rfl⟩:=rx;exact SeqAt.EqAt.none_str b t
  | _=>exact absurd (show false=true from fx) LY
 | bl a=>
  cases ry
  cases x with
  | non=>cases rx;exact SeqAt.EqAt.bool_none a
  | bl b=>cases rx;exact SeqAt.EqAt.bool_bool a b
  | int b=>obtain⟨t,rfl⟩:=rx;exact SeqAt.EqAt.bool_int a b t
  | str b=>obtain⟨t,rfl⟩:=rx;exact SeqAt.EqAt.bool_str a b t
  | _=>exact absurd (show false=true from fx) LY
 | int a=>
  obtain⟨t',rfl⟩:=ry
  cases x with
  | non=>cases rx;exact SeqAt.EqAt.int_none a t'
  | bl b=>cases rx;exact SeqAt.EqAt.int_bool a t' b
  | int b=>obtain⟨t,rfl⟩:=rx;exact SeqAt.EqAt.int_int a t' b t
  | str b=>obtain⟨t,rfl⟩:=rx;exact SeqAt.EqAt.int_str a t' b t
  | _=>exact absurd (show false=true from fx) LY
 | str a=>
  obtain⟨t',rfl⟩:=ry
  cases x with
  | non=>cases rx;exact SeqAt.EqAt.str_none a t'
  | bl b=>cases rx;exact SeqAt.EqAt.str_bool a t' b
  | int b=>obtain⟨t,rfl⟩:=rx;exact SeqAt.EqAt.str_int a t' b t
  | str b=>obtain⟨t,rfl⟩:=rx;exact SeqAt.EqAt.str_str a t' b t
  | _=>exact absurd (show false=true from fx) LY
 | _=>exact absurd (show false=true from fy) LY
def wQ(x:V)(u:LP):Bool:=match u with
 | .none=>zS .non x
 | .bool b=>zS (.bl b) x
 | .int i _=>zS (.int i) x
 | .str z _=>zS (.str z) x
 | _=>false
theorem tF{x y:V}{u:LP}(r:RelV y u)(f:Nb y=true):wQ x u=zS y x:=by
 cases y with
 | non=>cases r;rfl
 | bl b=>cases r;rfl
 | int i=>obtain⟨t,rfl⟩:=r;rfl
 | str z=>obtain⟨t,rfl⟩:=r;rfl
 | _=>exact absurd (show false=true from f) LY
theorem Wg{x:V}:∀ {xs:List V} {us:List LP},Vals xs us->xs.all Nb=true->us.any (wQ x)=xs.any λy=>zS y x
 | _,_,.nil,_=>rfl
 | y::xs,u::us,.cons r t,f=>by
  rw[List.all_cons,OX] at f
  rw[UD,UD,tF r f.1,Wg t f.2]
theorem Su{A:NV}{s:LV}{x:V}{v:LP}(rx:RelV x v)(fx:Nb x=true):∀ {xs:List V} {us:List LP},Vals xs us->xs.all Nb=true->∀u∈us,QF A s u v (wQ x u)
 | _,_,.nil,_=>λu hu=>by cases hu
 | y::xs,u::us,.cons r t,f=>λu' hu=>by
  rw[List.all_cons,OX] at f
  rcases LX.mp hu with rfl | hu
  ·rw[tF r f.1];exact zW r rx f.1 fx
  ·exact Su rx fx t f.2 u' hu
def FE(x:V)(xs:List V):Bool:=xs.any λy=>zS y x
def KS(K:LO)(neg:Bool):R2:=λx y H Q=>∃p xs,y=.ref p/\(Av K H p xs∨Dq K H p xs)/\Nb x=true/\xs.all Nb=true/\Q (.bl (if neg then !FE x xs else FE x xs)) H
theorem Kr:Mr X (QW .In) (KS X.K false):=by
 intro pins s σ H x y v u Q I rx ry h
 obtain⟨p,xs,rfl,hq,fx,fs,q⟩:=h
 cases ry
 rcases hq with hq | hq
 ·obtain⟨its,r,pl,hz⟩:=I.list hq
  refine SeqAt.in_listAt (wQ x) pl.isList (λw hw=>Su rx fx r fs w (by simpa using hw)) ⟨.bl _,H,I,rfl,?_⟩
  rw[show its.toArray.any (wQ x)=its.any (wQ x) by simp,Wg r fs]
  exact q
 ·obtain⟨its,r,pl,hz⟩:=I.tuple hq
  refine SeqAt.in_tupleAt (wQ x) pl (λw hw=>Su rx fx r fs w (by simpa using hw)) ⟨.bl _,H,I,rfl,?_⟩
  rw[show its.toArray.any (wQ x)=its.any (wQ x) by simp,Wg r fs]
  exact q
theorem Co:Fs X (.builtin "len") (λxs H Q=>∃p ys,xs=[.ref p]/\(Av X.K H p ys∨Dq X.K H p ys)/\Q (.int ys.length) H):=by
 intro pins s σ H xs us Q I r h
 obtain⟨p,ys,rfl,hq,q⟩:=h
 obtain⟨u,rfl,rx⟩:=vals1 r
 cases rx
 have hn:=Lj
 rcases hq with hq | hq
 ·obtain⟨its,r',pl,hz⟩:=I.list hq
  have hlen:=r'.length
  exact Calls.call_len_list pl.isList (by simp only[NE]<;>omega) ⟨.int ys.length,H,I.tok _,⟨s.toks+1,by rw[NE,hlen]⟩,q⟩
 ·obtain⟨its,r',pl,hz⟩:=I.tuple hq
  have hlen:=r'.length
  exact len_tuple pl (by simp only[NE]<;>omega) ⟨.int ys.length,H,I.tok _,⟨s.toks+1,by rw[NE,hlen]⟩,q⟩
theorem Ih:Fs X (.builtin "len") (λxs H Q=>∃z,xs=[.str z]/\z.length<=MG/\Q (.int z.length) H):=by
 intro pins s σ H xs us Q I r h
 obtain⟨z,rfl,hz,q⟩:=h
 obtain⟨u,rfl,t,rfl⟩:=vals1 r
 have hn:=Lj
 exact len_str (by omega) ⟨.int z.length,H,I.tok _,⟨_,rfl⟩,q⟩
theorem Et:Fs X (.type "list") (λxs H Q=>∃p ys,xs=[.ref p]/\(Av X.K H p ys∨Dq X.K H p ys)/\∀l,H l=none->Q (.ref l) (upd H l (.lst ys))):=by
 intro pins s σ H xs us Q I r h
 obtain⟨p,ys,rfl,hq,q⟩:=h
 obtain⟨u,rfl,rx⟩:=vals1 r
 cases rx
 have fin:∀(its:List LP),Vals ys its->ys.length<=MG->∀(h':OS)(c':Nat),(∀b o',s.heap.get? b=some o'->h'.get? b=some o') ->
  h'.get? s.heap.objs.size=some { cls:=.type "list", dict:=none,data:=.seq its.toArray c',slots:=#[] }->EP X pins σ Q (.ref s.heap.objs.size) { s with heap:=h' }:=λits r' hz h' c' kp e=>
  ⟨.ref s.heap.objs.size,_,I.laid (t':=s.toks) kp (MC _) (show Cg X.prog X.w _ h' _ (.lst ys) from ⟨hz,its,c',r',e⟩),rfl,q _ (I.hok.fresh (MC _))⟩
 rcases hq with hq | hq
 ·obtain⟨its,r',pl,hz⟩:=I.list hq
  have hlen:=r'.length
  obtain⟨o,ho,hc,n,hd⟩:=pl.isList
  exact call_list_seq p (.inl rfl) ho hc hd (λh' c' kp e=>fin its r' hz h' c' kp e) (by simp only[NE]<;>omega)
 ·obtain⟨its,r',pl,hz⟩:=I.tuple hq
  have hlen:=r'.length
  obtain⟨o,ho,hc,n,hd⟩:=pl
  exact call_list_seq p (.inr rfl) ho hc hd (λh' c' kp e=>fin its r' hz h' c' kp e) (by simp only[NE]<;>omega)
theorem To:Fs X (.type "tuple") (λxs H Q=>∃p ys,xs=[.ref p]/\((Av X.K H p ys/\∀l,H l=none->Q (.ref l) (upd H l (.tup ys)))∨(Dq X.K H p ys/\Q (.ref p) H))):=by
 intro pins s σ H xs us Q I r h
 obtain⟨p,ys,rfl,h⟩:=h
 obtain⟨u,rfl,rx⟩:=vals1 r
 cases rx
 rcases h with ⟨hq,q⟩ | ⟨hq,q⟩
 ·obtain⟨its,r',pl,hz⟩:=I.list hq
  have hlen:=r'.length
  refine call_tuple_list pl.isList (λh' kp=>?_) (by simp only[NE]<;>omega)
  have I1:Inv X pins σ H { s with heap:=h' }:=I.kept (t':=s.toks) kp
  have I2:Inv X pins σ (upd H h'.objs.size (.tup ys)) { s with heap:=h'.push { cls:=.type "tuple", data:=.seq its.toArray } }:=
   I1.laid (t':=s.toks) (λb o e=>LQ _ e) (MC _) (show Cg X.prog X.w _ _ _ (.tup ys) from ⟨hz,its,r',IsTup.new _ _⟩)
  exact⟨.ref h'.objs.size,_,I2,rfl,q _ (I1.hok.fresh (MC _))⟩
 ·obtain⟨its,r',pl,hz⟩:=I.tuple hq
  exact call_tuple_same pl ⟨.ref p,H,I,rfl,q⟩
def KO(K:LO)(T:String)(x:V)(H:Hp):Prop:=match x with
 | .str _=>T = "str"
 | .int _=>T = "int"
 | .ref p=>(T = "list" /\ ∃xs,Av K H p xs)∨(T = "tuple" /\ ∃o,K.lookup p=some o/\o.cls=.type "tuple" /\ o.dict=none) ∨
  (T = "dict" /\ ((∃kvs,H p=some (.dK kvs)) ∨ ∃kvs,H p=some (.dT kvs)))∨(T = "set" /\ ∃S n,H p=some (.set S n))
 | _=>False
theorem zV{pins:List (LZ×Obj)}{σ:St}{H:Hp}{s:LV}{T:String}{x:V}{v:LP}(I:Inv X pins σ H s)(r:RelV x v)(ty:KO X.K T x H):
 s.TypeIs v T/\∀a,v=.ref a->∃ob,s.heap.get? a=some ob/\ob.dict=none:=by
 cases x with
 | str z=>
  obtain⟨t,rfl⟩:=r
  cases (show T = "str" from ty)
  exact⟨typeIs_str s z t,λ_ e=>nomatch e⟩
 | int i=>
  obtain⟨t,rfl⟩:=r
  cases (show T = "int" from ty)
  exact⟨typeIs_int s i t,λ_ e=>nomatch e⟩
 | ref p=>
  cases r
  rcases ty with ⟨rfl,xs,hq⟩ | ⟨rfl,o,hk,hc,hd⟩ | ⟨rfl,hk⟩ | ⟨rfl,S,n,hk⟩
  ·obtain⟨its,_,pl,_⟩:=I.list hq
   refine⟨pl.isList.typeIs,λa e=>?_⟩
   cases e
   obtain⟨o,n,e,c,hd,_⟩:=pl
   exact⟨o,e,hd⟩
  ·refine⟨⟨o,I.kIn p o hk,hc⟩,λa e=>?_⟩
   cases e
   exact⟨o,I.kIn _ o hk,hd⟩
  ·have z:∃o,s.heap.get? p=some o/\o.ExactDict:=by
    rcases hk with ⟨kvs,hk⟩ | ⟨kvs,hk⟩
    ·obtain⟨_,_,_,_,o,_,_,e,ex,_⟩:=I.hok p _ hk
     exact⟨o,e,ex⟩
    ·obtain⟨_,_,_,_,o,_,_,e,ex,_⟩:=I.hok p _ hk
     exact⟨o,e,ex⟩
   obtain⟨o,e,ex⟩:=z
   refine⟨⟨o,e,ex.1⟩,λa e2=>?_⟩
   cases e2
   exact⟨o,e,ex.2.1⟩
  ·obtain⟨o,_,_,_,e,ex,_⟩:=I.hok p _ hk
   refine⟨⟨o,e,ex.1⟩,λa e2=>?_⟩
   cases e2
   exact⟨o,e,ex.2.1⟩
 | _=>exact OT ty
def KP(K:LO)(T:String)(r:V->List V->Hp->VK->Prop)(to:TE)(t:TA):TE:=λσ H Q=>to σ H λx H1=>KO K T x H1/\t σ H1 λxs H2=>r x xs H2 Q
variable {o e:Expr} {es:List Expr} {to:TE} {t:TA} {name:Str} {apos cpos:Pos} {T id:String} {r:V->List V->Hp->VK->Prop}
theorem Dg(pa:PlainAttrs T)(slot:Slot T name id)(hty:typeOf (.builtin id)=pure (.type "method_descriptor"))(hm:KJ X id r)(ho:PE X o to)(ha:PA X (e::es) t)(hbase:attributeBase o name X.env (RY o X.env)=RY o X.env:=by rfl)(hfew:((SR cpos (NH (e::es) X.env)).all (λx=>!x.1) && (backToKw cpos (SS [] X.env)).all (λx=>x.1.isSome)
  && decide ((e::es).length+([]:List Keyword).length+(if ([]:List Keyword).isEmpty then 0 else 1) < 30))=true:=by rfl)(hline:(apos.endLine == cpos.line)=true:=by rfl)(hs:NH (e::es) X.env=(false,RY e X.env)::NH es X.env:=by rfl)(hplain:(SR cpos (NH es X.env)).any (·.1)=false:=by rfl):
 PE X (.Call (.Attribute o name apos) (e::es) [] cpos) (KP X.K T r to t):=by
 intro pins s σ H Q I h
 refine wpAny_Call_method_late hbase hfew hline rfl (Bv (ho pins s σ H _ I h) λv s1 ⟨x,H1,I1,r1,ty,q1⟩=>?_)
 obtain⟨h1,h2⟩:=zV I1 r1 ty
 refine⟨T,id,pa,slot,hty,h1,h2,?_⟩
 have hA:=ha cpos pins s1 σ H1 _ I1 q1
 rw[hs] at hA ⊢
 refine UX (by show (false || (SR cpos (NH es X.env)).any (·.1))=false;rw[hplain]<;>rfl) (Calls.evalArgs_plain ?_)
 exact Bv hA λus s2 ⟨vs,H2,I2,r2,q2⟩=>hm pins s2 σ H2 x vs v us Q I2 r1 r2 q2
end
def CY(X:Cx)(id:String)(r:V->List V->Hp->VK->Prop):Prop:=
 ∀(pins:List (LZ×Obj))(s:LV)(σ:St)(H:Hp)(x:V)(xs:List V)(v:LP)(us:List LP)(Q:VK),Inv X pins σ H s->RelV x v->Vals xs us->r x xs H Q ->
  ND (NJ X.prog X.w) X.A (call (.builtin id) (v::us)) (EP X pins σ Q) X.xe s
theorem Vals.one:∀ {x:V} {us:List LP},Vals [x] us->∃u,us=[u]/\RelV x u
 | _,_,.cons r .nil=>⟨_,rfl,r⟩
theorem Vals.reverse{xs:List V}{us:List LP}(h:Vals xs us):Vals xs.reverse us.reverse:=by
 induction h with
 | nil=>exact .nil
 | cons r t ih=>rw[List.reverse_cons,List.reverse_cons];exact Vals.append ih (.cons r .nil)
section
variable {X:Cx} {pins:List (LZ×Obj)} {σ:St} {H:Hp} {s:LV} {l b:LZ} {xs ys zs:List V}
theorem Inv.lset{its its':List LP}{n:Nat}{f:Array LP->Array LP}{t':Nat}(I:Inv X pins σ H s)(hH:H l=some (.lst xs))(e:s.heap.get? l=some { cls:=.type "list", data:=.seq its.toArray n })(hf:f its.toArray=its'.toArray)(hv:Vals ys its')(hz:ys.length<=MG):
 Inv X pins σ (upd H l (.lst ys)) { s with heap:=s.heap.update l (UG f),toks:=t' }:=by
 have q:=PySem.IsL.update e f
 rw[hf] at q
 refine I.write (x:=l) (e:=l) (by rw[hH];exact trivial) (.inl rfl) (λb' u hb hu=>(NZ s.heap (UG f) (NT hb)).trans hu) ⟨_,q⟩ ?_
 exact⟨hz,its',_,hv,q⟩
theorem Inv.lnew{its:List LP}{t':Nat}(I:Inv X pins σ H s)(hv:Vals ys its)(hz:ys.length<=MG):
 Inv X pins σ (upd H s.heap.objs.size (.lst ys)) { s with heap:=s.heap.push { cls:=.type "list", data:=.seq its.toArray },toks:=t' }:=
 I.laid (λ_ _ q=>LQ _ q) (MC _) ⟨hz,its,0,hv,MS _ rfl⟩
theorem Inv.fresh(I:Inv X pins σ H s):H s.heap.objs.size=none:=I.hok.fresh (MC _)
theorem Inv.lstM(I:Inv X pins σ H s)(hH:H l=some (.lst xs)):xs.length<=MG/\∃(its:List LP)(n:Nat),Vals xs its/\xs.length=its.length/\s.heap.get? l=some { cls:=.type "list", data:=.seq its.toArray n }:=by
 obtain⟨z,its,n,r,e⟩:=I.hok l _ hH
 exact⟨z,its,n,r,r.length,e⟩
end
section
variable {X:Cx}
def vR:V->List V->Hp->VK->Prop:=λx vs H Q=>∃l xs y,x=.ref l/\vs=[y]/\H l=some (.lst xs)/\xs.length < MG/\Q .non (upd H l (.lst (xs++[y])))
theorem Gf:CY X "list.append" vR:=by
 intro pins s σ H x vs v us Q I rx rv h
 obtain⟨l,xs,y,rfl,rfl,hH,hz,q⟩:=h
 cases rx
 obtain⟨u,rfl,ru⟩:=rv.one
 obtain⟨z,its,n,r,hl,e⟩:=I.lstM hH
 refine call_meets F.slot_list_append ⟨_,e,rfl⟩ F.entry_list_append (F.args_list_append_2 _ _) (PySem.list_append l its.toArray n u (by rw[NE];omega)) ⟨e,?_⟩
 refine⟨.non,_,I.lset (its':=its++[u]) hH e (by simp) (r.append (.cons ru .nil)) ?_,rfl,q⟩
 rw[LS,MR]
 omega
def JG:R2:=λx y H Q=>∃l b xs zs,x=.ref l/\y=.ref b/\H l=some (.lst xs)/\H b=some (.lst zs)/\xs.length+zs.length<=MG/\∀p,H p=none->Q (.ref p) (upd H p (.lst (xs++zs)))
theorem Ic:Mr X (binaryOp .Add) JG:=by
 intro pins s σ H x y v u Q I rx ry h
 obtain⟨l,b,xs,zs,rfl,rfl,hH,hB,hz,q⟩:=h
 cases rx
 cases ry
 obtain⟨z,its,n,r,hl,e⟩:=I.lstM hH
 obtain⟨z2,its2,n2,r2,hl2,e2⟩:=I.lstM hB
 refine PySem.P.add_list e e2 ?_ (by rw[NE,NE];omega)
 have ea:its.toArray++its2.toArray=(its++its2).toArray:=by simp
 rw[ea]
 exact⟨.ref _,_,I.lnew (t':=s.toks) (r.append r2) (by rw[LS];omega),rfl,q _ I.fresh⟩
end
section
variable {prog:MV} {w:NU} {A:NV} {E:LP->LV->Prop} {s:LV}
end
section
variable {X:Cx}
end
section
variable {κ:Type} [DecidableEq κ]
def valV(kvs:List (κ×V))(k:κ):Option V:=(kvs.find? λkv=>decide (kv.1=k)).map (·.2)
def putK(kvs:List (κ×V))(k:κ)(v:V):List (κ×V):=
 if (kvs.any λkv=>decide (kv.1=k))=true then kvs.map (λkv=>if kv.1=k then (kv.1,v) else kv) else kvs++[(k,v)]
def Hc(kvs:List (κ×V))(k:κ):List (κ×V):=kvs.filter λkv=>decide (kv.1≠k)
theorem Cz{p:κ×V}{r:List (κ×V)}{k:κ}(e:p.1=k):valV (p::r) k=some p.2:=by simp[valV,UC,e]
theorem Dc{p:κ×V}{r:List (κ×V)}{k:κ}(e:¬ p.1=k):valV (p::r) k=valV r k:=by simp[valV,UC,e]
theorem Hb(k:κ):∀kvs:List (κ×V),(kvs.any λkv=>decide (kv.1=k))=(valV kvs k).isSome
 | []=>rfl
 | p::r=>by
  rw[UD]
  by_cases e:p.1=k
  ·simp only[Cz e,decide_eq_true e,Bool.true_or,Option.isSome_some]
  ·rw[Dc e,decide_eq_false e,Bool.false_or];exact Hb k r
theorem aQ(k j:κ)(y:V):∀kvs:List (κ×V),valV (kvs.map λkv=>if kv.1=k then (kv.1,y) else kv) j=(valV kvs j).map λx=>if j=k then y else x
 | []=>rfl
 | p::r=>by
  have ih:=aQ k j y r
  rw[MU]
  by_cases h:p.1=k
  ·rw[if_pos h]
   by_cases e:p.1=j
   ·rw[Cz (p:=(p.1,y)) e,Cz e,Option.map_some,if_pos (e.symm.trans h)]
   ·rw[Dc (p:=(p.1,y)) e,Dc e,ih]
  ·rw[if_neg h]
   by_cases e:p.1=j
   ·rw[Cz (p:=p) e,Cz e,Option.map_some,if_neg (λz=>h (e.trans z))]
   ·rw[Dc (p:=p) e,Dc e,ih]
theorem Ua(k j:κ)(y:V):∀kvs:List (κ×V),valV kvs k=none->valV (kvs++[(k,y)]) j=if j=k then some y else valV kvs j
 | [],_=>by
  by_cases e:k=j
  ·rw[if_pos e.symm];exact Cz (p:=(k,y)) e
  ·rw[if_neg (λz=>e z.symm)];exact Dc (p:=(k,y)) e
 | p::r,hn=>by
  rw[List.cons_append]
  have hk:¬ p.1=k:=λz=>by rw[Cz z] at hn;cases hn
  rw[Dc hk] at hn
  have ih:=Ua k j y r hn
  by_cases e:p.1=j
  ·rw[Cz e,Cz e,if_neg (λz=>hk (e.trans z))]
  ·rw[Dc e,Dc e,ih]
theorem Ry(kvs:List (κ×V))(k j:κ)(y:V):valV (putK kvs k y) j=if j=k then some y else valV kvs j:=by
 unfold putK
 by_cases a:(kvs.any λkv=>decide (kv.1=k))=true
 ·rw[if_pos a,aQ]
  rw[Hb] at a
  by_cases e:j=k
  ·obtain⟨x,hx⟩:=Option.isSome_iff_exists.mp a
   rw[if_pos e,e,hx,Option.map_some,if_pos rfl]
  ·rw[if_neg e]
   cases valV kvs j with
   | none=>rfl
   | some x=>rw[Option.map_some,if_neg e]
 ·rw[if_neg a]
  refine Ua k j y kvs ?_
  rw[Hb] at a
  cases q:valV kvs k with
  | none=>rfl
  | some x=>rw[q] at a;exact(a rfl).elim
theorem Hd(kvs:List (κ×V))(k:κ)(v:V):(putK kvs k v).length<=kvs.length+1:=by
 unfold putK
 split
 ·rw[LN];omega
 ·rw[LS,MT,List.length_nil];omega
theorem rB{kvs:List (κ×V)}{k:κ}(v:V)(h:valV kvs k=none):putK kvs k v=kvs++[(k,v)]:=by
 unfold putK
 rw[Hb,h]
 exact if_neg (by decide)
theorem Hg.isSome_eq{o:Option V}{u:Option LP}(r:Hg o u):o.isSome=u.isSome:=by
 cases o with
 | none=>cases u with
  | none=>rfl
  | some _=>exact(show False from r).elim
 | some _=>cases u with
  | none=>exact(show False from r).elim
  | some _=>rfl
theorem Hg.getD{o:Option V}{u:Option LP}{d:V}{d':LP}(r:Hg o u)(rd:RelV d d'):RelV (o.getD d) (u.getD d'):=by
 cases o with
 | none=>cases u with
  | none=>exact rd
  | some _=>exact(show False from r).elim
 | some _=>cases u with
  | none=>exact(show False from r).elim
  | some _=>exact r
theorem KV.val{kvs:List (κ×V)}{vs:List (κ×LP)}(r:KV kvs vs)(k:κ):Hg (valV kvs k) (valueAt vs k):=by
 unfold KV at r
 induction r with
 | nil=>exact RK
 | @cons p q ps qs h t ih=>
  obtain⟨h1,h2⟩:=h
  by_cases e:p.1=k
  ·have e':q.1=k:=h1.symm.trans e
   have b:valueAt (q::qs) k=some q.2:=by simp[valueAt,UC,e']
   rw[Cz e,b];exact h2
  ·have e':¬ q.1=k:=λz=>e (h1.trans z)
   have b:valueAt (q::qs) k=valueAt qs k:=by simp[valueAt,UC,e']
   rw[Dc e,b];exact ih
theorem KV.any{kvs:List (κ×V)}{vs:List (κ×LP)}(r:KV kvs vs)(k:κ):(kvs.any λkv=>decide (kv.1=k))=vs.any λkv=>decide (kv.1=k):=by
 unfold KV at r
 induction r with
 | nil=>rfl
 | cons h t ih=>rw[UD,UD,ih,h.1]
theorem KV.repl{kvs:List (κ×V)}{vs:List (κ×LP)}(r:KV kvs vs)(k:κ){y:V}{u:LP}(ry:RelV y u):
 KV (kvs.map λkv=>if kv.1=k then (kv.1,y) else kv) (vs.map λkv=>if kv.1=k then (kv.1,u) else kv):=by
 unfold KV at r ⊢
 induction r with
 | nil=>exact .nil
 | @cons p q ps qs h t ih=>
  rw[MU,MU]
  refine .cons ?_ ih
  obtain⟨h1,h2⟩:=h
  by_cases e:p.1=k
  ·rw[if_pos e,if_pos (h1.symm.trans e)];exact⟨h1,ry⟩
  ·rw[if_neg e,if_neg (λz=>e (h1.trans z))];exact⟨h1,h2⟩
theorem KV.put{kvs:List (κ×V)}{vs:List (κ×LP)}(r:KV kvs vs)(k:κ){y:V}{u:LP}(ry:RelV y u):KV (putK kvs k y) (stored vs k u):=by
 unfold putK stored
 rw[r.any k]
 by_cases e:(vs.any λkv=>decide (kv.1=k))=true
 ·rw[if_pos e,if_pos e];exact r.repl k ry
 ·rw[if_neg e,if_neg e];exact Paired.snoc r ⟨rfl,ry⟩
theorem KV.drop{kvs:List (κ×V)}{vs:List (κ×LP)}(r:KV kvs vs)(k:κ):KV (Hc kvs k) (without vs k):=by
 unfold KV at r ⊢
 unfold Hc without
 induction r with
 | nil=>exact .nil
 | @cons p q ps qs h t ih=>
  obtain⟨h1,h2⟩:=h
  rw[List.filter_cons,List.filter_cons]
  by_cases e:p.1=k
  ·have a:¬ decide (p.1≠k)=true:=by simp[e]
   have b:¬ decide (q.1≠k)=true:=by simp[h1.symm.trans e]
   rw[if_neg a,if_neg b];exact ih
  ·have e':¬ q.1=k:=λz=>e (h1.trans z)
   have a:decide (p.1≠k)=true:=by simp[e]
   have b:decide (q.1≠k)=true:=by simp[e']
   rw[if_pos a,if_pos b];exact .cons ⟨h1,h2⟩ ih
theorem KV.length{kvs:List (κ×V)}{vs:List (κ×LP)}(r:KV kvs vs):kvs.length=vs.length:=OF r
theorem Ym(kvs:List (κ×V))(k:κ):(Hc kvs k).length<=kvs.length:=UP _ _
end
theorem Mn{P:MV}{w:NU}{k:Key}{u:LP}(r:RelV (kV k) u):(Bp P w).is k u=true:=by
 cases k with
 | inl i=>obtain⟨t,e⟩:=(show ∃t,u=Value.int i t from r);subst e;exact Yu P w i t
 | inr x=>obtain⟨t,e⟩:=(show ∃t,u=Value.str x t from r);subst e;exact Xu P w x t
theorem Uq{P:MV}{w:NU}:∀ {ks:List Key} {us:List LP},Vals (ks.map kV) us->ItemsAre (Bp P w) ks us
 | [],_,r=>by rw[List.map_nil] at r;cases r;exact .nil
 | k::ks,_,r=>by
  rw[MU] at r
  cases r with
  | cons h t=>exact .cons (Mn h) (Uq t)
abbrev KT(H:Hp):List (List Key×V)->List (List Key×LZ×LP)->Prop:=OJ λp q=>p.1=q.1/\H q.2.1=some (.tup (p.1.map kV))/\RelV p.2 q.2.2
theorem KT.val{H:Hp}{kvs:List (List Key×V)}{xs:List (List Key×LZ×LP)}(r:KT H kvs xs)(k:List Key):Hg (valV kvs k) ((atKey xs k).map (·.2)):=by
 induction r with
 | nil=>exact RK
 | @cons p q ps qs h t ih=>
  obtain⟨h1,_,h2⟩:=h
  by_cases e:p.1=k
  ·have e':q.1=k:=h1.symm.trans e
   have b:atKey (q::qs) k=some q.2:=by simp[atKey,UC,e']
   rw[Cz e,b];exact h2
  ·have e':¬ q.1=k:=λz=>e (h1.trans z)
   have b:atKey (q::qs) k=atKey qs k:=by simp[atKey,UC,e']
   rw[Dc e,b];exact ih
theorem KT.repl{H:Hp}{kvs:List (List Key×V)}{xs:List (List Key×LZ×LP)}(r:KT H kvs xs)(k:List Key){y:V}{u:LP}(ry:RelV y u):
 KT H (kvs.map λkv=>if kv.1=k then (kv.1,y) else kv) (xs.map (putAt k u)):=by
 induction r with
 | nil=>exact .nil
 | @cons p q ps qs h t ih=>
  rw[MU,MU]
  refine .cons ?_ ih
  obtain⟨h1,h2,h3⟩:=h
  unfold putAt
  by_cases e:p.1=k
  ·rw[if_pos e,if_pos (h1.symm.trans e)];exact⟨h1,h2,ry⟩
  ·rw[if_neg e,if_neg (λz=>e (h1.trans z))];exact⟨h1,h2,h3⟩
theorem KT.put{H:Hp}{kvs:List (List Key×V)}{xs:List (List Key×LZ×LP)}(r:KT H kvs xs)(k:List Key){b:LZ}{y:V}{u:LP}(hb:H b=some (.tup (k.map kV)))(ry:RelV y u):
 KT H (putK kvs k y) (storedH xs k b u):=by
 have e:(kvs.any λkv=>decide (kv.1=k))=(atKey xs k).isSome:=by
  rw[Hb,(r.val k).isSome_eq,Option.isSome_map]
 unfold putK storedH
 rw[e]
 by_cases q:(atKey xs k).isSome=true
 ·rw[if_pos q,if_pos q];exact r.repl k ry
 ·rw[if_neg q,if_neg q];exact Paired.snoc r ⟨rfl,hb,ry⟩
theorem KT.keeps{H H':Hp}{kvs:List (List Key×V)}{xs:List (List Key×LZ×LP)}(r:KT H kvs xs)(ht:∀b ys,H b=some (.tup ys)->H' b=some (.tup ys)):KT H' kvs xs:=
 Paired.mapP r λ_ _ z=>⟨z.1,ht _ _ z.2.1,z.2.2⟩
section
variable {P:MV} {w:NU} {H:Hp} {h:OS} {a:LZ}
theorem zE{u:HO}(ok:Kw P w H h)(e:Rd H a u):Cg P w H h a u:=e.ok ok
theorem Ow{kvs:List (Key×V)}(ok:Kw P w H h)(e:Rd H a (.dK kvs)):kvs.length<=MG/\(a == RH)=false/\∃vs,KV kvs vs/\h.DictOf (Bp P w) a vs:=
 show Cg P w H h a (.dK kvs) from zE ok e
theorem qV{kvs:List (Key×V)}(ok:Kw P w H h)(e:H a=some (.dK kvs)):kvs.length<=MG/\(a == RH)=false/\∃vs,KV kvs vs/\h.DictOf (Bp P w) a vs:=Ow ok (.inl e)
theorem Of{ks:List Key}(ok:Kw P w H h)(e:H a=some (.tup (ks.map kV))):(tupleKind (Bp P w)).is h ks a:=by
 obtain⟨_,its,r,o,h1,h2,n,h3⟩:=(show Cg P w H h a (.tup (ks.map kV)) from ok a _ e)
 exact⟨o,its.toArray,n,h1,h2,h3,by simpa using Uq r⟩
theorem Qx{kvs:List (List Key×V)}(ok:Kw P w H h)(e:Rd H a (.dT kvs)):kvs.length<=MG/\(a == RH)=false /\
 ∃xs,KT H kvs xs/\h.DictOfH (tupleKind (Bp P w)) a xs:=by
 obtain⟨z,y,xs,r,o,es,ep,h1,h2,h3,h4,h5⟩:=(show Cg P w H h a (.dT kvs) from zE ok e)
 refine⟨z,y,xs,r,o,es,ep,h1,h2,h3,h4,λx hx=>?_,h5⟩
 have all:∀ {l:List (List Key×V)} {m:List (List Key×LZ×LP)},KT H l m->∀x∈m,(tupleKind (Bp P w)).is h x.1 x.2.1:=by
  intro l m q
  induction q with
  | nil=>intro x hx;exact nomatch hx
  | @cons p q ps qs hq t ih=>
   intro x hx
   rcases LX.mp hx with e | hx
   ·subst e
    exact Of ok (by rw[<- hq.1];exact hq.2.1)
   ·exact ih x hx
 exact all r x hx
theorem EN{kvs:List (List Key×V)}(ok:Kw P w H h)(e:H a=some (.dT kvs)):kvs.length<=MG/\(a == RH)=false /\
 ∃xs,KT H kvs xs/\h.DictOfH (tupleKind (Bp P w)) a xs:=Qx ok (.inl e)
end
def Fu(H:Hp)(a:LZ)(y:V)(r:Option V):Prop:=
 (∃kvs k,Rd H a (.dK kvs)/\y=kV k/\r=valV kvs k) ∨ ∃kvs k b,Rd H a (.dT kvs)/\y=.ref b/\H b=some (.tup (k.map kV))/\r=valV kvs k
def Pp(H:Hp)(a:LZ)(y v:V)(H':Hp):Prop:=
 (∃kvs k,H a=some (.dK kvs)/\y=kV k/\kvs.length < MG/\H'=upd H a (.dK (putK kvs k v))) ∨
 ∃kvs k b,H a=some (.dT kvs)/\y=.ref b/\H b=some (.tup (k.map kV))/\kvs.length < MG/\H'=upd H a (.dT (putK kvs k v))
theorem Fu.k{H:Hp}{a:LZ}{kvs:List (Key×V)}{k:Key}(e:H a=some (.dK kvs)):Fu H a (kV k) (valV kvs k):=.inl ⟨kvs,k,.inl e,rfl,rfl⟩
theorem Pp.k{H:Hp}{a:LZ}{kvs:List (Key×V)}{k:Key}{v:V}(e:H a=some (.dK kvs))(hl:kvs.length < MG):Pp H a (kV k) v (upd H a (.dK (putK kvs k v))):=.inl ⟨kvs,k,e,rfl,hl,rfl⟩
section
variable {X:Cx} {pins:List (LZ×Obj)} {σ:St} {H:Hp} {s:LV} {a:LZ} {y v:V} {u r:LP} {o:Option V} {A:NV} {E:LP->LV->Prop}
theorem Inv.big(I:Inv X pins σ H s):RH < s.heap.objs.size:=by
 have h:NW < s.heap.objs.size:=(I.mod.glob.keeps I.bk).lt
 exact Nat.lt_trans (by decide) h
theorem nQ{Q:LP->LV->Prop}(hu:A.units+1 < cLine)(I:Inv X pins σ H s)(g:Fu H a y (some v))(ry:RelV y u)(h:∀w' s',Inv X pins σ H s'->RelV v w'->Q w' s'):
 ND (NJ X.prog X.w) A (getItem (.ref a) u) Q E s:=by
 rcases g with ⟨kvs,k,e,ey,l⟩ | ⟨kvs,k,b,e,ey,eb,l⟩
 ·subst ey
  obtain⟨z,hd,vs,rel,dd⟩:=Ow I.hok e
  obtain⟨w',hw,rw'⟩:=Hg.some_of (v:=v) (o:=valueAt vs k) (by rw[l];exact rel.val k)
  exact wpAny_getItem_of (Mn ry) dd.mapOf hw (h w' _ (I.tok _) rw')
 ·subst ey
  cases (show u=MO b from ry)
  obtain⟨z,hd,xs,rel,dd⟩:=Qx I.hok e
  obtain⟨w',hw,rw'⟩:=Hg.some_of (v:=v) (o:=(atKey xs k).map (·.2)) (by rw[l];exact rel.val k)
  obtain⟨p,hp,hp2⟩:=Option.map_eq_some_iff.mp hw
  refine wpAny_getItem_heap (UN hu) (Of I.hok eb) dd hp ?_
  rw[hp2]
  exact h w' _ (I.tok _) rw'
theorem JE{Q:LP->LV->Prop}(hu:A.units+1 < cLine)(I:Inv X pins σ H s)(g:Fu H a y o)(ry:RelV y u)(h:∀s',Inv X pins σ H s'->Q (.bool o.isSome) s'):
 ND (NJ X.prog X.w) A (QW .In u (.ref a)) Q E s:=by
 rcases g with ⟨kvs,k,e,ey,l⟩ | ⟨kvs,k,b,e,ey,eb,l⟩
 ·subst ey
  obtain⟨z,hd,vs,rel,dd⟩:=Ow I.hok e
  refine wpAny_in_of (Mn ry) hd dd.mapOf ?_
  rw[<- (rel.val k).isSome_eq,<- l]
  exact h _ (I.tok _)
 ·subst ey
  cases (show u=MO b from ry)
  obtain⟨z,hd,xs,rel,dd⟩:=Qx I.hok e
  refine wpAny_in_heap (UN hu) (Of I.hok eb) hd dd ?_
  have q:=(rel.val k).isSome_eq
  rw[Option.isSome_map] at q
  rw[<- q,<- l]
  exact h _ (I.tok _)
theorem vE{Q:LP->LV->Prop}(hu:A.units+1 < cLine)(I:Inv X pins σ H s)(g:Fu H a y o)(ry:RelV y u)(h:∀s',Inv X pins σ H s'->Q (.bool (!o.isSome)) s'):
 ND (NJ X.prog X.w) A (QW .NotIn u (.ref a)) Q E s:=by
 rcases g with ⟨kvs,k,e,ey,l⟩ | ⟨kvs,k,b,e,ey,eb,l⟩
 ·subst ey
  obtain⟨z,hd,vs,rel,dd⟩:=Ow I.hok e
  refine wpAny_notIn_of (Mn ry) hd dd.mapOf ?_
  rw[<- (rel.val k).isSome_eq,<- l]
  exact h _ (I.tok _)
 ·subst ey
  cases (show u=MO b from ry)
  obtain⟨z,hd,xs,rel,dd⟩:=Qx I.hok e
  refine wpAny_notIn_heap (UN hu) (Of I.hok eb) hd dd ?_
  have q:=(rel.val k).isSome_eq
  rw[Option.isSome_map] at q
  rw[<- q,<- l]
  exact h _ (I.tok _)
theorem Px{h':OS}{t':Nat}{ob:HO}(I:Inv X pins σ H s)(mu:GU (H a))(hs:RD a s.heap h')(he:∃q,h'.get? a=some q)(new:Cg X.prog X.w (upd H a ob) h' a ob):
 Inv X pins σ (upd H a ob) { s with heap:=h',toks:=t' }:=
 I.write (x:=a) (e:=a) mu (.inl rfl) (λb q hb z=>(hs.2 b hb).trans z) he new
theorem eK{P:MV}{w:NU}{H':Hp}{h':OS}{kvs:List (Key×V)}{vs:List (Key×LP)}(z:kvs.length<=MG)(hd:(a == RH)=false)(rel:KV kvs vs)(dd:h'.DictOf (Bp P w) a vs):
 Cg P w H' h' a (.dK kvs):=⟨z,hd,vs,rel,dd⟩
theorem lI{H':Hp}{Q:Unit->LV->Prop}(hu:A.units+1 < cLine)(I:Inv X pins σ H s)(g:Pp H a y v H')(ry:RelV y u)(rv:RelV v r)(h:∀s',Inv X pins σ H' s'->Q () s'):
 ND (NJ X.prog X.w) A (setItem (.ref a) u r) Q E s:=by
 rcases g with ⟨kvs,k,e,ey,l,eH⟩ | ⟨kvs,k,b,e,ey,eb,l,eH⟩
 ·subst ey eH
  obtain⟨z,hd,vs,rel,dd⟩:=qV I.hok e
  have hz:vs.length<=MG:=by rw[<- rel.length];exact z
  have hl:(putK kvs k v).length<=MG:=by have:=Hd kvs k v;omega
  refine wpAny_setItem_pairs (hsz:=hz) (Mn ry) dd λh' dd' hs=>h _ ?_
  have he:∃q,h'.get? a=some q:=let ⟨q,_,_,hq,_⟩:=dd';⟨q,hq⟩
  exact Px I (by rw[e];exact RK) hs he (eK hl hd (rel.put k rv) dd')
 ·subst ey eH
  cases (show u=MO b from ry)
  obtain⟨z,hd,xs,rel,dd⟩:=EN I.hok e
  have hz:xs.length<=MG:=by rw[<- OF rel];exact z
  have hl:(putK kvs k v).length<=MG:=by have:=Hd kvs k v;omega
  refine wpAny_setItem_heap (hsz:=hz) (UN hu) (Of I.hok eb) dd λh' dd' hs=>h _ ?_
  obtain⟨q,es,ep,hq,h2,h3,h4,_,h5⟩:=dd'
  refine Px I (by rw[e];exact RK) hs ⟨q,hq⟩ ⟨hl,hd,_,(rel.put k eb rv).keeps λc ys ec=>?_,q,es,ep,hq,h2,h3,h4,h5⟩
  rw[Ai (Ei ec e (λz=>nomatch z))]
  exact ec
end
section
variable {X:Cx} {pins:List (LZ×Obj)} {σ:St} {H:Hp} {s:LV} {a:LZ} {kvs:List (Key×V)} {k:Key} {u:LP} {A:NV} {E:LP->LV->Prop}
theorem DK{Q:Unit->LV->Prop}(I:Inv X pins σ H s)(e:H a=some (.dK kvs))(ry:RelV (kV k) u)(l:(valV kvs k).isSome=true)(h:∀s',Inv X pins σ (upd H a (.dK (Hc kvs k))) s'->Q () s'):
 ND (NJ X.prog X.w) A (delItem (.ref a) u) Q E s:=by
 obtain⟨z,hd,vs,rel,dd⟩:=qV I.hok e
 refine wpAny_delItem_slot dd.typeIs (by decide) PySem.F.slot_dict_delitem
  (call_meetsIn PySem.F.slot_dict_delitem dd.typeIs PySem.F.entry_dict_delitem (PySem.F.args_dict_delitem_2 _ _) (meets_dict_delitem_pairs (Bp X.prog X.w) a (Mn ry)) ⟨vs,dd,by rw[<- rel.length];exact z,by rw[<- (rel.val k).isSome_eq];exact l,λh' dd' hs=>h _ ?_⟩)
 have he:∃q,h'.get? a=some q:=let ⟨q,_,_,hq,_⟩:=dd';⟨q,hq⟩
 exact Px I (by rw[e];exact RK) hs he (eK (NA (Ym kvs k) z) hd (rel.drop k) dd')
theorem FY{v:V}{more:List LP}{Q:LP->LV->Prop}(I:Inv X pins σ H s)(e:H a=some (.dK kvs))(ry:RelV (kV k) u)(l:valV kvs k=some v)(hm:more=[] ∨ ∃x,more=[x])(h:∀w' s',Inv X pins σ (upd H a (.dK (Hc kvs k))) s'->RelV v w'->Q w' s'):ND (NJ X.prog X.w) A (call (.builtin "dict.pop") (.ref a::u::more)) Q E s:=by
 obtain⟨z,hd,vs,rel,dd⟩:=qV I.hok e
 obtain⟨w',hw,rw'⟩:=Hg.some_of (v:=v) (o:=valueAt vs k) (by rw[<- l];exact rel.val k)
 have hp:(keyPart u).isSome=true:=by
  cases k with
  | inl i=>obtain⟨t,q⟩:=(show ∃t,u=Value.int i t from ry);subst q;rfl
  | inr x=>obtain⟨t,q⟩:=(show ∃t,u=Value.str x t from ry);subst q;rfl
 have ha:argsOk "dict.pop" ⟨.ref a::u::more,[]⟩:=by
  rcases hm with q | ⟨x,q⟩
  ·subst q;exact PySem.F.args_dict_pop_2 _ _
  ·subst q;exact PySem.F.args_dict_pop_3 _ _ _
 refine call_meetsIn PySem.F.slot_dict_pop dd.typeIs PySem.F.entry_dict_pop ha (meets_dict_pop_there (Bp X.prog X.w) a (Mn ry) more hm hp)
  ⟨vs,w',dd,by rw[<- rel.length];exact z,hw,λh' dd' hs=>h w' _ ?_ rw'⟩
 have he:∃q,h'.get? a=some q:=let ⟨q,_,_,hq,_⟩:=dd';⟨q,hq⟩
 exact Px I (by rw[e];exact RK) hs he (eK (NA (Ym kvs k) z) hd (rel.drop k) dd')
end
def GZ(i:Expr):Prop:=∀ov iv,subscripted i false ov iv=operate [ov,iv] (getItem ov iv)
theorem vU{prog:MV}{w:NU}{A:NV}{E:LP->LV->Prop}{s:LV}{env:Env}{value slice:Expr}{pos:Pos}{T id:String}{Q:LP->LV->Prop}(hl:typeLookup (.type T) "__getitem__" = pure (some (.builtin id)))(hs:GZ slice)(h:ND (NJ prog w) A (RY value env) (λo s₁=>ND (NJ prog w) A (RY slice env) (λi s₂=>s₂.TypeIs o T/\ND (NJ prog w) A (getItem o i) Q E s₂) E s₁) E s):
 ND (NJ prog w) A (RY (.Subscript value slice pos) env) Q E s:=by
 refine Subscript_ (OR h (λo s₁ h₁=>OR h₁ (λi s₂ h₂=>?_) λ_ _ x=>x) λ_ _ x=>x)
 obtain⟨hT,h₂⟩:=h₂
 unfold subscriptTail
 refine LL ?_
 rw[getitemInPython_of_ne hT.not_modules]
 refine LL (wpAny_specialOf hT hl ?_)
 have fin:ND (NJ prog w) A (subscripted slice false o i) (λr s₃=>ND (NJ prog w) A (letTemporaryGo value o r >>= λ_=>pure r) Q E s₃) E s₂:=by
  rw[hs o i]
  exact wpAny_operating (OR h₂ (λr s₃ h₃=>LL (wpAny_letTemporaryGo (MI h₃))) λ_ _ x=>x)
 first
  | exact MI (LL fin)
  | exact LL (MI (LL fin))
  | exact LL fin
theorem Yc{X:Cx}{pins:List (LZ×Obj)}{σ:St}{H:Hp}{s:LV}{a:LZ}{y:V}{o:Option V}(I:Inv X pins σ H s)(g:Fu H a y o):s.TypeIs (.ref a) "dict" := by
 rcases g with ⟨kvs,k,e,_,_⟩ | ⟨kvs,k,b,e,_,_,_⟩
 ·obtain⟨_,_,vs,_,dd⟩:=Ow I.hok e
  exact dd.typeIs
 ·obtain⟨_,_,xs,_,dd⟩:=Qx I.hok e
  exact dd.typeIs
def EQ(td ty:TE):TE:=λσ H Q=>td σ H λx H1=>ty σ H1 λy H2=>∃a v,x=.ref a/\Fu H2 a y (some v)/\Q v H2
def IE(ty td:TE):TE:=λσ H Q=>ty σ H λy H1=>td σ H1 λx H2=>∃a o,x=.ref a/\Fu H2 a y o/\Q (.bl o.isSome) H2
def wR(ty td:TE):TE:=λσ H Q=>ty σ H λy H1=>td σ H1 λx H2=>∃a o,x=.ref a/\Fu H2 a y o/\Q (.bl (!o.isSome)) H2
def DT(td ty tv:TE):TS:=λD σ H=>tv σ H λv H1=>td σ H1 λx H2=>ty σ H2 λy H3=>∃a H4,x=.ref a/\Pp H3 a y v H4/\D.nx σ H4
section
variable {X:Cx} {o i e value:Expr} {pos pos' tpos:Pos} {td ty tv:TE}
theorem Iv(hu:X.A.units+1 < cLine)(ho:PE X o td)(hi:PE X i ty)(hs:GZ i):PE X (.Subscript o i pos) (EQ td ty):=by
 intro pins s σ H Q I h
 refine vU PySem.F.slot_dict_getitem.lookup hs (Bv (ho pins s σ H _ I h) λu s1 ⟨x,H1,I1,rx,q1⟩=>Bv (hi pins s1 σ H1 _ I1 q1) λiv s2 ⟨y,H2,I2,ry,a,v,ex,g,q2⟩=>?_)
 subst ex
 obtain rfl:u=MO a:=rx
 exact⟨Yc I2 g,nQ hu I2 g ry λw' s3 I3 rw'=>⟨v,H2,I3,rw',q2⟩⟩
theorem pS(hu:X.A.units+1 < cLine)(hi:PE X i ty)(ho:PE X o td):PC X .In i o (IE ty td):=by
 intro pins s σ H Q I h
 refine Bv (hi pins s σ H _ I h) λiv s1 ⟨y,H1,I1,ry,q1⟩=>Bv (ho pins s1 σ H1 _ I1 q1) λu s2 ⟨x,H2,I2,rx,a,ov,ex,g,q2⟩=>?_
 subst ex
 obtain rfl:u=MO a:=rx
 exact JE hu I2 g ry λs3 I3=>⟨.bl ov.isSome,H2,I3,rfl,q2⟩
theorem Kq(hu:X.A.units+1 < cLine)(hi:PE X i ty)(ho:PE X o td):PC X .NotIn i o (wR ty td):=by
 intro pins s σ H Q I h
 refine Bv (hi pins s σ H _ I h) λiv s1 ⟨y,H1,I1,ry,q1⟩=>Bv (ho pins s1 σ H1 _ I1 q1) λu s2 ⟨x,H2,I2,rx,a,ov,ex,g,q2⟩=>?_
 subst ex
 obtain rfl:u=MO a:=rx
 exact vE hu I2 g ry λs3 I3=>⟨.bl (!ov.isSome),H2,I3,rfl,q2⟩
theorem Ir(hu:X.A.units+1 < cLine)(ho:PE X o td)(hi:PE X i ty)(hv:PE X value tv)(hs:swapsWith value (some (.Subscript o i pos')) pos.line X.env=pure false):
 PS X (.Assign [.Subscript o i pos'] value pos) (DT td ty tv):=by
 intro pins s σ H D I h
 refine wpAny_Assign_Subscript (Bv (hv pins s σ H _ I h) λr s1 ⟨v,H1,I1,rv,q1⟩=>Bv (ho pins s1 σ H1 _ I1 q1) λu s2 ⟨x,H2,I2,rx,q2⟩=>Bv (hi pins s2 σ H2 _ I2 q2) λiv s3 ⟨y,H3,I3,ry,a,H4,ex,g,q3⟩=>?_) hs
 subst ex
 obtain rfl:u=MO a:=rx
 exact lI hu I3 g ry rv λs4 I4=>⟨σ,H4,I4,q3⟩
end
theorem tI{P:MV}{w:NU}{H:Hp}(h:OS)(hb:RH < h.objs.size):Cg P w H (h.push { cls:=.type "dict", data:=.dict #[] }) h.objs.size (.dK []):=
 ⟨NI _,beq_eq_false_iff_ne.mpr (NT (NF hb)),[],.nil,Heap.DictOf.new h⟩
def AZ:TE:=λ_ H Q=>∀p,H p=none->Q (.ref p) (upd H p (.dK []))
section
variable {X:Cx} {pos:Pos}
theorem Jt:PE X (.Dict [] [] pos) AZ:=λpins s σ H Q I h=>
 wpAny_Dict_empty ⟨.ref s.heap.objs.size,_,I.laid (a:=s.heap.objs.size) (o:=.dK []) (t':=s.toks) (λ_ _ q=>LQ _ q) (MC _) (tI s.heap I.big),rfl,h _ (I.hok.fresh (MC _))⟩
end
structure M1(X:Cx)(o:Expr)(m:Str)(apos:Pos)(e:Expr)(cpos:Pos):Prop where
 base:attributeBase o m X.env (RY o X.env)=RY o X.env
 few:((SR cpos (NH [e] X.env)).all (λx=>!x.1) && (backToKw cpos (SS [] X.env)).all (λx=>x.1.isSome)
  && decide (([e]:List Expr).length+([]:List Keyword).length+(if ([]:List Keyword).isEmpty then 0 else 1) < 30))=true
 line:(apos.endLine == cpos.line)=true
 trees:SR cpos (NH [e] X.env)=[(false,RY e X.env)]
structure M2(X:Cx)(o:Expr)(m:Str)(apos:Pos)(e f:Expr)(cpos:Pos):Prop where
 base:attributeBase o m X.env (RY o X.env)=RY o X.env
 few:((SR cpos (NH [e,f] X.env)).all (λx=>!x.1) && (backToKw cpos (SS [] X.env)).all (λx=>x.1.isSome)
  && decide (([e,f]:List Expr).length+([]:List Keyword).length+(if ([]:List Keyword).isEmpty then 0 else 1) < 30))=true
 line:(apos.endLine == cpos.line)=true
 trees:SR cpos (NH [e,f] X.env)=[(false,RY e X.env),(false,RY f X.env)]
def JH(H:Hp)(a:LZ):Prop:=(∃kvs,Rd H a (.dK kvs)) ∨ ∃kvs,Rd H a (.dT kvs)
theorem rW{X:Cx}{pins:List (LZ×Obj)}{σ:St}{H:Hp}{s:LV}{a:LZ}(I:Inv X pins σ H s)(d:JH H a):
 s.TypeIs (.ref a) "dict" /\ (∀b,MO a=.ref b->∃ob,s.heap.get? b=some ob/\ob.dict=none)/\(a == RH)=false:=by
 rcases d with ⟨kvs,e⟩ | ⟨kvs,e⟩
 ·obtain⟨_,hd,vs,_,dd⟩:=Ow I.hok e
  refine⟨dd.typeIs,λb q=>?_,hd⟩
  cases q
  obtain⟨ob,_,_,h1,h2,_⟩:=dd
  exact⟨ob,h1,h2.2.1⟩
 ·obtain⟨_,hd,xs,_,dd⟩:=Qx I.hok e
  refine⟨dd.typeIs,λb q=>?_,hd⟩
  cases q
  obtain⟨ob,_,_,h1,h2,_⟩:=dd
  exact⟨ob,h1,h2.2.1⟩
section
variable {X:Cx} {pins:List (LZ×Obj)} {σ:St} {H:Hp} {s:LV} {a:LZ} {y d:V} {u r:LP} {o:Option V} {A:NV} {E:LP->LV->Prop}
theorem AX{Q:LP->LV->Prop}(hu:A.units+1 < cLine)(I:Inv X pins σ H s)(g:Fu H a y o)(ry:RelV y u)(rd:RelV d r)(h:∀w' s',Inv X pins σ H s'->RelV (o.getD d) w'->Q w' s'):
 ND (NJ X.prog X.w) A (call (.builtin "dict.get") [.ref a,u,r]) Q E s:=by
 rcases g with ⟨kvs,k,e,ey,l⟩ | ⟨kvs,k,b,e,ey,eb,l⟩
 ·subst ey
  obtain⟨z,hd,vs,rel,dd⟩:=Ow I.hok e
  refine call_meetsIn SY dd.typeIs PySem.F.entry_dict_get (PySem.F.args_dict_get_3 _ _ _) (meets_dict_get_default (Bp X.prog X.w) a (Mn ry) hd r) ⟨_,dd.mapOf,h _ _ (I.tok _) ?_⟩
  rw[l]
  exact(rel.val k).getD rd
 ·subst ey
  cases (show u=MO b from ry)
  obtain⟨z,hd,xs,rel,dd⟩:=Qx I.hok e
  refine call_meetsIn SY dd.typeIs PySem.F.entry_dict_get (PySem.F.args_dict_get_3 _ _ _) (meetsH_dict_get_default (tupleKind (Bp X.prog X.w)) a b hd r) ⟨UN hu,k,xs,Of I.hok eb,dd,h _ _ (I.tok _) ?_⟩
  rw[l]
  exact(rel.val k).getD rd
end
def AJ(td ty tx:TE):TE:=λσ H Q=>td σ H λx H1=>∃a,x=.ref a/\JH H1 a/\ty σ H1 λy H2=>tx σ H2 λz H3=>∃o,Fu H3 a y o/\Q (o.getD z) H3
def CM(td ty:TE):TE:=λσ H Q=>td σ H λx H1=>∃a,x=.ref a/\JH H1 a/\ty σ H1 λy H2=>∃kvs k v,H2 a=some (.dK kvs)/\y=kV k/\valV kvs k=some v/\Q v (upd H2 a (.dK (Hc kvs k)))
section
variable {X:Cx} {o e f:Expr} {apos cpos:Pos} {td ty tx:TE}
theorem aC(hu:X.A.units+1 < cLine)(ho:PE X o td)(he:PE X e ty)(hf:PE X f tx)(m:M2 X o "get" apos e f cpos):PE X (.Call (.Attribute o "get" apos) [e,f] [] cpos) (AJ td ty tx):=by
 intro pins s σ H Q I h
 refine wpAny_Call_method m.base m.few m.line PySem.F.plainAttrs_dict SY PySem.F.type_dict_get (Bv (ho pins s σ H _ I h) λu s1 ⟨x,H1,I1,rx,a,ex,d,q1⟩=>?_)
 subst ex
 obtain rfl:u=MO a:=rx
 obtain⟨t1,t2,_⟩:=rW I1 d
 refine⟨t1,t2,?_⟩
 rw[m.trees]
 refine UX rfl (Calls.evalArgs_plain (US (Bv (he pins s1 σ H1 _ I1 q1) λiv s2 ⟨y,H2,I2,ry,q2⟩=>
  US (Bv (hf pins s2 σ H2 _ I2 q2) λfv s3 ⟨z,H3,I3,rz,ov,g,q3⟩=>Calls.spliced_nil ?_))))
 exact AX hu I3 g ry rz λw' s4 I4 rw'=>⟨_,H3,I4,rw',q3⟩
theorem pE(ho:PE X o td)(he:PE X e ty)(m:M1 X o "pop" apos e cpos):PE X (.Call (.Attribute o "pop" apos) [e] [] cpos) (CM td ty):=by
 intro pins s σ H Q I h
 refine wpAny_Call_method m.base m.few m.line PySem.F.plainAttrs_dict PySem.F.slot_dict_pop PySem.F.type_dict_pop (Bv (ho pins s σ H _ I h) λu s1 ⟨x,H1,I1,rx,a,ex,d,q1⟩=>?_)
 subst ex
 obtain rfl:u=MO a:=rx
 obtain⟨t1,t2,_⟩:=rW I1 d
 refine⟨t1,t2,?_⟩
 rw[m.trees]
 refine UX rfl (Calls.evalArgs_plain (US (Bv (he pins s1 σ H1 _ I1 q1) λiv s2 ⟨y,H2,I2,ry,kvs,k,v,ea,ey,l,q2⟩=>Calls.spliced_nil ?_)))
 subst ey
 exact FY I2 ea ry l (.inl rfl) λw' s3 I3 rw'=>⟨v,_,I3,rw',q2⟩
end
section
variable {X:Cx} {pins:List (LZ×Obj)} {σ:St} {H:Hp} {s:LV} {a:LZ} {kvs:List (Key×V)} {A:NV} {E:LP->LV->Prop}
end
section
variable {X:Cx} {pins:List (LZ×Obj)} {σ:St} {H:Hp} {s:LV} {a:LZ} {y:V} {u:LP} {A:NV} {E:LP->LV->Prop}
end
end L2
namespace Att
open PySem PySem.W PySem.Calls PyProof.Rows
theorem Pn{P:Params}{h:OS}:∀(ns:List Int)(vs:List LP),WellAll P h vs (ns.map WData.int)->IntsAre vs ns:=by
 intro ns
 induction ns with
 | nil=>
  intro vs w
  rw[List.map_nil] at w
  cases w
  exact .nil
 | cons n ns ih=>
  intro vs w
  rw[MU] at w
  cases w with
  | cons a b=>
   cases a
   exact .cons _ _ (ih _ b)
theorem lV{l:OpenLaw}{n:Nat}(hn:l.most=some n){P:Params}{h:OS}{args:List WData}{vals:List LP}(hpre:l.row.toRowW.claim.pre args=true)(hwl:WellAll P h vals args):
 ∃a vs ns,vals=[MO a]/\args=[WData.list (ns.map WData.int)]/\h.get? a=some { cls:=.type "list", data:=.seq vs.toArray }/\IntsAre vs ns/\ns.length<=n:=by
 have hsh:WShape.hasAll [] args [.list .int]=true:=(pre_splitW hpre).1
 have hc:l.pre.holds [] { args:=args }=true:=(pre_splitW hpre).2
 obtain⟨d,r,rfl,h1,h2⟩:=hasAllW_cons hsh
 obtain rfl:=hasAllW_nil h2
 obtain⟨xs,rfl,h3⟩:=hasW_list h1
 obtain⟨ns,rfl⟩:=items_int h3
 have hlen:ns.length<=n:=by
  unfold OpenLaw.pre at hc
  have h4:(WTm.not (.lt (.lit (.int (n:Int))) (.len (.arg 0)))).holds [] { args:=[.list (ns.map .int)] }=true:=by
   have h4:=(holds_andW hc).1
   rw[hn] at h4
   exact h4
  have h5:=condW_of h4 (w_not (w_lt w_lit (w_len_list (w_arg rfl))))
  rw[LN] at h5
  refine Nat.le_of_not_lt λq=>?_
  have q':(n:Int) < ((ns.length:Nat):Int):=by omega
  first
   | (rw[decide_eq_true q'] at h5;exact absurd h5 (by decide))
   | (simp at h5;omega)
 cases hwl with
 | cons w1 w2=>
  cases w2
  cases w1 with
  | list ho hall=>exact⟨_,_,ns,rfl,rfl,ho,Pn ns _ hall,hlen⟩
theorem nH(l:OpenLaw)(args:List WData):l.row.toRowW.claim.post args (.bool true) args=true:=
 postW_of (r:=l.row.toRowW) (X:=(true == true))
  (show WShape.has [] (.bool true) .bool=true by first | rfl | decide | simp[WShape.has,WShape.arms,WShape.armsAll])
  (show (WTm.eq .res (.lit (.bool true))).value [] { args:=args,res:=some (.bool true),after:=args }=some (.bool (true == true)) from w_eq_bool (w_res rfl) w_lit) rfl
theorem attach_call{l:OpenLaw}{n:Nat}{q:MV}{loose:List Str}{XP:(Str->Option LP)->OS->Prop}{YP:NU->OS->Prop}{d:DefRec}(hn:l.most=some n)(hdf:d.params.defaults=[])(call:∀(w:NU)(s₀ s₁:LV)(mg mb:Str->Option LP)(fa:LZ)(o:Obj)(pm cd doc:LP)(a:LZ)(vs:List LP)(ns:List Int),
  Ground q loose [] XP w s₀ mg mb s₁.heap->YP w s₁.heap ->
  s₁.heap.get? fa=some o->o.data=.func (docDef d.name d.params d.body d.scope pm cd doc)->s₁.heap.CodeRec cd d.name->mg d.name=some (.ref fa) ->
  s₁.heap.get? a=some { cls:=.type "list", data:=.seq vs.toArray }->IntsAre vs ns->ns.length<=n->s₁.gens = #[] ->
  codeAny (NJ l.prog w) callerA (.call (.ref fa) ⟨[.ref a],[]⟩) (λr s'=>r=.ok (.ret (.bool true))/\OldK s₁.heap s'.heap/\s'.os=s₁.os/\AllBare s'.gens) s₁):
 WalkO q loose XP YP l.row.toRowW d [] (λf vs=>PySem.call f vs):=by
 intro w s₀ s₁ mg mb G Y fa o pm cd doc dV kV ho hd hcd hD hmg hg args vals as hpre hlay hrd hwl hlo
 obtain rfl:dV=.none:=Dflts.none hD hdf
 obtain rfl:kV=.none:=Dflts.noKw hD
 obtain⟨a,vs,ns,rfl,rfl,hobj,hints,hlen⟩:=lV hn hpre hwl
 refine enter_call (RM (call w s₀ s₁ mg mb fa o pm cd doc a vs ns G Y ho (fd_plain hd) hcd hmg hobj hints hlen hg) λr s' hq=>?_)
 obtain⟨rfl,h2,h3,h4⟩:=hq
 exact⟨.inl ⟨.bool true,.bool true,[],rfl,λ_=>rfl,.bool true,nH l _,λ_=>⟨List.Pairwise.nil,λ_ hm=>(nomatch hm)⟩⟩,h2,h3,h4⟩
section
variable {prog:MV} {w:NU} {A:NV} {E:LP->LV->Prop} {s:LV} {K:Frag}
end
end Att
namespace L2
open PySem PySem.Spec PyProof.Rows
theorem Uu:∀ {vs:List LP} {ns:List Int},IntsAre vs ns->Vals (ns.map V.int) vs
 | _,_,.nil=>.nil
 | _,_,.cons n t h=>.cons ⟨t,rfl⟩ (Uu h)
def CV(H:Hp):Prop:=∀b,H b=none ∨ ∃o xs,H b=some (.frz o (.lst xs))
theorem rJ{P:MV}{w:NU}{K:LO}{mg mb:Str->Option LP}{CX:bD}{k:Nat}{fa a:LZ}{fd:NP}{x:Str}{sp:Sp}{s₁:LV}{vs:List LP}{ns:List Int}(KX:K.In s₁.heap)(hns:s₁.heap.Ns NW mg)(hb:s₁.heap.Ns builtinsNs mb)(hbb:∀x:Str,x ≠ "__name__" -> mb x=SA x)(hlim:s₁.heap.NoLimit)(hg:s₁.gens = #[])(ha:s₁.heap.get? a=some { cls:=.type "list", data:=.seq vs.toArray })(hi:IntsAre vs ns)(hl:ns.length<=MG)(hr:Cq k callerA)(F:∀base:OS,K.In base->base.Ns NW mg->Aj P w K mg base CX k fa fd [x] sp)(hbind:∀(s:LV)(u:LP),BindsTo s fd ⟨[u],[]⟩ [(x,u)])(hsp:∀H:Hp,CV H->Av K H a (ns.map V.int)->sp [.ref a] H (λv _=>v=.bl true) λ_ _ _=>False)(hCX:∀H e s',CX.f [] H s₁ (λ_ _ _=>False) e s'->False):
 codeAny (NJ P w) callerA (.call (.ref fa) ⟨[.ref a],[]⟩) (λr s'=>r=.ok (.ret (.bool true))/\OldK s₁.heap s'.heap/\s'.os=s₁.os/\AllBare s'.gens) s₁:=by
 have rv:=Uu hi
 have lenV:=hi.length
 -- from an abstract heap in which nothing but the script may be tracked
 have core:∀H:Hp,CV H->Av K H a (ns.map V.int)->Kw P w H s₁.heap->(∀b,H b≠none->b=a)->(H a≠none->K.lookup a=none) ->
  codeAny (NJ P w) callerA (.call (.ref fa) ⟨[.ref a],[]⟩) (λr s'=>r=.ok (.ret (.bool true))/\OldK s₁.heap s'.heap/\s'.os=s₁.os/\AllBare s'.gens) s₁:=by
  intro H hO hS hok hA hK
  have base_of:∀ {b:LZ} {o:Obj},s₁.heap.get? b=some o->H b=none->(Nd s₁.heap H).get? b=some o:=λe n=>Rx e n
  have noA:∀ {b:LZ} {o:Obj} {es:Array UR} {ep:Nat},s₁.heap.get? b=some o->o.data=.dict es ep->H b=none:=λ{b o es ep} e d=>by
   cases q:H b with
   | none=>rfl
   | some u=>
    have e':b=a:=hA b (by rw[q];simp)
    subst e'
    rw[ha] at e;cases e
    have d':Data.seq vs.toArray _=Data.dict es ep:=d
    cases d'
  have nsK:∀ {b:LZ} {m:Str->Option LP},s₁.heap.Ns b m->(Nd s₁.heap H).Ns b m:=λ{b m} ⟨o,es,ep,e,d,r⟩=>⟨o,es,ep,base_of e (noA e d),d,r⟩
  have hKb:K.In (Nd s₁.heap H):=λb o e=>base_of (KX b o e) (by
   cases q:H b with
   | none=>rfl
   | some u=>
    have e':b=a:=hA b (by rw[q];simp)
    subst e'
    rw[hK (by rw[q];simp)] at e;cases e)
  have hM:Mod K mg (Nd s₁.heap H):=⟨hKb,nsK hns,⟨mb,nsK hb,hbb⟩,let ⟨mc,h1,h2⟩:=hlim;⟨mc,nsK h1,h2⟩⟩
  have e0:Zg P w K mg (Nd s₁.heap H) callerA [] s₁ H:=⟨rfl,hM,λb o e=>iU e,TB (Vc _ _),trivial,λb hb=>absurd (show b∈([]:List LZ) from hb) (by simp),hok,.of_eq hg⟩
  refine RM ((F _ hKb (nsK hns)).run callerA [] s₁ H ⟨[.ref a],[]⟩ [.ref a] [.ref a] _ _ ⟨hr,λ_=>rfl,.inl rfl⟩ e0 (hbind s₁ (.ref a)) (.cons rfl .nil) (hsp H hO hS)) λr s' h=>?_
  cases r with
  | error e=>exact(hCX H e s' h).elim
  | ok fl=>
   cases fl with
   | next=>exact OT h
   | brk=>exact OT h
   | cont=>exact OT h
   | ret u=>
    obtain⟨v,H',os,bare,un,hok',r',q⟩:=h
    have q':v=.bl true:=q
    subst q'
    obtain rfl:u=Value.bool true:=r'
    refine⟨rfl,OldK.of_keep λb o e=>?_,os,bare⟩
    cases q:H b with
    | none=>exact un.keep b o e q (by intro z;exact absurd (show b∈([]:List LZ) from z) (by simp)) (by simp)
    | some u=>
     rcases hO b with z | ⟨ob,xs,z⟩
     ·rw[q] at z;cases z
     ·have z2:=un.frzs b ob _ z
      obtain⟨e1,_⟩:=hok b _ z
      obtain⟨e2,_⟩:=hok' b _ z2
      rw[e] at e1;cases e1
      exact e2
 cases hk:K.lookup a with
 | some o=>
  -- the script is one of the module's own objects
  have e:=KX a o hk
  rw[ha] at e
  cases e
  refine core (λ_=>none) (λ_=>.inl rfl) (.inr ⟨_,vs.toArray,_,hk,rfl,rfl,rfl,by rw[NE,lenV];exact hl,by simpa using rv⟩) (λb u z=>by have z':(none:Option HO)=some u:=z;cases z') (λb z=>absurd rfl z) λz=>absurd rfl z
 | none=>
  refine core (λb=>if b=a then some (.frz { cls:=.type "list", data:=.seq vs.toArray } (.lst (ns.map V.int))) else none) (λb=>?_) (.inl (.inr ⟨{ cls:=.type "list", data:=.seq vs.toArray },if_pos rfl⟩)) (λb u z=>?_) (λb z=>?_) λ_=>hk
  ·by_cases hb:b=a
   ·exact .inr ⟨_,_,if_pos hb⟩
   ·exact .inl (if_neg hb)
  ·by_cases hb:b=a
   ·have z':=(if_pos hb).symm.trans z
    cases z'
    subst hb
    exact⟨ha,by rw[LN];exact hl,vs,_,rv,ha⟩
   ·have z':=(if_neg hb).symm.trans z
    cases z'
  ·by_cases hb:b=a
   ·exact hb
   ·exact absurd (if_neg hb) z
theorem wL{l:PySem.W.OpenLaw}{n k:Nat}{q:MV}{loose:List Str}{XP:(Str->Option LP)->OS->Prop}{YP:NU->OS->Prop}{d:DefRec}{K:Params->LO}{CX:NU->bD}{sp:NU->Sp}{x:Str}(hn:l.most=some n)(hn2:n<=MG)(hdf:d.params.defaults=[])(hr:Cq k callerA)(hY:∀(w:NU)(h:OS),YP w h->(K w.params).In h)(F:∀(w:NU)(mg:Str->Option LP)(fa:LZ)(h:OS),(K w.params).In h->h.Ns NW mg->mg d.name=some (.ref fa) ->
  ∃fd:NP,(∀(s:LV)(u:LP),BindsTo s fd ⟨[u],[]⟩ [(x,u)]) /\
   ∀base:OS,(K w.params).In base->base.Ns NW mg->Aj l.prog w (K w.params) mg base (CX w) k fa fd [x] (sp w))(hsp:∀(w:NU)(H:Hp)(a:LZ)(ns:List Int),ns.length<=n->CV H->Av (K w.params) H a (ns.map V.int)->sp w [.ref a] H (λv _=>v=.bl true) λ_ _ _=>False)(hCX:∀(w:NU)(H:Hp)(s:LV)(e:LP)(s':LV),(CX w).f [] H s (λ_ _ _=>False) e s'->False):
 PySem.W.WalkO q loose XP YP l.row.toRowW d [] (λf vs=>PySem.call f vs):=by
 refine Att.attach_call hn hdf λw s₀ s₁ mg mb fa o pm cd doc a vs ns G Y ho hd hcd hmg hobj hints hlen hg=>?_
 have KX:=hY w _ Y
 obtain⟨fd,hb,hF⟩:=F w mg fa _ KX G.T.g hmg
 exact rJ KX G.T.g G.T.b G.T.builtins G.T.nolimit hg hobj hints (NA hlen hn2) hr hF hb (λH hO hS=>hsp w H a ns hlen hO hS) λH e s'=>hCX w H s₁ e s'
def inClass(s:RL)(j:Nat):RL:=match s with
 | .ClassDef _ _ _ body _ _ _ _ _ _ _=>body.getD j (.Pass ⟨0,0,0,0⟩)
 | _=>.Pass ⟨0,0,0,0⟩
def Ef(s:RL):Arguments:=match s with
 | .FunctionDef _ a _ _ _ _ _ _ _ _=>a
 | _=>{ posonlyargs:=[],args:=[],vararg:=none,kwonlyargs:=[],kw_defaults:=[],kwarg:=none,defaults:=[] }
def Bb(s:RL):List RL:=match s with
 | .FunctionDef _ _ b _ _ _ _ _ _ _=>b
 | _=>[]
def Ac(s:RL):Scope:=match s with
 | .FunctionDef _ _ _ _ _ _ sc _ _ _=>sc
 | _=>{ kind:=.function,names:=[],isGenerator:=false,isCoroutine:=false }
abbrev Bj:bD:=⟨λ_ _ _ _ _ _=>False,false⟩
abbrev Ia:bD:=⟨λ_ _ _ _ _ _=>False,true⟩
abbrev E0:XK:=λ_ _ _=>False
theorem Cm{X:Cx}(hc:X.calm=true:=by rfl):Gk Bj X E0:=⟨hc,(λz=>nomatch z),λ_ _ _ _ _ _ _ h=>h.elim⟩
theorem Jd{X:Cx}(hc:X.calm=true:=by rfl)(hs:X.sx=true:=by rfl):Gk Ia X E0:=⟨hc,(λ_=>hs),λ_ _ _ _ _ _ _ h=>h.elim⟩
structure Dx(K:LO)(x qual:Str)(st:RL)(f:LZ)(fd:NP):Prop where
 ex:∃(oc:LP)(od:Option LZ)(kV doc pm:LP)(an:Option LZ)(cdv ct:LP)(osl:Array (Option LP)),
  fd=SG x qual (Ef st) (Bb st) (Ac st) .none kV doc pm an cdv ct/\K.lookup f=some ⟨oc,od,.func fd,osl⟩/\PySem.W.codeIn K cdv qual=true
 kp:MN K (.ref f)=true
section
variable {P:MV} {w:NU} {K:LO} {mg:Str->Option LP} {base:OS}
theorem Dx.ok{x qual:Str}{st:RL}{f:LZ}{fd:NP}{N ps:List Str}{k:Nat}{sp:Sp}(F:Dx K x qual st f fd)(S:Al N ps (Ac st))(len:∀vs H Q E,sp vs H Q E->vs.length=ps.length)(hbody:∀(cdv:LP)(A:NV)(outer:List Env)(s:LV)(H:Hp)(vs:List V)(Q:VK)(E:XK),Cq k (A.deeper (envOfC qual (Ac st) s.heap.objs.size f cdv))->sp vs H Q E ->
  ∃t,Ib (Ft Bj P w K mg base N qual (Ac st) f cdv A outer s H E).nox (Bb st) t/\t { nx:=λ_ H'=>Q .non H',rt:=Q } (start N vs) H):Aj P w K mg base Bj (k+1) f fd ps sp:=by
 obtain⟨oc,od,kV,doc,pm,an,cdv,ct,osl,rfl,lk,hcd⟩:=F.ex
 refine Xw lk hcd S len λA outer s H vs Q E hr hsp=>?_
 obtain⟨t,h,q⟩:=hbody cdv A outer s H vs Q E hr hsp
 exact⟨t,h.nox,q⟩
theorem Dx.ok1{x qual:Str}{st:RL}{f:LZ}{fd:NP}{N ps:List Str}{k:Nat}{sp:Sp}(F:Dx K x qual st f fd)(S:Al N ps (Ac st))(len:∀vs H Q E,sp vs H Q E->vs.length=ps.length)(hbody:∀(cdv:LP)(A:NV)(outer:List Env)(s:LV)(H:Hp)(vs:List V)(Q:VK)(E:XK),Cq k (A.deeper (envOfC qual (Ac st) s.heap.objs.size f cdv))->sp vs H Q E ->
  ∃t,Ib (Ft Ia P w K mg base N qual (Ac st) f cdv A outer s H E).nox (Bb st) t/\t { nx:=λ_ H'=>Q .non H',rt:=Q } (start N vs) H):Aj P w K mg base Ia (k+1) f fd ps sp:=by
 obtain⟨oc,od,kV,doc,pm,an,cdv,ct,osl,rfl,lk,hcd⟩:=F.ex
 refine Xw lk hcd S len λA outer s H vs Q E hr hsp=>?_
 obtain⟨t,h,q⟩:=hbody cdv A outer s H vs Q E hr hsp
 exact⟨t,h.nox,q⟩
theorem Dx.binds{x qual:Str}{st:RL}{f:LZ}{fd:NP}{ps:List Str}(F:Dx K x qual st f fd)(h:∀(kV doc pm:LP)(an:Option LZ)(cdv ct:LP)(us:List LP),us.length=ps.length->bindArgs (SG x qual (Ef st) (Bb st) (Ac st) .none kV doc pm an cdv ct) ⟨us,[]⟩=pure (ps.zip us)):Binds K fd ps []:=by
 obtain⟨oc,od,kV,doc,pm,an,cdv,ct,osl,rfl,lk,hcd⟩:=F.ex
 exact .all (h kV doc pm an cdv ct)
theorem sS{x qual:Str}{st:RL}{f:LZ}{oc:LP}{od an:Option LZ}{osl:Array (Option LP)}{kV doc pm cdv ct:LP}(l:K.lookup f=some ⟨oc,od,.func (SG x qual (Ef st) (Bb st) (Ac st) .none kV doc pm an cdv ct),osl⟩)(c:PySem.W.codeIn K cdv qual=true)(k:MN K (.ref f)=true):Dx K x qual st f (SG x qual (Ef st) (Bb st) (Ac st) .none kV doc pm an cdv ct):=⟨⟨oc,od,kV,doc,pm,an,cdv,ct,osl,rfl,l,c⟩,k⟩
end
theorem Hx{A:NV}{k:Nat}(hr:Cq k A):A.units+1 < cLine:=RV (Nat.add_le_add_left (by decide:1<=64) _) hr.units
section
variable {X:Cx}
theorem pv(i:Nat){x:Str}{pos:Pos}(hN:X.N[i]? = some x:=by rfl)(hv:JC X.env.scope x:=by first | exact Or.inl rfl | exact Or.inr (Or.inl rfl) | exact Or.inr (Or.inr rfl))(hd:(x == ("__debug__" : Str))=false:=by decide)(hcd:(x == ("__classdict__" : Str))=false:=by decide):PE X (.Name x pos) (HL i):=DH hN hv hd hcd
end
theorem Cd{A B:Prop}(h:B):if false=true then A else B:=by
 rw[if_neg LY]
 exact h
theorem Dk{A B:Prop}(h:A):if true=true then A else B:=by
 rw[if_pos rfl]
 exact h
theorem Cr{c A B:Prop}[Decidable c](h1:c->A)(h2:¬ c->B):if c then A else B:=by
 by_cases h:c
 ·rw[if_pos h]
  exact h1 h
 ·rw[if_neg h]
  exact h2 h
theorem EJ{c A B:Prop}[Decidable c](hc:c)(h:B):if (!decide c)=true then A else B:=by
 rw[decide_eq_true hc]
 exact Cd h
def Ak(H H':Hp):Prop:=∀b o,H b=some o->H' b=some o
theorem Ak.refl(H:Hp):Ak H H:=λ_ _ h=>h
theorem Ak.trans{H H1 H2:Hp}(a:Ak H H1)(b:Ak H1 H2):Ak H H2:=λc o h=>b c o (a c o h)
theorem Ak.free{H H':Hp}(e:Ak H H'){l:LZ}(h:H' l=Option.none):H l=Option.none:=by
 cases q:H l with
 | none=>rfl
 | some o=>
  rw[e l o q] at h
  cases h
theorem Ak.seq{K:LO}{H H':Hp}{a:LZ}{xs:List V}(e:Ak H H')(h:Av K H a xs):Av K H' a xs:=by
 rcases h with (h | ⟨o,h⟩) | h
 ·exact .inl (.inl (e _ _ h))
 ·exact .inl (.inr ⟨o,e _ _ h⟩)
 ·exact .inr h
section
variable {X:Cx}
end
section
variable {κ:Type} [DecidableEq κ]
end
section
variable {X:Cx} {pins:List (LZ×Obj)} {σ:St} {H:Hp} {s:LV} {h':OS}
theorem Inv.adopt{D:LZ}{o:HO}(I:Inv X pins σ H s)(hn:H D=none)(hL:D≠X.env.locals)(h0:X.s₀.heap.objs.size<=D)(hc:∀x c,X.env.cells.lookup x=some c->c≠D)(hp:∀p∈X.pn++pins,p.1≠D)(new:Cg X.prog X.w (upd H D o) s.heap D o):Inv X pins σ (upd H D o) s:=by
 have ne:∀b u,H b=some u->b≠D:=λb u e=>Ah e hn
 refine⟨I.ok,I.os,I.bare,⟨I.base.keep,I.base.slot,λb u e n hx=>?_,I.base.there,λb xs e=>?_,λb u v e=>?_,λb ps e=>?_⟩,I.loc,I.cell,?_,λx c e=>?_,λp hp'=>?_,λb u e=>?_,I.len⟩
 ·rw[Ai (NF (NQ (MQ e) h0))];exact I.base.free b u e n hx
 ·have q:=I.base.tups b xs e
  rw[Ai (ne _ _ q)];exact q
 ·have q:=I.base.frzs b u v e
  rw[Ai (ne _ _ q)];exact q
 ·obtain⟨m,q⟩:=I.base.tbls b ps e
  exact⟨m,by rw[Ai (ne _ _ q)];exact q⟩
 ·rw[Ai (NT hL)];exact I.free
 ·rw[Ai (hc x c e)];exact I.freeC x c e
 ·obtain⟨e,n,r⟩:=I.pin p hp'
  exact⟨e,by rw[Ai (hp p hp')];exact n,r⟩
 ·by_cases hb:b=D
  ·subst hb;rw[Aa] at e;cases e;exact new
  ·rw[Ai hb] at e
   exact(I.hok b u e).stay (λ_ _ _ q=>q) (λc q=>by rw[Ai (ne _ _ q)];exact q) λc xs q=>by rw[Ai (ne _ _ q)];exact q
theorem Inv.turns{t':Nat}{ch:List LZ}(I:Inv X pins σ H s)(k:∀b o,b∉ch->s.heap.get? b=some o->h'.get? b=some o)(hf:∀b∈ch,Dd X pins H b):
 Inv X pins σ H { s with heap:=h',toks:=t' }:=by
 have nit:∀b u,H b=some u->b∉ch:=λb u e z=>by rw[(hf b z).1] at e;cases e
 refine I.step (g':=s.gens) (d':=s.drawn) (ch:=ch) (λb hb=>?_) (λb o _ _ hc e _=>k b o hc e) (λb o _ _ hc e _=>⟨o.slots,k b o hc e⟩) (λ_ _ _ _ n=>n)
  (λb o hc e=>⟨o,k b o hc e⟩) (λ_ _ e=>e) (λ_ _ _ e=>e) (λb ps e=>⟨#[],by rw[e];simp⟩) (λm hm=>?_) (λb u e=>?_) I.bare
 ·obtain⟨f0,f1,f2,f3,f4,f5⟩:=hf b hb
  exact⟨f3,f1,f4,f5⟩
 ·obtain⟨o,es,ep,ho,r⟩:=hm
  exact⟨o,es,ep,k _ o (λz=>(hf _ z).2.1 rfl) ho,r⟩
 ·refine(I.hok b u e).stay (λc v hc q=>k c v ?_ q) (λ_ q=>q) λ_ _ q=>q
  rcases hc with z | z
  ·rw[z];exact nit b u e
  ·exact nit c _ z
end
theorem Lh{env:Env}(f:Str×NameKind->List (Str×LZ)->Sem (ForInStep (List (Str×LZ))))(hf:∀name kind cs,f (name,kind) cs=if kind == .free then (do let a <- cellOf env name;pure (.yield ((name,a)::cs))) else pure (.yield cs)):
 ∀(names:List (Str×NameKind))(cs:List (Str×LZ)),(∀n,(n,OQ)∈names->∃c,env.cells.lookup n=some c)->(∀x c,cs.lookup x=some c->env.cells.lookup x=some c) ->
  ∃cl,forIn names cs f=pure cl/\(∀x c,cl.lookup x=some c->env.cells.lookup x=some c)/\(∀x,(∃c,cs.lookup x=some c)∨(x,OQ)∈names->∃c,cl.lookup x=some c)
 | [],cs,_,h=>⟨cs,rfl,h,λx hx=>hx.elim (λz=>z) λz=>nomatch z⟩
 | (n,k)::r,cs,hn,h=>by
  by_cases hk:k=.free
  ·subst hk
   obtain⟨c,hc⟩:=hn n MD
   obtain⟨cl,e,h1,h2⟩:=Lh f hf r ((n,c)::cs) (λm hm=>hn m (ME _ hm)) (λx d hx=>by
    by_cases hxn:x=n
    ·subst hxn
     rw[NS,beq_self_eq_true] at hx
     cases hx
     exact hc
    ·rw[NS,beq_eq_false_iff_ne.mpr hxn] at hx
     exact h x d hx)
   refine⟨cl,?_,h1,λx hx=>?_⟩
   ·rw[List.forIn_cons,hf]
    have e1:cellOf env n=pure c:=by unfold cellOf;rw[hc]
    rw[e1]
    exact e
   ·rcases hx with ⟨d,hd⟩ | hx
    ·refine h2 x (.inl ?_)
     by_cases hxn:x=n
     ·subst hxn
      exact⟨c,by rw[NS,beq_self_eq_true]⟩
     ·exact⟨d,by rw[NS,beq_eq_false_iff_ne.mpr hxn];exact hd⟩
    ·rcases LX.mp hx with e2 | hx
     ·obtain rfl:x=n:=(Prod.mk.inj e2).1
      exact h2 x (.inl ⟨c,by rw[NS,beq_self_eq_true]⟩)
     ·exact h2 x (.inr hx)
  ·have hkb:(k == OQ)=false:=beq_eq_false_iff_ne.mpr hk
   obtain⟨cl,e,h1,h2⟩:=Lh f hf r cs (λm hm=>hn m (ME _ hm)) h
   refine⟨cl,?_,h1,λx hx=>h2 x ?_⟩
   ·rw[List.forIn_cons,hf,hkb]
    exact e
   ·rcases hx with hx | hx
    ·exact .inl hx
    ·rcases LX.mp hx with e2 | hx
     ·cases e2
      exact absurd rfl hk
     ·exact .inr hx
theorem gT{env:Env}{scope:Scope}(hn:∀n,(n,OQ)∈scope.names->∃c,env.cells.lookup n=some c):
 ∃cl,closureFor scope env=pure cl/\(∀x c,cl.lookup x=some c->env.cells.lookup x=some c)/\∀x,(x,OQ)∈scope.names->∃c,cl.lookup x=some c:=by
 obtain⟨cl,e,h1,h2⟩:=Lh (env:=env) (λx cs=>match x with | (name,kind)=>if kind == .free then (do let a <- cellOf env name;pure (.yield ((name,a)::cs))) else pure (.yield cs)) (λ_ _ _=>rfl) scope.names [] hn (λx c z=>nomatch z)
 refine⟨cl,?_,h1,λx hx=>h2 x (.inr hx)⟩
 unfold closureFor
 exact Eq.trans (congrArg (λt:Sem (List (Str×LZ))=>t >>= λr=>pure r) e) rfl
def LK(scope sc:Scope):Scope:=
 { scope with names:=scope.names.map λ(n,k)=>if (k == .free && sc.kind == .function && sc.names.lookup n == some .cell) then (n,.cell) else (n,k) }
def Sy(sc scope:Scope):Bool:=
 decide (scope.kind=.function) && (scope.names.all (λp=>decide (p.2 ≠ .cell)) && (scope.names.all (λp=>decide (p.2=.local->scope.names.lookup p.1=some .local)) &&
 scope.names.all (λp=>decide (p.2=.free->(sc.names.lookup p.1=some .cell∨sc.names.lookup p.1=some .free)))))
def xY(N:List Str)(scope:Scope)(fr:List (Str×Nat)):Bool:=fr.all λp=>decide (N[p.2]? = some p.1) && decide (scope.names.lookup p.1=some .free)
structure Sv(sc scope:Scope):Prop where
 kind:scope.kind=.function
 cell:∀p∈scope.names,p.2 ≠ .cell
 loc:∀p∈scope.names,p.2=.local->scope.names.lookup p.1=some .local
 free:∀n,(n,OQ)∈scope.names->sc.names.lookup n=some .cell∨sc.names.lookup n=some .free
theorem kQ{sc scope:Scope}(h:Sy sc scope=true):Sv sc scope:=by
 unfold Sy at h
 rw[OX,OX,OX,QO,QO,QO] at h
 obtain⟨h1,h2,h3,h4⟩:=h
 exact⟨of_decide_eq_true h1,λp hp=>of_decide_eq_true (h2 p hp),λp hp=>of_decide_eq_true (h3 p hp),λn hn=>of_decide_eq_true (h4 (n,.free) hn) rfl⟩
theorem lookup_mem{α:Type}{x:Str}{v:α}:∀ {l:List (Str×α)},l.lookup x=some v->(x,v)∈l
 | [],h=>nomatch h
 | (n,k)::r,h=>by
  rw[NS] at h
  by_cases hx:x=n
  ·subst hx
   rw[beq_self_eq_true] at h
   cases h
   exact MD
  ·rw[beq_eq_false_iff_ne.mpr hx] at h
   exact ME _ (lookup_mem h)
theorem Jy{env:Env}{x:Str}:∀ {names:List (Str×NameKind)} {k:NameKind},
 (names.map λ(n,k)=>if (k == OQ && env.scope.kind == .function && env.kindOf n == some .cell) then (n,NameKind.cell) else (n,k)).lookup x=some k ->
 (k=.cell/\((x,OQ)∈names∨(x,NameKind.cell)∈names))∨(x,k)∈names
 | [],_,h=>nomatch h
 | (n,j)::r,k,h=>by
  have ih:=@Jy env x r k
  rw[MU] at h
  by_cases hc:(j == OQ && env.scope.kind == .function && env.kindOf n == some .cell)=true
  ·simp only[hc,if_true] at h
   rw[NS] at h
   by_cases hx:x=n
   ·subst hx
    rw[beq_self_eq_true] at h
    cases h
    have hj:j=.free:=by
     rw[OX,OX] at hc
     exact beq_iff_eq.mp hc.1.1
    subst hj
    exact .inl ⟨rfl,.inl MD⟩
   ·rw[beq_eq_false_iff_ne.mpr hx] at h
    rcases ih h with ⟨e,z | z⟩ | z
    ·exact .inl ⟨e,.inl (ME _ z)⟩
    ·exact .inl ⟨e,.inr (ME _ z)⟩
    ·exact .inr (ME _ z)
  ·simp only[hc] at h
   rw[if_neg LY,NS] at h
   by_cases hx:x=n
   ·subst hx
    rw[beq_self_eq_true] at h
    cases h
    exact .inr MD
   ·rw[beq_eq_false_iff_ne.mpr hx] at h
    rcases ih h with ⟨e,z | z⟩ | z
    ·exact .inl ⟨e,.inl (ME _ z)⟩
    ·exact .inl ⟨e,.inr (ME _ z)⟩
    ·exact .inr (ME _ z)
theorem Mt{env:Env}{x:Str}:∀ {names:List (Str×NameKind)},names.lookup x=some .free ->
 (names.map λ(n,k)=>if (k == OQ && env.scope.kind == .function && env.kindOf n == some .cell) then (n,NameKind.cell) else (n,k)).lookup x=some .cell ∨
 (names.map λ(n,k)=>if (k == OQ && env.scope.kind == .function && env.kindOf n == some .cell) then (n,NameKind.cell) else (n,k)).lookup x=some .free
 | [],h=>nomatch h
 | (n,j)::r,h=>by
  have ih:=@Mt env x r
  rw[MU]
  rw[NS] at h
  by_cases hx:x=n
  ·subst hx
   rw[beq_self_eq_true] at h
   cases h
   by_cases hc:(OQ == OQ && env.scope.kind == .function && env.kindOf x == some .cell)=true
   ·simp only[hc,if_true]
    rw[NS,beq_self_eq_true]
    exact .inl rfl
   ·simp only[hc]
    rw[if_neg LY,NS,beq_self_eq_true]
    exact .inr rfl
  ·rw[beq_eq_false_iff_ne.mpr hx] at h
   by_cases hc:(j == OQ && env.scope.kind == .function && env.kindOf n == some .cell)=true
   ·simp only[hc,if_true]
    rw[NS,beq_eq_false_iff_ne.mpr hx]
    exact ih h
   ·simp only[hc]
    rw[if_neg LY,NS,beq_eq_false_iff_ne.mpr hx]
    exact ih h
theorem aV{prog:MV}{w:NU}{A:NV}{R:Result->LV->Prop}{s:LV}{elt target iter:Expr}{ifs:List Expr}{scope:Scope}{pos:Pos}{it acc:LP}{env:Env}(EW:LP->LV->Prop)(hE:∀x s',EW x s'->notedBy (NJ prog w) A env (λy s''=>R (.error y) s'') x s')(I:Nat->LV->Prop)(turn:∀n s,I n s->ND (NJ prog w) A (RI it) (λr s₁=>match r with
  | none=>R (.ok .next) s₁
  | some v=>ND (NJ prog w) A (letOwnedTupleGo target it v) (λ_ s₀=>ND (NJ prog w) A (assign target env v) (λ_ s₂=>
   ND (NJ prog w) A (forIn ifs true λc r=>if r=true then do let ok <- isTrue c env (RY c env);pure (ForInStep.yield ok) else pure (ForInStep.yield r)) (λok s₃=>
    if ok=true then ND (NJ prog w) A (RY elt env) (λx s₄=>
     ND (NJ prog w) A (call (.builtin "list.append") [acc,x]) (λ_ s₅=>∃m,m < n/\I m s₅) (λ_ _=>False) s₄) EW s₃
    else ∃m,m < n/\I m s₃) EW s₂) EW s₀) (λ_ _=>False) s₁) (λ_ _=>False) s)(n:Nat)(h:I n s):codeAny (NJ prog w) A (.compLoop (.ListComp elt [⟨target,iter,ifs,0⟩] scope pos) 0 it acc env) R s:=by
 refine codeAny_loop rfl I (λn s hI=>?_) n h
 show ND _ A ((compTurn (.ListComp elt [⟨target,iter,ifs,0⟩] scope pos) 0 it acc env).onRaise (λx=>do noteFrame x env;theTreesLotGoes x)) _ _ s
 refine wpAny_noted ?_
 rw[compTurn_list]
 refine LL (UL (LL (OR (turn n s hI) (λr s₁ h₁=>?_) λ_ _ h'=>h'.elim)))
 cases r with
 | none=>exact MI h₁
 | some v=>
  refine LL (OR h₁ (λ_ s₀ h₀=>?_) λ_ _ h'=>h'.elim)
  refine LL (OR h₀ (λ_ s₂ h₂=>LL (OR h₂ (λok s₃ h₃=>?_) hE)) hE)
  cases ok with
  | false=>exact MI ⟨rfl,h₃⟩
  | true=>
   exact LL (LL (OR h₃ (λx s₄ h₄=>LL (OR h₄ (λ_ s₅ h₅=>MI (MI ⟨rfl,h₅⟩)) λ_ _ h'=>h'.elim)) hE))
def Js(X:Cx)(scope:Scope)(N:List Str)(cl:List (Str×LZ))(C:LZ)(s:LV)(H:Hp)(fp:List LZ)(pins:List (LZ×Obj)):Cx where
 prog:=X.prog
 w:=X.w
 K:=X.K
 mg:=X.mg
 base:=X.base
 A:=X.A
 N:=N
 s₀:=s
 H₀:=H
 env:=compEnvC scope cl C X.env
 outer:=X.stack
 stack:=X.stack
 ex:=fp
 fn:=λ_=>false
 calm:=X.calm
 sx:=X.sx
 pn:=X.pn++pins
 xe:=λ_ _=>False
def IL(Y:Cx)(ifs:List Expr)(tc:TT):Prop:=
 ∀(pins:List (LZ×Obj))(s:LV)(σ:St)(H:Hp)(Q:Bool->Hp->Prop),Inv Y pins σ H s->tc σ H Q ->
  ND (NJ Y.prog Y.w) Y.A (forIn ifs true λc r=>if r=true then do let ok <- isTrue c Y.env (RY c Y.env);pure (ForInStep.yield ok) else pure (ForInStep.yield r)) (TP Y pins σ Q) Y.xe s
def Pk:TT:=λ_ H Q=>Q true H
theorem Ca{Y:Cx}:IL Y [] Pk:=λpins s σ H Q I h=>wpAny_tests_nil ⟨H,I,h⟩
theorem Mf{Y:Cx}{c:Expr}{tc:TT}(h:PT Y c tc):IL Y [c] tc:=λpins s σ H Q I hw=>wpAny_tests_one (h pins s σ H Q I hw)
def gJ(n:Nat)(g:TG):Prop:=∀v σ H (Q Q':St->Hp->Prop),(∀σ2 H2,Q σ2 H2->σ2.length=σ.length->(∀j,n<=j->σ2[j]? = σ[j]?)->Q' σ2 H2)->g v σ H Q->g v σ H Q'
def iQ(n:Nat)(g:uL):Prop:=∀v σ H (Q Q':St->Hp->Prop),(∀σ2 H2,Q σ2 H2->σ2.length=σ.length->(∀j,n<=j->σ2[j]? = σ[j]?)->Q' σ2 H2)->g v σ H Q->g v σ H Q'
theorem Bd{n i:Nat}(h:i < n):gJ n (Ly i):=λv σ H Q Q' f q=>f _ _ q (by simp) λj hj=>QB (by omega)
theorem Nc{n:Nat}:iQ n FD:=λv σ H Q Q' f q=>⟨q.1,f _ _ q.2 rfl λ_ _=>rfl⟩
theorem Er{n:Nat}{t:TG}{u:uL}(h1:gJ n t)(h2:iQ n u):iQ n (zR t u):=λvs σ H Q Q' f q=>by
 obtain⟨v,r,e,q⟩:=q
 exact⟨v,r,e,h1 _ _ _ _ _ (λσ' H' q1 l1 k1=>h2 _ _ _ _ _ (λσ2 H2 q2 l2 k2=>f σ2 H2 q2 (l2.trans l1) λj hj=>(k2 j hj).trans (k1 j hj)) q1) q⟩
theorem Qc{K:LO}{n m:Nat}{t:uL}(h:iQ n t):gJ n (EO K m t):=λv σ H Q Q' f q=>by
 obtain⟨a,xs,e,hq,hl,q⟩:=q
 exact⟨a,xs,e,hq,hl,h _ _ _ _ _ f q⟩
structure jB(Y:Cx)(tg:Expr)(ifs:List Expr)(elt:Expr)(g:TG)(tc:TT)(te:TE):Prop where
 tg:PG Y tg g
 ts:IL Y ifs tc
 el:PE Y elt te
def stC(n:Nat)(fr:List (Str×Nat))(σ:St):St:=NC n none++fr.map λp=>(σ[p.2]?).join
def Em(n:Nat)(fr:List (Str×Nat))(g:TG)(tc:TT)(te:TE)(σ:St)(J:It)(H:Hp)(F:List V->Hp->Prop):Prop:=
 ∃W:Nat->Nat->List V->Hp->Prop,(∃m,W 0 m [] H)/\∀i m ys H,W i m ys H ->
  (J.stop i H/\F ys H)∨(J.go i H/\∃Nx:List V->Hp->Prop,(∀ys' H',Nx ys' H'->∃m',m' < m/\W (i+1) m' ys' H')/\∀x H',J.yld i H x H'->g x (stC n fr σ) H' λσ2 H2=>tc σ2 H2 λb H3=>
   if b=true then te σ2 H3 λy H4=>ys.length < MG/\Nx (ys++[y]) H4 else Nx ys H3)
def yU(n:Nat)(fr:List (Str×Nat))(wi:TI)(g:TG)(tc:TT)(te:TE):TE:=λσ H Q=>wi σ H λJ H1=>Em n fr g tc te σ J H1 λys H2=>∀p,H2 p=none->Q (.ref p) (upd H2 p (.lst ys))
abbrev lobj(its:List LP)(n:Nat):Obj:={ cls:=.type "list", data:=.seq its.toArray n }
section
variable {X:Cx} {elt iter tg:Expr} {ifs:List Expr} {scope sc:Scope} {pos:Pos} {own N:List Str} {fr:List (Str×Nat)} {g:TG} {tc:TT} {te:TE} {wi:TI}
theorem kZ{pins:List (LZ×Obj)}{σ:St}{H:Hp}{s:LV}{cl:List (Str×LZ)}{C:LZ}{fp:List LZ}{N':List Str}(I:Inv X pins σ H s)(ho:Sv X.env.scope scope)(h1:∀x c,cl.lookup x=some c->X.env.cells.lookup x=some c)(h2:∀x,(x,OQ)∈scope.names->∃c,cl.lookup x=some c)(hf:∀b∈fp,Dd X pins H b)(hlt:∀b∈fp,b < s.heap.objs.size)(hC:s.heap.objs.size<=C):
 (Js X scope N' cl C s H fp pins).Ok where
 mod:=I.ok.mod
 kind:=ho.kind
 glob:=I.ok.glob
 blt:=I.ok.blt
 above:=hC
 inj:=λx y c e1 e2=>I.ok.inj x y c (h1 x c e1) (h1 y c e2)
 has:=λx hx=>by
  have go:∀k,(k=.cell∨k=.free)->(relabel scope X.env).names.lookup x=some k->∃c,cl.lookup x=some c:=λk hk e=>by
   rcases Jy (env:=X.env) e with ⟨_,z | z⟩ | z
   ·exact h2 x z
   ·exact absurd rfl (ho.cell _ z)
   ·rcases hk with rfl | rfl
    ·exact absurd rfl (ho.cell _ z)
    ·exact h2 x z
  rcases hx with hx | hx
  ·exact go _ (.inl rfl) hx
  ·exact go _ (.inr rfl) hx
 cab:=λx c e=>absurd e LY
 hd:=I.ok.hd
 st:=I.ok.st
 frames:=I.ok.frames
 stk:=.inl rfl
 exf:=λb hb=>⟨NF (NQ (hlt b hb) hC),λx c e=>(hf b hb).2.2.2.2.1 x c (h1 x c e)⟩
 bs:=I.bs
 bsz:=NA I.ok.bsz I.sz
 noex:=λb o e hb=>by
  rcases (hf b hb).2.2.2.1 with z | z
  ·exact I.ok.noex b o e z
  ·exact absurd (NQ (NQ (MQ e) I.ok.bsz) z) (SH _)
 exfs:=λb hb z=>by
  rcases LX.mp (I.stkSub b z) with e | e
  ·exact(hf b hb).2.1 e
  ·exact(hf b hb).2.2.1 e
 funs:=I.stack
 frf:=I.stkFree
theorem Yk{pins:List (LZ×Obj)}{σ:St}{H2:Hp}{s2:LV}{cl:List (Str×LZ)}{fp:List LZ}{it:LZ}{tn:Nat->OS->Prop}{J:It}{F:List V->Hp->Prop}{RR:LP->LZ->Result->LV->Prop}{E:LP->LV->Prop}(xw:Cx->LP->LV->Prop)(hcalm:X.calm=true)(ho:Sv X.env.scope scope)(hfr:∀p∈fr,X.N[p.2]? = some p.1/\scope.names.lookup p.1=some .free)(hG:gJ own.length g)(hY:∀cl C s H fp pins,jB ((Js X scope (own++fr.map (·.1)) cl C s H fp pins).wish (xw (Js X scope (own++fr.map (·.1)) cl C s H fp pins))) tg ifs elt g tc te)(I2:Inv X pins σ H2 s2)(T:Turn X.prog X.w X.K tg J fp it tn)(st2:tn 0 s2.heap)(f2:∀b∈fp,Dd X pins H2 b)(rd:Em own.length fr g tc te σ J H2 F)(h1:∀x c,cl.lookup x=some c->X.env.cells.lookup x=some c)(h2:∀x,(x,OQ)∈scope.names->∃c,cl.lookup x=some c)(fin:∀D C s' H' ys its n' m,Inv X pins σ H' s'->Dd X pins H' D->X.s₀.heap.objs.size<=D->s'.heap.get? D=some (lobj its n')->Vals ys its->ys.length<=MG->Dd X pins H' C->X.s₀.heap.objs.size<=C->C≠D->s'.heap.Ns C m->F ys H'->RR (.ref D) C (.ok .next) s')(hE:∀D C x s',s2.heap.objs.size<=C->xw (Js X scope (own++fr.map (·.1)) cl C s2 H2 fp pins) x s'->notedBy (NJ X.prog X.w) X.A (compEnvC scope cl C X.env) (λy s''=>RR (.ref D) C (.error y) s'') x s'):
 ND (NJ X.prog X.w) X.A (newList []) (λacc s₃=>ND (NJ X.prog X.w) X.A (newFunctionEnv scope X.env.globals cl [] X.env.qual none .none (some X.env)) (λcenv s₄=>
  codeAny (NJ X.prog X.w) X.A (.compStart (.ListComp elt [⟨tg,iter,ifs,0⟩] scope pos) 0 (.ref it) acc { cenv with scope:=relabel scope X.env }) (RR acc cenv.locals) s₄) E s₃) E s2:=by
 refine RO (wpAny_newFunctionEnv ho.cell (by intro y hy;simp at hy) (λh₁ hns₁ hsb₁=>?_) ho.kind)
 dsimp only at hns₁ hsb₁ ⊢
 generalize hHH:s2.heap.push { cls:=.type "list", dict:=none,data:=.seq ([]:List LP).toArray }=HH at hns₁ hsb₁ ⊢
 have hC:HH.objs.size=s2.heap.objs.size+1:=by rw[<- hHH,QG]
 have hDC:s2.heap.objs.size≠HH.objs.size:=by rw[hC];exact NF (Nat.lt_succ_self _)
 have hCle:s2.heap.objs.size<=HH.objs.size:=by rw[hC];exact TV _
 have below:∀b,b < s2.heap.objs.size->b≠HH.objs.size:=λb hb=>by rw[hC];exact NF (Nat.lt_succ_of_lt hb)
 have old:∀b o,s2.heap.get? b=some o->h₁.get? b=some o:=λb o e=>hsb₁.extBut b o (below b (MQ e)) (LQ _ (hHH ▸ LQ _ e))
 have hacc:h₁.get? s2.heap.objs.size=some (lobj [] 0):=hsb₁.extBut _ _ hDC (LQ _ (hHH ▸ MS _ rfl))
 have hlt:∀b∈fp,b < s2.heap.objs.size:=λb hb=>by
  obtain⟨o,e,_⟩:=T.obj 0 _ st2 b hb
  exact MQ e
 have okY:=kZ (N':=own++fr.map (·.1)) I2 ho h1 h2 f2 hlt hCle
 have hD0:H2 s2.heap.objs.size=none:=I2.hok.fresh (MC _)
 have hC0:H2 HH.objs.size=none:=I2.hok.fresh hCle
 have R':=hY cl HH.objs.size s2 H2 fp pins
 have hE':=hE s2.heap.objs.size HH.objs.size
 generalize hYe:Js X scope (own++fr.map (·.1)) cl HH.objs.size s2 H2 fp pins=Y at okY R' hE'
 -- the cells of the block
 have cellY:∀x c,cl.lookup x=some c->∃v,h₁.IsCell c v:=λx c e=>by
  obtain⟨v,o,q,d⟩:=I2.cell x c (h1 x c e)
  exact⟨v,o,old c o q,d⟩
 have pinY:∀p∈X.pn++pins,h₁.get? p.1=some p.2/\H2 p.1=none/\p.1≠HH.objs.size/\p.1∉Ta X.stack/\∀v,p.2.data ≠ .cell v:=λp hp=>by
  obtain⟨e,n,ne,nf,d⟩:=I2.pin p hp
  refine⟨old _ _ e,n,below _ (MQ e),λz=>?_,d⟩
  rcases LX.mp (I2.stkSub _ z) with q | q
  ·exact ne q
  ·exact nf q
 have I0:Inv Y [(s2.heap.objs.size,lobj [] 0)] (stC own.length fr σ) H2 { s2 with heap:=h₁,toks:=s2.toks+([]:List (Str×LP)).length }:=by
  subst hYe
  refine⟨okY,rfl,I2.bare,Un.kept old,⟨_,hns₁,λi x v e1 e2 e3=>?_⟩,cellY,hC0,λx c e=>I2.freeC x c (h1 x c e),λp hp=>?_,I2.hok.kept old,?_⟩
  ·-- a slot that is set is a free name's
   have hi:own.length<=i:=by
    rcases Nat.lt_or_ge i own.length with z | z
    ·have q:(stC own.length fr σ)[i]? = some none:=by
      unfold stC
      rw[MW (by simpa using z),RF,if_pos z]
     rw[q] at e2
     cases e2
    ·exact z
   have e1':(fr.map (·.1))[i-own.length]? = some x:=by
    have:(own++fr.map (·.1))[i]? = some x:=e1
    rwa [OG hi] at this
   have e2':(fr.map λp=>(σ[p.2]?).join)[i-own.length]? = some (some v):=by
    unfold stC at e2
    rwa [OG (by simpa using hi),OL] at e2
   rw[MX] at e1' e2'
   cases hp:fr[i-own.length]? with
   | none=>rw[hp] at e1';cases e1'
   | some p=>
    rw[hp] at e1' e2'
    have ep:p.1=x:=MZ e1'
    have ev:(σ[p.2]?).join=some v:=MZ e2'
    obtain⟨hN,hl⟩:=hfr p (MK hp)
    rw[ep] at hN hl
    have hσ:σ[p.2]? = some (some v):=by
     cases q:σ[p.2]? with
     | none=>rw[q] at ev;cases ev
     | some y=>rw[q] at ev;exact congrArg some ev
    obtain⟨m,hn,hloc⟩:=I2.loc
    have hk:=ho.free x (lookup_mem hl)
    obtain⟨u,r,l⟩:=hloc p.2 x v hN hσ (by rcases hk with z | z;exact .inr (.inl z);exact .inr (.inr z))
    refine⟨u,r,?_⟩
    rcases l with ⟨k,_⟩ | ⟨k,c,ec,hcell⟩
    ·rcases hk with z | z
     ·have k':X.env.scope.names.lookup x=some .local:=k
      rw[z] at k';cases k'
     ·have k':X.env.scope.names.lookup x=some .local:=k
      rw[z] at k';cases k'
    ·obtain⟨c',ec'⟩:=h2 x (lookup_mem hl)
     have:c'=c:=MZ ((h1 x c' ec').symm.trans ec)
     subst this
     obtain⟨o,qo,qd⟩:=hcell
     exact .inr ⟨Mt (env:=X.env) hl,c',ec',o,old _ _ qo,qd⟩
  ·rcases MJ.mp hp with z | z
   ·exact pinY p z
   ·have ep:p=(s2.heap.objs.size,lobj [] 0):=by simpa using z
    subst ep
    refine⟨hacc,hD0,hDC,λz=>?_,λv z=>nomatch z⟩
    rcases LX.mp (I2.stkSub _ z) with q | q
    ·exact absurd I2.lt (by rw[<- q];exact SH _)
    ·exact I2.nofs (MC _) q
  ·show (NC own.length none++fr.map λp:Str×Nat=>(σ[p.2]?).join).length=(own++fr.map (·.1)).length
   simp
 have Yp:Y.prog=X.prog/\Y.w=X.w/\Y.K=X.K/\Y.calm=true/\Y.A=X.A/\Y.env=compEnvC scope cl HH.objs.size X.env/\(Y.xe=λ_ _=>False):=by
  subst hYe
  exact⟨rfl,rfl,rfl,hcalm,rfl,rfl,rfl⟩
 obtain⟨y1,y2,y3,y4,y5,y6,y7⟩:=Yp
 have fpY:∀ {H':Hp} {its:List LP} {n':Nat},(∀b∈fp,H' b=none)->∀b∈fp,Dd Y [(s2.heap.objs.size,lobj its n')] H' b:=λ{H' its n'} hn b hb=>by
  subst hYe
  obtain⟨f0,f1,f3,f4,f5,f6⟩:=f2 b hb
  refine⟨hn b hb,below b (hlt b hb),okY.exfs b hb,.inl hb,λx c e=>f5 x c (h1 x c e),λp hp=>?_⟩
  rcases MJ.mp hp with z | z
  ·exact f6 p z
  ·have ep:p=(s2.heap.objs.size,lobj its n'):=by simpa using z
   subst ep
   exact RJ (hlt b hb)
 have hYlen:∀ {H':Hp} {s':LV} {pl:List (LZ×Obj)} {σ':St},Inv Y pl σ' H' s'->σ'.length=(stC own.length fr σ).length->(∀j,own.length<=j->σ'[j]? = (stC own.length fr σ)[j]?)->Inv Y pl (stC own.length fr σ) H' s':=λI hl hk=>by
  refine I.weak hl.symm λi v e=>?_
  rcases Nat.lt_or_ge i own.length with z | z
  ·have q:(stC own.length fr σ)[i]? = some none:=by
    unfold stC
    rw[MW (by simpa using z),RF,if_pos z]
   rw[q] at e
   cases e
  ·rw[hk i z];exact e
 obtain⟨W,⟨m0,w0⟩,turn⟩:=rd
 have loop:∀s₃:LV,s₃={ s2 with heap:=h₁,toks:=s2.toks+([]:List (Str×LP)).length } ->
  codeAny (NJ X.prog X.w) X.A (.compLoop (.ListComp elt [⟨tg,iter,ifs,0⟩] scope pos) 0 (.ref it) (.ref s2.heap.objs.size) (compEnvC scope cl HH.objs.size X.env)) (RR (.ref s2.heap.objs.size) HH.objs.size) s₃:=by
  rintro s₃ rfl
  refine aV (xw Y) (λx s' h=>hE' x s' hCle h) (λn s'=>∃i ys its n' H',Inv Y [(s2.heap.objs.size,lobj its n')] (stC own.length fr σ) H' s'/\tn i s'.heap/\(∀b∈fp,H' b=none)/\Vals ys its/\ys.length<=MG/\W i n ys H') ?_ m0
   ⟨0,[],[],0,H2,I0,T.keep _ _ _ st2 λb _ o e=>old b o e,λb hb=>(f2 b hb).1,.nil,NI _,w0⟩
  rintro n s3 ⟨i,ys,its,n',H3,I3,st3,fr3,rv,hz,w3⟩
  have pinD:=I3.pin (s2.heap.objs.size,lobj its n') (MP _ (by simp))
  rcases turn i n ys H3 w3 with ⟨stop,qn⟩ | ⟨go,Nx,hNx,step⟩
  ·have q:=T.done Y y1 y2 y3 y4 i _ s3 _ H3 (λ_ _=>False) I3 (fpY fr3) st3 stop
   rw[y5] at q
   refine Bv q λr s4 ⟨hr,I4⟩=>?_
   subst hr
   have pinD4:=I4.pin (s2.heap.objs.size,lobj its n') (MP _ (by simp))
   obtain⟨m,hm,_⟩:=I4.loc
   have IX:Inv X pins σ H3 s4:=by
    subst hYe
    exact I2.call' (ch:=fp) I4.os I4.base I4.hok I4.bare λb hb=>⟨(f2 b hb).2.2.2.1,(f2 b hb).2.1,(f2 b hb).2.2.2.2.1,(f2 b hb).2.2.2.2.2⟩
   rw[y6] at hm
   have hCf:H3 HH.objs.size=none:=by
    have z:=I4.free
    rw[y6] at z
    exact z
   refine fin s2.heap.objs.size HH.objs.size s4 H3 ys its n' m IX (I2.fpOk (MC _) pinD4.2.1) I2.sz pinD4.1 rv hz (I2.fpOk hCle hCf) (NA I2.sz hCle) (NT hDC) hm qn
  ·have q:=T.item Y y1 y2 y3 y4 i _ s3 _ H3 (λ_ _=>False) I3 (fpY fr3) st3 go
   rw[y5] at q
   refine Bv q λr s4 ⟨u,hr,h4⟩=>?_
   subst hr
   refine Bv h4 λ_ s5 ⟨x,H5,I5,r5,y5',st5,fr5⟩=>?_
   have I5':=I5.pinned (fpY fr5) (T.obj _ _ st5)
   have q6:ND (NJ Y.prog Y.w) Y.A (assign tg Y.env u) _ (xw Y) s5:=R'.tg _ s5 _ H5 x u _ (I5'.wish _) r5 (hG _ _ _ _ _ (λσ2 H2' qq l k=>(⟨qq,l,k⟩:_/\_/\_)) (step x H5 y5'))
   rw[y1,y2,y5,y6] at q6
   refine Bv q6 λ_ s6 ⟨σ6,H6,I6,qt,hl6,hk6⟩=>?_
   have q7:ND (NJ Y.prog Y.w) Y.A (forIn ifs true λc r=>if r=true then do let ok <- isTrue c Y.env (RY c Y.env);pure (ForInStep.yield ok) else pure (ForInStep.yield r)) _ (xw Y) s6:=R'.ts _ s6 _ H6 _ I6 qt
   rw[y1,y2,y5,y6] at q7
   refine Bv q7 λok s7 ⟨H7,I7,q7⟩=>?_
   -- a turn's end: the iterator's records and the list are pinned as they were
   have again:∀ {s8:LV} {H8:Hp} {ys8:List V} {its8:List LP} {n8:Nat},Inv Y [(s2.heap.objs.size,lobj its8 n8)] σ6 H8 s8->(∀b∈fp,∀o,s5.heap.get? b=some o->s8.heap.get? b=some o)->(∀b∈fp,H8 b=none)->Vals ys8 its8->ys8.length<=MG->Nx ys8 H8 ->
    ∃m,m < n/\∃i ys its n' H',Inv Y [(s2.heap.objs.size,lobj its n')] (stC own.length fr σ) H' s8/\tn i s8.heap/\(∀b∈fp,H' b=none)/\Vals ys its/\ys.length<=MG/\W i m ys H':=λ{s8 H8 ys8 its8 n8} I8 kp fr8 rv8 hz8 nx=>by
    obtain⟨m',hm,w8⟩:=hNx ys8 H8 nx
    exact⟨m',hm,i+1,ys8,its8,n8,H8,hYlen I8 hl6 hk6,T.keep _ _ _ st5 kp,fr8,rv8,hz8,w8⟩
   cases ok with
   | false=>
    rw[if_neg LY] at q7 ⊢
    refine again I7.unwish.unpinned (λb hb o e=>(I7.pin (b,o) (MP _ (MP _ (Fc hb e)))).1) (λb hb=>?_) rv hz q7
    obtain⟨o,e,d⟩:=T.obj _ _ st5 b hb
    exact(I7.pin (b,o) (MP _ (MP _ (Fc hb e)))).2.1
   | true=>
    rw[if_pos rfl] at q7 ⊢
    have q8:ND (NJ Y.prog Y.w) Y.A (RY elt Y.env) _ (xw Y) s7:=R'.el _ s7 _ H7 _ I7 q7
    rw[y1,y2,y5,y6] at q8
    refine Bv q8 λv s8 ⟨yv,H8,I8,r8,hsz,nx⟩=>?_
    have pin8:=I8.pin (s2.heap.objs.size,lobj its n') (MP _ (QA _ (by simp)))
    refine wpAny_list_append_plain (hsz:=by have:=rv.length;simp only[NE];omega) ⟨n',pin8.1⟩ λh9 ⟨n9,e9⟩ sb=>?_
    have Iu:=I8.unwish.pins_of (pins':=[]) (λp hp=>nomatch hp)
    have DF:Dd Y [] H8 s2.heap.objs.size:=by
     subst hYe
     refine⟨pin8.2.1,hDC,pin8.2.2.2.1,.inr (MC _),λx c e=>?_,λp hp=>?_⟩
     ·obtain⟨w',o,qo,_⟩:=I2.cell x c (h1 x c e)
      exact NF (MQ qo)
     ·have hp':p∈X.pn++pins:=by
       rw[NL] at hp
       exact hp
      exact NF (MQ (I2.pin p hp').1)
    have I9:Inv Y [] σ6 H8 { s8 with heap:=h9 }:=Iu.turns (t':=s8.toks) (ch:=[s2.heap.objs.size]) (λb o hb e=>(sb.2 b (by simpa using hb)).trans e) (λb hb=>by
     have e:b=s2.heap.objs.size:=by simpa using hb
     subst e
     exact DF)
    have e9':h9.get? s2.heap.objs.size=some (lobj (its++[v]) n9):=by
     rw[e9]
     simp
    have I10:Inv Y [(s2.heap.objs.size,lobj (its++[v]) n9)] σ6 H8 { s8 with heap:=h9 }:=I9.pins_of λp hp=>by
     have ep:p=(s2.heap.objs.size,lobj (its++[v]) n9):=by simpa using hp
     subst ep
     exact⟨e9',pin8.2.1,pin8.2.2.1,pin8.2.2.2.1,λw' z=>nomatch z⟩
    refine again I10 (λb hb o e=>(sb.2 b (NF (hlt b hb))).trans (I8.pin (b,o) (MP _ (MP _ (Fc hb e)))).1) (λb hb=>?_) (rv.append (.cons r8 .nil)) (by simp;omega) nx
    obtain⟨o,e,d⟩:=T.obj _ _ st5 b hb
    exact(I8.pin (b,o) (MP _ (MP _ (Fc hb e)))).2.1
 exact codeAny_compStart_list (loop _ rfl) (T.self _ 0 _ _ _ (T.keep _ _ _ st2 λb _ o e=>old b o e) (loop _ rfl))
theorem Qs{pins:List (LZ×Obj)}{σ:St}{H2:Hp}{s2:LV}{cl:List (Str×LZ)}{fp:List LZ}{it:LZ}{tn:Nat->OS->Prop}{J:It}{F:List V->Hp->Prop}{RR:LP->LZ->Result->LV->Prop}{E:LP->LV->Prop}(hcalm:X.calm=true)(ho:Sv X.env.scope scope)(hfr:∀p∈fr,X.N[p.2]? = some p.1/\scope.names.lookup p.1=some .free)(hG:gJ own.length g)(hY:∀cl C s H fp pins,jB (Js X scope (own++fr.map (·.1)) cl C s H fp pins) tg ifs elt g tc te)(I2:Inv X pins σ H2 s2)(T:Turn X.prog X.w X.K tg J fp it tn)(st2:tn 0 s2.heap)(f2:∀b∈fp,Dd X pins H2 b)(rd:Em own.length fr g tc te σ J H2 F)(h1:∀x c,cl.lookup x=some c->X.env.cells.lookup x=some c)(h2:∀x,(x,OQ)∈scope.names->∃c,cl.lookup x=some c)(fin:∀D C s' H' ys its n' m,Inv X pins σ H' s'->Dd X pins H' D->X.s₀.heap.objs.size<=D->s'.heap.get? D=some (lobj its n')->Vals ys its->ys.length<=MG->Dd X pins H' C->X.s₀.heap.objs.size<=C->C≠D->s'.heap.Ns C m->F ys H'->RR (.ref D) C (.ok .next) s'):
 ND (NJ X.prog X.w) X.A (newList []) (λacc s₃=>ND (NJ X.prog X.w) X.A (newFunctionEnv scope X.env.globals cl [] X.env.qual none .none (some X.env)) (λcenv s₄=>
  codeAny (NJ X.prog X.w) X.A (.compStart (.ListComp elt [⟨tg,iter,ifs,0⟩] scope pos) 0 (.ref it) acc { cenv with scope:=relabel scope X.env }) (RR acc cenv.locals) s₄) E s₃) E s2:=
 Yk (λ_ _ _=>False) hcalm ho hfr hG hY I2 T st2 f2 rd h1 h2 fin λ_ _ _ _ _ h=>h.elim
theorem Rp{pins:List (LZ×Obj)}{σ:St}{H:Hp}{s:LV}(I:Inv X pins σ H s)(hsc:X.env.scope=sc)(hok:Sy sc scope=true)(hNN:X.N=N)(hfr:xY N scope fr=true):
 Sv X.env.scope scope/\(∀p∈fr,X.N[p.2]? = some p.1/\scope.names.lookup p.1=some .free) /\
 ∃cl,closureFor scope X.env=pure cl/\(∀x c,cl.lookup x=some c->X.env.cells.lookup x=some c)/\∀x,(x,OQ)∈scope.names->∃c,cl.lookup x=some c:=by
 subst hsc hNN
 have ho:=kQ hok
 refine⟨ho,λp hp=>?_,gT λn hn=>I.ok.has n (ho.free n hn)⟩
 unfold xY at hfr
 rw[QO] at hfr
 have q:=hfr p hp
 rw[OX] at q
 exact⟨of_decide_eq_true q.1,of_decide_eq_true q.2⟩
theorem Dw(sc:Scope)(N own:List Str)(fr:List (Str×Nat))(hcalm:X.calm=true)(hi:PI X tg iter wi)(hG:gJ own.length g)(hY:∀cl C s H fp pins,jB (Js X scope (own++fr.map (·.1)) cl C s H fp pins) tg ifs elt g tc te)(hsc:X.env.scope=sc:=by rfl)(hok:Sy sc scope=true:=by decide +kernel)(hNN:X.N=N:=by rfl)(hfr:xY N scope fr=true:=by decide +kernel)(hs:∀x,foldedSetIterable iter X.env x=pure x:=by intro _;rfl):
 PE X (.ListComp elt [⟨tg,iter,ifs,0⟩] scope pos) (yU own.length fr wi g tc te):=by
 intro pins s σ H Q I h
 obtain⟨ho,hfr',cl,hcl,c1,c2⟩:=Rp I hsc hok hNN hfr
 rw[eval_ListComp]
 refine wpAny_comprehension_free (use:=none) rfl hs hcl ho.kind ho.loc (Bv (hi pins s σ H _ I h) λv s1 q1=>Bv q1 λitv s2 q2=>?_)
 obtain⟨it,fp,tn,J,H2,e,I2,T,st2,f2,rd⟩:=q2
 subst e
 refine Qs (RR:=λacc C=>compPost (NJ X.prog X.w) X.A X.xe none (EP X pins σ Q) acc C) hcalm ho hfr' hG hY I2 T st2 f2 rd c1 c2 ?_
 intro D C s' H' ys its n' m I' fD zD eD rv hz fC zC hCD hm hF
 refine⟨m,hm,λh' sb=>?_⟩
 have I3:Inv X pins σ H' { s' with heap:=h' }:=I'.turns (t':=s'.toks) (ch:=[C]) (λb o hb e=>(sb.2 b (by simpa using hb)).trans e) (λb hb=>by
  have e:b=C:=by simpa using hb
  subst e
  exact fC)
 exact⟨.ref D,_,I3.adopt (o:=.lst ys) fD.1 fD.2.1 zD fD.2.2.2.2.1 fD.2.2.2.2.2 ⟨hz,its,n',rv,(sb.2 D (NT hCD)).trans eD⟩,rfl,hF D fD.1⟩
theorem Cc{i:Nat}{x:Str}{pos' spos:Pos}(sc:Scope)(N own:List Str)(fr:List (Str×Nat))(hcalm:X.calm=true)(hN:X.N.Nodup)(hx':X.N[i]? = some x)(hx:X.env.scope.names.lookup x=some .local)(hi:PI X tg iter wi)(hG:gJ own.length g)(hY:∀cl C s H fp pins,jB (Js X scope (own++fr.map (·.1)) cl C s H fp pins) tg ifs elt g tc te)(hsw:swapsWith (.ListComp elt [⟨tg,iter,ifs,0⟩] scope pos) (some (.Name x pos')) spos.line X.env=pure true:=by rfl)(hsc:X.env.scope=sc:=by rfl)(hok:Sy sc scope=true:=by decide +kernel)(hNN:X.N=N:=by rfl)(hfr:xY N scope fr=true:=by decide +kernel)(hs:∀x,foldedSetIterable iter X.env x=pure x:=by intro _;rfl):
 PS X (.Assign [.Name x pos'] (.ListComp elt [⟨tg,iter,ifs,0⟩] scope pos) spos) (eM (yU own.length fr wi g tc te) (Ly i)):=by
 intro pins s σ H D0 I h
 obtain⟨ho,hfr',cl,hcl,c1,c2⟩:=Rp I hsc hok hNN hfr
 rw[exec_Assign_Name_used _ _ _ _ hsw]
 refine LL (UL (LL ?_))
 show ND _ X.A (do let _ <- comprehension (.ListComp elt [⟨tg,iter,ifs,0⟩] scope pos) scope X.env _ (newList []) false (RY iter X.env) (some (assign (.Name x pos') X.env))) _ _ s
 refine LL (OR (wpAny_comprehension_free (use:=some (assign (.Name x pos') X.env)) (Q:=λ_ s'=>SP X pins D0 .next s') rfl hs hcl ho.kind ho.loc
  (Bv (hi pins s σ H _ I h) λv s1 q1=>Bv q1 λitv s2 q2=>?_)) (λ_ s' hq=>MI (MI hq)) λ_ _ e=>e)
 obtain⟨it,fp,tn,J,H2,e,I2,T,st2,f2,rd⟩:=q2
 subst e
 refine Qs (RR:=λacc C=>compPost (NJ X.prog X.w) X.A X.xe (some (assign (.Name x pos') X.env)) (λ_ s'=>SP X pins D0 .next s') acc C) hcalm ho hfr' hG hY I2 T st2 f2 rd c1 c2 ?_
 intro D C s' H' ys its n' m I' fD zD eD rv hz fC zC hCD hm hF
 show ND _ X.A (assign (.Name x pos') X.env (.ref D)) _ _ _
 have I3:Inv X pins σ (upd H' D (.lst ys)) s':=I'.adopt (o:=.lst ys) fD.1 fD.2.1 zD fD.2.2.2.2.1 fD.2.2.2.2.2 ⟨hz,its,n',rv,eD⟩
 obtain⟨oC,es,ep,hoC,dC,rC⟩:=id hm
 have nC:(upd H' D (.lst ys)) C=none:=by rw[Ai hCD];exact fC.1
 have I4:Inv X (pins++[(C,oC)]) σ (upd H' D (.lst ys)) s':=I3.pins_of λp hp=>by
  rcases MJ.mp hp with z | z
  ·exact I3.pin p (MP _ z)
  ·have e:p=(C,oC):=by simpa using z
   subst e
   exact⟨hoC,nC,fC.2.1,fC.2.2.1,λv z=>by rw[dC] at z;cases z⟩
 refine wpAny_assign_Name (Qo I4 hN hx' (.inl hx) (v:=.ref D) rfl (λs5 I5=>?_) (.inr hx))
 have p5:=I5.pin (C,oC) (MP _ (MP _ (by simp)))
 refine⟨m,⟨oC,es,ep,p5.1,dC,rC⟩,λh' sb=>?_⟩
 have I6:Inv X pins (σ.set i (some (.ref D))) (upd H' D (.lst ys)) { s5 with heap:=h' }:=I5.unpinned.turns (t':=s5.toks) (ch:=[C]) (λb o hb e=>(sb.2 b (by simpa using hb)).trans e) (λb hb=>by
  have e:b=C:=by simpa using hb
  subst e
  exact⟨nC,fC.2⟩)
 exact⟨_,_,I6,hF D fD.1⟩
end
theorem Ig{K:LO}{a:LZ}{xs:List V}{n:Nat}{fr:List (Str×Nat)}{g:TG}{tc:TT}{te:TE}{σ:St}{H:Hp}{F:List V->Hp->Prop}(Pv:Nat->List V->Hp->Prop)(h0:Pv 0 [] H)(hl:∀i ys H,i<=xs.length->Pv i ys H->Av K H a xs)(hs:∀i x ys H,xs[i]? = some x->Pv i ys H->g x (stC n fr σ) H λσ2 H2=>tc σ2 H2 λb H3=>if b=true then te σ2 H3 λy H4=>ys.length < MG/\Pv (i+1) (ys++[y]) H4 else Pv (i+1) ys H3)(hd:∀ys H,Pv xs.length ys H->F ys H):Em n fr g tc te σ (BP K a) H F:=by
 refine⟨λi m ys H=>m=xs.length-i/\i<=xs.length/\Pv i ys H,⟨xs.length,by simp,NI _,h0⟩,?_⟩
 rintro i m ys H ⟨rfl,hi,p⟩
 have q:=hl i ys H hi p
 by_cases hlt:i < xs.length
 ·refine .inr ⟨⟨xs,xs[i],q,by simp[hlt]⟩,Pv (i+1),λys' H' p'=>⟨xs.length-(i+1),by omega,rfl,hlt,p'⟩,λx H' y=>?_⟩
  obtain⟨e,y⟩:=y
  subst e
  exact hs i x ys _ (y xs q) p
 ·have e:i=xs.length:=by omega
  subst e
  exact .inl ⟨⟨xs,q,MC _⟩,hd ys H p⟩
theorem Ye{lo:Int}{k n:Nat}{fr:List (Str×Nat)}{g:TG}{tc:TT}{te:TE}{σ:St}{H:Hp}{F:List V->Hp->Prop}(Pv:Nat->List V->Hp->Prop)(h0:Pv 0 [] H)(hs:∀i ys H,i < k->Pv i ys H->g (.int (lo+i)) (stC n fr σ) H λσ2 H2=>tc σ2 H2 λb H3=>if b=true then te σ2 H3 λy H4=>ys.length < MG/\Pv (i+1) (ys++[y]) H4 else Pv (i+1) ys H3)(hd:∀ys H,Pv k ys H->F ys H):Em n fr g tc te σ (yZ lo k) H F:=by
 refine⟨λi m ys H=>m=k-i/\i<=k/\Pv i ys H,⟨k,by simp,NI _,h0⟩,?_⟩
 rintro i m ys H ⟨rfl,hi,p⟩
 by_cases hlt:i < k
 ·refine .inr ⟨hlt,Pv (i+1),λys' H' p'=>⟨k-(i+1),by omega,rfl,hlt,p'⟩,λx H' y=>?_⟩
  obtain⟨e,y⟩:=y
  subst e y
  exact hs i ys _ hlt p
 ·have e:i=k:=by omega
  subst e
  exact .inl ⟨MC _,hd ys H p⟩
def AQ(K:LO)(a b:LZ):It:=
 ⟨λi H=>∃xs ys x y,Av K H a xs/\Av K H b ys/\xs[i]? = some x/\ys[i]? = some y,
  λi H v H'=>∃T x y,H T=none/\v=.ref T/\H'=upd H T (.tup [x,y])/\(∀xs,Av K H a xs->xs[i]? = some x)/\∀ys,Av K H b ys->ys[i]? = some y,
  λi H=>∃xs ys,Av K H a xs/\Av K H b ys/\(xs.length<=i∨ys.length<=i)⟩
theorem ap(n i j:Nat)(h:i≠j):n+i≠n+j:=λe=>h (Nat.add_left_cancel e)
theorem iO(n i:Nat):n<=n+i:=Nat.le_add_right n i
theorem Lp{h:OS}{a b:LZ}{o u:Obj}(e:h.get? a=some o)(e':h.get? b=some u)(d:o.cls≠u.cls):a≠b:=by
 intro z
 subst z
 rw[e] at e'
 cases e'
 exact d rfl
theorem Ur{h:OS}{n a b:LZ}{i:Nat}{f0:LP}{pa pb:LP}{xs ys:Array LP}(hz:IsZip h (n+4) (n+2) (n+3) f0)(hTO:SN h (n+3) pa pb)(h1:h.IsListIter n a i)(h2:h.IsListIter (n+1) b i)(l1:h.IsList a xs)(l2:h.IsList b ys):
 ZipApart (n+4) (n+2) (n+3) n (n+1) a b:=by
 obtain⟨o1,e1,c1,_⟩:=l1
 obtain⟨o2,e2,c2,_⟩:=l2
 obtain⟨p1,q1,d1,_⟩:=h1
 obtain⟨p2,q2,d2,_⟩:=h2
 have nz:∀ {c:LZ} {o:Obj},h.get? c=some o->o.cls=.type "list" -> c≠n+4/\c≠n+3/\c≠n/\c≠n+1:=λ{c o} e z=>
  ⟨Lp e hz (by rw[z];show QX "list" ≠ QX "zip"; decide),Lp e hTO (by rw[z];show QX "list" ≠ QX "tuple"; decide),Lp e q1 (by rw[z,d1];decide),Lp e q2 (by rw[z,d2];decide)⟩
 obtain⟨a1,a2,a3,a4⟩:=nz e1 c1
 obtain⟨b1,b2,b3,b4⟩:=nz e2 c2
 exact⟨ap n 2 4 (by decide),ap n 3 4 (by decide),ap n 0 4 (by decide),ap n 1 4 (by decide),ap n 2 3 (by decide),ap n 2 0 (by decide),ap n 2 1 (by decide),ap n 3 0 (by decide),ap n 3 1 (by decide),ap n 0 1 (by decide),a1,a2,a3,a4,b1,b2,b3,b4⟩
theorem tH{P:MV}{w:NU}{K:LO}{elts:List Expr}{kk:Nat}{tpos:Pos}(n a b:LZ):Turn P w K (.Tuple elts kk tpos) (AQ K a b) [n+4,n+2,n+3,n,n+1] (n+4)
 (λi h=>IsZip h (n+4) (n+2) (n+3) .none/\SN h (n+2) (.ref n) (.ref (n+1))/\(∃p q,SN h (n+3) p q)/\h.IsListIter n a i/\h.IsListIter (n+1) b i) where
 mem:=by simp
 obj:=λi h st c hc=>by
  obtain⟨hz,hTI,⟨p,q,hTO⟩,⟨o1,e1,c1,d1⟩,⟨o2,e2,c2,d2⟩⟩:=st
  simp only[LX,MM,or_false] at hc
  rcases hc with rfl | rfl | rfl | rfl | rfl
  ·exact⟨_,hz,λv z=>nomatch z⟩
  ·exact⟨_,hTI,λv z=>nomatch z⟩
  ·exact⟨_,hTO,λv z=>nomatch z⟩
  ·exact⟨_,e1,λv z=>by rw[d1] at z;cases z⟩
  ·exact⟨_,e2,λv z=>by rw[d2] at z;cases z⟩
 keep:=λi h h' st k=>by
  obtain⟨hz,hTI,⟨p,q,hTO⟩,h1,h2⟩:=st
  exact⟨k _ (by simp) _ hz,k _ (by simp) _ hTI,⟨p,q,k _ (by simp) _ hTO⟩,h1.at λo e=>k _ (by simp) o e,h2.at λo e=>k _ (by simp) o e⟩
 item:=by
  intro X hP hw hK hc i pins s σ H E I hf st hg
  subst hP hw hK
  obtain⟨xs,ys,x,y,hq1,hq2,hx,hy⟩:=hg
  obtain⟨its1,rv1,p1,_⟩:=I.list hq1
  obtain⟨its2,rv2,p2,_⟩:=I.list hq2
  obtain⟨u1,hu1,ru1⟩:=rv1.get hx
  obtain⟨u2,hu2,ru2⟩:=rv2.get hy
  obtain⟨hz,hTI,⟨pa,pb,hTO⟩,h1,h2⟩:=st
  have D:=Ur hz hTO h1 h2 p1.isList p2.isList
  refine wpAny_pyNext_zip_item D hz hTI hTO h1 h2 p1.isList p2.isList (x:=u1) (y:=u2) (by simpa using hu1) (by simpa using hu2) λh' a1 a2 a3 a4 a5 a6 k=>?_
  refine⟨_,rfl,wpAny_letOwnedTupleGo_zip a1 λh2' hz2 sb=>?_⟩
  have lt:∀c∈[n+4,n+2,n+3,n,n+1],c≠s.heap.objs.size:=λc hc=>by
   simp only[LX,MM,or_false] at hc
   obtain⟨_,q1,_,_⟩:=id h1
   obtain⟨_,q2,_,_⟩:=id h2
   rcases hc with rfl | rfl | rfl | rfl | rfl
   ·exact NF (MQ hz)
   ·exact NF (MQ hTI)
   ·exact NF (MQ hTO)
   ·exact NF (MQ q1)
   ·exact NF (MQ q2)
  have kk2:∀c o,c∉[n+4,n+3,n,n+1]->s.heap.get? c=some o->h2'.get? c=some o:=λc o hc e=>by
   simp only[LX,MM,or_false,not_or] at hc
   exact(sb.2 c hc.1).trans (k c o hc.1 hc.2.1 hc.2.2.1 hc.2.2.2 e)
  have I1:Inv X pins σ H { s with heap:=h2' }:=I.turns (t':=s.toks) (ch:=[n+4,n+3,n,n+1]) kk2 λc hc=>by
   simp only[LX,MM,or_false] at hc
   exact hf c (by simp only[LX,MM,or_false];rcases hc with z | z | z | z<;>simp[z])
  have fT:Dd X pins H s.heap.objs.size:=I.fpOk (MC _) (I.hok.fresh (MC _))
  have eT:h2'.get? s.heap.objs.size=some { cls:=.type "tuple", data:=.seq #[u1,u2] }:=(sb.2 _ (NT (lt (n+4) (by simp)))).trans a5
  refine⟨.ref s.heap.objs.size,_,I1.adopt (o:=.tup [x,y]) fT.1 fT.2.1 I.sz fT.2.2.2.2.1 fT.2.2.2.2.2 ⟨by show 2<=MG;decide,[u1,u2],.cons ru1 (.cons ru2 .nil),⟨_,eT,rfl,0,rfl⟩⟩,rfl,⟨_,x,y,fT.1,rfl,rfl,λzs hzs=>?_,λzs hzs=>?_⟩,?_,λc hc=>?_⟩
  ·rw[I.list_inj hzs hq1];exact hx
  ·rw[I.list_inj hzs hq2];exact hy
  ·refine⟨hz2,(sb.2 _ (ap n 2 4 (by decide))).trans (k _ _ (ap n 2 4 (by decide)) (ap n 2 3 (by decide)) (ap n 2 0 (by decide)) (ap n 2 1 (by decide)) hTI),⟨u1,u2,(sb.2 _ (ap n 3 4 (by decide))).trans a2⟩,a3.at λo e=>(sb.2 _ (ap n 0 4 (by decide))).trans e,a4.at λo e=>(sb.2 _ (ap n 1 4 (by decide))).trans e⟩
  ·rw[Ai (lt c hc)]
   exact(hf c hc).1
 done:=by
  intro X hP hw hK hc i pins s σ H E I hf st hg
  subst hP hw hK
  obtain⟨xs,ys,hq1,hq2,hx⟩:=hg
  obtain⟨its1,rv1,p1,_⟩:=I.list hq1
  obtain⟨its2,rv2,p2,_⟩:=I.list hq2
  obtain⟨hz,hTI,⟨pa,pb,hTO⟩,h1,h2⟩:=st
  have D:=Ur hz hTO h1 h2 p1.isList p2.isList
  have l1:=rv1.length
  have l2:=rv2.length
  refine BB (I.calmS hc) D hz hTI hTO h1 h2 p1.isList p2.isList (by
   rcases hx with z | z
   ·exact .inl (by simp;omega)
   ·exact .inr (by simp;omega)) λh' k=>⟨rfl,?_⟩
  refine I.turns (t':=s.toks) (ch:=[n+4,n+3,n,n+1]) (λc o hc e=>?_) λc hc=>?_
  ·simp only[LX,MM,or_false,not_or] at hc
   exact k c o hc.1 hc.2.1 hc.2.2.1 hc.2.2.2 e
  ·simp only[LX,MM,or_false] at hc
   exact hf c (by simp only[LX,MM,or_false];rcases hc with z | z | z | z<;>simp[z])
 self:=λ_ _ _ _ _ st h=>wpAny_pyIter_zip st.1 h
def IU(K:LO)(ta:TA):TI:=λσ H R=>ta σ H λvs H1=>∃a b,vs=[.ref a,.ref b]/\(∃xs,Av K H1 a xs)/\(∃ys,Av K H1 b ys)/\R (AQ K a b) H1
theorem Vu{X:Cx}{elts:List Expr}{kk:Nat}{tpos:Pos}{a b:Expr}{ta:TA}{p pos:Pos}(hg:Gl X "zip")(hm:X.mg "zip" = none)(ha:PA X [a,b] ta)(hs:NH [a,b] X.env=[(false,RY a X.env),(false,RY b X.env)]:=by rfl)(hs2:NH [b] X.env=[(false,RY b X.env)]:=by rfl):
 PI X (.Tuple elts kk tpos) (.Call (.Name "zip" p) [a,b] [] pos) (IU X.K ta):=by
 intro pins s σ H R I h
 refine Call_ (Il I hg hm boot_zip (QL (Bv (ha pos pins s σ H _ I h) λus s1 ⟨vs,H1,I1,r1,q1⟩=>?_) (by rw[hs,hs2]) (by rw[hs2];rfl)))
 obtain⟨a',b',e,⟨xs,hq1⟩,⟨ys,hq2⟩,q⟩:=q1
 subst e
 obtain⟨u,w',rfl,r,r'⟩:=vals2 r1
 cases r
 cases r'
 obtain⟨its1,rv1,p1,_⟩:=I1.list hq1
 obtain⟨its2,rv2,p2,_⟩:=I1.list hq2
 refine call_zip_2 p1.isList p2.isList λh' z1 z2 z3 z4 z5 z6 k=>wpAny_pyIter_zip (s:={ s1 with heap:=h' }) z1 ?_
 refine⟨s1.heap.objs.size+4,[s1.heap.objs.size+4,s1.heap.objs.size+2,s1.heap.objs.size+3,s1.heap.objs.size,s1.heap.objs.size+1],_,_,H1,rfl,I1.kept (t':=s1.toks) k,tH s1.heap.objs.size a' b',⟨z1,z2,⟨_,_,z3⟩,z4,z5⟩,λc hc=>?_,q⟩
 have hle:s1.heap.objs.size<=c:=by
  simp only[LX,MM,or_false] at hc
  rcases hc with rfl | rfl | rfl | rfl | rfl
  ·exact iO _ 4
  ·exact iO _ 2
  ·exact iO _ 3
  ·exact iO _ 0
  ·exact iO _ 1
 exact I1.fpOk hle (I1.hok.fresh hle)
def DJ(K:LO)(a:LZ):It:=
 ⟨λi H=>∃xs x,Av K H a xs/\xs[i]? = some x,
  λi H v H'=>∃T x,H T=none/\v=.ref T/\H'=upd H T (.tup [.int i,x])/\∀xs,Av K H a xs->xs[i]? = some x,
  λi H=>∃xs,Av K H a xs/\xs.length<=i⟩
theorem nL{P:MV}{w:NU}{K:LO}{elts:List Expr}{kk:Nat}{tpos:Pos}(n a:LZ):Turn P w K (.Tuple elts kk tpos) (DJ K a) [n+1,n] (n+1)
 (λi h=>(∃old,IsEnum h (n+1) n i old)/\h.IsListIter n a i) where
 mem:=by simp
 obj:=λi h st c hc=>by
  obtain⟨⟨old,he⟩,⟨o1,e1,c1,d1⟩⟩:=st
  simp only[LX,MM,or_false] at hc
  rcases hc with rfl | rfl
  ·exact⟨_,he,λv z=>nomatch z⟩
  ·exact⟨_,e1,λv z=>by rw[d1] at z;cases z⟩
 keep:=λi h h' st k=>by
  obtain⟨⟨old,he⟩,h1⟩:=st
  exact⟨⟨old,k _ (by simp) _ he⟩,h1.at λo e=>k _ (by simp) o e⟩
 item:=by
  intro X hP hw hK hc i pins s σ H E I hf st hg
  subst hP hw hK
  obtain⟨xs,x,hq,hx⟩:=hg
  obtain⟨its,rv,p,_⟩:=I.list hq
  obtain⟨u,hu,ru⟩:=rv.get hx
  obtain⟨⟨old,he⟩,h1⟩:=st
  refine wpAny_pyNext_enum_item he h1 p.isList (x:=u) (by simpa using hu) (ap n 1 0 (by decide)) λh' a1 a2 a3 a4 k=>?_
  refine⟨_,rfl,wpAny_letOwnedTupleGo_enum a1 λh2' he2 sb=>?_⟩
  have lt:∀c∈[n+1,n],c≠s.heap.objs.size:=λc hc=>by
   simp only[LX,MM,or_false] at hc
   obtain⟨_,q1,_,_⟩:=id h1
   rcases hc with rfl | rfl
   ·exact NF (MQ he)
   ·exact NF (MQ q1)
  have I1:Inv X pins σ H { s with heap:=h2',toks:=s.toks+1 }:=I.turns (ch:=[n+1,n]) (λc o hc e=>by
   simp only[LX,MM,or_false,not_or] at hc
   exact(sb.2 c hc.1).trans (k c o hc.1 hc.2 e)) hf
  have fT:Dd X pins H s.heap.objs.size:=I.fpOk (MC _) (I.hok.fresh (MC _))
  have eT:h2'.get? s.heap.objs.size=some { cls:=.type "tuple", data:=.seq #[.int i s.toks,u] }:=(sb.2 _ (NT (lt (n+1) (by simp)))).trans a3
  refine⟨.ref s.heap.objs.size,_,I1.adopt (o:=.tup [.int i,x]) fT.1 fT.2.1 I.sz fT.2.2.2.2.1 fT.2.2.2.2.2 ⟨by show 2<=MG;decide,[.int i s.toks,u],.cons ⟨_,rfl⟩ (.cons ru .nil),⟨_,eT,rfl,0,rfl⟩⟩,rfl,⟨_,x,fT.1,rfl,rfl,λzs hzs=>?_⟩,?_,λc hc=>?_⟩
  ·rw[I.list_inj hzs hq];exact hx
  ·exact⟨⟨_,he2⟩,a2.at λo e=>(sb.2 _ (ap n 0 1 (by decide))).trans e⟩
  ·rw[Ai (lt c hc)]
   exact(hf c hc).1
 done:=by
  intro X hP hw hK hc i pins s σ H E I hf st hg
  subst hP hw hK
  obtain⟨xs,hq,hx⟩:=hg
  obtain⟨its,rv,p,_⟩:=I.list hq
  obtain⟨⟨old,he⟩,h1⟩:=st
  have l1:=rv.length
  refine yL (I.calmS hc) he h1 p.isList (by simp;omega) λh' k=>⟨rfl,?_⟩
  exact I.turns (t':=s.toks) (ch:=[n]) (λc o hc e=>k c o (by simpa using hc) e) λc hc=>hf c (by simp at hc ⊢;exact .inr hc)
 self:=λA i s Q E st h=>by
  obtain⟨⟨old,he⟩,_⟩:=st
  have hT:s.TypeIs (.ref (n+1)) "enumerate" := ⟨_,he,rfl⟩
  refine wpAny_pyIter_slot hT F.slot_enumerate_iter (OC F.slot_enumerate_iter hT F.entry_enumerate_iter ?_ (F.args_enumerate_iter_1 _))
  show ND _ _ (ret (.ref (n+1))) _ _ s
  exact MI ⟨_,rfl,"enumerate", _,hT,QN.lookup,h⟩
theorem Uv:SA "enumerate" = some (.type "enumerate"):=by decide +kernel
def FR(K:LO)(ta:TA):TI:=λσ H R=>ta σ H λvs H1=>∃a,vs=[.ref a]/\(∃xs,Av K H1 a xs)/\R (DJ K a) H1
theorem uR{X:Cx}{elts:List Expr}{kk:Nat}{tpos:Pos}{a:Expr}{ta:TA}{p pos:Pos}(hg:Gl X "enumerate")(hm:X.mg "enumerate" = none)(ha:PA X [a] ta)(hs:NH [a] X.env=[(false,RY a X.env)]:=by rfl):
 PI X (.Tuple elts kk tpos) (.Call (.Name "enumerate" p) [a] [] pos) (FR X.K ta):=by
 intro pins s σ H R I h
 refine Call_ (Il I hg hm Uv (QL (Bv (ha pos pins s σ H _ I h) λus s1 ⟨vs,H1,I1,r1,q1⟩=>?_) hs rfl))
 obtain⟨a',e,⟨xs,hq1⟩,q⟩:=q1
 subst e
 obtain⟨u,rfl,r⟩:=vals1 r1
 cases r
 obtain⟨its1,rv1,p1,_⟩:=I1.list hq1
 refine call_enumerate_list p1.isList λh' z1 z2 z3 k=>?_
 have T:Turn X.prog X.w X.K (.Tuple elts kk tpos) (DJ X.K a') _ _ _:=nL s1.heap.objs.size a'
 refine T.self _ 0 { s1 with heap:=h' } _ _ ⟨⟨_,z1⟩,z2⟩ ?_
 refine⟨s1.heap.objs.size+1,[s1.heap.objs.size+1,s1.heap.objs.size],_,_,H1,rfl,I1.kept (t':=s1.toks) k,T,⟨⟨_,z1⟩,z2⟩,λc hc=>?_,q⟩
 have hle:s1.heap.objs.size<=c:=by
  simp only[LX,MM,or_false] at hc
  rcases hc with rfl | rfl
  ·exact iO _ 1
  ·exact iO _ 0
 exact I1.fpOk hle (I1.hok.fresh hle)
abbrev Cx.in1(X:Cx):Cx:={ X with A:=X.A.in1 }
theorem Inv.in1{X:Cx}{pins:List (LZ×Obj)}{σ:St}{H:Hp}{s:LV}(I:Inv X pins σ H s):Inv X.in1 pins σ H s:=
 ⟨⟨I.ok.mod,I.ok.kind,I.ok.glob,I.ok.blt,I.ok.above,I.ok.inj,I.ok.has,I.ok.cab,I.ok.hd,I.ok.st,I.ok.frames,I.ok.stk,I.ok.exf,I.ok.bs,I.ok.bsz,I.ok.noex,I.ok.exfs,I.ok.funs,I.ok.frf⟩,I.os,I.bare,I.base,I.loc,I.cell,I.free,I.freeC,I.pin,I.hok,I.len⟩
theorem Inv.out1{X:Cx}{pins:List (LZ×Obj)}{σ:St}{H:Hp}{s:LV}(I:Inv X.in1 pins σ H s):Inv X pins σ H s:=
 ⟨⟨I.ok.mod,I.ok.kind,I.ok.glob,I.ok.blt,I.ok.above,I.ok.inj,I.ok.has,I.ok.cab,I.ok.hd,I.ok.st,I.ok.frames,I.ok.stk,I.ok.exf,I.ok.bs,I.ok.bsz,I.ok.noex,I.ok.exfs,I.ok.funs,I.ok.frf⟩,I.os,I.bare,I.base,I.loc,I.cell,I.free,I.freeC,I.pin,I.hok,I.len⟩
def Yh(K:LO)(H:Hp)(ys:List V)(ks:List Bool):Prop:=OJ (λy k=>xB K y H k) ys ks
theorem Im{α β:Type}{F:α->β->Prop}:∀ {l₁:List α} {l₂:List β} {i:Nat} {a:α},OJ F l₁ l₂->l₁[i]? = some a->∃b,l₂[i]? = some b/\F a b
 | _,_,_,_,.nil,e=>by simp at e
 | _,_,0,_,.cons r _,e=>by simp at e;subst e;exact⟨_,rfl,r⟩
 | _,_,i+1,a,.cons _ t,e=>by
  obtain⟨b,h1,h2⟩:=Im (i:=i) (a:=a) t (by simpa using e)
  exact⟨b,by simpa using h1,h2⟩
section
variable {X:Cx} {pins:List (LZ×Obj)} {σ:St} {H:Hp} {R:Result->LV->Prop} {a it:LZ} {ys:List V} {ks:List Bool}
theorem rD(hc:X.calm=true)(hq:Av X.K H a ys)(ht:Yh X.K H ys ks)(hR:∀s',Inv X pins σ H s'->R (.ok (.ret (.bool (ks.any id)))) s'):∀(k i:Nat)(s:LV),ys.length-i=k->i<=ys.length->(ks.take i).any id=false ->
 Inv X pins σ H s->Dd X pins H it->s.heap.IsListIter it a i->codeAny (NJ X.prog X.w) X.A (.builtin "any.loop" ⟨[.ref it],[]⟩) R s:=by
 have hlen:ys.length=ks.length:=OF ht
 intro k
 induction k with
 | zero=>
  intro i s hk hi hn I hf st
  have hin:i=ys.length:=by omega
  refine RS F.entry_any_loop ?_
  rw[SK F.plain_any_loop _]
  show ND _ X.A.in1 (RI (.ref it) >>= _) _ _ s
  have T:=Oh (P:=X.prog) (w:=X.w) (K:=X.K) (tg:=.Name "x" ⟨0,0,0,0⟩) a it
  refine LL (Bv (T.done X.in1 rfl rfl rfl hc i pins s σ H _ I.in1 (λb hb=>by
   have e:b=it:=by simpa using hb
   subst e
   exact hf) st ⟨ys,hq,by omega⟩) λr s1 ⟨hr,I1⟩=>?_)
  subst hr
  refine LL (RG (MI ?_))
  have:=hR s1 I1.out1
  rw[<- NY (l:=ks) (i:=i) (by omega),hn] at this
  exact this
 | succ k ih=>
  intro i s hk hi hn I hf st
  have hlt:i < ys.length:=by omega
  have hx:ys[i]? = some ys[i]:=LU hlt
  obtain⟨b,hb,htv⟩:=Im ht hx
  refine RS F.entry_any_loop ?_
  rw[SK F.plain_any_loop _]
  show ND _ X.A.in1 (RI (.ref it) >>= _) _ _ s
  obtain⟨its,rv,p,_⟩:=I.list hq
  obtain⟨u,hu,ru⟩:=rv.get hx
  refine LL (UV st p.isList (x:=u) (by simpa using hu) λh' st' sb=>?_)
  have I1:Inv X pins σ H { s with heap:=h' }:=I.turns (t':=s.toks) (ch:=[it]) (λc o hc' e=>(sb.2 c (by simpa using hc')).trans e) (λc hc'=>by
   have e:c=it:=by simpa using hc'
   subst e
   exact hf)
  obtain⟨oi,ei,ci,di⟩:=id st'
  have I1':Inv X.in1 (pins++[(it,oi)]) σ H { s with heap:=h' }:=I1.in1.pins_of λq hq'=>by
   rcases MJ.mp hq' with z | z
   ·exact I1.pin q (MP _ z)
   ·have e:q=(it,oi):=by simpa using z
    subst e
    exact⟨ei,hf.1,hf.2.1,hf.2.2.1,λv z=>by rw[di] at z;cases z⟩
  refine LL (PM (OR (eJ (X:=X.in1.nox) _ _ σ H ys[i] u (λk' H'=>k'=b/\H'=H) (I1'.wish _) ru ⟨b,htv,rfl,rfl⟩) (λkb s2 ⟨H2,I2',e1,e2⟩=>?_) (λ_ _ z=>z.elim)))
  subst e1 e2
  have I2:=I2'.unwish
  have st2:s2.heap.IsListIter it a (i+1):=⟨oi,(I2.pin (it,oi) (MP _ (MP _ (by simp)))).1,ci,di⟩
  refine LL (TK ?_)
  have hbk:ks[i]? = some kb:=hb
  cases kb with
  | false=>
   simp only[RX,if_false]
   refine MI ⟨plainId_quiet F.plain_any_loop _,ih (i+1) s2 (by omega) hlt ?_ I2.unpinned.out1 hf st2⟩
   rw[NR,hbk,List.any_append,hn]
   rfl
  | true=>
   simp only[if_true]
   refine LL (RG (MI ?_))
   have:=hR s2 I2.unpinned.out1
   have e:ks.any id=true:=TR.mpr ⟨true,MK hbk,rfl⟩
   rw[e] at this
   exact this
theorem tY(hc:X.calm=true)(hq:Av X.K H a ys)(ht:Yh X.K H ys ks)(hR:∀s',Inv X pins σ H s'->R (.ok (.ret (.bool (ks.all id)))) s'):∀(k i:Nat)(s:LV),ys.length-i=k->i<=ys.length->(ks.take i).all id=true ->
 Inv X pins σ H s->Dd X pins H it->s.heap.IsListIter it a i->codeAny (NJ X.prog X.w) X.A (.builtin "all.loop" ⟨[.ref it],[]⟩) R s:=by
 have hlen:ys.length=ks.length:=OF ht
 intro k
 induction k with
 | zero=>
  intro i s hk hi hn I hf st
  have hin:i=ys.length:=by omega
  refine RS F.entry_all_loop ?_
  rw[SK F.plain_all_loop _]
  show ND _ X.A.in1 (RI (.ref it) >>= _) _ _ s
  have T:=Oh (P:=X.prog) (w:=X.w) (K:=X.K) (tg:=.Name "x" ⟨0,0,0,0⟩) a it
  refine LL (Bv (T.done X.in1 rfl rfl rfl hc i pins s σ H _ I.in1 (λb hb=>by
   have e:b=it:=by simpa using hb
   subst e
   exact hf) st ⟨ys,hq,by omega⟩) λr s1 ⟨hr,I1⟩=>?_)
  subst hr
  refine LL (RG (MI ?_))
  have:=hR s1 I1.out1
  rw[<- NY (l:=ks) (i:=i) (by omega),hn] at this
  exact this
 | succ k ih=>
  intro i s hk hi hn I hf st
  have hlt:i < ys.length:=by omega
  have hx:ys[i]? = some ys[i]:=LU hlt
  obtain⟨b,hb,htv⟩:=Im ht hx
  refine RS F.entry_all_loop ?_
  rw[SK F.plain_all_loop _]
  show ND _ X.A.in1 (RI (.ref it) >>= _) _ _ s
  obtain⟨its,rv,p,_⟩:=I.list hq
  obtain⟨u,hu,ru⟩:=rv.get hx
  refine LL (UV st p.isList (x:=u) (by simpa using hu) λh' st' sb=>?_)
  have I1:Inv X pins σ H { s with heap:=h' }:=I.turns (t':=s.toks) (ch:=[it]) (λc o hc' e=>(sb.2 c (by simpa using hc')).trans e) (λc hc'=>by
   have e:c=it:=by simpa using hc'
   subst e
   exact hf)
  obtain⟨oi,ei,ci,di⟩:=id st'
  have I1':Inv X.in1 (pins++[(it,oi)]) σ H { s with heap:=h' }:=I1.in1.pins_of λq hq'=>by
   rcases MJ.mp hq' with z | z
   ·exact I1.pin q (MP _ z)
   ·have e:q=(it,oi):=by simpa using z
    subst e
    exact⟨ei,hf.1,hf.2.1,hf.2.2.1,λv z=>by rw[di] at z;cases z⟩
  refine LL (PM (OR (eJ (X:=X.in1.nox) _ _ σ H ys[i] u (λk' H'=>k'=b/\H'=H) (I1'.wish _) ru ⟨b,htv,rfl,rfl⟩) (λkb s2 ⟨H2,I2',e1,e2⟩=>?_) (λ_ _ z=>z.elim)))
  subst e1 e2
  have I2:=I2'.unwish
  have st2:s2.heap.IsListIter it a (i+1):=⟨oi,(I2.pin (it,oi) (MP _ (MP _ (by simp)))).1,ci,di⟩
  refine LL (TK ?_)
  have hbk:ks[i]? = some kb:=hb
  cases kb with
  | true=>
   simp only[if_true]
   refine MI ⟨plainId_quiet F.plain_all_loop _,ih (i+1) s2 (by omega) hlt ?_ I2.unpinned.out1 hf st2⟩
   rw[NR,hbk,List.all_append,hn]
   rfl
  | false=>
   simp only[RX,if_false]
   refine LL (RG (MI ?_))
   have:=hR s2 I2.unpinned.out1
   have e:ks.all id=false:=by
    rw[List.all_eq_false]
    exact⟨false,MK hbk,by simp⟩
   rw[e] at this
   exact this
end
section
variable {X:Cx}
theorem Va:SA "any" = some (.builtin "any"):=by decide +kernel
theorem Hv:SA "all" = some (.builtin "all"):=by decide +kernel
theorem Zt(hc:X.calm=true):Fs X (.builtin "any") (λxs H Q=>∃p ys ks,xs=[.ref p]/\Av X.K H p ys/\Yh X.K H ys ks/\Q (.bl (ks.any id)) H):=by
 intro pins s σ H xs us Q I r h
 obtain⟨p,ys,ks,rfl,hq,ht,q⟩:=h
 obtain⟨u,rfl,ru⟩:=vals1 r
 cases ru
 refine call_function_tree F.kind_any F.plain_any F.entry_any (F.args_any1 _) ?_
 unfold Builtin.«any»
 refine LL (m:=oneArg "any" _) (MI ?_)
 obtain⟨its,rv,pl,hz⟩:=I.list hq
 refine LL (SM pl.isList ?_)
 refine MI ⟨plainId_quiet F.plain_any_loop _,rD (it:=s.heap.objs.size) hc hq ht ?_ ys.length 0 _ rfl (NI _) rfl (I.kept (t':=s.toks) λb o e=>LQ _ e) (I.fpOk (MC _) (I.hok.fresh (MC _))) ⟨_,MS _ rfl,rfl,rfl⟩⟩
 exact λs' I'=>⟨.bl _,H,I',rfl,q⟩
theorem Jv(hc:X.calm=true):Fs X (.builtin "all") (λxs H Q=>∃p ys ks,xs=[.ref p]/\Av X.K H p ys/\Yh X.K H ys ks/\Q (.bl (ks.all id)) H):=by
 intro pins s σ H xs us Q I r h
 obtain⟨p,ys,ks,rfl,hq,ht,q⟩:=h
 obtain⟨u,rfl,ru⟩:=vals1 r
 cases ru
 refine call_function_tree F.kind_all F.plain_all F.entry_all (F.args_all1 _) ?_
 unfold Builtin.«all»
 refine LL (m:=oneArg "all" _) (MI ?_)
 obtain⟨its,rv,pl,hz⟩:=I.list hq
 refine LL (SM pl.isList ?_)
 refine MI ⟨plainId_quiet F.plain_all_loop _,tY (it:=s.heap.objs.size) hc hq ht ?_ ys.length 0 _ rfl (NI _) rfl (I.kept (t':=s.toks) λb o e=>LQ _ e) (I.fpOk (MC _) (I.hok.fresh (MC _))) ⟨_,MS _ rfl,rfl,rfl⟩⟩
 exact λs' I'=>⟨.bl _,H,I',rfl,q⟩
theorem Ea:Fs X (.builtin "isinstance") (λxs H Q=>∃x T t b,xs=[x,.ty T]/\Ob X.K H x t/\TL X.K t (.type T)=some b/\Q (.bl b) H):=by
 intro pins s σ H xs us Q I r h
 obtain⟨x,T,t,b,rfl,ty,e,q⟩:=h
 obtain⟨u,w',rfl,ru,rw'⟩:=vals2 r
 cases rw'
 exact nY I ru ty e λtk=>⟨.bl b,H,I.tok _,rfl,q⟩
theorem Wk:FV X (λx lo hi H Q=>∃z,x=.str z/\z.length<=MG/\Q (.str (UA z lo hi)) H):=by
 intro pins s σ H x v vl vu lo hi sl Q I rx hs pl pu h
 obtain⟨z,rfl,hz,q⟩:=h
 obtain⟨t,rfl⟩:=rx
 obtain⟨o,ho,hc,hd⟩:=hs
 have fin:∀(l u:Option (Int×Tok)),vl=partValue l->vu=partValue u->lo=l.map (·.1)->hi=u.map (·.1)->ND (NJ X.prog X.w) X.A (getItem (.str z t) (.ref sl)) (EP X pins σ Q) X.xe s:=λl u e1 e2 e3 e4=>by
  subst e1 e2 e3 e4
  exact wpAny_getItem_str_slice (l:=l) (u:=u) (st:=none) ⟨o,ho,hc,hd⟩ rfl (post_val_or_str ⟨NA (Txt.slice_le z _ _) hz,λt' k=>⟨.str _,H,I.tok _,⟨_,rfl⟩,q⟩⟩)
 refine⟨"str", _,F.slot_str_getitem.lookup,typeIs_str _ _ _,?_⟩
 cases pl with
 | none=>
  cases pu with
  | none=>exact fin none none rfl rfl rfl rfl
  | int j tj=>exact fin none (some (j,tj)) rfl rfl rfl rfl
 | int i ti=>
  cases pu with
  | none=>exact fin (some (i,ti)) none rfl rfl rfl rfl
  | int j tj=>exact fin (some (i,ti)) (some (j,tj)) rfl rfl rfl rfl
end
theorem xP{K:LO}{a b:LZ}{xs ys:List V}{g:TG}{tb:TS}{D:Ends}{σ:St}{H:Hp}(hlen:xs.length=ys.length)(Pv:Nat->St->Hp->Prop)(h0:Pv 0 σ H)(hl:∀i σ H,i<=xs.length->Pv i σ H->Av K H a xs/\Av K H b ys)(hs:∀i x y σ H T,xs[i]? = some x->ys[i]? = some y->Pv i σ H->H T=none->g (.ref T) σ (upd H T (.tup [x,y])) λσ2 H2=>tb { D with nx:=Pv (i+1),ct:=Pv (i+1),bk:=D.nx } σ2 H2)(hd:∀σ H,Pv xs.length σ H->D.nx σ H):
 ∃W:Nat->Nat->St->Hp->Prop,(∃m,W 0 m σ H)/\∀i m σ H,W i m σ H ->
  ((AQ K a b).stop i H/\D.nx σ H)∨((AQ K a b).go i H/\∃N:St->Hp->Prop,(∀σ' H',N σ' H'->∃m',m' < m/\W (i+1) m' σ' H')/\∀x H',(AQ K a b).yld i H x H'->g x σ H' λσ2 H2=>tb { D with nx:=N,ct:=N,bk:=D.nx } σ2 H2):=by
 refine⟨λi m σ H=>m=xs.length-i/\i<=xs.length/\Pv i σ H,⟨xs.length,by simp,NI _,h0⟩,?_⟩
 rintro i m σ H ⟨rfl,hi,p⟩
 obtain⟨q1,q2⟩:=hl i σ H hi p
 by_cases hlt:i < xs.length
 ·have hlt2:i < ys.length:=by omega
  refine .inr ⟨⟨xs,ys,xs[i],ys[i],q1,q2,by simp[hlt],by simp[hlt2]⟩,Pv (i+1),λσ' H' p'=>⟨xs.length-(i+1),by omega,rfl,hlt,p'⟩,λx H' y=>?_⟩
  obtain⟨T,x',y',hT,rfl,rfl,e1,e2⟩:=y
  exact hs i x' y' σ _ T (e1 xs q1) (e2 ys q2) p hT
 ·have e:i=xs.length:=by omega
  subst e
  exact .inl ⟨⟨xs,ys,q1,q2,.inl (MC _)⟩,hd σ H p⟩
theorem sQ{K:LO}{a:LZ}{xs:List V}{g:TG}{tb:TS}{D:Ends}{σ:St}{H:Hp}(Pv:Nat->St->Hp->Prop)(h0:Pv 0 σ H)(hl:∀i σ H,i<=xs.length->Pv i σ H->Av K H a xs)(hs:∀i x σ H T,xs[i]? = some x->Pv i σ H->H T=none->g (.ref T) σ (upd H T (.tup [.int i,x])) λσ2 H2=>tb { D with nx:=Pv (i+1),ct:=Pv (i+1),bk:=D.nx } σ2 H2)(hd:∀σ H,Pv xs.length σ H->D.nx σ H):
 ∃W:Nat->Nat->St->Hp->Prop,(∃m,W 0 m σ H)/\∀i m σ H,W i m σ H ->
  ((DJ K a).stop i H/\D.nx σ H)∨((DJ K a).go i H/\∃N:St->Hp->Prop,(∀σ' H',N σ' H'->∃m',m' < m/\W (i+1) m' σ' H')/\∀x H',(DJ K a).yld i H x H'->g x σ H' λσ2 H2=>tb { D with nx:=N,ct:=N,bk:=D.nx } σ2 H2):=by
 refine⟨λi m σ H=>m=xs.length-i/\i<=xs.length/\Pv i σ H,⟨xs.length,by simp,NI _,h0⟩,?_⟩
 rintro i m σ H ⟨rfl,hi,p⟩
 have q:=hl i σ H hi p
 by_cases hlt:i < xs.length
 ·refine .inr ⟨⟨xs,xs[i],q,by simp[hlt]⟩,Pv (i+1),λσ' H' p'=>⟨xs.length-(i+1),by omega,rfl,hlt,p'⟩,λx H' y=>?_⟩
  obtain⟨T,x',hT,rfl,rfl,e1⟩:=y
  exact hs i x' σ _ T (e1 xs q) p hT
 ·have e:i=xs.length:=by omega
  subst e
  exact .inl ⟨⟨xs,q,MC _⟩,hd σ H p⟩
theorem Ue{K:LO}{a b:LZ}{xs zs:List V}{n:Nat}{fr:List (Str×Nat)}{g:TG}{tc:TT}{te:TE}{σ:St}{H:Hp}{F:List V->Hp->Prop}(hlen:xs.length=zs.length)(Pv:Nat->List V->Hp->Prop)(h0:Pv 0 [] H)(hl:∀i ys H,i<=xs.length->Pv i ys H->Av K H a xs/\Av K H b zs)(hs:∀i x z ys H T,xs[i]? = some x->zs[i]? = some z->Pv i ys H->H T=none->g (.ref T) (stC n fr σ) (upd H T (.tup [x,z])) λσ2 H2=>tc σ2 H2 λb H3=>if b=true then te σ2 H3 λy H4=>ys.length < MG/\Pv (i+1) (ys++[y]) H4 else Pv (i+1) ys H3)(hd:∀ys H,Pv xs.length ys H->F ys H):Em n fr g tc te σ (AQ K a b) H F:=by
 refine⟨λi m ys H=>m=xs.length-i/\i<=xs.length/\Pv i ys H,⟨xs.length,by simp,NI _,h0⟩,?_⟩
 rintro i m ys H ⟨rfl,hi,p⟩
 obtain⟨q1,q2⟩:=hl i ys H hi p
 by_cases hlt:i < xs.length
 ·have hlt2:i < zs.length:=by omega
  refine .inr ⟨⟨xs,zs,xs[i],zs[i],q1,q2,by simp[hlt],by simp[hlt2]⟩,Pv (i+1),λys' H' p'=>⟨xs.length-(i+1),by omega,rfl,hlt,p'⟩,λx H' y=>?_⟩
  obtain⟨T,x',y',hT,rfl,rfl,e1,e2⟩:=y
  exact hs i x' y' ys _ T (e1 xs q1) (e2 zs q2) p hT
 ·have e:i=xs.length:=by omega
  subst e
  exact .inl ⟨⟨xs,zs,q1,q2,.inl (MC _)⟩,hd ys H p⟩
theorem Bq{K:LO}{a:LZ}{xs:List V}{n:Nat}{fr:List (Str×Nat)}{g:TG}{te:TE}{σ:St}{H:Hp}{F:List V->Hp->Prop}(Pv:Nat->List V->Hp->Prop)(h0:Pv 0 [] H)(hl:∀i ys H,i<=xs.length->Pv i ys H->Av K H a xs)(hs:∀i x ys H,xs[i]? = some x->Pv i ys H->g x (stC n fr σ) H λσ2 H2=>te σ2 H2 λy H4=>ys.length < MG/\Pv (i+1) (ys++[y]) H4)(hd:∀ys H,Pv xs.length ys H->F ys H):Em n fr g Pk te σ (BP K a) H F:=Ig Pv h0 hl (λi x ys H hx p=>hs i x ys H hx p) hd
theorem Me{lo:Int}{k n:Nat}{fr:List (Str×Nat)}{g:TG}{te:TE}{σ:St}{H:Hp}{F:List V->Hp->Prop}(Pv:Nat->List V->Hp->Prop)(h0:Pv 0 [] H)(hs:∀i ys H,i < k->Pv i ys H->g (.int (lo+i)) (stC n fr σ) H λσ2 H2=>te σ2 H2 λy H4=>ys.length < MG/\Pv (i+1) (ys++[y]) H4)(hd:∀ys H,Pv k ys H->F ys H):Em n fr g Pk te σ (yZ lo k) H F:=Ye Pv h0 (λi ys H hi p=>hs i ys H hi p) hd
theorem Rg{K:LO}{a b:LZ}{xs zs:List V}{n:Nat}{fr:List (Str×Nat)}{g:TG}{te:TE}{σ:St}{H:Hp}{F:List V->Hp->Prop}(hlen:xs.length=zs.length)(Pv:Nat->List V->Hp->Prop)(h0:Pv 0 [] H)(hl:∀i ys H,i<=xs.length->Pv i ys H->Av K H a xs/\Av K H b zs)(hs:∀i x z ys H T,xs[i]? = some x->zs[i]? = some z->Pv i ys H->H T=none->g (.ref T) (stC n fr σ) (upd H T (.tup [x,z])) λσ2 H2=>te σ2 H2 λy H4=>ys.length < MG/\Pv (i+1) (ys++[y]) H4)(hd:∀ys H,Pv xs.length ys H->F ys H):Em n fr g Pk te σ (AQ K a b) H F:=Ue hlen Pv h0 hl (λi x z ys H T hx hz p hT=>hs i x z ys H T hx hz p hT) hd
abbrev DY(l:List Env):List LZ:=l.filterMap (·.frame)
structure Flew(S ch:List LZ)(h h':OS):Prop where
 keep:∀b o,b∉S->b∉ch->h.get? b=some o->h'.get? b=some o
 slot:∀b o,b∉ch->h.get? b=some o->∃sl,h'.get? b=some { o with slots:=sl }
 size:h.objs.size<=h'.objs.size
theorem Flew.trans{S c1 c2:List LZ}{h h1 h2:OS}(a:Flew S c1 h h1)(b:Flew S c2 h1 h2):Flew S (c1++c2) h h2 where
 keep:=λx o hs hc e=>by
  rw[MJ,not_or] at hc
  exact b.keep x o hs hc.2 (a.keep x o hs hc.1 e)
 slot:=λx o hc e=>by
  rw[MJ,not_or] at hc
  obtain⟨s1,e1⟩:=a.slot x o hc.1 e
  obtain⟨s2,e2⟩:=b.slot x _ hc.2 e1
  exact⟨s2,e2⟩
 size:=NA a.size b.size
theorem Flew.mono{S c1 c2:List LZ}{h h1:OS}(a:Flew S c1 h h1)(k:∀b∈c1,b∈c2):Flew S c2 h h1:=
 ⟨λx o hs hc e=>a.keep x o hs (λz=>hc (k x z)) e,λx o hc e=>a.slot x o (λz=>hc (k x z)) e,a.size⟩
structure uI(h:OS)(e:LZ)(cls:LP)(dx:Option LZ)(oe:Obj)(vs:Array LP):Prop where
 get:h.get? e=some oe
 cls:oe.cls=cls
 dict:oe.dict=dx
 data:oe.data=.fields vs
 tb:vs[1]? = some .none
 cx:vs[2]? = some .none
structure ExcAt(h:OS)(e:LZ)(cls:LP)(dx:Option LZ)(T:LZ)(fl:LP)(oe oT:Obj)(vs ts:Array LP):Prop where
 get:h.get? e=some oe
 cls:oe.cls=cls
 dict:oe.dict=dx
 data:oe.data=.fields vs
 tb:vs[1]? = some (.ref T)
 ne:T≠e
 getT:h.get? T=some oT
 dataT:oT.data=.fields ts
 fl:ts[3]? = some fl
 cx:vs[2]? = some .none
theorem lF(o:Obj)(f:Array LP->Array LP):(o.mapFields f).dict=o.dict:=by
 obtain⟨c,d,dt,sl⟩:=o
 cases dt<;>rfl
section
variable {M:Model} {A:NV} {E:LP->LV->Prop} {s:LV} {base:OS} {env:Env} {outer:List Env} {L e:LZ} {cls:LP} {dx:Option LZ} {Q:Unit->LV->Prop}
theorem Vb(hl:s.heap.FunFrames base (env::outer)){b:LZ}{o:Obj}{vs:Array LP}(e1:s.heap.get? b=some o)(d:o.data=.fields vs):b∉DY (env::outer):=λhm=>by
 obtain⟨_,o',ho,hnf⟩:=hl.mem hm
 rw[e1] at ho
 cases ho
 exact hnf vs d
theorem uG{oe:Obj}{vs:Array LP}{head:LP}{hn:Bool}(hfr:A.frames=some (env::outer))(hl:s.heap.FunFrames base (env::outer))(hf:env.frame=some L)(he:s.heap.get? e=some oe)(hc:oe.cls=cls)(hx:oe.dict=dx)(hd:oe.data=.fields vs)(hsz:1 < vs.size)(hcx:vs[2]? = some .none)(h:∀h' T oe' oT vs' ts,s.heap.objs.size<=T->Flew (DY (env::outer)) [e] s.heap h'->ExcAt h' e cls dx T (RP L) oe' oT vs' ts->Q () { s with heap:=h' }):
 ND M A (do let a <- frameOf env;let pl <- entryPlaceOf L hn;let b <- EntryCells.newEntry head a .none (RP L) .none pl;setField (.ref e) 1 b) Q E s:=by
 have ne:=Vb hl he hd
 refine LL (wpAny_frameOf_fun hfr hl hf λh1 so=>LL (wpAny_entryPlaceOf λpl hpl=>?_))
 unfold EntryCells.newEntry newFields
 refine LL (RO ?_ (hpl.sizeOk5 _ _ _ _ _))
 have e1:h1.get? e=some oe:=(so.2.1 e ne).trans he
 generalize hto:({ cls:=.type "traceback", dict:=none,data:=.fields ([head,.ref L,.none,RP L,.none]++(if pl.isEmpty then NC 6 PK else pl)).toArray }:Obj)=tobj
 have hT3:∃ts,tobj.data=.fields ts/\ts[3]? = some (RP L)/\tobj.isFreed=false:=by
  subst hto
  exact⟨_,rfl,by first | (simp;done) | (rcases hpl with rfl | ⟨_,_,_,_,_,_,_,rfl⟩<;>simp),rfl⟩
 obtain⟨ts,td,t3,tf⟩:=hT3
 have e2:(h1.push tobj).get? e=some oe:=LQ tobj e1
 have sz1:h1.objs.size=s.heap.objs.size:=so.1
 have nT:h1.objs.size≠e:=RJ (MQ e1)
 have d3:=TC hd (·.setIfInBounds 1 (MO h1.objs.size))
 refine OV e2 hd hsz (h _ h1.objs.size _ tobj _ ts (TB sz1.symm) ⟨λb o hs hc' q=>?_,λb o hc' q=>?_,?_⟩ ⟨PY _ e2 (TN d3),(Obj.cls_mapFields _ _).trans hc,(lF _ _).trans hx,d3,by simp[hsz],nT,?_,td,t3,by rw[Array.getElem?_setIfInBounds_ne (by decide)];exact hcx⟩)
 ·rw[NZ _ _ (NT (show b≠e by simpa using hc'))]
  exact LQ _ ((so.2.1 b hs).trans q)
 ·obtain⟨sl,q1⟩:=so.2.2 b o q
  refine⟨sl,?_⟩
  rw[NZ _ _ (NT (show b≠e by simpa using hc'))]
  exact LQ _ q1
 ·have z:=QG h1 tobj
  have z2:((h1.push tobj).update e (SE (·.setIfInBounds 1 (MO h1.objs.size)))).objs.size=(h1.push tobj).objs.size:=(SU (a:=e) (h1.push tobj) (SE (·.setIfInBounds 1 (MO h1.objs.size)))).1
  exact NA (TB sz1.symm) (NA (by rw[z];exact TV _) (TB z2.symm))
 ·rw[NZ _ _ (NT nT)]
  exact MS h1 tf
theorem Ze{oe:Obj}{vs:Array LP}(hfr:A.frames=some (env::outer))(hl:s.heap.FunFrames base (env::outer))(hf:env.frame=some L)(x:uI s.heap e cls dx oe vs)(h:∀h' T oe' oT vs' ts,s.heap.objs.size<=T->Flew (DY (env::outer)) [e] s.heap h'->ExcAt h' e cls dx T (RP L) oe' oT vs' ts->Q () { s with heap:=h' }):ND M A (noteFrame (.ref e) env) Q E s:=by
 unfold noteFrame
 simp only[hf]
 refine LL (NG x.get x.data x.tb ?_)
 rw[if_neg (by decide)]
 exact uG hfr hl hf x.get x.cls x.dict x.data (PZ.mp x.tb).1 x.cx h
theorem oR{T:LZ}{fl:LP}{oe oT:Obj}{vs ts:Array LP}(x:ExcAt s.heap e cls dx T fl oe oT vs ts)(S:List LZ):
 Flew S [T] s.heap (s.heap.update T (SE (·.setIfInBounds 3 .none)))/\∃oT' ts',ExcAt (s.heap.update T (SE (·.setIfInBounds 3 .none))) e cls dx T .none oe oT' vs ts':=by
 have hsz:3 < ts.size:=(PZ.mp x.fl).1
 have d3:=TC x.dataT (·.setIfInBounds 3 PK)
 have oth:∀b,b≠T->(s.heap.update T (SE (·.setIfInBounds 3 .none))).get? b=s.heap.get? b:=λb hb=>NZ _ _ (NT hb)
 refine⟨⟨λb o _ hc q=>(oth b (by simpa using hc)).trans q,λb o hc q=>⟨o.slots,(oth b (by simpa using hc)).trans q⟩,TB (SU (a:=T) s.heap _).1.symm⟩,_,_,(oth e (NT x.ne)).trans x.get,x.cls,x.dict,x.data,x.tb,x.ne,PY _ x.getT (TN d3),d3,by simp[hsz],x.cx⟩
theorem jL{T:LZ}{fl:LP}{oe oT:Obj}{vs ts:Array LP}(x:ExcAt s.heap e cls dx T fl oe oT vs ts)(S:List LZ)(h:∀h' oT' ts',Flew S [T] s.heap h'->ExcAt h' e cls dx T .none oe oT' vs ts'->Q () { s with heap:=h' }):ND M A (setFlight (.ref e) none) Q E s:=by
 obtain⟨k1,oT',ts',k2⟩:=oR (s:=s) x S
 unfold setFlight
 refine LL (NG x.get x.data x.tb ?_)
 rw[if_pos (show (MO T != PK)=true from by simp)]
 exact OV x.getT x.dataT (PZ.mp x.fl).1 (h _ _ _ k1 k2)
theorem cH{T:LZ}{fl:LP}{oe oT:Obj}{vs ts:Array LP}(hfr:A.frames=some (env::outer))(hl:s.heap.FunFrames base (env::outer))(hf:env.frame=some L)(x:ExcAt s.heap e cls dx T fl oe oT vs ts)(hne:(fl == RP L)=false)(h:∀h' T' oe' oT' vs' ts',s.heap.objs.size<=T'->Flew (DY (env::outer)) [e,T] s.heap h'->ExcAt h' e cls dx T' (RP L) oe' oT' vs' ts'->Q () { s with heap:=h' }):ND M A (noteFrame (.ref e) env) Q E s:=by
 unfold noteFrame
 simp only[hf]
 refine LL (NG x.get x.data x.tb ?_)
 rw[if_pos (show (MO T != PK)=true from by simp)]
 refine LL (NG x.getT x.dataT x.fl ?_)
 rw[if_neg (show ¬ ((fl == RP L)=true) by rw[hne];exact LY)]
 refine LL (OV x.getT x.dataT (PZ.mp x.fl).1 ?_)
 obtain⟨k1,oT',ts',k2⟩:=oR (s:=s) x (DY (env::outer))
 have nfT:=Vb hl x.getT x.dataT
 have hl2:(s.heap.update T (SE (·.setIfInBounds 3 .none))).FunFrames base (env::outer):=hl.of_keeps λb o q hnf=>by
  obtain⟨sl,q'⟩:=k1.slot b o (λz=>by
   have z':b=T:=by simpa using z
   subst z'
   rw[x.getT] at q
   cases q
   exact hnf ts x.dataT) q
  exact⟨_,q',rfl⟩
 refine uG (s:={ s with heap:=s.heap.update T (SE (·.setIfInBounds 3 .none)) }) hfr hl2 hf k2.get k2.cls k2.dict k2.data (PZ.mp x.tb).1 x.cx λh' T' oe' oT2 vs' ts2 hT' fl at'=>?_
 exact h h' T' oe' oT2 vs' ts2 (NA k1.size hT') ((k1.trans fl).mono (by intro b hb;simp at hb ⊢;rcases hb with z | z<;>simp[z])) at'
end
end L2
namespace L2
open PySem PySem.Spec PyProof.Rows
theorem Fm{N P:List Str}{sc:Scope}(h:N.Nodup/\(∀x∈P,sc.names.lookup x=some .local∨sc.names.lookup x=some .cell)/\∀y∈sc.names,y.2 ≠ .free)(h1:sc.kind=.function:=by rfl)(h2:sc.isCoroutine=false:=by rfl)(h3:sc.isGenerator=false:=by rfl)(h4:N.take P.length=P:=by rfl):Al N P sc:=⟨h1,h2,h3,h.1,h4,h.2.1,h.2.2⟩
section
variable {X:Cx} {k:Nat} {f:LZ} {fd:NP} {ps:List Str} {sp:Sp} {x:Str} {e a b c d:Expr} {es:List Expr} {t:TA} {ta tb tc td:TE} {p pos pos':Pos}
theorem Bw(ha:PE X a ta)(h1:NH [a] X.env=[(false,RY a X.env)]:=by rfl):PA X [a] (Je ta Wf):=Mj ha Gr h1
theorem Hh(ha:PE X a ta)(hb:PE X b tb)(h1:NH [b] X.env=[(false,RY b X.env)]:=by rfl)(h2:NH [a,b] X.env=(false,RY a X.env)::NH [b] X.env:=by rfl):PA X [a,b] (Je ta (Je tb Wf)):=Mj ha (Bw hb h1) h2
theorem Tc(ha:PE X a ta)(hb:PE X b tb)(hc:PE X c tc)(h0:NH [c] X.env=[(false,RY c X.env)]:=by rfl)(h1:NH [b,c] X.env=(false,RY b X.env)::NH [c] X.env:=by rfl)(h2:NH [a,b,c] X.env=(false,RY a X.env)::NH [b,c] X.env:=by rfl):PA X [a,b,c] (Je ta (Je tb (Je tc Wf))):=Mj ha (Hh hb hc h0 h1) h2
theorem FZ(ha:PE X a ta)(hb:PE X b tb)(hc:PE X c tc)(hd:PE X d td)(h3:NH [d] X.env=[(false,RY d X.env)]:=by rfl)(h0:NH [c,d] X.env=(false,RY c X.env)::NH [d] X.env:=by rfl)(h1:NH [b,c,d] X.env=(false,RY b X.env)::NH [c,d] X.env:=by rfl)(h2:NH [a,b,c,d] X.env=(false,RY a X.env)::NH [b,c,d] X.env:=by rfl):PA X [a,b,c,d] (Je ta (Je tb (Je tc (Je td Wf)))):=Mj ha (Tc hb hc hd h3 h0 h1) h2
theorem Ds(F:Aj X.prog X.w X.K X.mg X.base Bj k f fd ps sp)(hr:Cq k X.A)(hm:X.mg x=some (.ref f))(hk:MN X.K (.ref f)=true)(hb:Binds X.K fd ps [])(ha:PA X (e::es) t)(hg:Gl X x:=by rfl)(hc:X.calm=true:=by rfl)(hdb:(x == ("__debug__" : Str))=false:=by decide)(he:NH (e::es) X.env=(false,RY e X.env)::NH es X.env:=by rfl)(hpl:(SR pos (NH es X.env)).any (·.1)=false:=by rfl):
 PE X (.Call (.Name x p) (e::es) [] pos) (zH sp [] E0 t):=Ci F hr hg hm hk hb .nil (Cm hc) ha hdb he hpl
theorem Bx(i:Nat){x:Str}{e:Expr}{te:TE}(hN:X.N.Nodup)(he:PE X e te)(hi:X.N[i]? = some x:=by rfl)(hx:Loc X.env.scope x:=by exact .inl rfl)(hs:swapsWith e (some (.Name x pos')) pos.line X.env=pure false:=by rfl)(hf:X.fn x=true∨X.env.scope.names.lookup x=some .local:=by first | exact .inl rfl | exact .inr rfl | assumption):
 PS X (.Assign [.Name x pos'] e pos) (eM te (Ly i)):=Lk hN hi hx he hs hf
theorem De(i:Nat){x:Str}(hN:X.N.Nodup)(hi:X.N[i]? = some x:=by rfl)(hx:Loc X.env.scope x:=by exact .inl rfl)(hf:X.fn x=true∨X.env.scope.names.lookup x=some .local:=by first | exact .inl rfl | exact .inr rfl | assumption):PG X (.Name x pos) (Ly i):=Xf hN hi hx hf
theorem Ep(hm:X.mg "len" = none)(ha:PE X a ta)(hg:Gl X "len" := by rfl)(h1:NH [a] X.env=[(false,RY a X.env)]:=by rfl):PE X (.Call (.Name "len" p) [a] [] pos) (JU (λxs H Q=>∃p ys,xs=[.ref p]/\(Av X.K H p ys∨Dq X.K H p ys)/\Q (.int ys.length) H) (Je ta Wf)):=Bg Co hg hm PP (Bw ha h1) (by decide) (by decide) h1 rfl
end
end L2
namespace L2
open PySem PySem.Spec PyProof.Rows PySem.W
section
variable {prog:MV} {w:NU} {A:NV} {R:Result->LV->Prop} {E:LP->LV->Prop} {h:OS} {g:Array GenState} {d:Drawn} {t:Nat} {os:OsState}
variable {nm q:Str} {C N f:LZ} {bs bm bmB:List LP} {hdct:Bool} {sn:List Str} {sub:List LP} {ab:Bool} {col:Option Bool} {dd:Option LZ} {k0 k1 k2 k3 k5:Option LP} {B Bn newId nid initId inN:String} {bmN:List LP}
abbrev Gs(C t:LZ):Obj:={ cls:=.ref C,data:=.fields #[.ref t,.none,.none,.none,.bool false,.none] }
abbrev Hi(rest:List LP):Obj:={ cls:=.type "tuple", data:=.seq rest.toArray }
theorem yA(Fn:ExcBaseFacts Bn newId inN bmN)(hBn:bmB.contains (.type Bn)=true)(F:ExcBaseFacts B nid initId bmB)(T:OwnTail h bmB bm){rest:List LP}(hC:h.get? C=some (excClassObj nm q C N bs bm hdct sn sub ab col dd k0 k1 k2 k3 k5 newId))(hi:UB (NJ prog w) h (typeLookup (.ref C) "__init__") (some (.ref f)))(hb:∀self,UB (NJ prog w) h (bindSpecial (.ref f) self) (.ref f,[self]))(hrest:rest.length<=MG)(hq:codeAny (NJ prog w) (A.under (.builtin "type.__call__" ⟨.ref C::rest,[]⟩)) (.call (.ref f) ⟨.ref (h.objs.size+1)::rest,[]⟩) (PySem.W.InitBack (h.objs.size+1) R) ⟨(h.push (Hi rest)).push (Gs C h.objs.size),g,d,t,os⟩):
 codeAny (NJ prog w) A (.call (.ref C) ⟨rest,[]⟩) R ⟨h,g,d,t,os⟩:=by
 have f1:=tc_lookup
 have f2:=tc_bind (.ref C)
 have hT:(⟨h,g,d,t,os⟩:LV).TypeIs (.ref C) "type" := ⟨_,hC,rfl⟩
 refine codeAny_of_tree ?_
 show ND _ _ (callAny (.ref C) _) _ _ _
 repeat (any_goals (first | assumption | with_reducible refine wpAny_loadPart_at hC ?_ | wp_step))
 refine⟨rfl,codeAny_call_builtin_at (Code.quiet_builtin _ (by decide +kernel)) entry_typeCall (wpAny_check_type_call_sub hC ?_)⟩
 repeat (first | with_reducible refine wpAny_loadPart_at hC ?_ | with_reducible refine wpAny_madeBy_exc hC ?_ | wp_step)
 refine codeAny_call_builtin_code (Code.quiet_builtin _ Fn.quiet) (wpAny_check_new_subU Fn hBn T hC (codeAny_exc_new_subU Fn hBn F T hC ?_ hrest))
 show ND _ _ _ _ _ _
 have k:∀b o,h.get? b=some o->((h.push (Hi rest)).push (Gs C h.objs.size)).get? b=some o:=λb o e=>LQ _ (LQ _ e)
 have hx:((h.push (Hi rest)).push (Gs C h.objs.size)).get? (h.objs.size+1)=some (Gs C h.objs.size):=by heap_get
 have c1:=k _ _ hC
 have hcC:(MO C::bm).contains (.ref C)=true:=by simp
 have i1:=hi.keeps k
 have b1:=(hb (.ref (h.objs.size+1))).keeps k
 have t1:UB (NJ prog w) ((h.push (Hi rest)).push (Gs C h.objs.size)) (typeOf (.ref (h.objs.size+1))) (.ref C):=(PySem.W.Looks.ld hx).andThen .now
 have t2:UB (NJ prog w) ((h.push (Hi rest)).push (Gs C h.objs.size)) (isSubtype (.ref C) (.ref C)) true:=λA' Q' E' s' k' q'=>by
  obtain⟨h',g',d',tk',os'⟩:=s'
  refine wpAny_isSubtype_exc (k' _ _ c1) ?_
  rw[hcC]
  exact q'
 show ND (NJ prog w) _ (isInstance (.ref (h.objs.size+1)) (.ref C) >>= _) _ _ ⟨(h.push (Hi rest)).push (Gs C h.objs.size),g,d,t,os⟩
 unfold isInstance callSpecial? specialOf
 repeat (first | with_reducible refine wpAny_call ?_ | lk)
 refine RM hq λr s' z=>?_
 rcases r with e | (v | _ | _ | _)<;>first | exact z | exact z.elim | skip
 obtain⟨rfl,z⟩:=z
 exact MI (MI z)
end
end L2
namespace L2
open PySem PySem.Spec PyProof.Rows
structure zZ(P:MV)(w:NU)(outer:List Env)(H:Hp)(s:LV)(cls:LP)(dx:Option LZ)(H':Hp)(x:LZ)(s':LV):Prop where
 os:s'.os=s.os
 bare:AllBare s'.gens
 un:Un (Ta outer) [] H H' s.heap s'.heap
 hok:Kw P w H' s'.heap
 hx:H' x=none
 nx:s.heap.objs.size<=x
 fly:∃T oe oT vs ts,H' T=none/\s.heap.objs.size<=T/\ExcAt s'.heap x cls dx T .none oe oT vs ts
def Pl(P:MV)(w:NU):bD:=⟨λouter H s E e s'=>∃x cls dx H',e=.ref x/\zZ P w outer H s cls dx H' x s'/\E cls dx H',true⟩
section
variable {X:Cx} {pins:List (LZ×Obj)} {σ:St} {H:Hp} {s:LV} {h':OS} {ch:List LZ}
theorem Inv.flew{g:Array GenState}(I:Inv X pins σ H s)(fl:Flew (Ta X.stack) ch s.heap h')(hc:∀b∈ch,H b=none):Kw X.prog X.w H h':=λa o e=>
 (I.hok a o e).stay (λb u hb q=>fl.keep b u (λz=>by
  rcases hb with rfl | hb
  ·rw[I.stkFree b z] at e;cases e
  ·rw[I.stkFree b z] at hb;cases hb) (λz=>by
  rcases hb with rfl | hb
  ·rw[hc b z] at e;cases e
  ·rw[hc b z] at hb;cases hb) q) (λ_ q=>q) λ_ _ q=>q
theorem Inv.unFlew(I:Inv X pins σ H s)(hx:X.ex=[])(hst:X.stack=X.env::X.outer)(hfr:X.env.frame=some X.env.locals)(fl:Flew (Ta X.stack) ch s.heap h')(hc:∀b∈ch,X.s₀.heap.objs.size<=b):Un (Ta X.outer) [] X.H₀ H X.s₀.heap h':=by
 have old:∀ {b:LZ} {o:Obj},X.s₀.heap.get? b=some o->b∉ch/\b≠X.env.locals:=λ{b o} e=>⟨λz=>absurd (NQ (MQ e) (hc b z)) (SH _),NF (NQ (MQ e) I.ok.above)⟩
 have nex:∀b:LZ,b∉X.ex:=λb z=>by rw[hx] at z;cases z
 have nst:∀ {b:LZ},b∉Ta X.outer->b≠X.env.locals->b∉Ta X.stack:=λ{b} h1 h2 z=>by
  rcases LX.mp (I.stkSub b z) with q | q
  ·exact h2 q
  ·exact h1 q
 refine⟨λb o e n hb _=>fl.keep b o (nst hb (old e).2) (old e).1 (I.base.keep b o e n hb (nex b)),λb o e n hb _=>?_,λb o e n _=>I.base.free b o e n (nex b),λb o e _=>?_,I.base.tups,I.base.frzs,I.base.tbls⟩
 ·obtain⟨sl,q⟩:=I.base.slot b o e n hb (nex b)
  obtain⟨sl2,q2⟩:=fl.slot b _ (old e).1 q
  exact⟨sl2,q2⟩
 ·obtain⟨o',q⟩:=I.base.there b o e (nex b)
  obtain⟨sl,q2⟩:=fl.slot b o' (old e).1 q
  exact⟨_,q2⟩
end
section
variable {P:MV} {w:NU} {K:LO} {mg:Str->Option LP} {base:OS} {N:List Str} {qual:Str} {scope:Scope} {f:LZ} {cd:LP} {A:NV} {outer:List Env} {s₀:LV} {H₀:Hp} {E:XK}
end
theorem Dx.okE{P:MV}{w:NU}{K:LO}{mg:Str->Option LP}{base:OS}{x qual:Str}{st:RL}{f:LZ}{fd:NP}{N ps:List Str}{k:Nat}{sp:Sp}(F:Dx K x qual st f fd)(S:Al N ps (Ac st))(len:∀vs H Q E,sp vs H Q E->vs.length=ps.length)(hbody:∀(cdv:LP)(A:NV)(outer:List Env)(s:LV)(H:Hp)(vs:List V)(Q:VK)(E:XK),Cq k (A.deeper (envOfC qual (Ac st) s.heap.objs.size f cdv))->sp vs H Q E ->
  ∃t,Ib (Ft (Pl P w) P w K mg base N qual (Ac st) f cdv A outer s H E) (Bb st) t/\t { nx:=λ_ H'=>Q .non H',rt:=Q } (start N vs) H):
 Aj P w K mg base (Pl P w) (k+1) f fd ps sp:=by
 obtain⟨oc,od,kV,doc,pm,an,cdv,ct,osl,rfl,lk,hcd⟩:=F.ex
 exact Xw lk hcd S len λA outer s H vs Q E hr hsp=>hbody cdv A outer s H vs Q E hr hsp
def zB(X:Cx)(h:OS)(H:Hp)(x:LZ)(cls:LP)(dx:Option LZ):Prop:=
 (∃oe vs,uI h x cls dx oe vs) ∨ ∃T fl oe oT vs ts,Dd X [] H T/\ExcAt h x cls dx T fl oe oT vs ts
abbrev XS:=St->LP->Option LZ->Hp->Prop
def Wx(X:Cx)(E:XS)(e:LP)(s:LV):Prop:=∃x cls dx H σ,e=.ref x/\Inv X [] σ H s/\Dd X [] H x/\zB X s.heap H x cls dx/\E σ cls dx H
structure Own(X:Cx):Prop where
 ex:X.ex=[]
 st:X.stack=X.env::X.outer
 fr:X.env.frame=some X.env.locals
theorem Dd.old{X:Cx}{pins:List (LZ×Obj)}{H:Hp}{b:LZ}(f:Dd X pins H b)(o:X.ex=[]):X.s₀.heap.objs.size<=b:=by
 rcases f.2.2.2.1 with z | z
 ·rw[o] at z;cases z
 ·exact z
section
variable {X:Cx} {pins:List (LZ×Obj)} {σ:St} {H:Hp} {s:LV} {h':OS} {ch:List LZ}
theorem Inv.fly(I:Inv X [] σ H s)(fl:Flew (Ta X.stack) ch s.heap h')(hf:∀b∈ch,Dd X [] H b):Inv X [] σ H { s with heap:=h' }:=by
 have nst:∀ {b:LZ},b≠X.env.locals->b∉X.fs->b∉Ta X.stack:=λ{b} h1 h2 z=>by
  rcases LX.mp (I.stkSub b z) with q | q
  ·exact h1 q
  ·exact h2 q
 refine I.step (g':=s.gens) (d':=s.drawn) (t':=s.toks) (ch:=ch) (λb hb=>?_) (λb o h1 h2 hc e _=>fl.keep b o (nst h1 h2) hc e) (λb o _ _ hc e _=>fl.slot b o hc e) (λ_ _ _ _ n=>n)
  (λb o hc e=>?_) (λ_ _ e=>e) (λ_ _ _ e=>e) (λb ps e=>⟨#[],by rw[e];simp⟩) (λm hm=>?_) (I.flew (g:=s.gens) fl λb hb=>(hf b hb).1) I.bare
 ·obtain⟨f0,f1,f2,f3,f4,f5⟩:=hf b hb
  exact⟨f3,f1,f4,f5⟩
 ·obtain⟨sl,q⟩:=fl.slot b o hc e
  exact⟨_,q⟩
 ·obtain⟨o,es,ep,ho,r⟩:=hm
  obtain⟨sl,q⟩:=fl.slot _ o (λz=>(hf _ z).2.1 rfl) ho
  exact⟨_,es,ep,q,r⟩
end
section
variable {X:Cx} {σ:St} {H:Hp} {s:LV} {x:LZ} {cls:LP} {dx:Option LZ} {Q:Unit->LV->Prop} {E:LP->LV->Prop} {A:NV}
theorem oS(ow:Own X)(hA:A.frames=some X.stack)(I:Inv X [] σ H s)(fx:Dd X [] H x)(f:zB X s.heap H x cls dx)(h:∀h' T oe oT vs ts,Inv X [] σ H { s with heap:=h' }->Dd X [] H T->ExcAt h' x cls dx T (RP X.env.locals) oe oT vs ts->Q () { s with heap:=h' }):ND (NJ X.prog X.w) A (noteFrame (.ref x) X.env) Q E s:=by
 have hst:=I.stack
 rw[ow.st] at hst hA
 have hone:∀b∈[x],Dd X [] H b:=λb hb=>by rw[MA.mp hb];exact fx
 rcases f with ⟨oe,vs,n⟩ | ⟨T,fl,oe,oT,vs,ts,fT,a⟩
 ·refine Ze hA hst ow.fr n λh' T oe' oT vs' ts hT flw at'=>?_
  exact h h' T oe' oT vs' ts (I.fly (by rw[ow.st];exact flw) hone) (I.fpOk hT (I.hok.fresh hT)) at'
 ·by_cases hfl:fl=RP X.env.locals
  rotate_left
  ·refine cH hA hst ow.fr a (beq_eq_false_iff_ne.mpr hfl) λh' T' oe' oT' vs' ts' hT flw at'=>?_
   refine h h' T' oe' oT' vs' ts' (I.fly (by rw[ow.st];exact flw) λb hb=>?_) (I.fpOk hT (I.hok.fresh hT)) at'
   simp only[LX,MM,or_false] at hb
   rcases hb with rfl | rfl
   ·exact fx
   ·exact fT
  ·subst hfl
   unfold noteFrame
   simp only[ow.fr]
   refine LL (NG a.get a.data a.tb ?_)
   rw[if_pos (show (MO T != PK)=true from by simp)]
   refine LL (NG a.getT a.dataT a.fl ?_)
   rw[if_pos (show (RP X.env.locals == RP X.env.locals)=true from by first | (simp;done) | exact beq_self_eq_true _)]
   exact MI (h s.heap T oe oT vs ts I fT a)
theorem zP{T:LZ}{fl:LP}{oe oT:Obj}{vs ts:Array LP}(I:Inv X [] σ H s)(fT:Dd X [] H T)(a:ExcAt s.heap x cls dx T fl oe oT vs ts)(h:∀h' oT' ts',Inv X [] σ H { s with heap:=h' }->ExcAt h' x cls dx T .none oe oT' vs ts'->Q () { s with heap:=h' }):ND (NJ X.prog X.w) A (setFlight (.ref x) none) Q E s:=
 jL a (Ta X.stack) λh' oT' ts' flw at'=>h h' oT' ts' (I.fly flw λb hb=>by rw[MA.mp hb];exact fT) at'
theorem DX{T:LZ}{fl:LP}{oe oT:Obj}{vs ts:Array LP}(ow:Own X)(I:Inv X [] σ H s)(fT:Dd X [] H T)(a:ExcAt s.heap x cls dx T fl oe oT vs ts)(h:∀h' oT' ts',Inv X [] σ H { s with heap:=h' }->ExcAt h' x cls dx T (RP X.env.locals) oe oT' vs ts'->Q () { s with heap:=h' }):
    ND (NJ X.prog X.w) A (do if (<- UI (.ref x) 1) == .none then unsupported "frame.own-activation:exception-without-traceback"
                                   setFlight (.ref x) X.env.frame) Q E s:=by
  refine LL (NG a.get a.data a.tb ?_)
  rw[if_neg (show ¬ ((MO T == PK)=true) from by simp)]
  unfold setFlight
  refine LL (NG a.get a.data a.tb ?_)
  rw[if_pos (show (MO T != PK)=true from by simp),ow.fr]
  have hsz:3 < ts.size:=(PZ.mp a.fl).1
  have d3:=TC a.dataT (·.setIfInBounds 3 (RP X.env.locals))
  have oth:∀b,b≠T->(s.heap.update T (SE (·.setIfInBounds 3 (RP X.env.locals)))).get? b=s.heap.get? b:=λb hb=>NZ _ _ (NT hb)
  refine OV a.getT a.dataT hsz (h _ _ _ (I.fly (ch:=[T]) ⟨λb o _ hc q=>(oth b (by simpa using hc)).trans q,λb o hc q=>⟨o.slots,(oth b (by simpa using hc)).trans q⟩,TB (SU (a:=T) s.heap _).1.symm⟩ λb hb=>by rw[MA.mp hb];exact fT)
    ⟨(oth x (NT a.ne)).trans a.get,a.cls,a.dict,a.data,a.tb,a.ne,PY _ a.getT (TN d3),d3,by simp[hsz],a.cx⟩)
theorem Wx.passesOwn{EX:XS}(ow:Own X):PassesOwn (NJ X.prog X.w) X.A X.env (Wx X EX):=by
 intro e s' ⟨x,cls,dx,H,σ,he,I,fx,f,hE⟩
 subst he
 refine oS ow I.ok.frames I fx f λh1 T oe oT vs ts I1 fT a1=>?_
 refine DX ow I1 fT a1 λh2 oT' ts' I2 a2=>?_
 exact⟨x,cls,dx,H,σ,rfl,I2,fx,.inr ⟨T,_,oe,oT',vs,ts',fT,a2⟩,hE⟩
end
section
variable {P:MV} {w:NU} {K:LO} {mg:Str->Option LP} {base:OS} {N:List Str} {qual:Str} {scope:Scope} {f:LZ} {cd:LP} {A:NV} {outer:List Env} {s₀:LV} {H₀:Hp} {E:XK}
theorem eE{CX:bD}:Own (Ft CX P w K mg base N qual scope f cd A outer s₀ H₀ E):=⟨rfl,rfl,rfl⟩
theorem Wx.leaves{e:LP}{s:LV}(h:Wx (Ft (Pl P w) P w K mg base N qual scope f cd A outer s₀ H₀ E) (λ_=>E) e s):(Ft (Pl P w) P w K mg base N qual scope f cd A outer s₀ H₀ E).xe e s:=by
 obtain⟨x,cls,dx,H,σ,he,I,fx,fly,hE⟩:=h
 subst he
 have ow:Own (Ft (Pl P w) P w K mg base N qual scope f cd A outer s₀ H₀ E):=eE
 show ND _ _ (leaving _ _) _ _ _
 unfold leaving
 refine LL (oS ow I.ok.frames I fx fly λh1 T oe oT vs ts I1 fT a1=>?_)
 refine jL (s:={ s with heap:=h1 }) a1 (Ta (Ft (Pl P w) P w K mg base N qual scope f cd A outer s₀ H₀ E).stack) λh2 oT' ts' flw a2=>?_
 have hch:∀b∈[T],Dd (Ft (Pl P w) P w K mg base N qual scope f cd A outer s₀ H₀ E) [] H b:=λb hb=>by rw[MA.mp hb];exact fT
 refine⟨x,cls,dx,H,rfl,⟨I1.os,I1.bare,I1.unFlew rfl rfl rfl flw (λb hb=>(hch b hb).old rfl),I1.flew (g:=s.gens) flw (λb hb=>(hch b hb).1),fx.1,fx.old rfl,T,oe,oT',vs,ts',fT.1,fT.old rfl,a2⟩,hE⟩
end
abbrev Cx.thrown(X:Cx)(E:XS):Cx:=X.wish (Wx X E)
theorem Dx.okX{P:MV}{w:NU}{K:LO}{mg:Str->Option LP}{base:OS}{x qual:Str}{st:RL}{f:LZ}{fd:NP}{N ps:List Str}{k:Nat}{sp:Sp}(F:Dx K x qual st f fd)(S:Al N ps (Ac st))(len:∀vs H Q E,sp vs H Q E->vs.length=ps.length)(hbody:∀(cdv:LP)(A:NV)(outer:List Env)(s:LV)(H:Hp)(vs:List V)(Q:VK)(E:XK),Cq k (A.deeper (envOfC qual (Ac st) s.heap.objs.size f cdv))->sp vs H Q E ->
  ∃t,Ib ((Ft (Pl P w) P w K mg base N qual (Ac st) f cdv A outer s H E).thrown λ_=>E) (Bb st) t/\t { nx:=λ_ H'=>Q .non H',rt:=Q } (start N vs) H):
 Aj P w K mg base (Pl P w) (k+1) f fd ps sp:=by
 refine F.okE S len λcdv A outer s H vs Q E hr hsp=>?_
 obtain⟨t,h,q⟩:=hbody cdv A outer s H vs Q E hr hsp
 refine⟨t,λpins s' σ' H' D I hw=>?_,q⟩
 exact OR (h pins s' σ' H' D (I.wish _) hw) (λ_ _ z=>z.unwish) λe s2 z=>z.leaves
theorem Wx.passes{X:Cx}{EX:XS}{pins:List (LZ×Obj)}{σ:St}{H:Hp}{s s':LV}{e:LP}(I:Inv X pins σ H s)(h:(Pl X.prog X.w).f X.stack H s (EX σ) e s'):Wx X EX e s':=by
 obtain⟨x,cls,dx,H',he,O,hE⟩:=h
 obtain⟨T,oe,oT,vs,ts,hT,zT,a⟩:=O.fly
 have I0:=I.pins_of (pins':=[]) (λp hp=>nomatch hp)
 have I':=I0.call' (ch:=[]) O.os O.un O.hok O.bare (λb z=>nomatch z)
 exact⟨x,cls,dx,H',σ,he,I',I0.fpOk O.nx O.hx,.inr ⟨T,_,oe,oT,vs,ts,I0.fpOk zT hT,a⟩,hE⟩
def AC(sp:Sp)(dvs:List V)(EX:XS)(t:TA):TE:=λσ H Q=>t σ H λvs H1=>sp (vs++dvs) H1 Q (EX σ)
section
variable {X:Cx} {EX:XS} {k:Nat} {f C:LZ} {fd:NP} {ps:List Str} {sp:Sp} {dvs:List V} {ds:List LP} {x m:Str} {p pos apos:Pos} {e o:Expr} {es:List Expr} {ta:TE} {t:TA}
theorem iW{pins:List (LZ×Obj)}{σ:St}{H:Hp}{s:LV}{Q:VK}{us:List LP}{vs:List V}(F:Aj X.prog X.w X.K X.mg X.base (Pl X.prog X.w) k f fd ps sp)(hr:Cq k X.A)(hb:Binds X.K fd ps ds)(hd:Vals dvs ds)(hcs:X.calm=true/\X.sx=true)(I:Inv (X.thrown EX) pins σ H s)(r:Vals vs us)(h:sp (vs++dvs) H Q (EX σ)):ND (NJ X.prog X.w) X.A (call (.ref f) us) (EP (X.thrown EX) pins σ Q) (Wx X EX) s:=by
 have r2:Vals (vs++dvs) (us++ds):=r.append hd
 have hl:(us++ds).length=ps.length:=by rw[<- r2.length];exact F.len _ _ _ _ h
 refine wpAny_call (RM (F.run X.A X.stack s H ⟨us,[]⟩ (us++ds) (vs++dvs) Q (EX σ) ⟨hr,λ_=>I.ok.st hcs.2,I.ok.hd hcs.1⟩ I.env0 (hb s us I.kIn hl) r2 h) λr s' hq=>?_)
 cases r with
 | error e=>exact Wx.passes I.unwish hq
 | ok fl=>
  cases fl with
  | ret u=>exact I.after hq
  | next=>exact OT hq
  | brk=>exact OT hq
  | cont=>exact OT hq
theorem Zf(F:Aj X.prog X.w X.K X.mg X.base (Pl X.prog X.w) k f fd ps sp)(hr:Cq k X.A)(hg:Gl X x)(hm:X.mg x=some (.ref f))(hk:MN X.K (.ref f)=true)(hb:Binds X.K fd ps ds)(hd:Vals dvs ds)(ha:PA (X.thrown EX) (e::es) t)(hdb:(x == ("__debug__" : Str))=false:=by decide)(he:NH (e::es) X.env=(false,RY e X.env)::NH es X.env:=by rfl)(hpl:(SR pos (NH es X.env)).any (·.1)=false:=by rfl)(hcs:X.calm=true/\X.sx=true:=by exact⟨rfl,rfl⟩):
 PE (X.thrown EX) (.Call (.Name x p) (e::es) [] pos) (AC sp dvs EX t):=by
 intro pins s σ H Q I h
 refine RZ (Jb I hg hm ?_ hdb)
 refine RU (h₀:=X.base) I.ok.mod.kin hk (Bv (ha pos pins s σ H _ I h) λus s1 ⟨vs,H1,I1,r,q⟩=>⟨I1.kIn,?_⟩) he hpl
 exact iW F hr hb hd hcs I1 r q
end
end L2
namespace L2
open PySem PySem.Spec PyProof.Rows PySem.W
abbrev oO:List LP:=[.type "ValueError", .type "Exception", .type "BaseException", .type "object"]
abbrev Rt(C:LZ)(dx:Option LZ)(t:LZ):Obj:={ cls:=.ref C,dict:=dx,data:=.fields #[.ref t,.none,.none,.none,.bool false,.none] }
def Wh(es:List UR):Bool:=es.all λe=>match e.key with | .str _ _=>true | _=>false
theorem zG{K:LO}{h:OS}{N:LZ}{oc:LP}{od:Option LZ}{es:Array UR}{ep:Nat}{sl:Array (Option LP)}(X:K.In h)(l:K.lookup N=some ⟨oc,od,.dict es ep,sl⟩)(k:Wh es.toList=true):h.Ns N (λx=>nsFind es x):=
 ⟨_,es,ep,X N _ l,rfl,λe he=>by
  unfold Wh at k
  rw[QO] at k
  have q:=k e (Array.mem_toList_iff.mpr he)
  cases hk:e.key with
  | str n t=>exact⟨n,t,rfl⟩
  | _=>rw[hk] at q;exact absurd q LY,λ_=>rfl⟩
structure Yx(K:LO)(C:LZ)(bm:List LP):Prop where
 obj:∃nm q N bs hdct sn sub ab col dd k0 k1 k2 k3 k5,K.lookup C=some (excClassObj nm q C N bs bm hdct sn sub ab col dd k0 k1 k2 k3 k5 "ValueError.__new__")
 tail:∀h,K.In h->OwnTail h oO bm
 kp:MN K (.ref C)=true
section
variable {prog:MV} {w:NU} {A:NV} {R:Result->LV->Prop} {E:LP->LV->Prop} {s:LV} {K:LO} {C:LZ} {bm:List LP}
end
section
variable {M:Model} {A:NV} {E:LP->LV->Prop} {s:LV} {env:Env} {K:LO} {C:LZ} {bm:List LP}
theorem DA{x:Sem LP}{Q:Flow->LV->Prop}(c:Yx K C bm)(hbase:bm.contains (.type "BaseException")=true)(hh:A.handled=none)(h:ND M A x (λv s₁=>∃e dx t,v=.ref e/\K.In s₁.heap/\s₁.heap.get? e=some (Rt C dx t)/\E (.ref e) s₁) E s):ND M A (raiseStmt env (some x) none) Q E s:=by
 obtain⟨nm,q,N,bs,hdct,sn,sub,ab,col,dd,k0,k1,k2,k3,k5,lk⟩:=c.obj
 have hcB:(MO C::bm).contains (.type "BaseException")=true:=by rw[List.contains_cons,hbase,Bool.or_true]
 unfold raiseStmt
 refine LL (OR h (λv s₁ h₁=>?_) λ_ _ x=>x)
 obtain⟨e,dx,t,rfl,X,he,hE⟩:=h₁
 have hC:=X C _ lk
 obtain⟨hp,g,d,tk,os⟩:=s₁
 repeat (first | with_reducible refine wpAny_loadPart_at he ?_ | with_reducible refine wpAny_loadPart_at hC ?_ | (with_reducible refine wpAny_isSubtype_exc hC ?_;rw[hcB]) | wp_step)
 exact wpAny_raiseNew_none hh hE
end
section
variable {X:Cx} {EX:XS} {C:LZ} {bm:List LP} {x:Str} {p pos cpos:Pos} {e:Expr} {es:List Expr} {t:TA}
end
end L2
namespace L2
open PySem PySem.Spec PyProof.Rows
abbrev Cx.pinned(X:Cx)(pins:List (LZ×Obj)):Cx:={ X with pn:=pins }
section
variable {X:Cx} {pins:List (LZ×Obj)} {σ:St} {H:Hp} {s:LV}
theorem Inv.intoPn(I:Inv X pins σ H s):Inv (X.pinned (X.pn++pins)) [] σ H s:=
 ⟨⟨I.ok.mod,I.ok.kind,I.ok.glob,I.ok.blt,I.ok.above,I.ok.inj,I.ok.has,I.ok.cab,I.ok.hd,I.ok.st,I.ok.frames,I.ok.stk,I.ok.exf,I.ok.bs,I.ok.bsz,I.ok.noex,I.ok.exfs,I.ok.funs,I.ok.frf⟩,I.os,I.bare,I.base,I.loc,I.cell,I.free,I.freeC,λp hp=>I.pin p (by rw[NL] at hp;exact hp),I.hok,I.len⟩
theorem Inv.outPn(I:Inv (X.pinned (X.pn++pins)) [] σ H s):Inv X pins σ H s:=
 ⟨⟨I.ok.mod,I.ok.kind,I.ok.glob,I.ok.blt,I.ok.above,I.ok.inj,I.ok.has,I.ok.cab,I.ok.hd,I.ok.st,I.ok.frames,I.ok.stk,I.ok.exf,I.ok.bs,I.ok.bsz,I.ok.noex,I.ok.exfs,I.ok.funs,I.ok.frf⟩,I.os,I.bare,I.base,I.loc,I.cell,I.free,I.freeC,λp hp=>I.pin p (by rw[NL];exact hp),I.hok,I.len⟩
theorem Dd.outPn{b:LZ}(f:Dd (X.pinned (X.pn++pins)) [] H b):Dd X [] H b:=
 ⟨f.1,f.2.1,f.2.2.1,f.2.2.2.1,f.2.2.2.2.1,λp hp=>f.2.2.2.2.2 p (by rw[NL] at hp ⊢;exact QA _ hp)⟩
theorem Wx.outPn{EX:XS}{e:LP}(h:Wx (X.pinned (X.pn++pins)) EX e s):Wx X EX e s:=by
 obtain⟨x,cls,dx,H,σ,he,I,fx,f,hE⟩:=h
 refine⟨x,cls,dx,H,σ,he,I.outPn.pins_of (λp hp=>nomatch hp),fx.outPn,?_,hE⟩
 rcases f with f | ⟨T,fl,oe,oT,vs,ts,fT,r⟩
 ·exact .inl f
 ·exact .inr ⟨T,fl,oe,oT,vs,ts,fT.outPn,r⟩
theorem SP.outPn{D:Ends}{f:Flow}(h:SP (X.pinned (X.pn++pins)) [] D f s):SP X pins D f s:=by
 cases f with
 | next=>obtain⟨σ',H',I,q⟩:=h;exact⟨σ',H',I.outPn,q⟩
 | brk=>obtain⟨σ',H',I,q⟩:=h;exact⟨σ',H',I.outPn,q⟩
 | cont=>obtain⟨σ',H',I,q⟩:=h;exact⟨σ',H',I.outPn,q⟩
 | ret u=>obtain⟨v,σ',H',I,r,q⟩:=h;exact⟨v,σ',H',I.outPn,r,q⟩
end
def Kg(X:Cx)(x:LZ)(oe:Obj):Cx:={ X with A:=X.A.mark (some (.ref x)),calm:=false,sx:=false,pn:=(x,oe)::X.pn,xe:=λ_ _=>False }
section
variable {X:Cx} {σ:St} {H:Hp} {s:LV} {x:LZ} {oe:Obj}
theorem Inv.suite(I:Inv X [] σ H s)(fx:Dd X [] H x)(g:s.heap.get? x=some oe)(d:∀v,oe.data ≠ .cell v):Inv (Kg X x oe) [] σ H s:=
 ⟨⟨I.ok.mod,I.ok.kind,I.ok.glob,I.ok.blt,I.ok.above,I.ok.inj,I.ok.has,I.ok.cab,λz=>absurd z LY,λz=>absurd z LY,I.ok.frames,I.ok.stk,I.ok.exf,I.ok.bs,I.ok.bsz,I.ok.noex,I.ok.exfs,I.ok.funs,I.ok.frf⟩,I.os,I.bare,I.base,I.loc,I.cell,I.free,I.freeC,λp hp=>by
  rw[NL] at hp
  rcases LX.mp hp with rfl | hp
  ·exact⟨g,fx.1,fx.2.1,fx.2.2.1,d⟩
  ·exact I.pin p (by rw[NL];exact hp),I.hok,I.len⟩
theorem Inv.unsuite(I:Inv (Kg X x oe) [] σ H s)(hd:X.calm=true->Bm X.A X.base)(ok:X.Ok):Inv X [] σ H s:=
 ⟨ok,I.os,I.bare,I.base,I.loc,I.cell,I.free,I.freeC,λp hp=>I.pin p (by rw[NL] at hp ⊢;exact ME _ hp),I.hok,I.len⟩
end
def PH(X:Cx)(hs:List TY)(EX:XS)(th:Ends->XS):Prop:=
 ∀(σ:St)(H:Hp)(s:LV)(x:LZ)(cls:LP)(dx:Option LZ)(T:LZ)(oe oT:Obj)(vs ts:Array LP)(D:Ends),Inv X [] σ H s->Dd X [] H x->Dd X [] H T->ExcAt s.heap x cls dx T .none oe oT vs ts->th D σ cls dx H ->
  ND (NJ X.prog X.w) X.A (handleBy (.ref x) X.env hs) (SP X [] D) (Wx X EX) s
section
variable {X:Cx} {EX:XS} {th:Ends->XS} {hs:List TY} {C:LZ} {c:Str} {np pos:Pos} {b₀:RL} {suite:List RL} {ts':LZ->Obj->TS}
theorem BV(ow:Own X):PH X [] EX (λ_=>EX):=by
 intro σ H s x cls dx T oe oT vs ts D I fx fT a hE
 refine wpAny_handleBy_nil ?_
 unfold PySem.passOn
 refine LL (NG a.get a.data a.tb ?_)
 rw[if_neg (show ¬ ((MO T == PK)=true) from by simp)]
 unfold setFlight
 refine LL (LL (NG a.get a.data a.tb ?_))
 rw[if_pos (show (MO T != PK)=true from by simp),ow.fr]
 have hsz:3 < ts.size:=(PZ.mp a.fl).1
 have d3:=TC a.dataT (·.setIfInBounds 3 (RP X.env.locals))
 have oth:∀b,b≠T->(s.heap.update T (SE (·.setIfInBounds 3 (RP X.env.locals)))).get? b=s.heap.get? b:=λb hb=>NZ _ _ (NT hb)
 refine OV a.getT a.dataT hsz (wpAny_throw ⟨x,cls,dx,H,σ,rfl,I.fly (ch:=[T]) ⟨λb o _ hc q=>(oth b (by simpa using hc)).trans q,λb o hc q=>⟨o.slots,(oth b (by simpa using hc)).trans q⟩,TB (SU (a:=T) s.heap _).1.symm⟩ (λb hb=>by rw[MA.mp hb];exact fT),fx,
  .inr ⟨T,RP X.env.locals,oe,_,vs,_,fT,⟨(oth x (NT a.ne)).trans a.get,a.cls,a.dict,a.data,a.tb,a.ne,PY _ a.getT (TN d3),d3,by simp[hsz],a.cx⟩⟩,hE⟩)
theorem yS(hcls:Gl X c)(hm:X.mg c=some (.ref C))(hsu:∀x oe,Ib (Kg X x oe) (b₀::suite) (ts' x oe))(hr:PH X hs EX th)(hdb:(c == ("__debug__" : Str))=false:=by decide):
 PH X (.ExceptHandler (some (.Name c np)) none (b₀::suite) pos::hs) EX (λD σ cls dx H=>∃b,PySem.W.exmOne X.K cls (.ref C)=some b/\if b=true then ∀x oe,H x=none->oe.cls=cls->oe.dict=dx->(∃ws,oe.data=.fields ws/\ws[2]? = some .none)->ts' x oe D σ H else th D σ cls dx H):=by
 intro σ H s x cls dx T oe oT vs ts D I fx fT a h
 obtain⟨b,hb,h⟩:=h
 have dn:∀v,oe.data ≠ .cell v:=λv z=>by rw[a.data] at z;cases z
 have IS:=I.suite fx a.get dn
 have mk:(X.A.mark (some (.ref x)))=(Kg X x oe).A:=rfl
 refine wpAny_handleBy_cons (codeAny_handlers_test ?_) (by intro q;cases q)
 refine Jb (X:=Kg X x oe) IS hcls hm ?_ hdb
 have lt:UB (NJ X.prog X.w) s.heap (typeOf (.ref x)) cls:=by
  have q:UB (NJ X.prog X.w) s.heap (typeOf (.ref x)) oe.cls:=(PySem.W.Looks.ld a.get).andThen .now
  rw[a.cls] at q
  exact q
 obtain⟨hh,g,d,tk,os⟩:=s
 refine(PySem.W.exm_one I.kIn lt hb).at ?_
 cases b with
 | false=>
  rw[if_neg LY] at h
  exact hr σ H _ x cls dx T oe oT vs ts D I fx fT a h
 | true=>
  rw[if_pos rfl] at h
  refine codeAny_handlers_suite ?_
  refine zP (A:=X.A.mark (some (.ref x))) I fT a λh1 oT1 ts1 I1 a1=>?_
  have I2:=I1.suite fx a1.get dn
  refine OR (hsu x oe [] _ σ H D I2 (h x oe fx.1 a.cls a.dict ⟨vs,a.data,a.cx⟩)) (λf s2 q=>?_) (λ_ _ z=>z.elim)
  cases f with
  | next=>obtain⟨σ',H',J,q⟩:=q;exact⟨σ',H',J.unsuite I.ok.hd I.ok,q⟩
  | brk=>obtain⟨σ',H',J,q⟩:=q;exact⟨σ',H',J.unsuite I.ok.hd I.ok,q⟩
  | cont=>obtain⟨σ',H',J,q⟩:=q;exact⟨σ',H',J.unsuite I.ok.hd I.ok,q⟩
  | ret u=>obtain⟨v,σ',H',J,r,q⟩:=q;exact⟨v,σ',H',J.unsuite I.ok.hd I.ok,r,q⟩
end
def JR(tb:XS->TS)(th:Ends->XS):TS:=λD σ H=>tb (λσ' cls dx H'=>th D σ' cls dx H') D σ H
theorem BQ{X:Cx}{W:LP->LV->Prop}{EX:XS}{body:List RL}{h₀:TY}{hs:List TY}{pos:Pos}{tb:XS->TS}{th:Ends->XS}(ow:Own X)(hW:∀e s,Wx X EX e s->W e s)(hb:∀pn EX1,Ib ((X.pinned pn).thrown EX1) body (tb EX1))(hh:∀pn,PH (X.pinned pn) (h₀::hs) EX th):PS (X.wish W) (.Try body (h₀::hs) [] [] pos) (JR tb th):=by
 intro pins s σ H D I h
 have Ip:=I.unwish.intoPn
 have owp:Own (X.pinned (X.pn++pins)):=⟨ow.ex,ow.st,ow.fr⟩
 refine wpAny_Try_except (OR (hb (X.pn++pins) _ [] s σ H D (Ip.wish _) h) (λf s1 q=>?_) λe s1 z=>?_)
 ·have q':=q.unwish.outPn
  cases f with
  | next=>
   obtain⟨σ',H',J,q⟩:=q'
   exact UM ⟨σ',H',J.wish _,q⟩
  | brk=>obtain⟨σ',H',J,q⟩:=q';exact⟨σ',H',J.wish _,q⟩
  | cont=>obtain⟨σ',H',J,q⟩:=q';exact⟨σ',H',J.wish _,q⟩
  | ret u=>obtain⟨v,σ',H',J,r,q⟩:=q';exact⟨v,σ',H',J.wish _,r,q⟩
 ·obtain⟨x,cls,dx,H1,σ1,he,I1,fx,fly,hE⟩:=z
  subst he
  refine oS (X:=X.pinned (X.pn++pins)) owp I1.ok.frames I1 fx fly λh1 T oe oT vs ts I2 fT a1=>?_
  refine zP (X:=X.pinned (X.pn++pins)) (A:=X.A) I2 fT a1 λh2 oT2 ts2 I3 a2=>?_
  refine OR (hh (X.pn++pins) σ1 H1 _ x cls dx T oe oT2 vs ts2 D I3 fx fT a2 hE) (λf s2 q=>?_) λe s2 z=>hW e s2 z.outPn
  have q':=q.outPn
  cases f with
  | next=>obtain⟨σ',H',J,q⟩:=q';exact⟨σ',H',J.wish _,q⟩
  | brk=>obtain⟨σ',H',J,q⟩:=q';exact⟨σ',H',J.wish _,q⟩
  | cont=>obtain⟨σ',H',J,q⟩:=q';exact⟨σ',H',J.wish _,q⟩
  | ret u=>obtain⟨v,σ',H',J,r,q⟩:=q';exact⟨v,σ',H',J.wish _,r,q⟩
end L2
namespace L2
open PySem PySem.Spec PyProof.Rows PySem.W
def rem(H:Hp)(x:LZ):Hp:=λb=>if b=x then none else H b
theorem Wz{H:Hp}{x b:LZ}(h:b≠x):rem H x b=H b:=if_neg h
theorem Jj{H:Hp}{x:LZ}:rem H x x=none:=if_pos rfl
theorem Kc{H:Hp}{x b:LZ}(h:H b=none):rem H x b=none:=by
 unfold rem
 split
 ·rfl
 ·exact h
theorem Inv.drop{X:Cx}{pins:List (LZ×Obj)}{σ:St}{H:Hp}{s:LV}{x:LZ}{φ:OS->Prop}(I:Inv X pins σ H s)(hx:H x=some (.ext φ)):Inv X pins σ (rem H x) s:=by
 have ne:∀b o,H b=some o->(∀ψ,o ≠ .ext ψ)->b≠x:=λb o e n z=>by
  subst z
  rw[hx] at e
  exact n φ (MZ e).symm
 have ne':∀ {b o},H b=some o->(∀ψ,o ≠ .ext ψ)->rem H x b=some o:=λ{b o} e n=>by rw[Wz (ne b o e n)];exact e
 refine⟨I.ok,I.os,I.bare,⟨I.base.keep,I.base.slot,λb u e n hx'=>Kc (I.base.free b u e n hx'),I.base.there,λb xs e=>ne' (I.base.tups b xs e) (λψ z=>nomatch z),λb u v e=>ne' (I.base.frzs b u v e) (λψ z=>nomatch z),λb ps e=>?_⟩,I.loc,I.cell,Kc I.free,λy c e=>Kc (I.freeC y c e),λp hp=>?_,λb u e=>?_,I.len⟩
 ·obtain⟨m,q⟩:=I.base.tbls b ps e
  exact⟨m,ne' q (λψ z=>nomatch z)⟩
 ·obtain⟨e,n,r⟩:=I.pin p hp
  exact⟨e,Kc n,r⟩
 ·by_cases hb:b=x
  ·subst hb
   rw[Jj] at e
   cases e
  ·rw[Wz hb] at e
   exact(I.hok b u e).stay (λ_ _ _ q=>q) (λc q=>ne' q (λψ z=>nomatch z)) λc xs q=>ne' q (λψ z=>nomatch z)
def uK(x C:LZ)(dx:Option LZ)(t:LZ):HO:=.ext λh=>h.get? x=some (Rt C dx t)
theorem sG{P:MV}{w:NU}{H:Hp}{h:OS}{x C:LZ}{dx:Option LZ}{t:LZ}(e:h.get? x=some (Rt C dx t)):Cg P w H h x (uK x C dx t):=⟨e,⟨_,e⟩,λh1 h2 a k=>k _ a⟩
theorem qS{P:MV}{w:NU}{H:Hp}{h:OS}{x C:LZ}{dx:Option LZ}{t:LZ}(hok:Kw P w H h)(e:H x=some (uK x C dx t)):h.get? x=some (Rt C dx t):=(hok x _ e).1
theorem cC{h:OS}{self:LP}{l:List LP}(T:OwnTail h oO l):refuseLoop self "__setattr__" l=pure ():=by
 induction T with
 | base=>exact PySem.F.store_ValueError.passes self
 | own _ _ _ _ ih=>rw[refuseLoop_ref];exact ih
section
variable {prog:MV} {w:NU} {A:NV} {E:LP->LV->Prop} {s:LV} {K:LO} {C x t:LZ} {bm:List LP} {name:Str} {v:LP}
theorem uZ{Q:Unit->LV->Prop}(X:K.In s.heap)(c:Yx K C bm)(hs:findIn K (.ref C) "__setattr__" = some (some (.builtin "object.__setattr__")))(ht:takerIn K C name=some none)(hh:hasDictIn K C=true)(hx:s.heap.get? x=some (Rt C none t))(h:∀h1 h2 h3,(∀b o,s.heap.get? b=some o->h1.get? b=some o)->h1.Ns1 s.heap.objs.size (λ_=>none)->RD x h1 h2->h2.get? x=some (Rt C (some s.heap.objs.size) t) ->
  RD s.heap.objs.size h2 h3->h3.Ns1 s.heap.objs.size (λy=>if y=name then some v else none)->Q () { s with heap:=h3,toks:=s.toks+2 }):
 ND (NJ prog w) A (setAttr (.ref x) name v) Q E s:=by
 have I:InstAt s.heap x (Rt C none t) C none:=⟨hx,rfl,rfl,trivial⟩
 obtain⟨nm,q,N,bs,hdct,sn,sub,ab,col,dd,k0,k1,k2,k3,k5,lk⟩:=c.obj
 have hC:=X C _ lk
 have T:=c.tail _ X
 refine set_plain X I hs ?_
 have SF:=PySem.F.store_object
 obtain⟨cd,hc,hd⟩:=any_some hh
 have hcm:cd.mro=.ref C::bm:=by
  unfold clsIn at hc
  rw[lk] at hc
  cases hc
  rfl
 have ne:cd.mro.isEmpty=false:=by rw[hcm];rfl
 have hob:cd.mro.contains (.type "object")=true:=by rw[hcm,List.contains_cons,T.hasType (X := "object") (b:=true) (by decide +kernel),Bool.or_true]
 have sb:Looks (NJ prog w) s.heap (isInstance (.ref x) (.type "object")) true:=I.type.andThen (looks_mroIn X (by unfold mroIn;rw[hc,Option.bind_some,if_neg (by rw[ne];decide),hob]))
 refine codeAny_call_builtin SF.slot.plain SF.entry (@check_slot (NJ prog w) _ _ { s with toks:=s.toks+1 } "object.__setattr__" "object" "__setattr__" (.ref x) [.str name s.toks,v] [] _ SF.kind SF.split sb (SF.args (.ref x) (.str name s.toks) v) ?_)
 obtain⟨attr,ha,hr⟩:=Option.bind_eq_some_iff.mp ht
 have hm:Looks (NJ prog w) s.heap (mroOf (.ref C)) cd.mro:=(looks_clsIn X hc).andThen .now
 have L3:Looks (NJ prog w) s.heap (Builtin.ObjectAttr.storeTaker? attr) none:=by
  cases attr with
  | none=>exact .now
  | some a=>
   obtain⟨b,hb,hb2⟩:=Option.map_eq_some_iff.mp hr
   refine(looks_takesIn X hb).andThen ?_
   cases b with
   | false=>exact .now
   | true=>cases hb2
 rw[osa_eq,refuse_eq]
 refine LL (LL (I.type.here (s:={ s with toks:=s.toks+1 }) (LL (hm.here (s:={ s with toks:=s.toks+1 }) ?_))))
 rw[hcm,refuseLoop_ref,cC T]
 refine MI (LL (I.type.here (s:={ s with toks:=s.toks+1 }) (LL ((looks_findIn X ha).here (s:={ s with toks:=s.toks+1 }) (LL (L3.here (s:={ s with toks:=s.toks+1 }) ?_))))))
 show ND _ _ (Builtin.ObjectAttr.storeInOwnDict (.ref x) (.ref C) (.str name s.toks) name v _) _ _ _
 have hx₁:(s.heap.push { cls:=.type "dict", data:=.dict #[] }).get? x=some (Rt C none t):=LQ _ hx
 have hxs:x≠s.heap.objs.size:=NF (MQ hx)
 refine LL (MI (LL (LL (wpAny_loadPart hx (LL ((looks_clsIn X hc).here (s:={ s with toks:=s.toks+1 }) ?_))))))
 rw[hd,if_neg (by decide)]
 show ND _ _ (do
  let d <- alloc { cls:=QX "dict", data:=Data.dict #[] }
  update x λo=>{ cls:=o.cls,dict:=some d,data:=o.data,slots:=o.slots }
  dictMade (MO C) x d) _ _ _
 generalize hob1:({ cls:=QX "dict", data:=Data.dict #[] }:Obj)=dob at hx₁
 have g1:(s.heap.push dob).get? s.heap.objs.size=some dob:=MS _ (by subst hob1;rfl)
 refine LL (wpAny_alloc' (LL (wpAny_update' hx₁ (MI ?_))))
 have n1:(s.heap.push dob).Ns1 s.heap.objs.size (λ_=>none):=Heap.Ns1.of_empty ⟨dob,#[],_,g1,by subst hob1;rfl,λe he=>absurd he (by simp),λ_=>rfl⟩
 have sb2:=SU (a:=x) (s.heap.push dob) (λo=>{ cls:=o.cls,dict:=some s.heap.objs.size,data:=o.data,slots:=o.slots })
 have g2:=PY (λo=>{ cls:=o.cls,dict:=some s.heap.objs.size,data:=o.data,slots:=o.slots }) hx₁ rfl
 show ND _ _ (Builtin.ObjectAttr.storeInDict s.heap.objs.size (.str name s.toks) name v) _ _ _
 unfold Builtin.ObjectAttr.storeInDict Builtin.ObjectAttr.newKeyGuard
 refine LL (MI (LL (wpAny_nsSet1 (n1.sameBut sb2 (NT hxs)) λh' hn' hs'=>?_)))
 obtain⟨oD,esD,epD,hoD,hdD,hcD⟩:=hn'.count (Within.cons name v Within.nil)
 refine LL (wpAny_lookBehind hoD (by rw[hdD];exact pastItsLine_dict (NA hcD (by rw[MT,List.length_nil,LR];omega))) ?_)
 exact MI (h _ _ h' (λb o e=>LQ _ e) n1 sb2 g2 hs' hn')
end
structure vK(K:LO)(C:LZ)(f:Str):Prop where
 sa:findIn K (.ref C) "__setattr__" = some (some (.builtin "object.__setattr__"))
 na:findIn K (.ref C) f=some none
 hd:hasDictIn K C=true
 ga:findIn K (.ref C) "__getattribute__" = some (some (.builtin "BaseException.__getattribute__"))
 gn:findIn K (.ref C) "__getattr__" = some none
 be:mroIn K C (.type "BaseException")=some true
section
variable {prog:MV} {w:NU} {A:NV} {E:LP->LV->Prop} {s:LV} {K:LO} {C x:LZ} {name:Str} {v:LP} {ox od:Obj} {expr:Bool}
end
def DQ(K:LO)(ta tv:TE)(f:Str):TS:=λD σ H=>tv σ H λy H1=>ta σ H1 λxv H2=>∃x C bm t,xv=.ref x/\H2 x=some (uK x C none t)/\Yx K C bm/\vK K C f /\
 ∀dx,H2 dx=none->dx≠x->D.nx σ (upd (upd H2 x (uK x C (some dx) t)) dx (.xd [(f,y)]))
section
variable {X:Cx} {o e value:Expr} {f:Str} {pos pos':Pos} {ta tv:TE}
theorem yR(ha:PE X o ta)(hv:PE X value tv)(hs:swapsWith value (some (.Attribute o f pos')) pos.line X.env=pure false:=by rfl):PS X (.Assign [.Attribute o f pos'] value pos) (DQ X.K ta tv f):=by
 intro pins s σ H D I h
 refine plainObj_wpAny_Assign_Attribute (Bv (hv pins s σ H _ I h) λu s1 ⟨y,H1,I1,ry,q⟩=>Bv (ha pins s1 σ H1 _ I1 q) λov s2 ⟨xv,H2,I2,rx,x,C,bm,t,ex,ea,c,F,q2⟩=>?_) hs
 subst ex
 obtain rfl:ov=MO x:=rx
 have g:=qS I2.hok ea
 have hxs:x≠s2.heap.objs.size:=NF (MQ g)
 refine uZ I2.kIn c F.sa (Gn.taker F.na) F.hd g λh1 h2 h3 k1 n1 sb2 g2 sb3 n3=>?_
 have k3:∀b u,b≠x->s2.heap.get? b=some u->h3.get? b=some u:=λb u hb z=>(sb3.2 b (NF (MQ z))).trans ((sb2.2 b hb).trans (k1 b u z))
 have g3:h3.get? x=some (Rt C (some s2.heap.objs.size) t):=(sb3.2 x hxs).trans g2
 have J2:Inv X pins σ (upd H2 x (uK x C (some s2.heap.objs.size) t)) { s2 with heap:=h3,toks:=s2.toks+2 }:=
  I2.write (x:=x) (e:=x) (h':=h3) (by rw[ea];exact RK) (.inl rfl) k3 ⟨_,g3⟩ (sG g3)
 have fD:Dd X pins H2 s2.heap.objs.size:=I2.fpOk (MC _) (I2.hok.fresh (MC _))
 have J3:=J2.adopt (D:=s2.heap.objs.size) (o:=.xd [(f,y)]) (by rw[Ai (NT hxs)];exact fD.1) fD.2.1 I2.sz fD.2.2.2.2.1 fD.2.2.2.2.2
  ⟨_,n3,λg'=>by
   by_cases hg:g'=f
   ·subst hg
    show Hg (TX g' [(g',y)]) (if g'=g' then some u else none)
    rw[NS,beq_self_eq_true,if_pos rfl]
    exact ry
   ·show Hg (TX g' [(f,y)]) (if g'=f then some u else none)
    rw[NS,beq_eq_false_iff_ne.mpr hg,if_neg hg]
    exact RK⟩
 exact⟨σ,_,J3,q2 _ (I2.hok.fresh (MC _)) (NT hxs)⟩
end
section
variable {X:Cx} {EX:XS} {C f:LZ} {bm:List LP} {fd:NP} {ps:List Str} {sp:Sp} {k:Nat} {x:Str} {p pos cpos:Pos} {e:Expr} {es:List Expr} {t:TA}
def KI:XK:=λ_ _ _=>False
def yW(C:LZ)(sp:Sp)(EX:XS)(σ:St)(vs:List V)(H:Hp):Prop:=vs.length<=MG /\
 ∀x tt,H x=none->sp (.ref x::vs) (upd H x (uK x C none tt)) (λv H2=>v=.non/\∃dx,H2 x=some (uK x C dx tt)/\EX σ (.ref C) dx (rem H2 x)) KI
theorem nX(c:Yx X.K C bm)(hi:QD X.K (.ref C) "__init__" = some (some (.ref f)))(hfn:PySem.W.isFn X.K (.ref f)=true)(F:Aj X.prog X.w X.K X.mg X.base Bj k f fd ps sp)(hr:Cq (k+1) X.A)(hb:Binds X.K fd ps [])(hcl:X.calm=true){pins:List (LZ×Obj)}{σ:St}{H:Hp}{s:LV}{us:List LP}{vs:List V}(I:Inv X pins σ H s)(r:Vals vs us)(h:yW C sp EX σ vs H):
 ND (NJ X.prog X.w) X.A (call (.ref C) us) (λv s₁=>∃e dx t,v=.ref e/\X.K.In s₁.heap/\s₁.heap.get? e=some (Rt C dx t)/\Wx X EX (.ref e) s₁) (Wx X EX) s:=by
 obtain⟨hz,h⟩:=h
 obtain⟨nm,q,N,bs,hdct,sn,sub,ab,col,dd,k0,k1,k2,k3,k5,lk⟩:=c.obj
 have I0:=I.pins_of (pins':=[]) (λp hp=>nomatch hp)
 have fx:Dd X [] H (s.heap.objs.size+1):=I0.fpOk (TV _) (I0.hok.fresh (TV _))
 have hq:=h (s.heap.objs.size+1) s.heap.objs.size fx.1
 have k0':∀b o,s.heap.get? b=some o->((s.heap.push (Hi us)).push (Gs C s.heap.objs.size)).get? b=some o:=λb o e=>LQ _ (LQ _ e)
 have gx:((s.heap.push (Hi us)).push (Gs C s.heap.objs.size)).get? (s.heap.objs.size+1)=some (Rt C none s.heap.objs.size):=by
  have:=MS (s.heap.push (Hi us)) (o:=Gs C s.heap.objs.size) rfl
  rwa [QG] at this
 have I1:Inv X [] σ H { s with heap:=(s.heap.push (Hi us)).push (Gs C s.heap.objs.size),toks:=s.toks }:=I0.kept k0'
 have I2:=I1.adopt (D:=s.heap.objs.size+1) (o:=uK (s.heap.objs.size+1) C none s.heap.objs.size) fx.1 fx.2.1 (NA I.sz (TV _)) fx.2.2.2.2.1 fx.2.2.2.2.2 (sG gx)
 have r2:Vals (V.ref (s.heap.objs.size+1)::vs) (MO (s.heap.objs.size+1)::us):=.cons rfl r
 have hl:(MO (s.heap.objs.size+1)::us++[]).length=ps.length:=by
  have e:=r2.length
  rw[F.len _ _ _ _ hq] at e
  rw[NL]
  exact e.symm
 have hbb:=hb _ (MO (s.heap.objs.size+1)::us) I2.kIn hl
 rw[NL] at hbb
 obtain⟨hh,g,d,tk,os⟩:=s
 refine wpAny_call (yA PySem.F.excBase_ValueError (by decide +kernel) PySem.F.excBase_ValueError (c.tail _ I.kIn) (I.kIn C _ lk) (PySem.W.looks_findIn I.kIn hi) (λself=>PySem.W.bind_fn I.kIn self (beq_iff_eq.mp hfn)) (by rw[<- r.length];exact hz) ?_)
 refine RM (F.run _ X.stack _ _ ⟨MO (hh.objs.size+1)::us,[]⟩ (MO (hh.objs.size+1)::us) _ _ KI ⟨hr.make C us [],(λz=>nomatch z),I2.ok.hd hcl⟩ (I2.env0.make C us []) hbb r2 hq) λr s' hq'=>?_
 cases r with
 | error e=>exact OT hq'
 | ok fl=>
  cases fl with
  | ret u=>
   obtain⟨v,H',I3,rv,ev,dx,ex,q3⟩:=I2.after hq'
   subst ev
   have g3:=qS I3.hok ex
   have I4:=I3.drop ex
   refine⟨rv,_,dx,_,rfl,I4.kIn,g3,_,_,dx,_,σ,rfl,I4,⟨Jj,fx.2⟩,.inl ⟨_,_,⟨g3,rfl,rfl,rfl,rfl,rfl⟩⟩,q3⟩
  | next=>exact OT hq'
  | brk=>exact OT hq'
  | cont=>exact OT hq'
def wX(C:LZ)(sp:Sp)(EX:XS)(t:TA):TS:=λ_ σ H=>t σ H λvs H1=>yW C sp EX σ vs H1
theorem nD(hcalm:X.sx=true)(c:Yx X.K C bm)(hbase:bm.contains (.type "BaseException")=true)(hi:QD X.K (.ref C) "__init__" = some (some (.ref f)))(hfn:PySem.W.isFn X.K (.ref f)=true)(F:Aj X.prog X.w X.K X.mg X.base Bj k f fd ps sp)(hr:Cq (k+1) X.A)(hb:Binds X.K fd ps [])(hg:Gl X x)(hm:X.mg x=some (.ref C))(ha:PA (X.thrown EX) (e::es) t)(hdb:(x == ("__debug__" : Str))=false:=by decide)(he:NH (e::es) X.env=(false,RY e X.env)::NH es X.env:=by rfl)(hpl:(SR cpos (NH es X.env)).any (·.1)=false:=by rfl)(hcl:X.calm=true:=by rfl):
 PS (X.thrown EX) (.Raise (some (.Call (.Name x p) (e::es) [] cpos)) none pos) (wX C sp EX t):=by
 intro pins s σ H D I h
 rw[arm_exec_Raise]
 refine LL (UL ?_)
 show ND _ _ (raiseStmt _ (some (do let v <- RY (.Call (.Name x p) (e::es) [] cpos) X.env;standAt pos;pure v)) none) _ _ _
 refine DA c hbase (I.ok.st hcalm) (LL (Bv ?_ λv s1 z=>LL (UL (MI z))))
 refine RZ (Jb I hg hm ?_ hdb)
 refine RU (h₀:=X.base) I.ok.mod.kin c.kp (Bv (ha cpos pins s σ H _ I h) λus s1 ⟨vs,H1,I1,r,q⟩=>⟨I1.kIn,?_⟩) he hpl
 exact nX c hi hfn F hr hb hcl I1.unwish r q
end
section
variable {X:Cx} {pins:List (LZ×Obj)} {σ:St} {H:Hp} {s:LV} {M:Model} {A:NV} {E:LP->LV->Prop}
end
section
variable {X:Cx} {σ:St} {H:Hp} {s:LV} {x:LZ}
end
section
variable {X:Cx} {EX:XS} {th:Ends->XS} {hs:List TY} {C:LZ} {c n:Str} {i:Nat} {np pos:Pos} {b₀:RL} {suite:List RL} {tsu:TS}
end
end L2
namespace L2
open PySem PySem.Spec PyProof.Rows PyProof.V PySem.SeqAt
mutual
inductive DV(K:LO)(H:Hp):V->TZ->Prop
 | non:DV K H .non .none
 | bl (b:Bool):DV K H (.bl b) (.bool b)
 | int (i:Int):DV K H (.int i) (.int i)
 | str (x:Str):DV K H (.str x) (.str x)
 | lst {a:LZ} {xs:List V} {ds:List TZ}:Av K H a xs->DVs K H xs ds->DV K H (.ref a) (.list ds)
 | tup {a:LZ} {xs:List V} {ds:List TZ}:Dq K H a xs->DVs K H xs ds->DV K H (.ref a) (.tuple ds)
inductive DVs(K:LO)(H:Hp):List V->List TZ->Prop
 | nil:DVs K H [] []
 | cons {x:V} {xs:List V} {d:TZ} {ds:List TZ}:DV K H x d->DVs K H xs ds->DVs K H (x::xs) (d::ds)
end
section
variable {X:Cx} {pins:List (LZ×Obj)} {σ:St} {H:Hp} {s:LV}
mutual
theorem DV.reads(I:Inv X pins σ H s):∀ {v:V} {d:TZ} {u:LP},DV X.K H v d->RelV v u->∃as,Reads s.heap u d as
 | _,_,_,.non,r=>by cases r;exact⟨_,.none⟩
 | _,_,_,.bl b,r=>by cases r;exact⟨_,.bool b⟩
 | _,_,_,.int i,r=>by obtain⟨t,rfl⟩:=r;exact⟨_,.int i t⟩
 | _,_,_,.str x,r=>by obtain⟨t,rfl⟩:=r;exact⟨_,.str x t⟩
 | _,_,_,.lst hq ds,r=>by
  cases r
  obtain⟨its,rv,p,_⟩:=I.list hq
  obtain⟨as,ra⟩:=DVs.reads I ds rv
  obtain⟨o,ho,hc,n,hd⟩:=p.isList
  exact⟨_,Reads.list ho hc hd (by simpa using ra)⟩
 | _,_,_,.tup hq ds,r=>by
  cases r
  obtain⟨its,rv,p,_⟩:=I.tuple hq
  obtain⟨as,ra⟩:=DVs.reads I ds rv
  obtain⟨o,ho,hc,n,hd⟩:=p
  exact⟨_,Reads.tuple ho hc hd (by simpa using ra)⟩
theorem DVs.reads(I:Inv X pins σ H s):∀ {vs:List V} {ds:List TZ} {us:List LP},DVs X.K H vs ds->Vals vs us->∃as,ReadsAll s.heap us ds as
 | _,_,_,.nil,r=>by cases r;exact⟨_,.nil⟩
 | _,_,_,.cons d ds,r=>by
  cases r with
  | cons r1 r2=>
   obtain⟨as,ra⟩:=DV.reads I d r1
   obtain⟨bs,rb⟩:=DVs.reads I ds r2
   exact⟨_,.cons ra rb⟩
end
end
def rT(K:LO)(neg:Bool):R2:=λx y H Q=>∃d e,DV K H x d/\DV K H y e/\shaped d=true/\shaped e=true/\noMix d e=true/\Q (.bl (if neg then !same d e else same d e)) H
theorem BW{X:Cx}(hu:X.A.units+64 < cLine):Mr X (QW .Eq) (rT X.K false):=by
 intro pins s σ H x y v u Q I rx ry h
 obtain⟨d,e,hd,he,sd,se,hm,q⟩:=h
 obtain⟨as,ra⟩:=hd.reads I rx
 obtain⟨bs,rb⟩:=he.reads I ry
 exact eq_dataH_same ra rb sd se hu hm ⟨.bl _,H,I,rfl,q⟩
theorem cQ{X:Cx}(hu:X.A.units+64 < cLine):Mr X (QW .NotEq) (rT X.K true):=by
 intro pins s σ H x y v u Q I rx ry h
 obtain⟨d,e,hd,he,sd,se,hm,q⟩:=h
 obtain⟨as,ra⟩:=hd.reads I rx
 obtain⟨bs,rb⟩:=he.reads I ry
 exact ne_dataH_same ra rb sd se hu hm ⟨.bl _,H,I,rfl,q⟩
mutual
def Fh:TZ->Bool
 | .none | .bool _ | .int _=>true
 | .str x=>PyData.strOk x
 | .list xs | .tuple xs=>plainDs xs
 | .dict _=>false
def plainDs:List TZ->Bool
 | []=>true
 | x::xs=>Fh x && plainDs xs
end
mutual
theorem same_self:∀d:TZ,Fh d=true->same d d=true/\noMix d d=true/\d.canLay0=true
 | .none,_=>by simp[same,noMix,PyData.canLay0]
 | .bool b,_=>by simp[same,noMix,PyData.canLay0]
 | .int b,_=>by simp[same,noMix,PyData.canLay0]
 | .str b,h=>by simp only[Fh] at h;simp[same,noMix,PyData.canLay0,h]
 | .list xs,h=>by
  simp only[Fh] at h
  obtain⟨a,b,c⟩:=sames_self xs h
  simp[same,noMix,PyData.canLay0,a,b,c]
 | .tuple xs,h=>by
  simp only[Fh] at h
  obtain⟨a,b,c⟩:=sames_self xs h
  simp[same,noMix,PyData.canLay0,a,b,c]
 | .dict xs,h=>by simp[Fh] at h
theorem sames_self:∀ds:List TZ,plainDs ds=true->sameAll ds ds=true/\noMixAll ds ds=true/\PyData.canLayAll0 ds=true
 | [],_=>by simp[sameAll,noMixAll,PyData.canLayAll0]
 | x::xs,h=>by
  simp only[plainDs,OX] at h
  obtain⟨a,b,c⟩:=same_self x h.1
  obtain⟨a',b',c'⟩:=sames_self xs h.2
  simp[sameAll,noMixAll,PyData.canLayAll0,a,b,c,a',b',c']
end
theorem Vg{d:TZ}(h:Fh d=true)(hd:d.depth<=64):shaped d=true:=by
 show (d.canLay0 && decide (d.depth<=64))=true
 rw[(same_self d h).2.2,decide_eq_true hd]
 rfl
end L2
namespace L2
open PySem PySem.Spec PyProof.Rows
def xR(z:Nat)(it a:LZ)(n:Int):HO:=.ext λh=>h.IsRevIter it a n/\z<=it
theorem vP{P:MV}{w:NU}{H:Hp}{h:OS}{z:Nat}{it a:LZ}{n:Int}(e:h.IsRevIter it a n)(hz:z<=it):Cg P w H h it (xR z it a n):=⟨⟨e,hz⟩,let ⟨o,g,_⟩:=e;⟨o,g⟩,λh1 h2 ⟨a,b⟩ k=>⟨a.at k,b⟩⟩
theorem Inv.fpOf{X:Cx}{pins:List (LZ×Obj)}{σ:St}{H:Hp}{s:LV}{x:LZ}{φ:OS->Prop}(I:Inv X pins σ H s)(hx:H x=some (.ext φ))(hz:X.s₀.heap.objs.size<=x):Dd X pins (rem H x) x:=by
 have no:∀ {b},H b=none->x≠b:=λ{b} h e=>by subst e;rw[hx] at h;cases h
 refine⟨Jj,no I.free,λhb=>?_,.inr hz,λy c e=>NT (no (I.freeC y c e)),λp hp=>NT (no (I.pin p hp).2.1)⟩
 obtain⟨_,o,ho,_⟩:=I.ok.funs.mem hb
 exact no (I.base.free x o ho (I.ok.frf x hb) λz=>I.ok.exfs x z hb) rfl
theorem yC{H:Hp}{x:LZ}{o:HO}(h:H x=none):rem (upd H x o) x=H:=by
 funext b
 by_cases e:b=x
 ·subst e
  rw[Jj,h]
 ·rw[Wz e,Ai e]
section
variable {prog:MV} {w:NU} {A:NV} {E:LP->LV->Prop} {s:LV}
theorem Ub:typeLookup (.type "list_reverseiterator") "__len__" = pure none:=by rw[typeLookup_type,builtinLookup_eq_fast];kernel_rfl
theorem Yo:typeLookup (.type "list_reverseiterator") "__length_hint__" = pure (some (.builtin "list_reverseiterator.__length_hint__")):=by rw[typeLookup_type,builtinLookup_eq_fast];kernel_rfl
theorem Zn{Q:LP->LV->Prop}{it l:LZ}{items:Array LP}(hh:A.handled=none)(hit:s.heap.IsRevIter it l ((items.size:Int)-1))(hl:s.heap.IsList l items)(hne:l≠it)(hn:items.size<=MG)(hQ:∀s' acc' c',Moved (s.heap.objs.size::[it]) (λa b=>b=a) { s with heap:=s.heap.push { cls:=.type "list", data:=.seq #[] } } s' ->
  s'.heap.get? s.heap.objs.size=some { cls:=.type "list", dict:=none,data:=.seq acc' c',slots:=#[] }->ItemsOf (λi v=>items[items.size-1-i]? = some v) acc' items.size->Q (.ref s.heap.objs.size) s'):
 ND (NJ prog w) A (call (.type "list") [.ref it]) Q E s:=by
 have hiL:it < s.heap.objs.size:=let ⟨_,g,_⟩:=hit;MQ g
 have hlL:l < s.heap.objs.size:=let ⟨_,g,_⟩:=hl;MQ g
 have hSf:s.heap.objs.size∉[it,l]:=by
  simp only[LX,MM,or_false,not_or]
  exact⟨RJ hiL,RJ hlL⟩
 have hSI:s.heap.objs.size≠it:=RJ hiL
 refine callType_codes (Q₁:=λobj s₁=>obj=.ref s.heap.objs.size/\s₁={ s with heap:=s.heap.push { cls:=.type "list", data:=.seq #[] } }) PySem.F.called_list (PySem.F.typeCall_list_1 _) PySem.F.entry_list_init (code_list_new _ ⟨rfl,rfl⟩) ?_
 rintro obj s₁ ⟨rfl,rfl⟩
 have hS:(s.heap.push { cls:=.type "list", data:=.seq #[] }).get? s.heap.objs.size=some { cls:=.type "list", data:=.seq #[] }:=MS _ rfl
 refine⟨⟨_,hS,rfl⟩,PySem.F.args_list_init_2 _ _,?_⟩
 have hit1:=hit.at (h':=s.heap.push { cls:=.type "list", data:=.seq #[] }) λo e=>LQ _ e
 have hl1:=hl.push { cls:=.type "list", data:=.seq #[] }
 generalize hnew:s.heap.push { cls:=.type "list", data:=.seq #[] }=hp0 at hS hit1 hl1 hQ ⊢
 show ND _ A.in1.in1 (Builtin.List.listItems (.ref s.heap.objs.size) >>= λold=>Builtin.List.listUpdate (.ref s.heap.objs.size) (λ_=>#[]) >>= λ_=>letGo old.toList.reverse >>= λ_=>Builtin.List.listExtendWith (.ref s.heap.objs.size) (.ref it) .none) _ _ _
 refine LL (LL (PF hS rfl (MI ?_)))
 refine LL (m:=Builtin.List.listUpdate (.ref s.heap.objs.size) (λ_=>#[])) (show ND _ _ (updateSeq s.heap.objs.size (λ_=>#[])) _ _ _ from wpAny_updateSeq hS rfl (LL (TK ?_)))
 have hS2:=PY (UG (λ_=>(#[]:Array LP))) hS rfl
 have oth:∀b o,b≠s.heap.objs.size->hp0.get? b=some o->(hp0.update s.heap.objs.size (UG (λ_=>(#[]:Array LP)))).get? b=some o:=λb o hb e=>(NZ _ _ (NT hb)).trans e
 have hit2:=hit1.at (h':=hp0.update s.heap.objs.size (UG (λ_=>(#[]:Array LP)))) λo e=>oth it o (NT hSI) e
 have hl2:=hl1.at (h':=hp0.update s.heap.objs.size (UG (λ_=>(#[]:Array LP)))) λo e=>oth l o (NF hlL) e
 generalize hup:hp0.update s.heap.objs.size (UG (λ_=>(#[]:Array LP)))=hp1 at hS2 oth hit2 hl2 ⊢
 have hT:(⟨hp1,s.gens,s.drawn,s.toks,s.os⟩:LV).TypeIs (.ref it) "list_reverseiterator" := hit2.typeIs
 unfold Builtin.List.listExtendWith
 refine LL (wpAny_typeOf hT ?_)
 have h1:Builtin.List.listSameRef (.ref s.heap.objs.size) (.ref it)=false:=by simp[Builtin.List.listSameRef,hSI]
 have h2:(QX "list_reverseiterator" == QX "list")=false:=by decide
 have h3:(QX "list_reverseiterator" == QX "tuple")=false:=by decide
 simp only[h1,h2,h3,Bool.or_false,RX,if_false]
 refine LL (wpAny_pyIter_revIter hit2 (LL (PM ?_)))
 have q1:=Ub
 have q2:=Yo
 have q3:splitId "list_reverseiterator.__length_hint__" = some ("list_reverseiterator","__length_hint__"):=by decide +kernel
 have q4:isSubtype (.type "list_reverseiterator") (.type "list_reverseiterator")=pure true:=by rw[isSubtype_type];kernel_rfl
 unfold Builtin.List.listLengthHint
 refine LL (wpAny_specialOf hT Ub ?_)
 show ND _ _ (specialOf (MO it) (ON "__length_hint__") >>= _) _ _ _
 refine LL (wpAny_specialOf hT Yo ?_)
 simp only[q3]
 refine LL (SV hT q4 ?_)
 simp only[Bool.not_true,RX,if_false]
 rw[if_pos (by decide +kernel),if_neg (by decide +kernel)]
 refine MI ?_
 rw[if_neg (by decide +kernel)]
 have hW:=(Walks.listRev (prog:=prog) (w:=w) (A:=A.in1.in1) (by simpa using hh) it l hne items).toS
 refine MI ⟨plainId_quiet PySem.F.plain_extend_loop _,codeAny_extend_loopS hW hn _ hSf .none items.size 0 _ _ _ rfl (NI _) ⟨NI _,by simpa using hit2,hl2⟩ hS2 (ItemsOf.nil _) λs' acc' c' hm hS' hacc=>⟨rfl,?_⟩⟩
 refine hQ s' acc' c' ?_ hS' hacc
 have m0:Moved [s.heap.objs.size,it] (λa b=>b=a) (⟨hp0,s.gens,s.drawn,s.toks,s.os⟩:LV) ⟨hp1,s.gens,s.drawn,s.toks,s.os⟩:=⟨λb o hb e=>oth b o (λh=>hb (by rw[h];exact MD)) e,rfl,rfl,rfl,MC _⟩
 exact Moved.trans hW.gtrans m0 hm
end
section
variable {X:Cx}
theorem boot_reversed:SA "reversed" = some (.type "reversed"):=by decide +kernel
theorem Ti:Fs X (.type "reversed") (λxs H Q=>∃a ys,xs=[.ref a]/\Av X.K H a ys/\∀it,H it=none->Q (.ref it) (upd H it (xR X.s₀.heap.objs.size it a ((ys.length:Int)-1)))):=by
 intro pins s σ H xs us Q I r h
 obtain⟨a,ys,rfl,hq,q⟩:=h
 obtain⟨u,rfl,ru⟩:=vals1 r
 cases ru
 obtain⟨its,rv,p,_⟩:=I.list hq
 refine call_reversed_list p.isList ?_
 have hlen:=rv.length
 refine⟨.ref s.heap.objs.size,_,I.laid (t':=s.toks) (o:=xR X.s₀.heap.objs.size s.heap.objs.size a ((ys.length:Int)-1)) (λb o e=>LQ _ e) (MC _) (vP ⟨_,MS _ rfl,rfl,?_⟩ I.sz),rfl,q _ (I.hok.fresh (MC _))⟩
 show Data.fields #[.ref a,RP _]=_
 rw[NE,hlen]
theorem Td(hc:X.sx=true):Fs X (.type "list") (λxs H Q=>∃it a ys,xs=[.ref it]/\H it=some (xR X.s₀.heap.objs.size it a ((ys.length:Int)-1))/\Av X.K H a ys/\∀l,H l=none->Q (.ref l) (upd (rem H it) l (.lst ys.reverse))):=by
 intro pins s σ H xs us Q I r h
 obtain⟨it,a,ys,rfl,hi,hq,q⟩:=h
 obtain⟨u,rfl,ru⟩:=vals1 r
 cases ru
 obtain⟨its,rv,p,hz⟩:=I.list hq
 have hlen:=rv.length
 obtain⟨hit0,hzi⟩:=(I.hok it _ hi).1
 have hit:s.heap.IsRevIter it a ((its.toArray.size:Int)-1):=by
  rw[NE,<- hlen]
  exact hit0
 have hne:a≠it:=λe=>by
  subst e
  obtain⟨o,g,c,_⟩:=hit
  obtain⟨o',g',c',_⟩:=p.isList
  rw[g] at g'
  cases g'
  rw[c] at c'
  exact absurd c' (by decide)
 refine Zn (I.ok.st hc) hit p.isList hne (by rw[NE];omega) λs' acc' c' hm hS hacc=>?_
 obtain⟨h',g',d',t',os'⟩:=s'
 obtain rfl:os'=s.os:=hm.os
 obtain rfl:d'=s.drawn:=hm.drawn
 obtain rfl:g'=s.gens:=hm.gens
 have k:∀b u,b∉[it]->s.heap.get? b=some u->h'.get? b=some u:=λb u hb e=>hm.heap b u (by
  simp only[LX,MM,or_false,not_or] at hb ⊢
  exact⟨NF (MQ e),hb⟩) (LQ _ e)
 have I0:=I.drop hi
 have f0:=I.fpOf hi hzi
 have J1:Inv X pins σ (rem H it) { s with heap:=h',toks:=t' }:=I0.turns (ch:=[it]) k λb hb=>by
  rw[MA.mp hb]
  exact f0
 have fD:Dd X pins H s.heap.objs.size:=I.fpOk (MC _) (I.hok.fresh (MC _))
 have ea:acc'.toList=its.reverse:=by
  obtain⟨hs1,hs2⟩:=hacc
  rw[NE] at hs1 hs2
  refine List.ext_getElem (by rw[SI];simpa using hs1) λj h1 h2=>?_
  rw[SI] at h2
  have e1:=hs2 j acc'.toList[j] (by rw[<- UU,LU h1])
  rw[List.getElem_reverse]
  have e2:its[its.length-1-j]? = some acc'.toList[j]:=by simpa using e1
  exact(LM.mp e2).2.symm
 have rv':Vals ys.reverse acc'.toList:=by
  rw[ea]
  exact rv.reverse
 have J2:=J1.adopt (D:=s.heap.objs.size) (o:=.lst ys.reverse) (Kc fD.1) fD.2.1 I.sz fD.2.2.2.2.1 fD.2.2.2.2.2 ⟨by rw[SI];exact hz,acc'.toList,c',rv',by simpa using hS⟩
 exact⟨.ref s.heap.objs.size,_,J2,rfl,q _ fD.1⟩
end
def Yi(P:MV)(w:NU)(a:LZ)(n:Nat):HO:=.ext λh=>∃S,h.SetOf (RT P w) a S n
theorem Ro{P:MV}{w:NU}{h h':OS}{a:LZ}{S:Str->Bool}{n:Nat}(e:h.SetOf (RT P w) a S n)(k:∀o,h.get? a=some o->h'.get? a=some o):h'.SetOf (RT P w) a S n:=by
 obtain⟨o,es,ep,t,g,r⟩:=e
 exact⟨o,es,ep,t,k o g,r⟩
section
variable {prog:MV} {w:NU} {A:NV} {R:Result->LV->Prop} {I:LZ} {fp wr:List LZ} {G:Array GenState->Array GenState->Prop} {n:Nat} {P:Nat->LP->Prop} {St:Nat->LV->Prop}
theorem tV(W:WalksS prog w A.in1 I fp wr G n P St)(S:LZ)(hS:S∉fp)(val:Nat->Str)(hval:∀i v,P i v->∃t,v=.str (val i) t)(hinj:∀i j,i < n->j < n->val i=val j->i=j)(hb:n+1 < scanBound):
 ∀(k i:Nat)(s:LV),n-i=k->i<=n->St i s->(∃f:Str->Bool,s.heap.SetOf (RT prog w) S f i/\∀x,f x=true->∃j,j < i/\x=val j) ->
  (∀s',Moved (S::wr) G s s'->(∃f:Str->Bool,s'.heap.SetOf (RT prog w) S f n)->R (.ok (.ret .none)) s') ->
  codeAny (NJ prog w) A (.builtin "set.update.loop" ⟨[.ref S,.ref I],[]⟩) R s:=by
 have hw:S∉wr:=λh=>hS (W.sub _ h)
 have up:∀b∈wr,b∈S::wr:=λb hb=>ME _ hb
 intro k
 induction k with
 | zero=>
  intro i s hk hi st ⟨f,hf,_⟩ hR
  obtain rfl:i=n:=by omega
  refine RS PyProof.Rows.F.entry_set_update_loop ?_
  rw[SK TM _]
  refine LL (m:=RI (.ref I)) (W.done s _ _ st λs' hm=>MI (hR s' (hm.mono up) ⟨f,Ro hf λo e=>hm.heap S o hw e⟩))
 | succ k ih=>
  intro i s hk hi st ⟨f,hf,hfv⟩ hR
  have hlt:i < n:=by omega
  refine RS PyProof.Rows.F.entry_set_update_loop ?_
  rw[SK TM _]
  refine LL (m:=RI (.ref I)) (W.item i s _ _ hlt st λv s' hP st' hm=>?_)
  obtain⟨t,rfl⟩:=hval i v hP
  have hf':=Ro (h':=s'.heap) hf λo e=>hm.heap S o hw e
  refine LL (m:=holding [Value.str (val i) t] (setAdd S (.str (val i) t))) (PM ?_)
  unfold setAdd
  refine PM (LL ((RT prog w).pyHash (k:=val i) (PySem.strKind_is _ _ _ _) ?_))
  have hno:f (val i)=false:=by
   cases e:f (val i) with
   | false=>rfl
   | true=>
    obtain⟨j,hj,ej⟩:=hfv _ e
    have:=hinj i j hlt (by omega) ej
    omega
  refine wpAny_setAddHashed_of (knd:=RT prog w) (s:={ s' with toks:=s'.toks+1 }) (PySem.strKind_is _ _ _ _) rfl hf' (by omega) λh' sb h2=>?_
  rw[hno,if_neg LY] at h2
  refine MI ⟨plainId_quiet TM _,ih (i+1) _ (by omega) hlt (W.frame _ s' _ _ st' (TV _) λb hb o e=>(sb.2 b (λh=>hS (h ▸ hb))).trans e) ⟨_,h2,λx hx=>?_⟩ λs2 m2 f2=>hR s2 ?_ f2⟩
  ·rw[Bool.or_eq_true] at hx
   rcases hx with z | z
   ·obtain⟨j,hj,e⟩:=hfv x z
    exact⟨j,by omega,e⟩
   ·exact⟨i,by omega,of_decide_eq_true z⟩
  ·exact Moved.trans W.gtrans ((hm.mono up).then_heap (TV _) λb o hb e=>(sb.2 b (λh=>hb (by rw[h];exact MD))).trans e) m2
end
section
variable {prog:MV} {w:NU} {A:NV} {E:LP->LV->Prop} {s:LV}
abbrev Gu(led:Bool):Obj:={ cls:=.type "set", dict:=none,data:=.set #[] 0 (.fresh 0 0 led) }
theorem Wo{l:LZ}{items:Array LP}{xs:List Str}{Q:LP->LV->Prop}(hh:Bm A s.heap)(hl:s.heap.IsList l items)(hi:∀(i:Nat)(v:LP),items[i]? = some v->∃(x:Str)(t:Tok),xs[i]? = some x/\v=Value.str x t)(hlen:items.size=xs.length)(hnd:xs.Nodup)(hb:xs.length+1 < scanBound)(h:∀h' tk,(∃f:Str->Bool,h'.SetOf (RT prog w) s.heap.objs.size f xs.length)->(∀b o,s.heap.get? b=some o->h'.get? b=some o)->Q (.ref s.heap.objs.size) { s with heap:=h',toks:=tk }):
 ND (NJ prog w) A (call (.type "set") [.ref l]) Q E s:=by
 have hlS:l < s.heap.objs.size:=let ⟨_,g,_⟩:=hl;MQ g
 obtain⟨c,tl,hmro⟩:=RA.mro
 have hmade:=RA.made
 have hsub:=RA.sub
 refine wpAny_call (codeAny_of_tree (show ND _ _ (callAny (.type "set") _) _ _ _ from MI ⟨Code.quiet_builtin _ (by decide +kernel),RS PySem.F.entry_type_call ?_⟩))
 rw[Around.under_plain (weight_type_call_type "set" [.ref l] []) rfl]
 have h1:=RA.notType
 have h2:=RA.canCreate
 have hct:=PySem.F.typeCall_set_1 (.ref l)
 repeat (any_goals (first | assumption | wp_step))
 refine RM (code_set_new_1 (.ref l) (E:=E) (Q₁:=λobj s₁=>∃led:Bool,obj=.ref s.heap.objs.size/\s₁={ s with heap:=s.heap.push (Gu led) }) λled=>⟨led,rfl,rfl⟩) λr s₁ hr=>?_
 rcases r with e | (obj | _ | _ | _)<;>first | exact hr | exact hr.elim | skip
 obtain⟨led,rfl,rfl⟩:=hr
 have hS:(s.heap.push (Gu led)).get? s.heap.objs.size=some (Gu led):=MS _ rfl
 have hT:Shared.TypeIs { s with heap:=s.heap.push (Gu led) } (.ref s.heap.objs.size) "set" := ⟨_,hS,rfl⟩
 have hli:=RA.init.lookup
 have hbi:=RA.init.bind (.ref s.heap.objs.size)
 repeat (any_goals (first | assumption | wp_step))
 refine RM (codeAny_call_builtin (R:=wants (λr s₂=>r=.none/\∃h' tk,s₂={ s with heap:=h',toks:=tk }/\(∃f:Str->Bool,h'.SetOf (RT prog w) s.heap.objs.size f xs.length)/\(∀b o,s.heap.get? b=some o->h'.get? b=some o)) E) RA.init.plain PySem.F.entry_set_init (check_set_init_1 hT ?_)) λr₂ s₂ hr₂=>?_
 ·have hl1:(s.heap.push (Gu led)).IsList l items:=hl.push _
  obtain⟨⟨ocls,odict,odata,oslots⟩,hol,hcl,nl,hdl⟩:=id hl1
  simp only at hcl hdl
  subst hcl hdl
  have hsls:=PySem.F.sub_list_set
  have hslf:=PySem.F.sub_list_frozenset
  have hne:(QX "list" == QX "dict")=false:=by decide
  unfold Builtin.«set.__init__» noKeywords Builtin.Frozenset.updateFrom
  generalize hPI:pyIter=PI
  wp_walk
  subst hPI
  refine SM hl1 (LL (wpAny_runValue ?_))
  have sz:(s.heap.push (Gu led)).objs.size=s.heap.objs.size+1:=QG _ _
  have hneI:l≠(s.heap.push (Gu led)).objs.size:=by rw[sz];exact NF (Nat.lt_succ_of_lt hlS)
  refine tV ((cN (A:=A.in1.in1.in1) _ l hneI items).toS) s.heap.objs.size ?_ (λi=>xs.getD i (ON "")) ?_ ?_ (by omega) (items.size-0) 0 _ (by omega) (NI _) ⟨⟨_,MS _ rfl,rfl,rfl⟩,hl1.push _,hh.ext λb o e=>LQ _ (LQ _ e)⟩ ⟨λ_=>false,?_,λx hx=>absurd hx LY⟩ ?_
  ·simp only[LX,MM,or_false,not_or,sz]
   exact⟨NF (Nat.lt_succ_self _),RJ hlS,λz=>absurd (Bm.lt (A:=A.in1.in1.in1) hh _ z) (SH _)⟩
  ·intro i v hv
   obtain⟨x,t,hx,e⟩:=hi i v hv
   exact⟨t,by rw[e,MF,hx];rfl⟩
  ·intro i j hi' hj' e
   rw[hlen] at hi' hj'
   rw[MF,MF,LU hi',LU hj'] at e
   exact(List.getElem_inj hnd).mp e
  ·exact(setObjOf_fresh (knd:=RT prog w) led).setOf (LQ _ hS) (by unfold scanBound;omega)
  ·rintro⟨h',g',d',tk',os'⟩ hm ⟨f,hf⟩
   obtain rfl:g'=s.gens:=hm.gens
   obtain rfl:d'=s.drawn:=hm.drawn
   obtain rfl:os'=s.os:=hm.os
   refine MI (MI ⟨rfl,h',tk',rfl,⟨f,hlen ▸ hf⟩,λb o e=>hm.heap b o ?_ (LQ _ (LQ _ e))⟩)
   simp only[LX,MM,or_false,not_or,sz]
   exact⟨NF (MQ e),NF (Nat.lt_succ_of_lt (MQ e))⟩
 ·rcases r₂ with e | (obj | _ | _ | _)<;>first | exact hr₂ | exact hr₂.elim | skip
  obtain⟨rfl,h',tk,rfl,hf,hk⟩:=hr₂
  repeat (any_goals (first | assumption | wp_step))
  exact h _ _ hf hk
end
section
variable {X:Cx}
theorem Ve:SA "set" = some (.type "set"):=by decide +kernel
theorem Jl(hc:X.calm=true):Fs X (.type "set") (λys H Q=>∃(a:LZ)(xs:List Str),ys=[.ref a]/\Av X.K H a (xs.map V.str)/\xs.Nodup/\xs.length+1 < scanBound/\∀p,H p=none->Q (.ref p) (upd H p (Yi X.prog X.w p xs.length))):=by
 intro pins s σ H ys us Q I r h
 obtain⟨a,xs,rfl,hq,hnd,hb,q⟩:=h
 obtain⟨u,rfl,ru⟩:=vals1 r
 cases ru
 obtain⟨its,rv,p,hz⟩:=I.list hq
 have hlen:=rv.length
 rw[LN] at hlen
 refine Wo (xs:=xs) (I.calmS hc) p.isList (λi v hv=>?_) (by rw[NE];exact hlen.symm) hnd hb λh' tk ⟨f,hf⟩ k=>?_
 ·have hv':its[i]? = some v:=by simpa using hv
  have hil:i < xs.length:=by rw[hlen];exact(LM.mp hv').1
  obtain⟨v2,e2,r2⟩:=rv.get (i:=i) (x:=.str xs[i]) (by rw[MX,LU hil]<;>rfl)
  rw[hv'] at e2
  cases e2
  obtain⟨t,e⟩:=r2
  exact⟨xs[i],t,LU hil,e⟩
 ·obtain⟨o,es,ep,t,g,rr⟩:=id hf
  exact⟨.ref s.heap.objs.size,_,I.laid (t':=tk) (o:=Yi X.prog X.w s.heap.objs.size xs.length) k (MC _) ⟨⟨f,hf⟩,⟨o,g⟩,λh1 h2 ⟨f1,e1⟩ k1=>⟨f1,Ro e1 k1⟩⟩,rfl,q _ (I.hok.fresh (MC _))⟩
theorem Ky:Fs X (.builtin "len") (λys H Q=>∃a n,ys=[.ref a]/\H a=some (Yi X.prog X.w a n)/\Q (.int (n:Nat)) H):=by
 intro pins s σ H ys us Q I r h
 obtain⟨a,n,rfl,ha,q⟩:=h
 obtain⟨u,rfl,ru⟩:=vals1 r
 cases ru
 obtain⟨f,o,es,ep,t,g,hex,hd,_,_,hb,hf,hn⟩:=(I.hok a _ ha).1
 subst hn
 exact call_len_set g hex hd hf (by unfold scanBound at hb;omega) ⟨.int (es.size:Nat),H,I.tok _,⟨_,rfl⟩,q⟩
end
section
variable {X:Cx} {K:LO} {a e:Expr} {ta te:TE}
def HZ(K:LO)(ta:TE):TT:=λσ H Q=>ta σ H λx H'=>∃k,xB K x H' k/\Q k H'
theorem Sf(ha:PE X a ta)(hK:X.K=K:=by rfl)(he:∀whole,isTrue a X.env whole=(do let v <- whole;standAt a.pos;holding [v] (truthy v)):=by intro _;rfl):PT X a (HZ K ta):=by
 subst hK
 exact uF ha he
def vZ(K:LO):List V->Hp->VK->Prop:=λxs H Q=>∃p ys,xs=[.ref p]/\(Av K H p ys∨Dq K H p ys)/\∀l,H l=none->Q (.ref l) (upd H l (.lst ys))
theorem Rf(hK:X.K=K:=by rfl):Fs X (.type "list") (vZ K):=by
 subst hK
 exact Et
theorem pL(hK:X.K=K:=by rfl):DN X (mJ K):=by
 subst hK
 exact Be
theorem Iy(hK:X.K=K:=by rfl):DN X (DS K):=by
 subst hK
 exact Df
theorem sV(hK:X.K=K:=by rfl):FV X (rM K):=by
 subst hK
 exact Ew
def FO:XS:=λ_ _ _ _=>False
theorem JZ{X:Cx}{e:LP}{s:LV}(h:Wx X FO e s):False:=by
 obtain⟨_,_,_,_,_,_,_,_,_,z⟩:=h
 exact z
end
section
variable {X:Cx}
theorem Kh:Mr X (QW .LtE) (λx y H Q=>∃i j,x=.str i/\y=.str j/\Q (.bl (!decide (j.cps.toList < i.cps.toList))) H):=by
 intro pins s σ H x y v u Q I rx ry h
 obtain⟨i,j,rfl,rfl,q⟩:=h
 obtain⟨t,rfl⟩:=rx
 obtain⟨t',rfl⟩:=ry
 exact PySem.P.le_str (Bt I q rfl)
end
def CA(x:Str):It:=⟨λi _=>i < x.cps.size,λi H v H'=>H'=H/\∃c,x.cps[i]? = some c/\v=.str ⟨#[c]⟩,λi _=>x.cps.size<=i⟩
theorem pP{P:MV}{w:NU}{K:LO}{tg:Expr}(x:Str)(t:Tok)(it:LZ)(ty:String)(hty:ty = "str_ascii_iterator" ∨ ty = "str_iterator"):
 Turn P w K tg (CA x) [it] it (λi h=>h.IsStrIter it ty x t i) where
 mem:=by simp
 obj:=λi h st b hb=>by
  have e:b=it:=by simpa using hb
  subst e
  obtain⟨o,e,c,d⟩:=st
  exact⟨o,e,λv z=>by rw[d] at z;cases z⟩
 keep:=λi h h' st k=>by
  obtain⟨o,e,c⟩:=st
  exact⟨o,k it (by simp) o e,c⟩
 item:=by
  intro X hP hw hK hc i pins s σ H E I hf st hg
  subst hP hw hK
  obtain⟨f0,f1,f2,f3,f4,f5⟩:=hf it (by simp)
  have hlt:i < x.cps.size:=hg
  have hx:x.cps[i]? = some x.cps[i]:=by simp[hlt]
  rcases hty with rfl | rfl
  ·refine wpAny_pyNext_ascii_item st hx λh' st' sb=>?_
   have I1:Inv X pins σ H { s with heap:=h',toks:=s.toks+1 }:=I.turned (λb o hb e=>(sb.2 b hb).trans e) f0 f1 f3 f4 f5
   obtain⟨o,e,c,d⟩:=id st'
   exact⟨_,rfl,Qr (s:={ s with heap:=h',toks:=s.toks+1 }) e c d (by decide) ⟨.str ⟨#[x.cps[i]]⟩,H,I1,⟨_,rfl⟩,⟨rfl,_,hx,rfl⟩,st',λb hb=>(hf b hb).1⟩⟩
  ·refine wpAny_pyNext_wide_item st hx λh' st' sb=>?_
   have I1:Inv X pins σ H { s with heap:=h',toks:=s.toks+1 }:=I.turned (λb o hb e=>(sb.2 b hb).trans e) f0 f1 f3 f4 f5
   obtain⟨o,e,c,d⟩:=id st'
   exact⟨_,rfl,Qr (s:={ s with heap:=h',toks:=s.toks+1 }) e c d (by decide) ⟨.str ⟨#[x.cps[i]]⟩,H,I1,⟨_,rfl⟩,⟨rfl,_,hx,rfl⟩,st',λb hb=>(hf b hb).1⟩⟩
 done:=by
  intro X hP hw hK hc i pins s σ H E I hf st hg
  subst hP hw hK
  obtain⟨f0,f1,f2,f3,f4,f5⟩:=hf it (by simp)
  have hle:x.cps.size<=i:=hg
  have hx:x.cps[i]? = none:=by simp[hle]
  rcases hty with rfl | rfl
  ·exact pV (I.calmS hc) st hx λh' eb=>⟨rfl,I.turned (t':=s.toks) (λb o hb e=>eb b o hb e) f0 f1 f3 f4 f5⟩
  ·exact uY (I.calmS hc) st hx λh' eb=>⟨rfl,I.turned (t':=s.toks) (λb o hb e=>eb b o hb e) f0 f1 f3 f4 f5⟩
 self:=λ_ _ _ _ _ st h=>by
  rcases hty with rfl | rfl
  ·exact wpAny_pyIter_striter_ascii st h
  ·exact wpAny_pyIter_striter_wide st h
def IG(tl:TE):TI:=λσ H R=>tl σ H λx H1=>∃z,x=.str z/\R (CA z) H1
theorem pT{X:Cx}{tg l:Expr}{tl:TE}(hl:PE X l tl):PI X tg l (IG tl):=by
 intro pins s σ H R I h
 refine Bv (hl pins s σ H _ I h) λv s1 ⟨x,H1,I1,r1,q1⟩=>?_
 obtain⟨z,e,q⟩:=q1
 subst e
 obtain⟨t,rfl⟩:=r1
 refine wpAny_pyIter_strU ?_
 refine⟨s1.heap.objs.size,[s1.heap.objs.size],_,_,H1,rfl,I1.kept (t':=s1.toks) λb o e=>LQ _ e,pP z t _ (strIterType z) (by unfold strIterType;split;exact .inl rfl;exact .inr rfl),⟨_,MS _ rfl,rfl,rfl⟩,λb hb=>?_,q⟩
 have e:b=s1.heap.objs.size:=by simpa using hb
 subst e
 exact I1.fpOk (MC _) (I1.hok.fresh (MC _))
theorem HS{x:Str}{g:TG}{tb:TS}{D:Ends}{σ:St}{H:Hp}(Pv:Nat->St->Hp->Prop)(h0:Pv 0 σ H)(hs:∀i c σ H,x.cps[i]? = some c->Pv i σ H->g (.str ⟨#[c]⟩) σ H λσ2 H2=>tb { D with nx:=Pv (i+1),ct:=Pv (i+1),bk:=D.nx } σ2 H2)(hd:∀σ H,Pv x.cps.size σ H->D.nx σ H):
 ∃W:Nat->Nat->St->Hp->Prop,(∃m,W 0 m σ H)/\∀i m σ H,W i m σ H ->
  ((CA x).stop i H/\D.nx σ H)∨((CA x).go i H/\∃N:St->Hp->Prop,(∀σ' H',N σ' H'->∃m',m' < m/\W (i+1) m' σ' H')/\∀y H',(CA x).yld i H y H'->g y σ H' λσ2 H2=>tb { D with nx:=N,ct:=N,bk:=D.nx } σ2 H2):=by
 refine⟨λi m σ H=>m=x.cps.size-i/\i<=x.cps.size/\Pv i σ H,⟨x.cps.size,by simp,NI _,h0⟩,?_⟩
 rintro i m σ H ⟨rfl,hi,p⟩
 by_cases hlt:i < x.cps.size
 ·refine .inr ⟨hlt,Pv (i+1),λσ' H' p'=>⟨x.cps.size-(i+1),by omega,rfl,hlt,p'⟩,λy H' z=>?_⟩
  obtain⟨rfl,c,hc,rfl⟩:=z
  exact hs i c σ _ hc p
 ·have e:i=x.cps.size:=by omega
  subst e
  exact .inl ⟨MC _,hd σ H p⟩
theorem lL{x:Str}{n:Nat}{fr:List (Str×Nat)}{g:TG}{tc:TT}{te:TE}{σ:St}{H:Hp}{F:List V->Hp->Prop}(Pv:Nat->List V->Hp->Prop)(h0:Pv 0 [] H)(hs:∀i c ys H,x.cps[i]? = some c->Pv i ys H->g (.str ⟨#[c]⟩) (stC n fr σ) H λσ2 H2=>tc σ2 H2 λb H3=>if b=true then te σ2 H3 λy H4=>ys.length < MG/\Pv (i+1) (ys++[y]) H4 else Pv (i+1) ys H3)(hd:∀ys H,Pv x.cps.size ys H->F ys H):Em n fr g tc te σ (CA x) H F:=by
 refine⟨λi m ys H=>m=x.cps.size-i/\i<=x.cps.size/\Pv i ys H,⟨x.cps.size,by simp,NI _,h0⟩,?_⟩
 rintro i m ys H ⟨rfl,hi,p⟩
 by_cases hlt:i < x.cps.size
 ·refine .inr ⟨hlt,Pv (i+1),λys' H' p'=>⟨x.cps.size-(i+1),by omega,rfl,hlt,p'⟩,λy H' z=>?_⟩
  obtain⟨rfl,c,hc,rfl⟩:=z
  exact hs i c ys _ hc p
 ·have e:i=x.cps.size:=by omega
  subst e
  exact .inl ⟨MC _,hd ys H p⟩
theorem Qv{x:Str}{n:Nat}{fr:List (Str×Nat)}{g:TG}{te:TE}{σ:St}{H:Hp}{F:List V->Hp->Prop}(Pv:Nat->List V->Hp->Prop)(h0:Pv 0 [] H)(hs:∀i c ys H,x.cps[i]? = some c->Pv i ys H->g (.str ⟨#[c]⟩) (stC n fr σ) H λσ2 H2=>te σ2 H2 λy H4=>ys.length < MG/\Pv (i+1) (ys++[y]) H4)(hd:∀ys H,Pv x.cps.size ys H->F ys H):Em n fr g Pk te σ (CA x) H F:=lL Pv h0 (λi c ys H hx p=>hs i c ys H hx p) hd
def BC(C:LZ)(m:Str)(sp:Sp)(dvs:List V)(EX:XS)(ta:TE)(t:TA):TE:=λσ H Q=>ta σ H λx H1=>∃a dx fs,x=.ref a/\H1 a=some (.ins C dx fs)/\fs.lookup m=none /\
 t σ H1 λvs H2=>sp (.ref a::(vs++dvs)) H2 Q (EX σ)
section
variable {X:Cx} {EX:XS} {k:Nat} {f C:LZ} {fd:NP} {ps:List Str} {sp:Sp} {dvs:List V} {ds:List LP} {x m:Str} {p pos apos:Pos} {e o:Expr} {es:List Expr} {ta:TE} {t:TA}
theorem rF{pl:Sem Bool}(he:PE (X.thrown EX) o ta)(c:dY X.K C)(hm:Meth X.K C m f)(F:Aj X.prog X.w X.K X.mg X.base (Pl X.prog X.w) k f fd ps sp)(hr:Cq k X.A)(hb:Binds X.K fd ps ds)(hd:Vals dvs ds)(ha:PA (X.thrown EX) (e::es) t)(hst:NH (e::es) X.env=(false,RY e X.env)::NH es X.env:=by rfl)(hpl:(SR pos (NH es X.env)).any (·.1)=false:=by rfl)(ht:RY (.Call (.Attribute o m apos) (e::es) [] pos) X.env=(do
  let ov <- RY o X.env
  standAt apos.atName
  let (f,first) <- holding [ov] (getMethod ov m pl)
  callWith pos f first (SR pos (NH (e::es) X.env)) (backToKw pos (SS [] X.env))):=by rfl)(hcs:X.calm=true/\X.sx=true:=by exact⟨rfl,rfl⟩):
 PE (X.thrown EX) (.Call (.Attribute o m apos) (e::es) [] pos) (BC C m sp dvs EX ta t):=by
 intro pins s σ H Q I h
 refine SX (pl:=pl) (Bv (he pins s σ H _ I h) λu s1 ⟨x,H1,I1,rx,a,dx,fs,ex,ea,l,q⟩=>?_) ht
 subst ex
 obtain rfl:u=MO a:=rx
 refine Gz I1 ea c hm l ?_
 refine RU (first:=[.ref a]) (h₀:=X.base) I.ok.mod.kin hm.kp (Bv (ha pos pins s1 σ H1 _ I1 q) λus s2 ⟨vs,H2,I2,r,q2⟩=>⟨I2.kIn,?_⟩) hst hpl
 exact iW (us:=.ref a::us) (vs:=.ref a::vs) F hr hb hd hcs I2 (.cons rfl r) q2
end
theorem Inv.swap{X:Cx}{pins:List (LZ×Obj)}{σ:St}{H:Hp}{s:LV}{d:LZ}{u u':HO}(I:Inv X pins σ H s)(e:H d=some u)(h1:∀y,u ≠ .own y)(h2:∀xs,u ≠ .tup xs)(h3:∀o v,X.H₀ d≠some (.frz o v))(h4:∀ps,u ≠ .tbl ps)(new:Cg X.prog X.w (upd H d u') s.heap d u'):Inv X pins σ (upd H d u') s:=by
 have ne:∀ {b:LZ} {o:HO},H b=some o->o≠u->upd H d u' b=some o:=λ{b o} q n=>by
  rw[Ai (λz=>by subst z;rw[e] at q;exact n (MZ q).symm)];exact q
 have nn:∀ {b:LZ},H b=none->upd H d u' b=none:=λ{b} q=>by
  rw[Ai (λz=>by subst z;rw[e] at q;cases q)];exact q
 refine⟨I.ok,I.os,I.bare,⟨I.base.keep,I.base.slot,λb o q n hx=>nn (I.base.free b o q n hx),I.base.there,λb xs q=>ne (I.base.tups b xs q) (NT (h2 xs)),λb o v q=>?_,λb ps q=>?_⟩,I.loc,I.cell,nn I.free,λx c q=>nn (I.freeC x c q),λp hp=>?_,λb o q=>?_,I.len⟩
 ·have q':=I.base.frzs b o v q
  rw[Ai (λz=>by subst z;exact h3 o v q)];exact q'
 ·obtain⟨m,q'⟩:=I.base.tbls b ps q
  exact⟨m,ne q' (NT (h4 _))⟩
 ·obtain⟨q,n,r⟩:=I.pin p hp
  exact⟨q,nn n,r⟩
 ·by_cases hb:b=d
  ·subst hb;rw[Aa] at q;cases q;exact new
  ·rw[Ai hb] at q
   exact(I.hok b o q).stay (λ_ _ _ z=>z) (λc z=>ne z (NT (h1 _))) λc xs z=>ne z (NT (h2 xs))
def Pf(H₀:Hp)(d:LZ):Prop:=∀o v,H₀ d≠some (.frz o v)
section
variable {X:Cx} {pins:List (LZ×Obj)} {σ:St} {H:Hp} {s:LV} {d:LZ} {kvs:List (Key×V)} {o:Obj}
theorem Inv.freeze(I:Inv X pins σ H s)(e:H d=some (.dK kvs)):Pf X.H₀ d/\∃o,s.heap.get? d=some o/\(∃es ep,o.data=.dict es ep)/\Inv X pins σ (upd H d (.frz o (.dK kvs))) s:=by
 have nf:Pf X.H₀ d:=λo v z=>by
  have:=I.base.frzs d o v z
  rw[e] at this
  cases this
 obtain⟨z,y,vs,r,ob,es,ep,g,c,dd,rest⟩:=(show Cg X.prog X.w H s.heap d (.dK kvs) from I.hok d _ e)
 exact⟨nf,ob,g,⟨es,ep,dd⟩,I.swap e (λ_ z=>nomatch z) (λ_ z=>nomatch z) nf (λ_ z=>nomatch z) ⟨g,z,y,vs,r,ob,es,ep,g,c,dd,rest⟩⟩
theorem Inv.thaw(I:Inv X pins σ H s)(nf:Pf X.H₀ d)(e:H d=some (.frz o (.dK kvs))):Inv X pins σ (upd H d (.dK kvs)) s:=by
 obtain⟨_,q⟩:=(show Cg X.prog X.w H s.heap d (.frz o (.dK kvs)) from I.hok d _ e)
 exact I.swap e (λ_ z=>nomatch z) (λ_ z=>nomatch z) nf (λ_ z=>nomatch z) q
theorem Inv.dictAt{es:Array UR}{ep:Nat}(I:Inv X pins σ H s)(e:H d=some (.frz o (.dK kvs)))(hd:o.data=.dict es ep):(d == RH)=false/\∃vs,KV kvs vs/\s.heap.DictAt (Bp X.prog X.w) d vs ep:=by
 obtain⟨g,z,y,vs,r,ob,es',ep',g',c,dd,rest⟩:=(show Cg X.prog X.w H s.heap d (.frz o (.dK kvs)) from I.hok d _ e)
 rw[g] at g'
 cases g'
 rw[hd] at dd
 cases dd
 exact⟨y,vs,r,o,es,g,c,hd,rest⟩
end
theorem ER{P:MV}{w:NU}{k:Key}{u:LP}(h:(Bp P w).is k u=true):RelV (kV k) u:=by
 rcases Cp h with ⟨i,t,rfl,rfl⟩ | ⟨x,t,rfl,rfl⟩
 ·exact⟨t,rfl⟩
 ·exact⟨t,rfl⟩
def HM(d:LZ)(o:Obj)(kvs:List (Key×V)):It:=
 ⟨λi H=>H d=some (.frz o (.dK kvs))/\i < kvs.length,λi H v H'=>H'=H/\∃kv,kvs[i]? = some kv/\v=kV kv.1,λi H=>H d=some (.frz o (.dK kvs))/\kvs.length<=i⟩
theorem kO{P:MV}{w:NU}{K:LO}{tg:Expr}{es:Array UR}{ep:Nat}(d it:LZ)(o:Obj)(kvs:List (Key×V))(hd:o.data=.dict es ep):
 Turn P w K tg (HM d o kvs) [it] it (λi h=>h.IsKeyIter it d i kvs.length ep) where
 mem:=by simp
 obj:=λi h st b hb=>by
  have e:b=it:=by simpa using hb
  subst e
  obtain⟨o,e,c,d⟩:=st
  exact⟨o,e,λv z=>by rw[d] at z;cases z⟩
 keep:=λi h h' st k=>by
  obtain⟨o,e,c⟩:=st
  exact⟨o,k it (by simp) o e,c⟩
 item:=by
  intro X hP hw hK hc i pins s σ H E I hf st hg
  subst hP hw hK
  obtain⟨f0,f1,f2,f3,f4,f5⟩:=hf it (by simp)
  obtain⟨e,hlt⟩:=hg
  obtain⟨_,vs,r,dd⟩:=I.dictAt e hd
  have hl:kvs.length=vs.length:=OF r
  have hk:kvs[i]? = some kvs[i]:=LU hlt
  obtain⟨⟨k,x⟩,hx,e1,_⟩:=Im r hk
  have e1':kvs[i].1=k:=e1
  have st':s.heap.IsKeyIter it d i vs.length ep:=by rw[<- hl];exact st
  refine wpAny_pyNext_dict_item st' dd hx λkey h' hkey st2 sb=>?_
  have I1:Inv X pins σ H { s with heap:=h' }:=I.turned (t':=s.toks) (λb o hb e=>(sb.2 b hb).trans e) f0 f1 f3 f4 f5
  obtain⟨oi,ei,ci,di⟩:=id st2
  exact⟨_,rfl,Qr (s:={ s with heap:=h' }) ei ci di (by decide) ⟨kV k,H,I1,ER hkey,⟨rfl,_,hk,by rw[e1']⟩,(by rw[hl];exact st2),λb hb=>(hf b hb).1⟩⟩
 done:=by
  intro X hP hw hK hc i pins s σ H E I hf st hg
  subst hP hw hK
  obtain⟨f0,f1,f2,f3,f4,f5⟩:=hf it (by simp)
  obtain⟨e,hle⟩:=hg
  obtain⟨_,vs,r,dd⟩:=I.dictAt e hd
  have hl:kvs.length=vs.length:=OF r
  have st':s.heap.IsKeyIter it d i vs.length ep:=by rw[<- hl];exact st
  exact xO (I.calmS hc) st' dd (List.getElem?_eq_none_iff.mpr (by omega)) λh' eb=>⟨rfl,I.turned (t':=s.toks) (λb o hb e=>eb b o hb e) f0 f1 f3 f4 f5⟩
 self:=λ_ _ _ _ _ st h=>wpAny_pyIter_keyiter st h
def EY(H₀:Hp)(td:TE):TI:=λσ H R=>td σ H λx H1=>∃d kvs,x=.ref d/\H1 d=some (.dK kvs)/\∀o,Pf H₀ d->R (HM d o kvs) (upd H1 d (.frz o (.dK kvs)))
theorem jN{X:Cx}{tg l:Expr}{td:TE}(hl:PE X l td):PI X tg l (EY X.H₀ td):=by
 intro pins s σ H R I h
 refine Bv (hl pins s σ H _ I h) λv s1 ⟨x,H1,I1,r1,q1⟩=>?_
 obtain⟨d,kvs,e,hd,q⟩:=q1
 subst e
 cases r1
 obtain⟨nf,o,g,⟨es,ep,dt⟩,I2⟩:=I1.freeze hd
 obtain⟨lo,vs,r,dd⟩:=I2.dictAt Aa dt
 refine wpAny_pyIter_dict lo dd ?_
 have hl:kvs.length=vs.length:=OF r
 refine⟨s1.heap.objs.size,[s1.heap.objs.size],_,_,_,rfl,I2.kept (t':=s1.toks) λb o e=>LQ _ e,kO d _ o kvs dt,⟨_,MS _ rfl,rfl,by rw[hl]<;>rfl⟩,λb hb=>?_,q o nf⟩
 have e:b=s1.heap.objs.size:=by simpa using hb
 subst e
 exact I2.fpOk (MC _) (I2.hok.fresh (MC _))
def EZ(H₀:Hp)(D:Ends):Ends where
 nx:=λσ H=>∃d o kvs,Pf H₀ d/\H d=some (.frz o (.dK kvs))/\D.nx σ (upd H d (.dK kvs))
 rt:=λv H=>∃d o kvs,Pf H₀ d/\H d=some (.frz o (.dK kvs))/\D.rt v (upd H d (.dK kvs))
 bk:=λσ H=>∃d o kvs,Pf H₀ d/\H d=some (.frz o (.dK kvs))/\D.bk σ (upd H d (.dK kvs))
 ct:=λσ H=>∃d o kvs,Pf H₀ d/\H d=some (.frz o (.dK kvs))/\D.ct σ (upd H d (.dK kvs))
def HG(H₀:Hp)(ts:TS):TS:=λD σ H=>ts (EZ H₀ D) σ H
theorem iD{X:Cx}{st:RL}{ts:TS}(h:PS X st ts):PS X st (HG X.H₀ ts):=by
 intro pins s σ H D I q
 refine OR (h pins s σ H _ I q) (λf s' z=>?_) λ_ _ z=>z
 cases f with
 | next=>
  obtain⟨σ',H',I',d,o,kvs,nf,e,q'⟩:=z
  exact⟨σ',_,I'.thaw nf e,q'⟩
 | brk=>
  obtain⟨σ',H',I',d,o,kvs,nf,e,q'⟩:=z
  exact⟨σ',_,I'.thaw nf e,q'⟩
 | cont=>
  obtain⟨σ',H',I',d,o,kvs,nf,e,q'⟩:=z
  exact⟨σ',_,I'.thaw nf e,q'⟩
 | ret u=>
  obtain⟨v,σ',H',I',rv,d,o,kvs,nf,e,q'⟩:=z
  exact⟨v,σ',_,I'.thaw nf e,rv,q'⟩
theorem aB{d:LZ}{o:Obj}{kvs:List (Key×V)}{g:TG}{tb:TS}{D:Ends}{σ:St}{H:Hp}(Pv:Nat->St->Hp->Prop)(h0:Pv 0 σ H)(hl:∀i σ H,i<=kvs.length->Pv i σ H->H d=some (.frz o (.dK kvs)))(hs:∀i kv σ H,kvs[i]? = some kv->Pv i σ H->g (kV kv.1) σ H λσ2 H2=>tb { D with nx:=Pv (i+1),ct:=Pv (i+1),bk:=D.nx } σ2 H2)(hd:∀σ H,Pv kvs.length σ H->D.nx σ H):
 ∃W:Nat->Nat->St->Hp->Prop,(∃m,W 0 m σ H)/\∀i m σ H,W i m σ H ->
  ((HM d o kvs).stop i H/\D.nx σ H)∨((HM d o kvs).go i H/\∃N:St->Hp->Prop,(∀σ' H',N σ' H'->∃m',m' < m/\W (i+1) m' σ' H')/\∀y H',(HM d o kvs).yld i H y H'->g y σ H' λσ2 H2=>tb { D with nx:=N,ct:=N,bk:=D.nx } σ2 H2):=by
 refine⟨λi m σ H=>m=kvs.length-i/\i<=kvs.length/\Pv i σ H,⟨kvs.length,by simp,NI _,h0⟩,?_⟩
 rintro i m σ H ⟨rfl,hi,p⟩
 have q:=hl i σ H hi p
 by_cases hlt:i < kvs.length
 ·refine .inr ⟨⟨q,hlt⟩,Pv (i+1),λσ' H' p'=>⟨kvs.length-(i+1),by omega,rfl,hlt,p'⟩,λy H' z=>?_⟩
  obtain⟨rfl,kv,hc,rfl⟩:=z
  exact hs i kv σ _ hc p
 ·have e:i=kvs.length:=by omega
  subst e
  exact .inl ⟨⟨q,MC _⟩,hd σ H p⟩
theorem Ui{P:MV}{w:NU}:∀ {kvs:List (Key×V)} {vs:List (Key×LP)} {us:List LP},KV kvs vs->us.length=vs.length->(∀(j:Nat)(v:LP),us[j]? = some v->∃k x,vs[j]? = some (k,x)/\(Bp P w).is k v=true)->Vals (kvs.map λkv=>kV kv.1) us
 | _,_,[],.nil,_,_=>.nil
 | _,_,_::_,.nil,e,_=>nomatch e
 | _,_,[],.cons _ _,e,_=>nomatch e
 | (a,_)::kvs,(b,_)::vs,u::us,.cons r t,e,h=>by
  refine .cons ?_ (Ui t (by simpa using e) λj v q=>h (j+1) v (by simpa using q))
  obtain⟨k,x,q,hk⟩:=h 0 u rfl
  have q':(b,_)=(k,x):=MZ q
  have e1:a=b:=r.1
  have e2:b=k:=congrArg Prod.fst q'
  show RelV (kV a) u
  rw[e1,e2]
  exact ER hk
theorem Ec{X:Cx}(hc:X.sx=true):Fs X (.type "list") (λxs H Q=>∃d kvs,xs=[.ref d]/\Rd H d (.dK kvs)/\∀l,H l=none->Q (.ref l) (upd H l (.lst (kvs.map λkv=>kV kv.1)))):=by
 intro pins s σ H xs us Q I r h
 obtain⟨d,kvs,rfl,hq,q⟩:=h
 obtain⟨u,rfl,rx⟩:=vals1 r
 cases rx
 obtain⟨hz,lo,vs,rel,dd⟩:=Ow I.hok hq
 obtain⟨ep,hat⟩:=dd.dictAt
 have hl:kvs.length=vs.length:=OF rel
 refine PySem.W.kdl_call (PySem.W.kdl_dict (knd:=Bp X.prog X.w) (kvs:=vs) (ep:=ep) lo) (I.ok.st hc) hat (by rw[<- hl];exact hz) λh' tk acc' c' kp e it=>?_
 have hv:Vals (kvs.map λkv=>kV kv.1) acc'.toList:=Ui (P:=X.prog) (w:=X.w) rel (by rw[SJ];exact it.1) λj v z=>it.2 j v (by rw[<- UU];exact z)
 refine⟨.ref s.heap.objs.size,_,I.laid (t':=tk) kp (MC _) (show Cg X.prog X.w _ h' _ (.lst (kvs.map λkv=>kV kv.1)) from ⟨by rw[LN];exact hz,acc'.toList,c',hv,by rw[Array.toArray_toList];exact e⟩),rfl,q _ (I.hok.fresh (MC _))⟩
theorem PE.imp{X:Cx}{e:Expr}{t t':TE}(h:PE X e t)(i:∀σ H Q,t' σ H Q->t σ H Q):PE X e t':=λpins s σ H Q I hw=>h pins s σ H Q I (i σ H Q hw)
theorem Km{X:Cx}{tail body:List RL}{G:TS->Prop}(Pr:TS->Prop)(h:∃tt,Ib X tail tt/\Pr tt)(k:∀tt,Ib X tail tt->Pr tt->∃t,Ib X body t/\G t):∃t,Ib X body t/\G t:=let ⟨tt,a,b⟩:=h;k tt a b
def fBody:RL->List RL
 | .For _ _ b _ _=>b
 | _=>[]
structure Tr(K:LO)(x qual:Str)(st:RL)(f:LZ)(fd:NP)(T:LZ):Prop where
 ex:∃(oc:LP)(od:Option LZ)(kV doc pm:LP)(an:Option LZ)(cdv ct:LP)(osl:Array (Option LP)),
  fd=SG x qual (Ef st) (Bb st) (Ac st) (.ref T) kV doc pm an cdv ct/\K.lookup f=some ⟨oc,od,.func fd,osl⟩/\PySem.W.codeIn K cdv qual=true
 kp:MN K (.ref f)=true
section
variable {P:MV} {w:NU} {K:LO} {mg:Str->Option LP} {base:OS}
theorem Tr.ok{x qual:Str}{st:RL}{f T:LZ}{fd:NP}{N ps:List Str}{k:Nat}{sp:Sp}(F:Tr K x qual st f fd T)(S:Al N ps (Ac st))(len:∀vs H Q E,sp vs H Q E->vs.length=ps.length)(hbody:∀(cdv:LP)(A:NV)(outer:List Env)(s:LV)(H:Hp)(vs:List V)(Q:VK)(E:XK),Cq k (A.deeper (envOfC qual (Ac st) s.heap.objs.size f cdv))->sp vs H Q E ->
  ∃t,Ib (Ft Bj P w K mg base N qual (Ac st) f cdv A outer s H E).nox (Bb st) t/\t { nx:=λ_ H'=>Q .non H',rt:=Q } (start N vs) H):Aj P w K mg base Bj (k+1) f fd ps sp:=by
 obtain⟨oc,od,kV,doc,pm,an,cdv,ct,osl,rfl,lk,hcd⟩:=F.ex
 refine Xw lk hcd S len λA outer s H vs Q E hr hsp=>?_
 obtain⟨t,h,q⟩:=hbody cdv A outer s H vs Q E hr hsp
 exact⟨t,h.nox,q⟩
theorem Tr.binds{x qual:Str}{st:RL}{f T:LZ}{fd:NP}{ps:List Str}{ds:List LP}{o:Obj}{items:Array LP}{n:Nat}(F:Tr K x qual st f fd T)(ho:K.lookup T=some o)(hs:o.data=.seq items n)(m:Nat)(hm:m+ds.length=ps.length)(h:∀(kV doc pm:LP)(an:Option LZ)(cdv ct:LP)(us:List LP),us.length=m->∃k:Option (Array LP)->Sem (List (Str×LP)),bindArgs (SG x qual (Ef st) (Bb st) (Ac st) (.ref T) kV doc pm an cdv ct) ⟨us,[]⟩=(seqItems? (.ref T) >>= k)/\k (some items)=pure (ps.zip (us++ds))):Binds K fd ps ds:=by
 obtain⟨oc,od,kV,doc,pm,an,cdv,ct,osl,rfl,lk,hcd⟩:=F.ex
 intro s us KX hl
 obtain⟨k,h1,h2⟩:=h kV doc pm an cdv ct us (by rw[LS] at hl;omega)
 exact PySem.W.binds_K KX rfl ho hs h1 h2
theorem yJ{x qual:Str}{st:RL}{f T:LZ}{oc:LP}{od an:Option LZ}{osl:Array (Option LP)}{kV doc pm cdv ct:LP}(l:K.lookup f=some ⟨oc,od,.func (SG x qual (Ef st) (Bb st) (Ac st) (.ref T) kV doc pm an cdv ct),osl⟩)(c:PySem.W.codeIn K cdv qual=true)(k:MN K (.ref f)=true):Tr K x qual st f (SG x qual (Ef st) (Bb st) (Ac st) (.ref T) kV doc pm an cdv ct) T:=⟨⟨oc,od,kV,doc,pm,an,cdv,ct,osl,rfl,l,c⟩,k⟩
end
def vM(lo:Int)(n:Nat):It:=⟨λi _=>i < n,λi H x H'=>H'=H/\x=.int (lo-i),λi _=>n<=i⟩
theorem nJ{P:MV}{w:NU}{K:LO}{tg:Expr}(it:LZ)(lo:Int)(n:Nat):Turn P w K tg (vM lo n) [it] it (λi h=>IsRangeIter h it (lo+(i:Nat) * (-1)) ((n:Int)-(i:Nat)) (-1)) where
 mem:=by simp
 obj:=λi h st b hb=>by
  have e:b=it:=by simpa using hb
  subst e
  exact⟨_,st,λv z=>by
   have z':Data.fields _=Data.cell v:=z
   cases z'⟩
 keep:=λi h h' st k=>k it (by simp) _ st
 item:=by
  intro X hP hw hK hc i pins s σ H E I hf st hg
  subst hP hw hK
  obtain⟨f0,f1,f2,f3,f4,f5⟩:=hf it (by simp)
  have W0:True:=trivial
  refine Yl i s _ _ hg st λv h' tk hv st' kk=>?_
  obtain⟨t,rfl⟩:=hv
  have I1:Inv X pins σ H { s with heap:=h',toks:=tk }:=I.turned (λb o hb e=>kk b o (by simpa using hb) e) f0 f1 f3 f4 f5
  refine⟨_,rfl,Qr (s:={ s with heap:=h',toks:=tk }) (n := "range_iterator") st' rfl rfl (by decide) ⟨.int (lo-i),H,I1,⟨t,?_⟩,⟨rfl,rfl⟩,st',λb hb=>(hf b hb).1⟩⟩
  rw[show lo+(i:Int) * (-1)=lo-(i:Int) by omega]
 done:=by
  intro X hP hw hK hc i pins s σ H E I hf st hg
  subst hP hw hK
  obtain⟨f0,f1,f2,f3,f4,f5⟩:=hf it (by simp)
  exact Zy (I.calmS hc) st (by have:n<=i:=hg;omega) λh' eb=>⟨rfl,I.turned (t':=s.toks) (λb o hb e=>eb b o hb e) f0 f1 f3 f4 f5⟩
 self:=λ_ _ _ _ _ st h=>wpAny_pyIter_rangeiter st h
theorem nF(lo hi:Int):UT lo hi (-1)=(((lo-hi).toNat:Nat):Int):=by
 unfold UT
 rw[if_neg (by decide)]
 split<;>simp<;>omega
theorem pK{a b:Int}(ha : -(2 ^ 62)<=a)(ha':a < 2 ^ 62)(hb : -(2 ^ 62)<=b)(hb':b < 2 ^ 62):Builtin.Range.small a b (-1)=true:=PySem.W.small_down ha ha' hb hb'
section
variable {X:Cx} {tg:Expr}
theorem yG{pins:List (LZ×Obj)}{σ:St}{H:Hp}{s:LV}{R:It->Hp->Prop}{E:LP->LV->Prop}{lo hi:Int}{t u v:Tok}{tk:Nat}(I:Inv X pins σ H s)(h1 : -(2 ^ 62)<=lo)(h2:lo < 2 ^ 62)(h3 : -(2 ^ 62)<=hi)(h4:hi < 2 ^ 62)(q:R (vM lo (lo-hi).toNat) H):ND (NJ X.prog X.w) X.A (pyIter (.ref s.heap.objs.size)) (JS X pins σ tg R) E { s with heap:=s.heap.push { cls:=.type "range", data:=.fields #[.int lo t,.int hi u,.int (-1) v] },toks:=tk }:=by
 refine wpAny_pyIter_range (IsRange.new ..) (pK h1 h2 h3 h4) ?_
 have I1:Inv X pins σ H { s with heap:=s.heap.push { cls:=.type "range", data:=.fields #[.int lo t,.int hi u,.int (-1) v] },toks:=tk }:=I.kept λb o e=>LQ _ e
 refine⟨(s.heap.push { cls:=.type "range", data:=.fields #[.int lo t,.int hi u,.int (-1) v] }).objs.size,[(s.heap.push { cls:=.type "range", data:=.fields #[.int lo t,.int hi u,.int (-1) v] }).objs.size],_,_,H,rfl,
  I1.kept (t':=tk) λb o e=>LQ _ e,nJ _ lo (lo-hi).toNat,?_,λb hb=>?_,q⟩
 ·have e1:lo+((0:Nat):Int) * (-1)=lo:=by simp
  have e2:(((lo-hi).toNat:Nat):Int)-((0:Nat):Int)=UT lo hi (-1):=by rw[nF];simp
  show IsRangeIter _ _ (lo+((0:Nat):Int) * (-1)) ((((lo-hi).toNat:Nat):Int)-((0:Nat):Int)) (-1)
  rw[e1,e2]
  exact MS _ rfl
 ·have e:b=(s.heap.push { cls:=.type "range", data:=.fields #[.int lo t,.int hi u,.int (-1) v] }).objs.size:=by simpa using hb
  subst e
  exact I1.fpOk (MC _) (I1.hok.fresh (MC _))
def EH(ta:TA):TI:=λσ H R=>ta σ H λvs H1=>∃i j:Int,vs=[.int i,.int j,.int (-1)]/\(-(2 ^ 29)<=i/\i < 2 ^ 29 /\ -(2 ^ 29)<=j/\j < 2 ^ 29)/\R (vM i (i-j).toNat) H1
theorem wA{a b c:Expr}{ta:TA}{p pos:Pos}(hg:Gl X "range")(hm:X.mg "range" = none)(ha:PA X [a,b,c] ta)(hs:NH [a,b,c] X.env=[(false,RY a X.env),(false,RY b X.env),(false,RY c X.env)]:=by rfl)(hs2:NH [b,c] X.env=[(false,RY b X.env),(false,RY c X.env)]:=by rfl):
 PI X tg (.Call (.Name "range" p) [a,b,c] [] pos) (EH ta):=by
 intro pins s σ H R I h
 refine Call_ (Il I hg hm boot_range (QL (Bv (ha pos pins s σ H _ I h) λus s1 ⟨vs,H1,I1,r1,q1⟩=>?_) (by rw[hs,hs2]) (by rw[hs2];rfl)))
 obtain⟨i,j,e,⟨q1,q2,q3,q4⟩,q⟩:=q1
 subst e
 cases r1 with
 | cons r rr=>
  cases rr with
  | cons r' rr=>
   cases rr with
   | cons r'' rr=>
    cases rr
    obtain⟨t,rfl⟩:=r
    obtain⟨t',rfl⟩:=r'
    obtain⟨t'',rfl⟩:=r''
    exact call_range_3 (by decide) (yG I1 (by omega) (by omega) (by omega) (by omega) q) (Or.inl (PyProof.noPylong_small (by decide)))
end
def bY(P:MV)(w:NU)(K:LO)(a:LZ)(kvs:List (Key×V)):Prop:=
 ∃(o:Obj)(es:Array UR)(ep:Nat)(vs:List (Key×LP)),K.lookup a=some o/\o.ExactDict/\o.data=.dict es ep/\KeysOf (Bp P w) es/\Pairs (Bp P w) es.toList vs/\(vs.map (·.1)).Nodup/\KV kvs vs/\(a == RH)=false
theorem bY.at_{X:Cx}{pins:List (LZ×Obj)}{σ:St}{H:Hp}{s:LV}{a:LZ}{kvs:List (Key×V)}(I:Inv X pins σ H s)(d:bY X.prog X.w X.K a kvs):(a == RH)=false/\∃vs,KV kvs vs/\s.heap.DictOf (Bp X.prog X.w) a vs:=by
 obtain⟨o,es,ep,vs,lk,x,da,hk,hp,hn,kv,sm⟩:=d
 exact⟨sm,vs,kv,o,es,ep,I.kIn _ _ lk,x,da,hk,hp,hn⟩
def HE(P:MV)(w:NU)(K:LO)(td ty:TE):TE:=λσ H Q=>td σ H λx H1=>∃a kvs,x=.ref a/\bY P w K a kvs/\ty σ H1 λy H2=>∃k,y=kV k/\Q ((valV kvs k).getD .non) H2
theorem vA{X:Cx}{o e:Expr}{apos cpos:Pos}{td ty:TE}(ho:PE X o td)(he:PE X e ty)(m:M1 X o "get" apos e cpos):PE X (.Call (.Attribute o "get" apos) [e] [] cpos) (HE X.prog X.w X.K td ty):=by
 intro pins s σ H Q I h
 refine wpAny_Call_method m.base m.few m.line PySem.F.plainAttrs_dict SY PySem.F.type_dict_get (Bv (ho pins s σ H _ I h) λu s1 ⟨x,H1,I1,rx,a,kvs,ex,d,q1⟩=>?_)
 subst ex
 obtain rfl:u=MO a:=rx
 obtain⟨sm,vs,kv,dd⟩:=bY.at_ I1 d
 refine⟨dd.typeIs,λb q=>?_,?_⟩
 ·cases q
  obtain⟨ob,_,_,h1,h2,_⟩:=dd
  exact⟨ob,h1,h2.2.1⟩
 rw[m.trees]
 refine UX rfl (Calls.evalArgs_plain (US (Bv (he pins s1 σ H1 _ I1 q1) λiv s2 ⟨y,H2,I2,ry,k,ey,q2⟩=>Calls.spliced_nil ?_)))
 subst ey
 obtain⟨sm,vs,kv,dd⟩:=bY.at_ I2 d
 refine call_meetsIn SY dd.typeIs PySem.F.entry_dict_get (PySem.F.args_dict_get_2 _ _) (meets_dict_get (Bp X.prog X.w) a (Mn ry) sm) ⟨_,dd.mapOf,?_⟩
 exact⟨_,H2,I2.tok _,(kv.val k).getD (d:=.non) (d':=.none) rfl,q2⟩
section
variable {prog:MV} {w:NU} {A:NV} {E:LP->LV->Prop} {s:LV}
theorem cD{it t:LZ}{i:Nat}{its:Array LP}{x:LP}{Q:LP->LV->Prop}(hi:s.heap.IsTupleIter it t i)(ht:s.heap.IsTuple t its)(hx:its[i]? = some x)(q:∀h',h'.IsTupleIter it t (i+1)->RD it s.heap h'->Q x { s with heap:=h' }):ND (NJ prog w) A (OB (.ref it)) Q E s:=by
 obtain⟨o,e1,e2,e3⟩:=id hi
 obtain⟨u,g1,_,k,g2⟩:=ht
 unfold OB
 refine LL (NN (name:=ON "__next__") hi.typeIs QV (OC QV hi.typeIs F.entry_tuple_iterator_next ?_ (F.args_tuple_iterator_next_1 _)))
 change ND (NJ prog w) _ (UI (MO it) 0 >>= _) _ _ _
 refine LL (NG e1 e3 (x:=MO t) rfl ?_)
 change ND (NJ prog w) _ (if (MO t == PK)=true then _ else _) _ _ _
 have nt:¬ ((MO t == PK)=true):=LY
 rw[if_neg nt]
 change ND (NJ prog w) _ (UI (MO it) 1 >>= _) _ _ _
 refine LL (NG e1 e3 (x:=Value.int i 0) rfl ?_)
 change ND (NJ prog w) _ (seqItems? (MO t) >>= _) _ _ _
 refine LL (PF g1 g2 ?_)
 simp only[hx,OY]
 refine LL (OV e1 e3 (by simp) (MI ⟨x,rfl,MI (q _ ⟨_,PY _ e1 (TN (TC e3 _)),(Obj.cls_mapFields ..).trans e2,?_⟩ (SU ..))⟩))
 rw[TC e3]
 simp[RP]
theorem nR{it t:LZ}{i:Nat}{its:Array LP}{Q:LP->LV->Prop}(hh:Bm A s.heap)(hi:s.heap.IsTupleIter it t i)(ht:s.heap.IsTuple t its)(hx:its[i]? = none)(q:∀h' e,QR it s.heap h'->(∃o,h'.get? e=some o/\o.cls=.type "StopIteration")->E (.ref e) { s with heap:=h' }):ND (NJ prog w) A (OB (.ref it)) Q E s:=by
 obtain⟨o,e1,e2,e3⟩:=id hi
 obtain⟨u,g1,_,k,g2⟩:=ht
 unfold OB
 refine LL (NN (name:=ON "__next__") hi.typeIs QV (OC QV hi.typeIs F.entry_tuple_iterator_next ?_ (F.args_tuple_iterator_next_1 _)))
 change ND (NJ prog w) _ (UI (MO it) 0 >>= _) _ _ _
 refine LL (NG e1 e3 (x:=MO t) rfl ?_)
 change ND (NJ prog w) _ (if (MO t == PK)=true then _ else _) _ _ _
 have nt:¬ ((MO t == PK)=true):=LY
 rw[if_neg nt]
 change ND (NJ prog w) _ (UI (MO it) 1 >>= _) _ _ _
 refine LL (NG e1 e3 (x:=Value.int i 0) rfl ?_)
 change ND (NJ prog w) _ (seqItems? (MO t) >>= _) _ _ _
 refine LL (PF g1 g2 ?_)
 simp only[hx,OY]
 refine LL (RG (LL (OV e1 e3 (by simp) ?_)))
 exact Dp (hh.in1.upd (Io e1 e3)) λh' e kp ty=>q h' e (λb o hb g=>kp _ _ ((NZ _ _ (NT hb)).trans g)) ty
end
theorem Sw{h:OS}{it t:LZ}{i:Nat}(hit:h.IsTupleIter it t i):∀o vs,h.get? it=some o->o.data=.fields vs->¬ vs[2]? = some .none:=
 let ⟨_,g,_,d⟩:=id hit
 Io g d
theorem gZ{prog:MV}{w:NU}{A:NV}(it t:LZ)(ne:t≠it)(its:Array LP):Draws prog w A it (it::t::Po A) its.size (λi v=>its[i]? = some v) (λi h=>h.IsTupleIter it t i/\h.IsTuple t its/\Bm A h) where
 live:=λ_ _ ⟨⟨o,e,_⟩,_⟩=>⟨o,e⟩
 frame:=λ_ _ _ ⟨h1,⟨o,e,r⟩,hh⟩ k=>⟨h1.at λo e=>k it (by simp) o e,⟨o,k t (by simp) o e,r⟩,hh.keep λb hb o e=>k b (ME _ (ME _ hb)) o e⟩
 item:=λi s Q E hi ⟨h1,h2,hh⟩ q=>cD h1 h2 (x:=its[i]) (by simp[hi]) λh' a b=>q _ h' s.toks (by simp[hi]) ⟨a,(let ⟨o,e,r⟩:=h2;⟨o,b.extBut _ _ ne e,r⟩),hh.but (Sw h1) b.extBut⟩ b
 done:=λs Q E ⟨h1,h2,hh⟩ q=>nR hh h1 h2 (by simp) q
structure Hj(n:LZ)(fp1 fp2:List LZ):Prop where
 m1:∀c∈fp1,c=n∨(c≠n+1/\c≠n+3/\c≠n+4)
 m2:∀c∈fp2,c=n+1∨(c≠n/\c≠n+3/\c≠n+4)
section
variable {prog:MV} {w:NU} {A:NV} {E:LP->LV->Prop} {s:LV} {n:LZ} {fp1 fp2:List LZ} {n1 n2:Nat} {P1 P2:Nat->LP->Prop} {S1 S2:Nat->OS->Prop}
theorem Ux(Z:Hj n fp1 fp2){c:LZ}(h:c∈fp1):c≠n+1/\c≠n+3/\c≠n+4:=by
 rcases Z.m1 c h with rfl | r
 ·exact⟨ap c 0 1 (by decide),ap c 0 3 (by decide),ap c 0 4 (by decide)⟩
 ·exact r
theorem Pb(Z:Hj n fp1 fp2){c:LZ}(h:c∈fp2):c≠n/\c≠n+3/\c≠n+4:=by
 rcases Z.m2 c h with rfl | r
 ·exact⟨ap n 1 0 (by decide),ap n 1 3 (by decide),ap n 1 4 (by decide)⟩
 ·exact r
theorem lK(Z:Hj n fp1 fp2)(D1:Draws prog w A n fp1 n1 P1 S1)(D2:Draws prog w A (n+1) fp2 n2 P2 S2){a b:LP}{i:Nat}{Q:LP->LV->Prop}(hz:IsZip s.heap (n+4) (n+2) (n+3) .none)(hI:SN s.heap (n+2) (.ref n) (.ref (n+1)))(hO:SN s.heap (n+3) a b)(h1:S1 i s.heap)(h2:S2 i s.heap)(l1:i < n1)(l2:i < n2)(q:∀x y h' tk,P1 i x->P2 i y->IsZip h' (n+4) (n+2) (n+3) (RP s.heap.objs.size)->SN h' (n+3) x y->S1 (i+1) h'->S2 (i+1) h'->SN h' s.heap.objs.size x y->h'.objs.size=s.heap.objs.size+1 ->
  (∀c o,c≠n+4->c≠n+3->c≠n->c≠n+1->s.heap.get? c=some o->h'.get? c=some o)->Q (.ref s.heap.objs.size) { s with heap:=h',toks:=tk }):
 ND (NJ prog w) A (Builtin.«zip.__next__» ⟨[.ref (n+4)],[]⟩) (λfin s'=>∃v,fin=.done (.ret v)/\Q v s') E s:=by
 have d34:n+3≠n+4:=ap n 3 4 (by decide)
 have d04:n≠n+4:=ap n 0 4 (by decide)
 have d14:n+1≠n+4:=ap n 1 4 (by decide)
 have d30:n+3≠n:=ap n 3 0 (by decide)
 have d31:n+3≠n+1:=ap n 3 1 (by decide)
 have d01:n≠n+1:=ap n 0 1 (by decide)
 change ND (NJ prog w) _ (UI (MO (n+4)) 2 >>= _) _ _ _
 refine LL (NG hz rfl (x:=Value.bool false) rfl ?_)
 change ND (NJ prog w) _ (UI (MO (n+4)) 3 >>= _) _ _ _
 refine LL (NG hz rfl (x:=MO (n+2)) rfl (LL (PF hI rfl ?_)))
 change ND (NJ prog w) _ (OE (MO (n+4)) >>= _) _ _ _
 unfold OE
 refine LL (LL (NG hz rfl (x:=PK) rfl (MI ?_)))
 simp only[if_true]
 refine LL (RG (LL (NG hz rfl (x:=MO (n+3)) rfl (LL (OI hz (by simp) λg1 z1 t1=>?_)))))
 replace z1:IsZip g1 (n+4) (n+2) (n+3) .ellipsis:=z1
 refine LL ?_
 simp only[List.forIn_cons,List.forIn_nil,List.zipIdx_cons,List.zipIdx_nil]
 -- the first one
 refine LL (LL (wpAny_onRaise ?_))
 change ND (NJ prog w) _ (OB (MO n) >>= _) _ _ _
 refine LL (D1.item i { s with heap:=g1 } _ _ l1 (D1.frame i _ _ h1 λc hc o e=>t1.extBut _ _ (Ux Z hc).2.2 e) λx g2 k2 px h1' t2=>MI ?_)
 have o2:SN g2 (n+3) a b:=t2.extBut _ _ d30 (t1.extBut _ _ d34 hO)
 refine LL (PF (s:={ s with heap:=g2,toks:=k2 }) o2 rfl (LL (wpAny_updateSeq_pair (s:={ s with heap:=g2,toks:=k2 }) o2 λg3 o3 t3=>?_)))
 replace o3:SN g3 (n+3) x b:=o3
 refine LL (TK (MI ?_))
 -- the second one
 refine LL (LL (wpAny_onRaise ?_))
 change ND (NJ prog w) _ (OB (MO (n+1)) >>= _) _ _ _
 refine LL (D2.item i { s with heap:=g3,toks:=k2 } _ _ l2 (D2.frame i _ _ h2 λc hc o e=>t3.extBut _ _ (Pb Z hc).2.1 (t2.extBut _ _ (Pb Z hc).1 (t1.extBut _ _ (Pb Z hc).2.2 e))) λy g4 k4 py h2' t4=>MI ?_)
 have o4:SN g4 (n+3) x b:=t4.extBut _ _ d31 o3
 refine LL (PF (s:={ s with heap:=g4,toks:=k4 }) o4 rfl (LL (wpAny_updateSeq_pair (s:={ s with heap:=g4,toks:=k4 }) o4 λg5 o5 t5=>?_)))
 replace o5:SN g5 (n+3) x y:=o5
 refine LL (TK (MI (MI (LL (PF (s:={ s with heap:=g5,toks:=k4 }) o5 rfl (LL (wpAny_newTuple ?_)))))))
 have sz:g5.objs.size=s.heap.objs.size:=by rw[t5.1,t4.1,t3.1,t2.1,t1.1]
 have z5:IsZip g5 (n+4) (n+2) (n+3) .ellipsis:=t5.extBut _ _ d34.symm (t4.extBut _ _ d14.symm (t3.extBut _ _ d34.symm (t2.extBut _ _ d04.symm z1)))
 have kp:∀c o,c≠n+4->c≠n+3->c≠n->c≠n+1->s.heap.get? c=some o->g5.get? c=some o:=λc o c1 c2 c3 c4 e=>t5.extBut _ _ c2 (t4.extBut _ _ c4 (t3.extBut _ _ c2 (t2.extBut _ _ c3 (t1.extBut _ _ c1 e))))
 have f1:S1 (i+1) g5:=D1.frame _ _ _ h1' λc hc o e=>t5.extBut _ _ (Ux Z hc).2.1 (t4.extBut _ _ (Ux Z hc).1 (t3.extBut _ _ (Ux Z hc).2.1 e))
 have f2:S2 (i+1) g5:=D2.frame _ _ _ h2' λc hc o e=>t5.extBut _ _ (Pb Z hc).2.1 e
 have zl:n+4 < g5.objs.size:=MQ z5
 change ND (NJ prog w) _ (RN (MO (n+4)) (MO g5.objs.size) >>= _) _ _ _
 unfold RN
 have z6:IsZip (g5.push { cls:=.type "tuple", data:=.seq #[x,y] }) (n+4) (n+2) (n+3) .ellipsis:=LQ _ z5
 refine LL (LL (OI (s:={ s with heap:=g5.push { cls:=.type "tuple", data:=.seq #[x,y] },toks:=k4 }) z6 (by simp) λg7 z7 t7=>?_))
 replace z7:IsZip g7 (n+4) (n+2) (n+3) (RP g5.objs.size):=z7
 refine OI (s:={ s with heap:=g7,toks:=k4 }) z7 (by simp) λg8 z8 t8=>?_
 replace z8:IsZip g8 (n+4) (n+2) (n+3) (RP g5.objs.size):=z8
 have up:∀c o,c≠n+4->g5.get? c=some o->g8.get? c=some o:=λc o c1 e=>t8.extBut _ _ c1 (t7.extBut _ _ c1 (LQ _ e))
 have tp:SN g8 g5.objs.size x y:=t8.extBut _ _ (RJ zl) (t7.extBut _ _ (RJ zl) (MS _ rfl))
 have sz8:g8.objs.size=g5.objs.size+1:=by rw[t8.1,t7.1,QG]
 rw[sz] at z8 tp sz8
 refine MI ⟨_,rfl,?_⟩
 change Q (MO g5.objs.size) _
 rw[sz]
 exact q x y g8 k4 px py z8 (up _ _ d34 o5) (D1.frame _ _ _ f1 λc hc o e=>up c o (Ux Z hc).2.2 e) (D2.frame _ _ _ f2 λc hc o e=>up c o (Pb Z hc).2.2 e) tp sz8 λc o c1 c2 c3 c4 e=>up c o c1 (kp c o c1 c2 c3 c4 e)
theorem qL(Z:Hj n fp1 fp2)(D1:Draws prog w A n fp1 n1 P1 S1)(D2:Draws prog w A (n+1) fp2 n2 P2 S2){a b:LP}{i:Nat}{Q:PySem.Fin->LV->Prop}(hz:IsZip s.heap (n+4) (n+2) (n+3) .none)(hI:SN s.heap (n+2) (.ref n) (.ref (n+1)))(hO:SN s.heap (n+3) a b)(h1:S1 i s.heap)(h2:S2 i s.heap)(l:i=n1∨(i < n1/\i=n2))(q:∀h' e tk,(∀c o,c≠n+4->c≠n+3->c≠n->c≠n+1->s.heap.get? c=some o->h'.get? c=some o)->(∃o,h'.get? e=some o/\o.cls=.type "StopIteration")->E (.ref e) { s with heap:=h',toks:=tk }):
 ND (NJ prog w) A (Builtin.«zip.__next__» ⟨[.ref (n+4)],[]⟩) Q E s:=by
 have d34:n+3≠n+4:=ap n 3 4 (by decide)
 have d04:n≠n+4:=ap n 0 4 (by decide)
 have d14:n+1≠n+4:=ap n 1 4 (by decide)
 have d30:n+3≠n:=ap n 3 0 (by decide)
 change ND (NJ prog w) _ (UI (MO (n+4)) 2 >>= _) _ _ _
 refine LL (NG hz rfl (x:=Value.bool false) rfl ?_)
 change ND (NJ prog w) _ (UI (MO (n+4)) 3 >>= _) _ _ _
 refine LL (NG hz rfl (x:=MO (n+2)) rfl (LL (PF hI rfl ?_)))
 change ND (NJ prog w) _ (OE (MO (n+4)) >>= _) _ _ _
 unfold OE
 refine LL (LL (NG hz rfl (x:=PK) rfl (MI ?_)))
 simp only[if_true]
 refine LL (RG (LL (NG hz rfl (x:=MO (n+3)) rfl (LL (OI hz (by simp) λg1 z1 t1=>?_)))))
 replace z1:IsZip g1 (n+4) (n+2) (n+3) .ellipsis:=z1
 refine LL ?_
 simp only[List.forIn_cons,List.forIn_nil,List.zipIdx_cons,List.zipIdx_nil]
 refine LL (LL (wpAny_onRaise ?_))
 change ND (NJ prog w) _ (OB (MO n) >>= _) _ _ _
 have f1:S1 i g1:=D1.frame i _ _ h1 λc hc o e=>t1.extBut _ _ (Ux Z hc).2.2 e
 rcases l with rfl | ⟨l1,rfl⟩
 ·refine LL (D1.done { s with heap:=g1 } _ _ f1 λg2 e t2 he=>?_)
  obtain⟨oe,e1,e2⟩:=he
  have z2:IsZip g2 (n+4) (n+2) (n+3) .ellipsis:=t2 _ _ d04.symm z1
  have ez:e≠n+4:=λz=>by rw[z,z2] at e1;cases e1;simp at e2
  exact OI (s:={ s with heap:=g2 }) z2 (by simp) λg3 _ t3=>q g3 e s.toks (λc o c1 _ c3 _ e'=>t3.extBut _ _ c1 (t2 _ _ c3 (t1.extBut _ _ c1 e'))) ⟨oe,t3.extBut _ _ ez e1,e2⟩
 ·refine LL (D1.item i { s with heap:=g1 } _ _ l1 f1 λx g2 k2 px h1' t2=>MI ?_)
  have o2:SN g2 (n+3) a b:=t2.extBut _ _ d30 (t1.extBut _ _ d34 hO)
  refine LL (PF (s:={ s with heap:=g2,toks:=k2 }) o2 rfl (LL (wpAny_updateSeq_pair (s:={ s with heap:=g2,toks:=k2 }) o2 λg3 o3 t3=>?_)))
  refine LL (TK (MI (LL (LL (wpAny_onRaise ?_)))))
  change ND (NJ prog w) _ (OB (MO (n+1)) >>= _) _ _ _
  refine LL (D2.done { s with heap:=g3,toks:=k2 } _ _ (D2.frame i _ _ h2 λc hc o e=>t3.extBut _ _ (Pb Z hc).2.1 (t2.extBut _ _ (Pb Z hc).1 (t1.extBut _ _ (Pb Z hc).2.2 e))) λg4 e t4 he=>?_)
  obtain⟨oe,e1,e2⟩:=he
  have z4:IsZip g4 (n+4) (n+2) (n+3) .ellipsis:=t4 _ _ d14.symm (t3.extBut _ _ d34.symm (t2.extBut _ _ d04.symm z1))
  have ez:e≠n+4:=λz=>by rw[z,z4] at e1;cases e1;simp at e2
  exact OI (s:={ s with heap:=g4,toks:=k2 }) z4 (by simp) λg5 _ t5=>q g5 e k2 (λc o c1 c2 c3 c4 e'=>t5.extBut _ _ c1 (t4 _ _ c4 (t3.extBut _ _ c2 (t2.extBut _ _ c3 (t1.extBut _ _ c1 e'))))) ⟨oe,t5.extBut _ _ ez e1,e2⟩
end
def DP(h:OS)(a:LZ):OS:=h.push { cls:=.type "tuple_iterator", data:=.fields #[.ref a,.int 0 0] }
def DM(h:OS)(a b:LZ):OS:=(DP h a).push { cls:=.type "tuple_iterator", data:=.fields #[.ref b,.int 0 0] }
def DL(h:OS)(a b:LZ):OS:=(DM h a b).push { cls:=.type "tuple", data:=.seq #[.ref h.objs.size,.ref (DP h a).objs.size] }
def EV(h:OS)(a b:LZ):OS:=(DL h a b).push { cls:=.type "tuple", data:=.seq #[.none,.none] }
def sT(h:OS)(a b:LZ):OS:=(EV h a b).push { cls:=.type "zip", data:=.fields #[.none,.bool false,.bool false,.ref (DM h a b).objs.size,.ref (DL h a b).objs.size] }
theorem oX{h:OS}{t:LZ}{its:Array LP}(x:h.IsTuple t its)(o:Obj):(h.push o).IsTuple t its:=let ⟨u,e,r⟩:=x;⟨u,LQ o e,r⟩
theorem tO(a b:LZ)(xs ys:Array LP):Meets (Builtin.«zip.__new__» ⟨[.type "zip", .ref a,.ref b],[]⟩) (λ_ R s=>s.heap.IsTuple a xs/\s.heap.IsTuple b ys/\R (.ok (.ret (.ref (EV s.heap a b).objs.size))) { s with heap:=sT s.heap a b }):=
 .of_wp λprog w A R s h=>by
  obtain⟨hp,g,d,tk,os⟩:=s
  obtain⟨q1,q2,q⟩:=h
  have hsub:=sub_zip
  have u1:Heap.IsTuple (Shared.heap ⟨hp,g,d,tk,os⟩) a xs:=q1
  have u2:Heap.IsTuple (Shared.heap ⟨hp.push { cls:=.type "tuple_iterator", data:=.fields #[.ref a,.int 0 0] },g,d,tk,os⟩) b ys:=oX q2 _
  wp_walk using wpAny_pyIter_tuple u1,wpAny_pyIter_tuple u2
  exact⟨_,rfl,q⟩
theorem lU{prog:MV}{w:NU}{A:NV}{E:LP->LV->Prop}{s:LV}{a b:LZ}{xs ys:Array LP}{Q:LP->LV->Prop}(q1:s.heap.IsTuple a xs)(q2:s.heap.IsTuple b ys)(q:∀h',IsZip h' (s.heap.objs.size+4) (s.heap.objs.size+2) (s.heap.objs.size+3) .none->SN h' (s.heap.objs.size+2) (.ref s.heap.objs.size) (.ref (s.heap.objs.size+1))->SN h' (s.heap.objs.size+3) .none .none->h'.IsTupleIter s.heap.objs.size a 0->h'.IsTupleIter (s.heap.objs.size+1) b 0 ->
  (∀c o,s.heap.get? c=some o->h'.get? c=some o)->Q (.ref (s.heap.objs.size+4)) { s with heap:=h' }):ND (NJ prog w) A (call (.type "zip") [.ref a,.ref b]) Q E s:=by
 refine callType_new F.called_zip (by decide) (F.typeCall_zip_2 _ _) (F.newCall_zip_2 _ _) (λobj=>F.args_object_init_3 obj _ _) F.entry_zip_new (tO a b xs ys) ⟨q1,q2,?_⟩
 have z1:(DP s.heap a).objs.size=s.heap.objs.size+1:=QG ..
 have z2:(DM s.heap a b).objs.size=s.heap.objs.size+2:=(QG ..).trans (by rw[z1])
 have z3:(DL s.heap a b).objs.size=s.heap.objs.size+3:=(QG ..).trans (by rw[z2])
 have z4:(EV s.heap a b).objs.size=s.heap.objs.size+4:=(QG ..).trans (by rw[z3])
 have k4:∀c o,(EV s.heap a b).get? c=some o->(sT s.heap a b).get? c=some o:=λc o e=>LQ _ e
 have k3:∀c o,(DL s.heap a b).get? c=some o->(sT s.heap a b).get? c=some o:=λc o e=>k4 c o (LQ _ e)
 have k2:∀c o,(DM s.heap a b).get? c=some o->(sT s.heap a b).get? c=some o:=λc o e=>k3 c o (LQ _ e)
 have k1:∀c o,(DP s.heap a).get? c=some o->(sT s.heap a b).get? c=some o:=λc o e=>k2 c o (LQ _ e)
 have k0:∀c o,s.heap.get? c=some o->(sT s.heap a b).get? c=some o:=λc o e=>k1 c o (LQ _ e)
 have g5:(sT s.heap a b).get? (EV s.heap a b).objs.size=some { cls:=.type "zip", data:=.fields #[.none,.bool false,.bool false,.ref (DM s.heap a b).objs.size,.ref (DL s.heap a b).objs.size] }:=MS _ rfl
 have g4:(sT s.heap a b).get? (DL s.heap a b).objs.size=some { cls:=.type "tuple", data:=.seq #[.none,.none] }:=k4 _ _ (MS _ rfl)
 have g3:(sT s.heap a b).get? (DM s.heap a b).objs.size=some { cls:=.type "tuple", data:=.seq #[.ref s.heap.objs.size,.ref (DP s.heap a).objs.size] }:=k3 _ _ (MS _ rfl)
 have g2:(sT s.heap a b).get? (DP s.heap a).objs.size=some { cls:=.type "tuple_iterator", data:=.fields #[.ref b,.int 0 0] }:=k2 _ _ (MS _ rfl)
 have g1:(sT s.heap a b).get? s.heap.objs.size=some { cls:=.type "tuple_iterator", data:=.fields #[.ref a,.int 0 0] }:=k1 _ _ (MS _ rfl)
 rw[z4,z2,z3] at g5
 rw[z3] at g4
 rw[z2,z1] at g3
 rw[z1] at g2
 change _/\_
 rw[z4]
 exact⟨⟨_,g5,rfl⟩,q _ g5 g3 g4 ⟨_,g1,rfl,rfl⟩ ⟨_,g2,rfl,rfl⟩ k0⟩
section
variable {prog:MV} {w:NU} {A:NV} {E:LP->LV->Prop} {s:LV} {n:LZ} {fp1 fp2:List LZ} {n1 n2:Nat} {P1 P2:Nat->LP->Prop} {S1 S2:Nat->OS->Prop}
theorem eS(Z:Hj n fp1 fp2)(D1:Draws prog w A.in1 n fp1 n1 P1 S1)(D2:Draws prog w A.in1 (n+1) fp2 n2 P2 S2){a b:LP}{i:Nat}{Q:Option LP->LV->Prop}(hz:IsZip s.heap (n+4) (n+2) (n+3) .none)(hI:SN s.heap (n+2) (.ref n) (.ref (n+1)))(hO:SN s.heap (n+3) a b)(h1:S1 i s.heap)(h2:S2 i s.heap)(l1:i < n1)(l2:i < n2)(q:∀x y h' tk,P1 i x->P2 i y->IsZip h' (n+4) (n+2) (n+3) (RP s.heap.objs.size)->SN h' (n+3) x y->S1 (i+1) h'->S2 (i+1) h'->SN h' s.heap.objs.size x y ->
  (∀c o,c≠n+4->c≠n+3->c≠n->c≠n+1->s.heap.get? c=some o->h'.get? c=some o)->Q (some (.ref s.heap.objs.size)) { s with heap:=h',toks:=tk }):ND (NJ prog w) A (RI (.ref (n+4))) Q E s:=by
 have ty:s.TypeIs (.ref (n+4)) "zip" := ⟨_,hz,rfl⟩
 unfold RI
 exact LL (QP (NN (name:=ON "__next__") ty UQ (OC UQ ty F.entry_zip_next (lK Z D1 D2 hz hI hO h1 h2 l1 l2 λx y h' tk a1 a2 a3 a4 a5 a6 a7 a8 a9=>MI (q x y h' tk a1 a2 a3 a4 a5 a6 a7 a9)) (F.args_zip_next_1 _))))
theorem lM(Z:Hj n fp1 fp2)(D1:Draws prog w A.in1 n fp1 n1 P1 S1)(D2:Draws prog w A.in1 (n+1) fp2 n2 P2 S2){a b:LP}{i:Nat}{Q:Option LP->LV->Prop}(hz:IsZip s.heap (n+4) (n+2) (n+3) .none)(hI:SN s.heap (n+2) (.ref n) (.ref (n+1)))(hO:SN s.heap (n+3) a b)(h1:S1 i s.heap)(h2:S2 i s.heap)(l:i=n1∨(i < n1/\i=n2))(q:∀h' tk,(∀c o,c≠n+4->c≠n+3->c≠n->c≠n+1->s.heap.get? c=some o->h'.get? c=some o)->Q none { s with heap:=h',toks:=tk }):ND (NJ prog w) A (RI (.ref (n+4))) Q E s:=by
 have ty:s.TypeIs (.ref (n+4)) "zip" := ⟨_,hz,rfl⟩
 unfold RI
 refine LL (QP (NN (name:=ON "__next__") ty UQ (OC UQ ty F.entry_zip_next (qL Z D1 D2 hz hI hO h1 h2 l λh' e tk k he=>?_) (F.args_zip_next_1 _))))
 obtain⟨o,e1,e2⟩:=he
 exact LL (SV (s:={ s with heap:=h',toks:=tk }) (T := "StopIteration") (b:=true) ⟨o,e1,e2⟩ isSubtype_stop (MI (q _ _ k)))
end
def BG(K:LO)(a b:LZ):It:=
 ⟨λi H=>∃xs ys x y,Dq K H a xs/\Dq K H b ys/\xs[i]? = some x/\ys[i]? = some y,
  λi H v H'=>∃T x y,H T=none/\v=.ref T/\H'=upd H T (.tup [x,y])/\(∀xs,Dq K H a xs->xs[i]? = some x)/\∀ys,Dq K H b ys->ys[i]? = some y,
  λi H=>∃xs ys,Dq K H a xs/\Dq K H b ys/\(i=xs.length∨(i < xs.length/\i=ys.length))⟩
theorem Zh{h:OS}{n a b:LZ}{i:Nat}{f0 p q:LP}{xs ys:Array LP}(hz:IsZip h (n+4) (n+2) (n+3) f0)(hO:SN h (n+3) p q)(h1:h.IsTupleIter n a i)(h2:h.IsTupleIter (n+1) b i)(l1:h.IsTuple a xs)(l2:h.IsTuple b ys)(na:a≠n+3)(nb:b≠n+3):
 Hj n [n,a] [n+1,b]/\a≠n/\b≠n+1:=by
 obtain⟨o1,e1,c1,_⟩:=l1
 obtain⟨o2,e2,c2,_⟩:=l2
 obtain⟨p1,q1,d1,_⟩:=h1
 obtain⟨p2,q2,d2,_⟩:=h2
 have nz:∀ {c:LZ} {o:Obj},h.get? c=some o->o.cls=.type "tuple" -> c≠n+4/\c≠n/\c≠n+1:=λ{c o} e z=>⟨Lp e hz (by rw[z];show QX "tuple" ≠ QX "zip"; decide),Lp e q1 (by rw[z,d1];decide),Lp e q2 (by rw[z,d2];decide)⟩
 obtain⟨a1,a2,a3⟩:=nz e1 c1
 obtain⟨b1,b2,b3⟩:=nz e2 c2
 refine⟨⟨λc hc=>?_,λc hc=>?_⟩,a2,b3⟩
 ·rcases LX.mp hc with r | r
  ·exact .inl r
  ·rw[MA] at r
   subst r
   exact .inr ⟨a3,na,a1⟩
 ·rcases LX.mp hc with r | r
  ·exact .inl r
  ·rw[MA] at r
   subst r
   exact .inr ⟨b2,nb,b1⟩
theorem Hj.more{A:NV}{h:OS}{n:LZ}{fp1 fp2:List LZ}(Z:Hj n fp1 fp2)(hh:Bm A h)(n0:∀o vs,h.get? n=some o->o.data=.fields vs->¬ vs[2]? = some .none)(n1:∀o vs,h.get? (n+1)=some o->o.data=.fields vs->¬ vs[2]? = some .none)(n4:∀o vs,h.get? (n+4)=some o->o.data=.fields vs->¬ vs[2]? = some .none)(n3:∀o vs,h.get? (n+3)=some o->o.data=.fields vs->¬ vs[2]? = some .none):Hj n (fp1++Po A) (fp2++Po A):=by
 have no:∀c∈Po A,c≠n/\c≠n+1/\c≠n+3/\c≠n+4:=λc hc=>by
  rcases hh with z | ⟨x,o,vs,a,g,d,e⟩
  ·unfold Po at hc
   rw[z] at hc
   cases hc
  ·unfold Po at hc
   rw[a] at hc
   rw[MA.mp hc]
   exact⟨λy=>n0 o vs (y ▸ g) d e,λy=>n1 o vs (y ▸ g) d e,λy=>n3 o vs (y ▸ g) d e,λy=>n4 o vs (y ▸ g) d e⟩
 refine⟨λc hc=>?_,λc hc=>?_⟩
 ·rcases MJ.mp hc with r | r
  ·exact Z.m1 c r
  ·exact .inr ⟨(no c r).2.1,(no c r).2.2.1,(no c r).2.2.2⟩
 ·rcases MJ.mp hc with r | r
  ·exact Z.m2 c r
  ·exact .inr ⟨(no c r).1,(no c r).2.2.1,(no c r).2.2.2⟩
theorem nO{P:MV}{w:NU}{K:LO}{elts:List Expr}{kk:Nat}{tpos:Pos}(n a b:LZ)(na:a≠n+3)(nb:b≠n+3):Turn P w K (.Tuple elts kk tpos) (BG K a b) [n+4,n+2,n+3,n,n+1] (n+4)
 (λi h=>IsZip h (n+4) (n+2) (n+3) .none/\SN h (n+2) (.ref n) (.ref (n+1))/\(∃p q,SN h (n+3) p q)/\h.IsTupleIter n a i/\h.IsTupleIter (n+1) b i) where
 mem:=by simp
 obj:=λi h st c hc=>by
  obtain⟨hz,hTI,⟨p,q,hTO⟩,⟨o1,e1,c1,d1⟩,⟨o2,e2,c2,d2⟩⟩:=st
  simp only[LX,MM,or_false] at hc
  rcases hc with rfl | rfl | rfl | rfl | rfl
  ·exact⟨_,hz,λv z=>nomatch z⟩
  ·exact⟨_,hTI,λv z=>nomatch z⟩
  ·exact⟨_,hTO,λv z=>nomatch z⟩
  ·exact⟨_,e1,λv z=>by rw[d1] at z;cases z⟩
  ·exact⟨_,e2,λv z=>by rw[d2] at z;cases z⟩
 keep:=λi h h' st k=>by
  obtain⟨hz,hTI,⟨p,q,hTO⟩,h1,h2⟩:=st
  exact⟨k _ (by simp) _ hz,k _ (by simp) _ hTI,⟨p,q,k _ (by simp) _ hTO⟩,h1.at λo e=>k _ (by simp) o e,h2.at λo e=>k _ (by simp) o e⟩
 item:=by
  intro X hP hw hK hc i pins s σ H E I hf st hg
  subst hP hw hK
  obtain⟨xs,ys,x,y,hq1,hq2,hx,hy⟩:=hg
  obtain⟨its1,rv1,p1,_⟩:=I.tuple hq1
  obtain⟨its2,rv2,p2,_⟩:=I.tuple hq2
  obtain⟨u1,hu1,ru1⟩:=rv1.get hx
  obtain⟨u2,hu2,ru2⟩:=rv2.get hy
  obtain⟨hz,hTI,⟨pa,pb,hTO⟩,h1,h2⟩:=st
  obtain⟨Z,a0,b1⟩:=Zh hz hTO h1 h2 p1 p2 na nb
  have hd:Bm X.A.in1 s.heap:=I.calmS hc
  have Z:=Z.more hd (Sw h1) (Sw h2) (gI hz) (λo vs g dt _=>by have e:=hTO.symm.trans g;cases e;cases dt)
  refine eS Z (gZ n a a0 its1.toArray) (gZ (n+1) b b1 its2.toArray) hz hTI hTO ⟨h1,p1,hd⟩ ⟨h2,p2,hd⟩ (by simpa using (LM.mp hu1).1) (by simpa using (LM.mp hu2).1) λv1 v2 h' tk e1 e2 a1 a2 a3 a4 a5 k=>?_
  obtain rfl:u1=v1:=by
   have e1':its1[i]? = some v1:=by simpa using e1
   rw[hu1] at e1'
   exact MZ e1'
  obtain rfl:u2=v2:=by
   have e2':its2[i]? = some v2:=by simpa using e2
   rw[hu2] at e2'
   exact MZ e2'
  refine⟨_,rfl,wpAny_letOwnedTupleGo_zip (s:={ s with heap:=h',toks:=tk }) a1 λh2' hz2 sb=>?_⟩
  have lt:∀c∈[n+4,n+2,n+3,n,n+1],c≠s.heap.objs.size:=λc hc=>by
   simp only[LX,MM,or_false] at hc
   obtain⟨_,q1,_,_⟩:=id h1
   obtain⟨_,q2,_,_⟩:=id h2
   rcases hc with rfl | rfl | rfl | rfl | rfl
   ·exact NF (MQ hz)
   ·exact NF (MQ hTI)
   ·exact NF (MQ hTO)
   ·exact NF (MQ q1)
   ·exact NF (MQ q2)
  have kk2:∀c o,c∉[n+4,n+3,n,n+1]->s.heap.get? c=some o->h2'.get? c=some o:=λc o hc e=>by
   simp only[LX,MM,or_false,not_or] at hc
   exact(sb.2 c hc.1).trans (k c o hc.1 hc.2.1 hc.2.2.1 hc.2.2.2 e)
  have I1:Inv X pins σ H { s with heap:=h2',toks:=tk }:=I.turns (t':=tk) (ch:=[n+4,n+3,n,n+1]) kk2 λc hc=>by
   simp only[LX,MM,or_false] at hc
   exact hf c (by simp only[LX,MM,or_false];rcases hc with z | z | z | z<;>simp[z])
  have fT:Dd X pins H s.heap.objs.size:=I.fpOk (MC _) (I.hok.fresh (MC _))
  have eT:h2'.get? s.heap.objs.size=some { cls:=.type "tuple", data:=.seq #[u1,u2] }:=(sb.2 _ (NT (lt (n+4) (by simp)))).trans a5
  refine⟨.ref s.heap.objs.size,_,I1.adopt (o:=.tup [x,y]) fT.1 fT.2.1 I.sz fT.2.2.2.2.1 fT.2.2.2.2.2 ⟨by show 2<=MG;decide,[u1,u2],.cons ru1 (.cons ru2 .nil),⟨_,eT,rfl,0,rfl⟩⟩,rfl,⟨_,x,y,fT.1,rfl,rfl,λzs hzs=>?_,λzs hzs=>?_⟩,?_,λc hc=>?_⟩
  ·rw[I.tuple_inj hzs hq1];exact hx
  ·rw[I.tuple_inj hzs hq2];exact hy
  ·refine⟨hz2,(sb.2 _ (ap n 2 4 (by decide))).trans (k _ _ (ap n 2 4 (by decide)) (ap n 2 3 (by decide)) (ap n 2 0 (by decide)) (ap n 2 1 (by decide)) hTI),⟨u1,u2,(sb.2 _ (ap n 3 4 (by decide))).trans a2⟩,a3.1.at λo e=>(sb.2 _ (ap n 0 4 (by decide))).trans e,a4.1.at λo e=>(sb.2 _ (ap n 1 4 (by decide))).trans e⟩
  ·rw[Ai (lt c hc)]
   exact(hf c hc).1
 done:=by
  intro X hP hw hK hc i pins s σ H E I hf st hg
  subst hP hw hK
  obtain⟨xs,ys,hq1,hq2,hx⟩:=hg
  obtain⟨its1,rv1,p1,_⟩:=I.tuple hq1
  obtain⟨its2,rv2,p2,_⟩:=I.tuple hq2
  obtain⟨hz,hTI,⟨pa,pb,hTO⟩,h1,h2⟩:=st
  obtain⟨Z,a0,b1⟩:=Zh hz hTO h1 h2 p1 p2 na nb
  have hd:Bm X.A.in1 s.heap:=I.calmS hc
  have Z:=Z.more hd (Sw h1) (Sw h2) (gI hz) (λo vs g dt _=>by have e:=hTO.symm.trans g;cases e;cases dt)
  have l1:=rv1.length
  have l2:=rv2.length
  refine lM Z (gZ n a a0 its1.toArray) (gZ (n+1) b b1 its2.toArray) hz hTI hTO ⟨h1,p1,hd⟩ ⟨h2,p2,hd⟩ (by simp;omega) λh' tk k=>⟨rfl,?_⟩
  refine I.turns (t':=tk) (ch:=[n+4,n+3,n,n+1]) (λc o hc e=>?_) λc hc=>?_
  ·simp only[LX,MM,or_false,not_or] at hc
   exact k c o hc.1 hc.2.1 hc.2.2.1 hc.2.2.2 e
  ·simp only[LX,MM,or_false] at hc
   exact hf c (by simp only[LX,MM,or_false];rcases hc with z | z | z | z<;>simp[z])
 self:=λ_ _ _ _ _ st h=>wpAny_pyIter_zip st.1 h
def HJ(K:LO)(ta:TA):TI:=λσ H R=>ta σ H λvs H1=>∃a b,vs=[.ref a,.ref b]/\(∃xs,Dq K H1 a xs)/\(∃ys,Dq K H1 b ys)/\R (BG K a b) H1
theorem uU{X:Cx}{elts:List Expr}{kk:Nat}{tpos:Pos}{a b:Expr}{ta:TA}{p pos:Pos}(hg:Gl X "zip")(hm:X.mg "zip" = none)(ha:PA X [a,b] ta)(hs:NH [a,b] X.env=[(false,RY a X.env),(false,RY b X.env)]:=by rfl)(hs2:NH [b] X.env=[(false,RY b X.env)]:=by rfl):
 PI X (.Tuple elts kk tpos) (.Call (.Name "zip" p) [a,b] [] pos) (HJ X.K ta):=by
 intro pins s σ H R I h
 refine Call_ (Il I hg hm boot_zip (QL (Bv (ha pos pins s σ H _ I h) λus s1 ⟨vs,H1,I1,r1,q1⟩=>?_) (by rw[hs,hs2]) (by rw[hs2];rfl)))
 obtain⟨a',b',e,⟨xs,hq1⟩,⟨ys,hq2⟩,q⟩:=q1
 subst e
 obtain⟨u,w',rfl,r,r'⟩:=vals2 r1
 cases r
 cases r'
 obtain⟨its1,rv1,p1,_⟩:=I1.tuple hq1
 obtain⟨its2,rv2,p2,_⟩:=I1.tuple hq2
 have lt:∀ {c:LZ} {its:Array LP},IsTup s1.heap c its->c≠s1.heap.objs.size+3:=λ{c its} ⟨o,e,_⟩=>NF (NQ (MQ e) (Nat.le_add_right _ _))
 refine lU (show s1.heap.IsTuple a' its1.toArray from p1) (show s1.heap.IsTuple b' its2.toArray from p2) λh' z1 z2 z3 z4 z5 k=>wpAny_pyIter_zip (s:={ s1 with heap:=h' }) z1 ?_
 refine⟨s1.heap.objs.size+4,[s1.heap.objs.size+4,s1.heap.objs.size+2,s1.heap.objs.size+3,s1.heap.objs.size,s1.heap.objs.size+1],_,_,H1,rfl,I1.kept (t':=s1.toks) k,nO s1.heap.objs.size a' b' (lt p1) (lt p2),⟨z1,z2,⟨_,_,z3⟩,z4,z5⟩,λc hc=>?_,q⟩
 have hle:s1.heap.objs.size<=c:=by
  simp only[LX,MM,or_false] at hc
  rcases hc with rfl | rfl | rfl | rfl | rfl
  ·exact iO _ 4
  ·exact iO _ 2
  ·exact iO _ 3
  ·exact iO _ 0
  ·exact iO _ 1
 exact I1.fpOk hle (I1.hok.fresh hle)
theorem Xz{K:LO}{a b:LZ}{xs zs:List V}{n:Nat}{fr:List (Str×Nat)}{g:TG}{te:TE}{σ:St}{H:Hp}{F:List V->Hp->Prop}(hlen:xs.length=zs.length)(Pv:Nat->List V->Hp->Prop)(h0:Pv 0 [] H)(hl:∀i ys H,i<=xs.length->Pv i ys H->Dq K H a xs/\Dq K H b zs)(hs:∀i x z ys H T,xs[i]? = some x->zs[i]? = some z->Pv i ys H->H T=none->g (.ref T) (stC n fr σ) (upd H T (.tup [x,z])) λσ2 H2=>te σ2 H2 λy H4=>ys.length < MG/\Pv (i+1) (ys++[y]) H4)(hd:∀ys H,Pv xs.length ys H->F ys H):Em n fr g Pk te σ (BG K a b) H F:=by
 refine⟨λi m ys H=>m=xs.length-i/\i<=xs.length/\Pv i ys H,⟨xs.length,by simp,NI _,h0⟩,?_⟩
 rintro i m ys H ⟨rfl,hi,p⟩
 obtain⟨q1,q2⟩:=hl i ys H hi p
 by_cases hlt:i < xs.length
 ·have hx:=LU hlt
  have hz:zs[i]? = some (zs[i]'(by omega)):=LU (by omega)
  refine .inr ⟨⟨xs,zs,_,_,q1,q2,hx,hz⟩,Pv (i+1),λys' H' p'=>⟨xs.length-(i+1),by omega,rfl,hlt,p'⟩,λy H' z=>?_⟩
  obtain⟨T,x,z',hT,rfl,rfl,e1,e2⟩:=z
  exact hs i x z' ys H T (e1 _ q1) (e2 _ q2) p hT
 ·have e:i=xs.length:=by omega
  subst e
  exact .inl ⟨⟨xs,zs,q1,q2,.inl rfl⟩,hd ys H p⟩
section
variable {X:Cx} {v e:Expr} {es:List Expr} {ta t:TE} {pos:Pos}
def KU(ta:TE):TE:=λσ H Q=>ta σ H λx H1=>∃z,x=.str z/\z.length<=MG/\Q (.str z) H1
theorem Pg(h:PE X v ta):PE X (.FormattedValue v (-1) none pos) (KU ta):=by
 intro pins s σ H Q I q
 refine PySem.wpAny_FormattedValue_plain (Bv (h pins s σ H _ I q) λu s1 ⟨x,H1,I1,r1,z,ex,hz,q1⟩=>?_)
 subst ex
 obtain⟨t,rfl⟩:=r1
 exact PyProof.Rows.formatField_str (λt' tk=>⟨.str z,H1,I1.tok tk,⟨t',rfl⟩,q1⟩) hz
abbrev TJ:=Str->St->Hp->VK->Prop
def PJ(X:Cx)(es:List Expr)(T:TJ):Prop:=∀(pins:List (LZ×Obj))(s:LV)(σ:St)(H:Hp)(acc:Str)(Q:VK),Inv X pins σ H s->T acc σ H Q ->
 Joins (NJ X.prog X.w) X.A X.xe (evalEach es X.env) acc (λout s1=>out.length<=MG/\EP X pins σ Q (.str out s1.toks) { s1 with toks:=s1.toks+1 }) s
def ID:TJ:=λacc _ H Q=>acc.length<=MG/\Q (.str acc) H
def DW(t:TE)(T:TJ):TJ:=λacc σ H Q=>t σ H λx H1=>∃y,x=.str y/\(acc++y).length<=MG/\T (acc++y) σ H1 Q
theorem Vx:PJ X [] ID:=λpins s σ H acc Q I h=>⟨h.1,.str acc,H,I.tok _,⟨_,rfl⟩,h.2⟩
theorem Dm{T:TJ}(h:PE X e t)(hr:PJ X es T):PJ X (e::es) (DW t T):=by
 intro pins s σ H acc Q I q
 refine Bv (h pins s σ H _ I q) λu s1 ⟨x,H1,I1,r1,y,ex,hl,q1⟩=>?_
 subst ex
 obtain⟨t,rfl⟩:=r1
 exact⟨y,t,rfl,hl,hr pins s1 σ H1 _ Q I1 q1⟩
theorem Kp{v1 v2:Expr}{rest:List Expr}{T:TJ}(h:PJ X (v1::v2::rest) T):PE X (.JoinedStr (v1::v2::rest) pos) (T Str.empty):=λpins s σ H Q I q=>PySem.wpAny_JoinedStr (h pins s σ H _ Q I q)
end
section
variable {prog:MV} {w:NU} {A:NV} {R:Result->LV->Prop} {I:LZ} {fp wr:List LZ} {G:Array GenState->Array GenState->Prop} {n:Nat} {P:Nat->LP->Prop} {St:Nat->LV->Prop}
end
section
variable {prog:MV} {w:NU} {A:NV} {E:LP->LV->Prop} {s:LV}
end
section
variable {X:Cx}
end
end L2
namespace Mg
section
variable {α:Type} [DecidableEq α]
def cnt(rs:List (List α))(x:α):Nat:=(rs.map λr=>r.tail.count x).sum
def pick(f:α->Nat):List (List α)->Option α
 | []=>none
 | []::r=>pick f r
 | (x::_)::r=>if f x=0 then some x else pick f r
def Ct(x:α):List α->List α
 | []=>[]
 | y::r=>if y=x then r else y::r
def Di:Nat->List (List α)->List α×List (List α)
 | 0,rs=>([],rs)
 | n+1,rs=>match pick (cnt rs) rs with
  | none=>([],rs)
  | some x=>(x::(Di n (rs.map (Ct x))).1,(Di n (rs.map (Ct x))).2)
def tot(rs:List (List α)):Nat:=(rs.map List.length).sum
theorem cnt_nil(x:α):cnt [] x=0:=rfl
theorem cnt_cons(r:List α)(rs:List (List α))(x:α):cnt (r::rs) x=r.tail.count x+cnt rs x:=rfl
theorem cnt_append(rs ss:List (List α))(x:α):cnt (rs++ss) x=cnt rs x+cnt ss x:=by
 unfold cnt
 rw[LW,List.sum_append]
theorem Jh{rs:List (List α)}{x:α}:cnt rs x=0 ↔ ∀r∈rs,x∉r.tail:=by
 induction rs with
 | nil=>simp[cnt_nil]
 | cons r rs ih=>
  rw[cnt_cons]
  constructor
  ·intro h q hq
   rcases LX.mp hq with rfl | hq
   ·exact List.count_eq_zero.mp (by omega)
   ·exact ih.mp (by omega) q hq
  ·intro h
   have h1:=List.count_eq_zero.mpr (h r MD)
   have h2:=ih.mpr λq hq=>h q (ME _ hq)
   omega
theorem Hz{f:α->Nat}{x:α}:∀ {rs:List (List α)},pick f rs=some x->f x=0/\∃r∈rs,∃t,r=x::t
 | [],h=>nomatch h
 | []::r,h=>by
  obtain⟨h1,q,hq,t,e⟩:=Hz (rs:=r) h
  exact⟨h1,q,ME _ hq,t,e⟩
 | (y::u)::r,h=>by
  unfold pick at h
  by_cases hy:f y=0
  ·rw[if_pos hy] at h
   cases h
   exact⟨hy,_,MD,u,rfl⟩
  ·rw[if_neg hy] at h
   obtain⟨h1,q,hq,t,e⟩:=Hz (rs:=r) h
   exact⟨h1,q,ME _ hq,t,e⟩
theorem Lv(r:List α)(rs:List (List α)):tot (r::rs)=r.length+tot rs:=rfl
theorem Fd(x y:α)(r:List α):Ct x (y::r)=if y=x then r else y::r:=rfl
theorem Zp(x:α)(r:List α):(Ct x r).length<=r.length:=by
 cases r with
 | nil=>exact MC _
 | cons y r=>
  rw[Fd]
  split
  ·exact TV _
  ·exact MC _
theorem Pd(x:α):∀rs:List (List α),tot (rs.map (Ct x))<=tot rs
 | []=>MC _
 | r::rs=>by
  rw[MU,Lv,Lv]
  have:=Pd x rs
  have:=Zp x r
  omega
theorem Jx{x:α}{t:List α}:∀ {rs:List (List α)},x::t∈rs->tot (rs.map (Ct x)) < tot rs
 | r::rs,h=>by
  rw[MU,Lv,Lv]
  rcases LX.mp h with e | h
  ·subst e
   have h1:=Pd x rs
   have h2:(Ct x (x::t)).length=t.length:=by rw[Fd,if_pos rfl]
   rw[h2,MT]
   omega
  ·have:=Jx h
   have:=Zp x r
   omega
theorem aO{n:Nat}{rs:List (List α)}(h:pick (cnt rs) rs=none):Di n rs=([],rs):=by
 cases n with
 | zero=>rfl
 | succ n=>unfold Di;rw[h]
theorem Ma{n:Nat}{rs:List (List α)}{x:α}(h:pick (cnt rs) rs=some x):Di (n+1) rs=(x::(Di n (rs.map (Ct x))).1,(Di n (rs.map (Ct x))).2):=by
 rw[Di,h]
theorem Ja(x:α)(r:List α):Ct x (x::r)=r:=by rw[Fd,if_pos rfl]
theorem Sd{x:α}{t:List α}{rs:List (List α)}{f:α->Nat}(h:f x=0):pick f ((x::t)::rs)=some x:=by unfold pick;rw[if_pos h]
end
end Mg
namespace Mg
section
variable {α:Type} [DecidableEq α]
def rests(rows:List (List α))(st:List Nat):List (List α):=List.zipWith (λr n=>r.drop n) rows st
theorem Gg{rows:List (List α)}{st:List Nat}{i:Nat}{r:List α}{n:Nat}(h1:rows[i]? = some r)(h2:st[i]? = some n):(rests rows st)[i]? = some (r.drop n):=by
 unfold rests
 rw[List.getElem?_zipWith,h1,h2]
theorem Jc{rows:List (List α)}{st:List Nat}(h:st.length=rows.length):(rests rows st).length=rows.length:=by
 unfold rests
 rw[List.length_zipWith,h,Nat.min_self]
theorem Cs:∀rows:List (List α),rests rows (NC rows.length 0)=rows
 | []=>rfl
 | r::rows=>by
  have ih:=Cs rows
  show (r.drop 0)::rests rows (NC rows.length 0)=r::rows
  rw[ih,TQ]
theorem Gh{r:List α}{n:Nat}(h:n < r.length):r.drop n=r[n]::r.drop (n+1):=QT h
theorem gR{f:α->Nat}{rs:List (List α)}{i:Nat}(h:rs[i]? = some []):pick f (rs.drop i)=pick f (rs.drop (i+1)):=by
 obtain⟨hi,e⟩:=LM.mp h
 rw[QT hi,e]
 rfl
theorem cV{f:α->Nat}{rs:List (List α)}{i:Nat}{x:α}{t:List α}(h:rs[i]? = some (x::t)):pick f (rs.drop i)=if f x=0 then some x else pick f (rs.drop (i+1)):=by
 obtain⟨hi,e⟩:=LM.mp h
 rw[QT hi,e]
 rfl
def half(x:α)(rs:List (List α))(i:Nat):List (List α):=(rs.take i).map (Ct x)++rs.drop i
theorem oK(x:α)(rs:List (List α)):half x rs 0=rs:=by unfold half;simp
theorem tZ(x:α)(rs:List (List α)){i:Nat}(h:rs.length<=i):half x rs i=rs.map (Ct x):=by
 unfold half
 rw[NY h,QQ h,NL]
theorem Ls{x:α}{rs:List (List α)}{i:Nat}{r:List α}(h:rs[i]? = some r):half x rs i=(rs.take i).map (Ct x)++r::rs.drop (i+1)/\half x rs (i+1)=(rs.take i).map (Ct x)++Ct x r::rs.drop (i+1):=by
 obtain⟨hi,e⟩:=LM.mp h
 unfold half
 constructor
 ·rw[QT hi,e]
 ·rw[NR,h,LW]
  simp
theorem pD{x:α}{rs:List (List α)}{i:Nat}{r:List α}(h:rs[i]? = some r)(y:α):cnt (half x rs (i+1)) y+r.tail.count y=cnt (half x rs i) y+(Ct x r).tail.count y:=by
 obtain⟨e1,e2⟩:=Ls (x:=x) h
 rw[e1,e2,cnt_append,cnt_append,cnt_cons,cnt_cons]
 omega
theorem lC{rows:List (List α)}{st:List Nat}{i n:Nat}{r:List α}(h1:rows[i]? = some r)(hi:i < st.length):rests rows (st.set i n)=(rests rows st).set i (r.drop n):=by
 apply List.ext_getElem?
 intro j
 unfold rests
 rw[List.getElem?_zipWith]
 by_cases hj:i=j
 ·subst hj
  have hi2:i < rows.length:=(LM.mp h1).1
  rw[QC hi,h1,QC (by rw[List.length_zipWith];omega)]
 ·rw[QB hj,QB hj,List.getElem?_zipWith]
theorem Lb{rs:List (List α)}{i:Nat}{r:List α}(h:rs[i]? = some r):tot (rs.take (i+1))=tot (rs.take i)+r.length:=by
 unfold tot
 rw[NR,h,LW,List.sum_append]
 simp
theorem Xy(rs:List (List α))(i:Nat):tot (rs.take i)<=tot rs:=by
 have e:tot rs=tot (rs.take i)+tot (rs.drop i):=by
  unfold tot
  rw[<- List.sum_append,<- LW,List.take_append_drop]
 omega
theorem Tq{rs:List (List α)}{i:Nat}{r:List α}(h:rs[i]? = some r)(x:α):cnt (rs.take (i+1)) x=cnt (rs.take i) x+r.tail.count x:=by
 unfold cnt
 rw[NR,h,LW,List.sum_append]
 simp
theorem Jf{r:List α}{j:Nat}{y:α}(h:r[j]? = some y)(x:α):(r.take (j+1)).count x=(r.take j).count x+if x=y then 1 else 0:=by
 rw[NR,h,List.count_append]
 by_cases e:x=y
 ·subst e
  rw[if_pos rfl]
  simp
 ·rw[if_neg e]
  have:¬ y=x:=λz=>e z.symm
  simp[this]
end
end Mg
namespace Mg
section
variable {α:Type} [DecidableEq α]
theorem rA{x:α}{rs:List (List α)}{i:Nat}{r:List α}(h:rs[i]? = some r):(half x rs i).set i (Ct x r)=half x rs (i+1):=by
 obtain⟨e1,e2⟩:=Ls (x:=x) h
 have hi:i < rs.length:=(LM.mp h).1
 have hl:((rs.take i).map (Ct x)).length=i:=by rw[LN,NM];omega
 rw[e1,e2,List.set_append_right _ _ (by rw[hl];exact MC _),hl,Nat.sub_self]
 rfl
theorem nV{x:α}{rs:List (List α)}{i:Nat}{r:List α}(h:rs[i]? = some r)(e:Ct x r=r):half x rs (i+1)=half x rs i:=by
 obtain⟨e1,e2⟩:=Ls (x:=x) h
 rw[e1,e2,e]
end
end Mg
namespace Nm
open PySem PyProof.Rows
def Eg:Str := "abcdefghijklmnopqrstuvwxyz"
def fill(c:Int):Str:=UA (Eg++Eg) (some (c % 26)) (some (c % 26+c / 26 % 19))
def place(c:Int):Int:=c / 494 % (((fill c).length:Int)+1)
def sign(k:Int):Str:=⟨#[97+k.toNat]⟩
def Ju(k c:Int):Str:=UA (fill c) none (some (place c))++sign (k / 26 % 26)++sign (k % 26)++UA (fill c) (some (place c)) none
def isNm(x:Str):Prop:=1<=x.length/\x.length<=20/\∀c∈x.cps.toList,97<=c/\c<=122
theorem Pc:Eg.length=26:=by decide +kernel
theorem Pj:Eg.cps.toList=(List.range 26).map (97 + ·):=by decide +kernel
theorem len_app(a b:Str):(a++b).length=a.length+b.length:=by
 show (a.cps++b.cps).size=_
 rw[Array.size_append]
 rfl
theorem app_list(a b:Str):(a++b).cps.toList=a.cps.toList++b.cps.toList:=by
 show (a.cps++b.cps).toList=_
 rw[Array.toList_append]
theorem len_list(a:Str):a.length=a.cps.toList.length:=by
 show a.cps.size=_
 rw[SJ]
theorem uQ{x:Str}{i j:Int}(h0:0<=i)(h1:i<=j)(h2:j<=x.length):(UA x (some i) (some j)).cps.toList=(x.cps.toList.drop i.toNat).take (j-i).toNat:=by
 have e:=eq_of_beq (slice_closesL h0 h1 h2)
 rw[e]
theorem AL{x:Str}{j:Int}(h0:0<=j)(h2:j<=x.length):(UA x none (some j)).cps.toList=x.cps.toList.take j.toNat:=by
 have e:=eq_of_beq (slice_closes_toL h0 h2)
 rw[e]
 simp
theorem Zm{x:Str}{i:Int}(h0:0<=i)(h2:i<=x.length):(UA x (some i) none).cps.toList=x.cps.toList.drop i.toNat:=by
 have e:=eq_of_beq (slice_closes_fromL h0 h2 rfl)
 rw[e]
 show (x.cps.toList.drop i.toNat).take ((x.length:Int)-i).toNat=_
 refine NY ?_
 rw[OW,<- len_list]
 omega
theorem Zs(c:Int):(fill c).cps.toList=((Eg++Eg).cps.toList.drop (c % 26).toNat).take (c / 26 % 19).toNat:=by
 have a1:=OM c (show (26:Int)≠0 by decide)
 have a2:=OH c (show (0:Int) < 26 by decide)
 have b1:=OM (c / 26) (show (19:Int)≠0 by decide)
 have b2:=OH (c / 26) (show (0:Int) < 19 by decide)
 unfold fill
 rw[uQ a1 (by omega) (by rw[len_app,Pc];omega)]
 congr 2
 omega
theorem Zc(c:Int):(fill c).length<=18:=by
 rw[len_list,Zs,NM]
 have b1:=OM (c / 26) (show (19:Int)≠0 by decide)
 have b2:=OH (c / 26) (show (0:Int) < 19 by decide)
 omega
theorem Sm(c:Int):∀x∈(fill c).cps.toList,97<=x/\x<=122:=λx hx=>by
 rw[Zs,app_list,Pj] at hx
 have h:=UW (List.mem_of_mem_take hx)
 have h':x∈(List.range 26).map (97 + ·):=by
  rcases MJ.mp h with z | z<;>exact z
 obtain⟨i,hi,rfl⟩:=ML.mp h'
 have:=List.mem_range.mp hi
 omega
theorem rO(c:Int):0<=place c/\place c<=(fill c).length:=by
 unfold place
 have b1:=OM (c / 494) (show (((fill c).length:Int)+1)≠0 by omega)
 have b2:=OH (c / 494) (show (0:Int) < (((fill c).length:Int)+1) by omega)
 omega
theorem Mi(k c:Int):(Ju k c).cps.toList=(fill c).cps.toList.take (place c).toNat++[97+(k / 26 % 26).toNat]++[97+(k % 26).toNat]++(fill c).cps.toList.drop (place c).toNat:=by
 obtain⟨h0,h1⟩:=rO c
 unfold Ju
 rw[app_list,app_list,app_list,AL h0 h1,Zm h0 h1]
 rfl
theorem qJ(k c:Int):(Ju k c).length=(fill c).length+2:=by
 rw[len_list,Mi]
 simp only[LS,NM,OW,MR]
 rw[len_list]
 omega
theorem vY(k c:Int):isNm (Ju k c):=by
 have h1:=qJ k c
 have h2:=Zc c
 refine⟨by omega,by omega,λx hx=>?_⟩
 rw[Mi] at hx
 have k1:=OM (k / 26) (show (26:Int)≠0 by decide)
 have k2:=OH (k / 26) (show (0:Int) < 26 by decide)
 have k3:=OM k (show (26:Int)≠0 by decide)
 have k4:=OH k (show (0:Int) < 26 by decide)
 rcases MJ.mp hx with hx | hx
 ·rcases MJ.mp hx with hx | hx
  ·rcases MJ.mp hx with hx | hx
   ·exact Sm c x (List.mem_of_mem_take hx)
   ·have:=MA.mp hx
    omega
  ·have:=MA.mp hx
   omega
 ·exact Sm c x (UW hx)
theorem pN{k j c:Int}(h0:0<=k)(h1:k < 676)(h2:0<=j)(h3:j < 676)(h:Ju k c=Ju j c):k=j:=by
 have e:=congrArg (λx:Str=>x.cps.toList) h
 rw[Mi,Mi,OA,OA,OA,OA] at e
 have e2:=List.append_cancel_left e
 have e3:(97+(k / 26 % 26).toNat)=(97+(j / 26 % 26).toNat)/\(97+(k % 26).toNat)=(97+(j % 26).toNat):=by
  simpa using e2
 omega
theorem wZ(c:Nat):(!decide (([c]:List Nat) < [97]))=decide (97<=c):=by
 by_cases h:97<=c
 ·rw[decide_eq_true h]
  have:¬ ([c]:List Nat) < [97]:=λz=>by
   rcases RW.mp z with z | ⟨_,z⟩
   ·omega
   ·exact absurd z (List.not_lt_nil _)
  rw[decide_eq_false this];rfl
 ·rw[decide_eq_false h]
  have:([c]:List Nat) < [97]:=RW.mpr (.inl (by omega))
  rw[decide_eq_true this];rfl
theorem xK(c:Nat):(!decide (([122]:List Nat) < [c]))=decide (c<=122):=by
 by_cases h:c<=122
 ·rw[decide_eq_true h]
  have:¬ ([122]:List Nat) < [c]:=λz=>by
   rcases RW.mp z with z | ⟨_,z⟩
   ·omega
   ·exact absurd z (List.not_lt_nil _)
  rw[decide_eq_false this];rfl
 ·rw[decide_eq_false h]
  have:([122]:List Nat) < [c]:=RW.mpr (.inl (by omega))
  rw[decide_eq_true this];rfl
end Nm
namespace Li
open PySem PySem.Builtin PySem.Builtin.Str
def jn(c:Nat):List (List Nat)->List Nat
 | []=>[]
 | [x]=>x
 | x::y::r=>x++c::jn c (y::r)
theorem vS{c:Nat}{x:List Nat}:∀ {r:List (List Nat)},r≠[]->jn c (x::r)=x++c::jn c r
 | [],h=>absurd rfl h
 | _::_,_=>rfl
theorem Af(x y:Str):(x++y).cps.toList=x.cps.toList++y.cps.toList:=by
 show (x.cps++y.cps).toList=_
 simp
theorem Ba(c:Nat):∀ls:List Str,(Str.join ⟨#[c]⟩ ls).cps.toList=jn c (ls.map λl=>l.cps.toList)
 | []=>rfl
 | [x]=>rfl
 | x::y::r=>by
  show (x++⟨#[c]⟩++Str.join ⟨#[c]⟩ (y::r)).cps.toList=_
  rw[Af,Af,Ba c (y::r)]
  show (x.cps.toList++[c])++_=x.cps.toList++c::_
  rw[OA]
  rfl
theorem aI{c:Nat}:∀ {x x':List Nat} {r r':List Nat},c∉x->c∉x'->x++c::r=x'++c::r'->x=x'/\r=r'
 | [],[],_,_,_,_,h=>⟨rfl,(List.cons.inj h).2⟩
 | [],b::x',_,_,_,h2,h=>absurd ((List.cons.inj h).1 ▸ MD ..) h2
 | a::x,[],_,_,h1,_,h=>absurd ((List.cons.inj h).1 ▸ MD ..) h1
 | a::x,b::x',_,_,h1,h2,h=>by
  obtain⟨e1,e2⟩:=List.cons.inj h
  obtain⟨e3,e4⟩:=aI (λz=>h1 (ME _ z)) (λz=>h2 (ME _ z)) e2
  exact⟨by rw[e1,e3],e4⟩
theorem hJ{c:Nat}:∀ {ps qs:List (List Nat)},ps≠[]->qs≠[]->(∀p∈ps,c∉p)->(∀q∈qs,c∉q)->jn c ps=jn c qs->ps=qs
 | [],_,h,_,_,_,_=>absurd rfl h
 | _,[],_,h,_,_,_=>absurd rfl h
 | [x],[y],_,_,_,_,h=>by rw[show x=y from h]
 | [x],y::z::r,_,_,h1,_,h=>by
  have h:x=y++c::jn c (z::r):=h
  exact absurd (by rw[h];exact MP _ (MD ..)) (h1 x (MD ..))
 | x::z::r,[y],_,_,_,h2,h=>by
  have h:x++c::jn c (z::r)=y:=h
  exact absurd (by rw[<- h];exact MP _ (MD ..)) (h2 y (MD ..))
 | x::z::r,y::u::q,_,_,h1,h2,h=>by
  obtain⟨e1,e2⟩:=aI (h1 x (MD ..)) (h2 y (MD ..)) h
  rw[e1,hJ (List.cons_ne_nil _ _) (List.cons_ne_nil _ _) (λp hp=>h1 p (ME _ hp)) (λp hp=>h2 p (ME _ hp)) e2]
theorem str_ext{x y:Str}(h:x.cps.toList=y.cps.toList):x=y:=by
 cases x
 cases y
 congr 1
 exact Array.toList_inj.mp h
theorem wN{ls ms:List Str}(h:ls.map (λl=>l.cps.toList)=ms.map λl=>l.cps.toList):ls=ms:=by
 induction ls generalizing ms with
 | nil=>cases ms with
  | nil=>rfl
  | cons _ _=>cases h
 | cons x r ih=>cases ms with
  | nil=>cases h
  | cons y q=>
   rw[MU,MU] at h
   obtain⟨h1,h2⟩:=List.cons.inj h
   rw[str_ext h1,ih h2]
theorem Eo(c:Nat){ls:List Str}(h0:ls≠[])(hc:∀l∈ls,c∉l.cps.toList):Txt.split (Str.join ⟨#[c]⟩ ls) ⟨#[c]⟩=ls:=by
 have hf:=StrLaws.split_free (Str.join ⟨#[c]⟩ ls) c
 have hj:=StrLaws.join_split (Str.join ⟨#[c]⟩ ls) ⟨#[c]⟩
 have hp:=PyProof.Rows.split_pos (Str.join ⟨#[c]⟩ ls) ⟨#[c]⟩
 generalize Txt.split (Str.join ⟨#[c]⟩ ls) ⟨#[c]⟩=ps at *
 have e:jn c (ps.map λl=>l.cps.toList)=jn c (ls.map λl=>l.cps.toList):=by rw[<- Ba,<- Ba,hj]
 refine wN (hJ ?_ ?_ ?_ ?_ e)
 ·intro z
  rw[List.map_eq_nil_iff.mp z] at hp
  cases hp
 ·intro z
  exact h0 (List.map_eq_nil_iff.mp z)
 ·intro p hp
  obtain⟨l,hl,rfl⟩:=ML.mp hp
  exact hf l hl
 ·intro p hp
  obtain⟨l,hl,rfl⟩:=ML.mp hp
  exact hc l hl
def ends(ls:List Str):Str:=⟨(ls.map λl=>l.cps.toList++[10]).flatten.toArray⟩
theorem oE(ls:List Str):Str.join ⟨#[10]⟩ (ls++[Str.empty])=ends ls:=by
 refine str_ext ?_
 rw[Ba]
 show _=(List.toArray _).toList
 rw[List.toList_toArray]
 induction ls with
 | nil=>rfl
 | cons x r ih=>
  rw[List.cons_append,MU,MU,List.flatten_cons,vS (by simp),ih,OA]
  rfl
theorem zK(ls:List Str):(Str.join Str.empty ls).cps.toList=(ls.map λl=>l.cps.toList).flatten:=by
 induction ls with
 | nil=>rfl
 | cons x r ih=>
  cases r with
  | nil=>
   show x.cps.toList=_
   simp
  | cons y q=>
   show (x++Str.empty++Str.join Str.empty (y::q)).cps.toList=_
   rw[Af,Af,ih]
   show (x.cps.toList++[])++_=_
   rw[NL]
   rfl
theorem lO(ls:List Str):Str.join Str.empty (ls.map λl=>l++⟨#[10]⟩)=ends ls:=by
 refine str_ext ?_
 rw[zK]
 show _=(List.toArray _).toList
 rw[List.toList_toArray,List.map_map]
 congr 1
 refine List.map_congr_left λl _=>?_
 show (l++⟨#[10]⟩).cps.toList=_
 rw[Af]
end Li
namespace Tx
open PySem PySem.Builtin PySem.Builtin.Str PyProof.Rows
abbrev cs(x:Str):List Nat:=x.cps.toList
theorem len_cs(x:Str):(cs x).length=x.length:=by simp[Str.length]
theorem Vq(x:Str)(i j:Nat):cs (strSub x i j)=((cs x).drop i).take (j-i):=by
 show (x.cps.extract i j).toList=_
 simp
theorem Kk(c v:Nat):(⟨#[c]⟩:Str).cps.contains v=decide (v=c):=by
 show (#[c]:Array Nat).contains v=_
 by_cases h:v=c
 ·subst h;simp
 ·rw[decide_eq_false h];simp[h]
theorem getD_in{l m r:List Nat}{k:Nat}(h1:l.length<=k)(h2:k < l.length+m.length):(l++(m++r)).getD k 0=m.getD (k-l.length) 0:=by
 rw[MF,MF,OG h1,MW (by omega)]
theorem Se{n c k:Nat}(h:k < n):(NC n c).getD k 0=c:=by
 rw[MF,RF,if_pos h]
 rfl
theorem strip_mid{c m n:Nat}{x y:Str}(hx:cs x=NC m c++(cs y++NC n c))(h0:0 < (cs y).length)(hh:(cs y).getD 0 0≠c)(hl:(cs y).getD ((cs y).length-1) 0≠c):Txt.stripChars x ⟨#[c]⟩=y:=by
 have hlen:x.length=m+((cs y).length+n):=by rw[<- len_cs,hx];simp
 have gx:∀k,x.cps.getD k 0=(NC m c++(cs y++NC n c)).getD k 0:=λk=>by rw[<- getD_list,<- hx]
 have g1:∀k,k < m->x.cps.getD k 0=c:=λk hk=>by
  rw[gx,MF,MW (by simpa using hk),<- MF,Se hk]
 have g2:∀k,m<=k->k < m+(cs y).length->x.cps.getD k 0=(cs y).getD (k-m) 0:=λk h1 h2=>by
  rw[gx,getD_in (by simpa using h1) (by simpa using h2),OL]
 have g3:∀k,m+(cs y).length<=k->k < x.length->x.cps.getD k 0=c:=λk h1 h2=>by
  rw[gx,<- OA,MF,OG (by simpa using h1),<- MF,Se (by rw[LS,OL];omega)]
 unfold Txt.stripChars
 rw[stripBy_eq]
 obtain⟨a1,a2,a3⟩:=lo_facts (⟨#[c]⟩:Str).cps.contains x
 have hlo:stripLo (⟨#[c]⟩:Str).cps.contains true x=m:=by
  generalize stripLo (⟨#[c]⟩:Str).cps.contains true x=lo at *
  rcases Nat.lt_trichotomy lo m with h | h | h
  ·rcases a3 with z | z
   ·omega
   ·rw[g1 _ h,Kk,decide_eq_true rfl] at z
    cases z
  ·exact h
  ·have z:=a2 m h
   rw[g2 m (MC _) (by omega),Nat.sub_self,Kk] at z
   exact absurd (of_decide_eq_true z) hh
 rw[hlo]
 obtain⟨b1,b2,b3,b4⟩:=hi_facts (⟨#[c]⟩:Str).cps.contains x m (by omega)
 have hhi:stripHi (⟨#[c]⟩:Str).cps.contains true x m=m+(cs y).length:=by
  generalize stripHi (⟨#[c]⟩:Str).cps.contains true x m=hi at *
  rcases Nat.lt_trichotomy hi (m+(cs y).length) with h | h | h
  ·have z:=b3 (m+(cs y).length-1) (by omega) (by omega)
   rw[g2 _ (by omega) (by omega),Kk,show m+(cs y).length-1-m=(cs y).length-1 by omega] at z
   exact absurd (of_decide_eq_true z) hl
  ·exact h
  ·rcases b4 with z | z
   ·omega
   ·rw[g3 _ (by omega) (by omega),Kk,decide_eq_true rfl] at z
    cases z
 rw[hhi]
 refine Li.str_ext ?_
 show cs (strSub x m (m+(cs y).length))=cs y
 rw[Vq,hx,List.drop_append_of_le_length (by simp),QQ (by simp),List.nil_append,Nat.add_sub_cancel_left,List.take_append_of_le_length (MC _),List.take_length]
theorem strip_id{c:Nat}{x:Str}(h0:0 < (cs x).length)(hh:(cs x).getD 0 0≠c)(hl:(cs x).getD ((cs x).length-1) 0≠c):Txt.stripChars x ⟨#[c]⟩=x:=strip_mid (m:=0) (n:=0) (by simp) h0 hh hl
theorem rstrip_mid{c n:Nat}{x y:Str}(hx:cs x=cs y++NC n c)(h0:0 < (cs y).length)(hl:(cs y).getD ((cs y).length-1) 0≠c):Txt.rstripChars x ⟨#[c]⟩=y:=by
 have hlen:x.length=(cs y).length+n:=by rw[<- len_cs,hx];simp
 have gx:∀k,x.cps.getD k 0=(cs y++NC n c).getD k 0:=λk=>by rw[<- getD_list,<- hx]
 have g2:∀k,k < (cs y).length->x.cps.getD k 0=(cs y).getD k 0:=λk h2=>by
  rw[gx,MF,MW h2,<- MF]
 have g3:∀k,(cs y).length<=k->k < x.length->x.cps.getD k 0=c:=λk h1 h2=>by
  rw[gx,MF,OG h1,<- MF,Se (by omega)]
 unfold Txt.rstripChars
 rw[stripBy_eq]
 have hlo:stripLo (⟨#[c]⟩:Str).cps.contains false x=0:=rfl
 rw[hlo]
 obtain⟨b1,b2,b3,b4⟩:=hi_facts (⟨#[c]⟩:Str).cps.contains x 0 (NI _)
 have hhi:stripHi (⟨#[c]⟩:Str).cps.contains true x 0=(cs y).length:=by
  generalize stripHi (⟨#[c]⟩:Str).cps.contains true x 0=hi at *
  rcases Nat.lt_trichotomy hi (cs y).length with h | h | h
  ·have z:=b3 ((cs y).length-1) (by omega) (by omega)
   rw[g2 _ (by omega),Kk] at z
   exact absurd (of_decide_eq_true z) hl
  ·exact h
  ·rcases b4 with z | z
   ·omega
   ·rw[g3 _ (by omega) (by omega),Kk,decide_eq_true rfl] at z
    cases z
 rw[hhi]
 refine Li.str_ext ?_
 show cs (strSub x 0 (cs y).length)=cs y
 rw[Vq,hx,TQ,Nat.sub_zero,List.take_append_of_le_length (MC _),List.take_length]
theorem starts_not{x y:Str}{c:Nat}(hy:(cs y).getD 0 0=c)(h0:0 < (cs y).length)(hx:(cs x).getD 0 0≠c):Txt.startswith x y=false:=by
 unfold Txt.startswith
 rw[Bool.and_eq_false_iff]
 by_cases hl:0+y.length<=x.length
 ·refine .inr ?_
  cases e:subAt x y 0 with
  | false=>rfl
  | true=>
   exfalso
   unfold subAt at e
   have e2:(x.cps.extract 0 (0+y.length)).toList=cs y:=by rw[beq_iff_eq.mp e]
   have e3:((cs x).drop 0).take (0+y.length-0)=cs y:=by rw[<- e2];simp
   have e4:(cs y).getD 0 0=(cs x).getD 0 0:=by
    rw[<- e3]
    have:=len_cs y
    rw[MF,MF,List.getElem?_take,if_pos (by omega),TQ]
   exact hx (e4.symm.trans hy)
 ·exact .inl (by simpa using hl)
theorem starts_one{x:Str}{c:Nat}{r:List Nat}(hx:cs x=c::r):Txt.startswith x ⟨#[c]⟩=true:=by
 unfold Txt.startswith subAt
 have hl:0+(⟨#[c]⟩:Str).length<=x.length:=by
  have:=len_cs x
  rw[hx] at this
  show 0+1<=_
  rw[<- this,MT]
  omega
 rw[decide_eq_true hl,QU]
 refine beq_iff_eq.mpr (Array.toList_inj.mp ?_)
 show (x.cps.extract 0 1).toList=[c]
 have:(x.cps.extract 0 1).toList=((cs x).drop 0).take (1-0):=by simp
 rw[this,hx]
 rfl
theorem part_at{x a b:Str}{c:Nat}(hx:cs x=cs a++c::cs b)(ha:c∉cs a):Txt.partition x ⟨#[c]⟩=(a,⟨#[c]⟩,b):=by
 have hmem:c∈cs x:=by rw[hx];simp
 rcases partition_whole x ⟨#[c]⟩ with ⟨_,h4⟩ | ⟨i,h1,h2,h3⟩
 ·obtain⟨i,hi⟩:=(mem_iff_at x c).mp hmem
  exact absurd hi (h4 i)
 have e1:(cs x)[i]? = some c:=(StrLaws.subAt_one x c i).mp h2
 have e2:∀k,k < i->(cs x)[k]? ≠ some c:=λk hk z=>h3 k hk ((StrLaws.subAt_one x c k).mpr z)
 have hi:i=(cs a).length:=by
  rcases Nat.lt_trichotomy i (cs a).length with h | h | h
  ·rw[hx,MW h] at e1
   exact absurd (MK e1) ha
  ·exact h
  ·exact absurd (by rw[hx,OG (MC _),Nat.sub_self];rfl) (e2 _ h)
 subst hi
 have hlen:x.length=(cs a).length+(1+(cs b).length):=by rw[<- len_cs,hx];simp;omega
 rw[h1]
 have p1:strSub x 0 (cs a).length=a:=Li.str_ext (by
  show cs (strSub x 0 (cs a).length)=cs a
  rw[Vq,hx,TQ,Nat.sub_zero,List.take_append_of_le_length (MC _),List.take_length])
 have p2:strSub x ((cs a).length+(⟨#[c]⟩:Str).length) x.length=b:=Li.str_ext (by
  show cs (strSub x ((cs a).length+1) x.length)=cs b
  have e:cs x=(cs a++[c])++cs b:=by rw[hx];simp
  rw[Vq,e,List.drop_append_of_le_length (by simp),QQ (by simp),List.nil_append,NY (by omega)])
 rw[p1,p2]
def dg(m:Nat):List Nat:=(Nat.toDigits 10 m).map Char.toNat
abbrev dec(n:Int):Str:=ON (toString n)
theorem dec_nat(m:Nat):cs (dec (m:Int))=dg m:=PySem.W.KIN.signs_num m
theorem dec_neg(m:Nat):cs (dec (Int.negSucc m))=45::dg (m+1):=by
 show (ON (toString (Int.negSucc m))).cps.toList=_
 rw[signs_ofString]
 show ("-" ++ Nat.repr (m+1)).toList.map Char.toNat=_
 rw[String.toList_append,LW,Nat.toList_repr]
 rfl
theorem dg_all(m:Nat):∀c∈dg m,48<=c/\c<=57:=by
 intro c hc
 obtain⟨ch,hch,e⟩:=ML.mp hc
 have r:=digit_range (Nat.isDigit_of_mem_toDigits (by decide) (by decide) hch)
 rw[<- e]
 exact r
theorem dg_pos(m:Nat):1<=(dg m).length:=by
 unfold dg
 rw[LN]
 exact toDigits_len_ge 10 m
theorem dg_len{k m:Nat}(hk:1<=k)(h:m < 10 ^ k):(dg m).length<=k:=by
 unfold dg
 rw[LN]
 exact toDigits_len_pow (by decide) hk h
theorem dg_head(m:Nat)(h:0 < m):(dg m).getD 0 0≠48:=by
 induction m using Nat.strongRecOn with
 | _ m ih=>
  by_cases h9:m < 10
  ·unfold dg
   rw[Nat.toDigits_of_lt_base h9]
   have:∀d:Nat,d < 10->0 < d->(Nat.digitChar d).toNat≠48:=by decide
   exact this m h9 h
  ·have hm:m % 10 < 10:=Nat.mod_lt m (by decide)
   have t:Nat.toDigits 10 (m / 10)++Nat.toDigits 10 (m % 10)=Nat.toDigits 10 (10 * (m / 10)+m % 10):=Nat.toDigits_append_toDigits (by decide) (by omega) hm
   rw[Nat.div_add_mod] at t
   have z:=ih (m / 10) (by omega) (by omega)
   have l:=dg_pos (m / 10)
   have e:dg m=dg (m / 10)++dg (m % 10):=by unfold dg;rw[<- t,LW]
   rw[e,MF,MW (by omega),<- MF]
   exact z
theorem dec_reads{n:Int}(h:n.natAbs < 10 ^ 40):PySem.intText? (dec n)=some n:=by
 cases n with
 | ofNat m=>
  have e:=dec_nat m
  have hl:=dg_len (k:=40) (by decide) (show m < 10 ^ 40 from h)
  have g:=intText_digits (x:=dec (Int.ofNat m)) (by show ∀c∈cs (dec (m:Int)),48<=c/\c<=57;rw[e];exact dg_all m) (by show cs (dec (m:Int))≠[];rw[e];intro z;have:=dg_pos m;rw[z] at this;exact absurd this (by decide)) (by
   have:=len_cs (dec (m:Int));rw[e] at this;show (dec (m:Int)).length<=4300;omega)
  rw[show (dec (Int.ofNat m)).cps.toList=dg m from e] at g
  rw[g]
  unfold dg
  rw[PySem.W.KIN.val_back]
  rfl
 | negSucc m=>
  have e:=dec_neg m
  have hl:=dg_len (k:=40) (by decide) (show m+1 < 10 ^ 40 from h)
  have g:=intText_neg (x:=dec (Int.negSucc m)) e (dg_all (m+1)) (by intro z;have:=dg_pos (m+1);rw[z] at this;exact absurd this (by decide)) (by
   have:=len_cs (dec (Int.negSucc m));rw[e,MT] at this;omega)
  rw[g]
  unfold dg
  rw[PySem.W.KIN.val_back]
  rfl
end Tx
namespace Rk
open PySem
end Rk
namespace L2
open PySem PySem.Spec PyProof.Rows Rk
section
variable {X:Cx}
end
def Zd:List Expr->Option (List Str)
 | []=>some []
 | .Constant (.str x) _ _::es=>(Zd es).map (x :: ·)
 | _=>none
def iR(vs:List V):TA:=λ_ H Q=>Q vs H
theorem Lw{X:Cx}:∀ {es:List Expr} {xs:List Str},Zd es=some xs->PA X es (iR (xs.map V.str))
 | [],xs,h=>by
  cases h
  exact Gr
 | e::es,xs,h=>by
  cases e with
  | Constant c j p=>
   cases c with
   | str x=>
    have h':(Zd es).map (x :: ·)=some xs:=h
    cases e:Zd es with
    | none=>
     rw[e] at h'
     cases h'
    | some ys=>
     rw[e] at h'
     cases h'
     exact Mj Aq (Lw e)
   | _=>cases h
  | _=>cases h
structure HQ(X:Cx)(st:RL)(t:TS):Prop where
 ok:PS X st t
structure KQ(X:Cx)(es:List Expr)(t:TA):Prop where
 ok:PA X es t
theorem Yv{X:Cx}{es:List Expr}{xs:List Str}(h:Zd es=some xs):KQ X es (iR (xs.map V.str)):=⟨Lw h⟩
theorem iM{X:Cx}{i:Nat}{x:Str}{es:List Expr}{t:TA}{pos pos' p2:Pos}(hN:X.N.Nodup)(hi:X.N[i]? = some x)(hx:Loc X.env.scope x)(h:KQ X es t)(hf:X.fn x=true∨X.env.scope.names.lookup x=some .local):HQ X (.Assign [.Name x pos'] (.List es p2) pos) (eM (wW t) (Ly i)):=⟨Lk hN hi hx (Dn h.ok) rfl hf⟩
theorem jF{X:Cx}{st:RL}{rest:List RL}{t:TS}{G:TS->Prop}(h1:HQ X st t)(h2:∃u,Ib X rest u/\G (EC t u)):∃t',Ib X (st::rest) t'/\G t':=let ⟨u,a,b⟩:=h2;⟨_,Ab h1.ok a,b⟩
def KW(K:LO)(C:LZ)(tsu:TS)(th:Ends->XS):Ends->XS:=λD σ cls dx H=>∃b,PySem.W.exmOne K cls (.ref C)=some b/\if b=true then tsu D σ H else th D σ cls dx H
end L2
namespace L2
open PySem
open Sem (wp)
section
variable {prog:MV} {w:NU} {A:NV} {E:LP->LV->Prop} {s:LV}
theorem gS{en it l:LZ}{i:Nat}{c:Int}{its:Array LP}{x o0:LP}{Q:LP->LV->Prop}(hE:IsEnum s.heap en it c o0)(hI:s.heap.IsListIter it l i)(hL:s.heap.IsList l its)(hX:its[i]? = some x)(dif:en≠it)(fin:∀h',IsEnumOut h' en it (c+1) x s.heap.objs.size->h'.IsListIter it l (i+1)->h'.get? s.heap.objs.size=some { cls:=.type "tuple", data:=.seq #[.int c s.toks,x] }->h'.objs.size=s.heap.objs.size+1 ->
  (∀b o,b≠en->b≠it->s.heap.get? b=some o->h'.get? b=some o)->Q (.ref s.heap.objs.size) { s with heap:=h',toks:=s.toks+1 }):
 ND (NJ prog w) A (Builtin.«enumerate.__next__» ⟨[.ref en],[]⟩) (λr s'=>∃v,r=.done (.ret v)/\Q v s') E s:=by
 obtain⟨hp,gg,dd,tk,os⟩:=s
 show ND _ _ (UI (.ref en) 2 >>= _) _ _ _
 refine LL (NG hE rfl (x:=.ref it) rfl ?_)
 refine LL (wpAny_nextOf_list_item hI hL hX λk1 i1 b1=>?_)
 have b1:RD it hp k1:=b1
 have e1:IsEnum k1 en it c o0:=(b1.2 en dif).trans hE
 show ND _ _ (UI (.ref en) 3 >>= _) _ _ ⟨k1,gg,dd,tk,os⟩
 refine LL (NG e1 rfl (x:=RP c) rfl ?_)
 show ND _ _ (UI (.ref en) 4 >>= _) _ _ ⟨k1,gg,dd,tk,os⟩
 refine LL (NG e1 rfl (x:=.none) rfl ?_)
 show ND _ _ (mkInt c >>= _) _ _ ⟨k1,gg,dd,tk,os⟩
 refine LL (wpAny_mkInt ?_)
 show ND _ _ (setField (.ref en) 3 (RP (c+1)) >>= _) _ _ ⟨k1,gg,dd,tk+1,os⟩
 refine LL (OI e1 (by simp) λk2 e2 b2=>?_)
 have b2:RD en k1 k2:=b2
 have e2:IsEnum k2 en it (c+1) o0:=e2
 show ND _ _ (setField (.ref en) 4 .none >>= _) _ _ ⟨k2,gg,dd,tk+1,os⟩
 refine LL (OI e2 (by simp) λk3 e3 b3=>?_)
 have b3:RD en k2 k3:=b3
 have e3:IsEnum k3 en it (c+1) o0:=e3
 show ND _ _ (newTuple [.int c tk,x] >>= _) _ _ ⟨k3,gg,dd,tk+1,os⟩
 refine LL (wpAny_newTuple ?_)
 have e4:IsEnum (k3.push { cls:=.type "tuple", data:=.seq #[.int c tk,x] }) en it (c+1) o0:=LQ _ e3
 generalize q4:k3.push { cls:=.type "tuple", data:=.seq #[.int c tk,x] }=k4 at e4
 have z3:k3.objs.size=hp.objs.size:=by rw[b3.1,b2.1,b1.1]
 have lt:en < hp.objs.size:=MQ hE
 have t4:k4.get? hp.objs.size=some { cls:=.type "tuple", data:=.seq #[.int c tk,x] }:=by rw[<- q4,<- z3];exact MS _ rfl
 have z4:k4.objs.size=hp.objs.size+1:=by rw[<- q4,QG,z3]
 have w4:∀b o,b≠en->b≠it->hp.get? b=some o->k4.get? b=some o:=λb o n1 n2 hb=>by
  rw[<- q4]
  exact LQ _ (b3.extBut b o n1 (b2.extBut b o n1 (b1.extBut b o n2 hb)))
 have i4:k4.IsListIter it l (i+1):=by
  rw[<- q4]
  obtain⟨o,ho,r⟩:=(i1.extBut b2.extBut (NT dif)).extBut b3.extBut (NT dif)
  exact⟨o,LQ _ ho,r⟩
 show ND _ _ (OE (.ref en) >>= _) _ _ ⟨k4,gg,dd,tk+1,os⟩
 rw[z3]
 refine LL ?_
 unfold OE
 refine LL (NG e4 rfl (x:=.none) rfl (MI ?_))
 simp only[if_true]
 refine LL (RG ?_)
 refine LL (NG e4 rfl (x:=o0) rfl ?_)
 refine LL (OI e4 (by simp) λk5 e5 b5=>?_)
 have b5:RD en k4 k5:=b5
 have e5:IsEnum k5 en it (c+1) x:=e5
 show ND _ _ (RN (.ref en) (.ref hp.objs.size) >>= _) _ _ ⟨k5,gg,dd,tk+1,os⟩
 refine LL ?_
 unfold RN
 refine LL (OI e5 (by simp) λk6 e6 b6=>?_)
 have b6:RD en k5 k6:=b6
 have e6:IsEnumOut k6 en it (c+1) x hp.objs.size:=e6
 refine OI e6 (by simp) λk7 e7 b7=>?_
 have b7:RD en k6 k7:=b7
 have e7:IsEnumOut k7 en it (c+1) x hp.objs.size:=e7
 refine LL (TK (MI ⟨_,rfl,fin k7 e7 ?_ ?_ ?_ ?_⟩))
 ·exact((i4.extBut b5.extBut (NT dif)).extBut b6.extBut (NT dif)).extBut b7.extBut (NT dif)
 ·exact b7.extBut _ _ (RJ lt) (b6.extBut _ _ (RJ lt) (b5.extBut _ _ (RJ lt) t4))
 ·rw[b7.1,b6.1,b5.1,z4]
 ·exact λb o n1 n2 hb=>b7.extBut b o n1 (b6.extBut b o n1 (b5.extBut b o n1 (w4 b o n1 n2 hb)))
theorem cY{en it l:LZ}{i:Nat}{c:Int}{its:Array LP}{x o0:LP}{Q:Option LP->LV->Prop}(hE:IsEnum s.heap en it c o0)(hI:s.heap.IsListIter it l i)(hL:s.heap.IsList l its)(hX:its[i]? = some x)(dif:en≠it)(fin:∀h',IsEnumOut h' en it (c+1) x s.heap.objs.size->h'.IsListIter it l (i+1)->h'.get? s.heap.objs.size=some { cls:=.type "tuple", data:=.seq #[.int c s.toks,x] }->h'.objs.size=s.heap.objs.size+1 ->
  (∀b o,b≠en->b≠it->s.heap.get? b=some o->h'.get? b=some o)->Q (some (.ref s.heap.objs.size)) { s with heap:=h',toks:=s.toks+1 }):
 ND (NJ prog w) A (RI (.ref en)) Q E s:=by
 have ty:s.TypeIs (.ref en) "enumerate" := ⟨_,hE,rfl⟩
 unfold RI
 refine LL (QP (NN (name:=ON "__next__") ty QN (OC QN ty F.entry_enumerate_next ?_ (F.args_enumerate_next_1 _))))
 exact gS hE hI hL hX dif λh' a1 a2 a3 a4 a5=>MI (fin h' a1 a2 a3 a4 a5)
theorem gN{en it l:LZ}{i:Nat}{c:Int}{its:Array LP}{o0:LP}{Q:Option LP->LV->Prop}(hh:Bm A s.heap)(hE:IsEnum s.heap en it c o0)(hI:s.heap.IsListIter it l i)(hL:s.heap.IsList l its)(hX:its[i]? = none)(fin:∀h',QR it s.heap h'->Q none { s with heap:=h' }):ND (NJ prog w) A (RI (.ref en)) Q E s:=by
 have ty:s.TypeIs (.ref en) "enumerate" := ⟨_,hE,rfl⟩
 unfold RI
 refine LL (QP (NN (name:=ON "__next__") ty QN (OC QN ty F.entry_enumerate_next ?_ (F.args_enumerate_next_1 _))))
 show ND _ _ (UI (.ref en) 2 >>= _) _ _ _
 refine LL (NG hE rfl (x:=.ref it) rfl ?_)
 refine LL (Ki hh.in1 hI hL hX λh' z he ⟨o,ho,hc⟩=>?_)
 refine LL (SV (T := "StopIteration") (b:=true) ⟨o,ho,hc⟩ isSubtype_stop ?_)
 exact MI (fin _ he)
end
open AutoSeq1 (wpAny_loadPart')
theorem kI(l:LZ)(its:Array LP)(n:Nat)(dct:Option LZ)(sl:Array (Option LP))(t:Tok):
 Meets (Builtin.«enumerate.__new__» ⟨[.type "enumerate", .ref l],[("start", .int 1 t)]⟩) (λ_ R s=>s.heap.get? l=some { cls:=.type "list", dict:=dct,data:=.seq its n,slots:=sl } /\
  R (.ok (.ret (.ref (s.heap.push { cls:=.type "list_iterator", data:=.fields #[.ref l,.int 0 0] }).objs.size)))
   { s with heap:=(s.heap.push { cls:=.type "list_iterator", data:=.fields #[.ref l,.int 0 0] }).push { cls:=.type "enumerate", data:=.fields #[.none,.bool false,.ref s.heap.objs.size,RP 1,.none,.none] } }):=
 .of_wp λprog w A R s h=>by
  obtain⟨hp,g,d,tk,os⟩:=s
  obtain⟨hl,h⟩:=h
  have hsub:=sub_enumerate
  have hL:Heap.IsList (Shared.heap ⟨hp,g,d,tk,os⟩) l its:=⟨_,hl,rfl,n,rfl⟩
  wp_walk using wpAny_loadPart' hl
  refine wpAny_stack_any λst=>MI ?_
  split
  ·rename_i cc _ _ _ _ _
   cases (cc == QX "enumerate")
   ·wp_walk using wpAny_loadPart' hl,SM hL
    exact⟨_,rfl,h⟩
   ·wp_walk using wpAny_loadPart' hl,SM hL
    exact⟨_,rfl,h⟩
  ·wp_walk using wpAny_loadPart' hl,SM hL
   exact⟨_,rfl,h⟩
open Sem (wp)
theorem xZ(a:LP)(t:Tok):checkTypeCall "enumerate" ⟨[a],[("start", .int 1 t)]⟩=pure ():=by kernel_rfl
theorem wG(a:LP)(t:Tok):checkBuiltinCall "enumerate.__new__" ⟨[.type "enumerate", a],[("start", .int 1 t)]⟩=pure ():=by kernel_rfl
theorem yQ(o a:LP)(t:Tok):argsOk "object.__init__" ⟨[o,a],[("start", .int 1 t)]⟩:=by
 unfold argsOk
 rw[signature?_of (id := "object.__init__") (n:=['_','_','t','i','n','i','_','_']) (o:=['t','c','e','j','b','o']) (by kernel_rfl) F.owner_object]
 kernel_rfl
theorem gB{T newId:String}{self a:LP}{t:Tok}(hl:typeLookup (.type T) "__init__" = pure (some (.builtin "object.__init__")))(hm:Bind.madeBy (.type T)=pure (some newId))(hne:(some newId != some "object.__new__")=true):
 Meets (Builtin.«object.__init__» ⟨[self,a],[("start", .int 1 t)]⟩) (λ_ R s=>s.TypeIs self T/\R (.ok (.ret .none)) s):=by
 refine Meets.of_wp λprog w A R s hs=>?_
 obtain⟨hT,hq⟩:=hs
 repeat (any_goals (first | assumption | wp_step))
 exact⟨_,rfl,hq⟩
section
variable {prog:MV} {w:NU} {A:NV} {E:LP->LV->Prop} {s:LV}
theorem gG{l:LZ}{its:Array LP}{t:Tok}{Q:LP->LV->Prop}(hL:s.heap.IsList l its)(h:∀h',IsEnum h' (s.heap.objs.size+1) s.heap.objs.size 1 .none->h'.IsListIter s.heap.objs.size l 0->(∀b o,s.heap.get? b=some o->h'.get? b=some o)->Q (.ref (s.heap.objs.size+1)) { s with heap:=h' }):
 ND (NJ prog w) A (call (.type "enumerate") [.ref l] [("start", .int 1 t)]) Q E s:=by
 obtain⟨⟨c,dct,dt,sl⟩,hl,hc,n,hd⟩:=hL
 have hc:c=.type "list" := hc
 have hd:dt=.seq its n:=hd
 subst hc hd
 have ft:=F.called_enumerate
 obtain⟨c,tl,hmro⟩:=ft.mro
 have hmade:=ft.made
 have hsub:=ft.sub
 refine wpAny_call (codeAny_of_tree ?_)
 show ND _ _ (callAny (.type "enumerate") _) _ _ _
 refine MI ⟨Code.quiet_builtin _ (by decide +kernel),RS F.entry_type_call ?_⟩
 rw[Around.under_plain (weight_type_call_type "enumerate" [.ref l] [("start", .int 1 t)]) (units_type_call_type "enumerate" [.ref l] [("start", .int 1 t)])]
 have h1:=ft.notType
 have h2:=ft.canCreate
 have hct:=xZ (.ref l) t
 have hcn:=wG (.ref l) t
 repeat (any_goals (first | assumption | wp_step))
 have hz:(s.heap.push { cls:=.type "list_iterator", data:=.fields #[.ref l,.int 0 0] }).objs.size=s.heap.objs.size+1:=QG ..
 refine RM (codeAny_call_builtin (R:=(λr s'=>r=.ok (.ret (.ref (s.heap.objs.size+1)))/\∃h',IsEnum h' (s.heap.objs.size+1) s.heap.objs.size 1 .none/\h'.IsListIter s.heap.objs.size l 0/\(∀b o,s.heap.get? b=some o->h'.get? b=some o)/\s'={ s with heap:=h' })) ft.plain F.entry_enumerate_new (wpAny_of_eq hcn (kI l its n dct sl t prog w A.in1 (λr s'=>r=.ok (.ret (.ref (s.heap.objs.size+1)))/\∃h',IsEnum h' (s.heap.objs.size+1) s.heap.objs.size 1 .none/\h'.IsListIter s.heap.objs.size l 0/\(∀b o,s.heap.get? b=some o->h'.get? b=some o)/\s'={ s with heap:=h' }) s ⟨hl,?_⟩))) λr s₁ hr=>?_
 ·rw[hz]
  have he:IsEnum ((s.heap.push { cls:=.type "list_iterator", data:=.fields #[.ref l,.int 0 0] }).push { cls:=.type "enumerate", data:=.fields #[.none,.bool false,.ref s.heap.objs.size,RP 1,.none,.none] }) (s.heap.objs.size+1) s.heap.objs.size 1 .none:=by
   have z:=MS (s.heap.push { cls:=.type "list_iterator", data:=.fields #[.ref l,.int 0 0] }) (o:={ cls:=.type "enumerate", data:=.fields #[.none,.bool false,.ref s.heap.objs.size,RP 1,.none,.none] }) rfl
   rw[hz] at z
   exact z
  exact⟨rfl,_,he,⟨_,LQ _ (MS _ rfl),rfl,rfl⟩,λb o q=>LQ _ (LQ _ q),rfl⟩
 ·obtain⟨rfl,h',a1,a2,a3,rfl⟩:=hr
  have hT:Shared.TypeIs { s with heap:=h' } (.ref (s.heap.objs.size+1)) "enumerate" := ⟨_,a1,rfl⟩
  have hli:=ft.init.lookup
  have hbi:=ft.init.bind (.ref (s.heap.objs.size+1))
  repeat (any_goals (first | assumption | wp_step))
  refine RM (codeAny_call_builtin (R:=λr s'=>r=.ok (.ret .none)/\s'={ s with heap:=h' }) ft.init.plain F.entry_object_init (ft.init.check _ _ _ _ _ _ _ _ hT (yQ _ _ t) (gB ft.init.lookup ft.made (by decide) prog w A.in1 (λr s'=>r=.ok (.ret .none)/\s'={ s with heap:=h' }) _ ⟨hT,rfl,rfl⟩))) λr₂ s₂ hr₂=>?_
  obtain⟨rfl,rfl⟩:=hr₂
  have fin:=h h' a1 a2 a3
  repeat (any_goals (first | assumption | wp_step))
end
end L2
namespace L2
open PySem PySem.Spec PyProof.Rows PySem.Builtin PySem.Builtin.Str
theorem oU{prog:MV}{w:NU}{A:NV}{E:LP->LV->Prop}{s:LV}{x y:Str}{t u:Tok}{Q:LP->LV->Prop}(hy:(y.length == 0)=false)(hx:x.length+2<=MG)(fin:∀(l:List (Str×Tok))(k:Nat),l.map (·.1)=Txt.split x y->Q (.ref s.heap.objs.size) { s with heap:=s.heap.push { cls:=.type "list", data:=.seq (strValues l).toArray },toks:=k }):
 ND (NJ prog w) A (call (.builtin "str.split") [.str x t,.str y u]) Q E s:=by
 have hm:(partsBetween x (occurrences x y 0 x.length (x.length+1)) y.length).length<=MG:=by
  rw[len_partsBetween]
  have:=StrLaws.occ_length_le x y 0 x.length (x.length+1)
  omega
 cases c1:(decide (x.length < y.length) || decide (strKind x < strKind y))
 ·cases c2:(occurrences x y 0 x.length (x.length+1)).isEmpty
  ·refine call_meets F.slot_str_split (typeIs_str _ _ _) F.entry_str_split (F.args_str_split_2 _ _) (meets_str_split_sep x y t u c1 hy c2 (by omega) hm) ?_
   show wants Q E _ { s with toks:=_,heap:=s.heap.push { cls:=.type "list", data:=.seq (strsFrom s.toks (partsBetween x (occurrences x y 0 x.length (x.length+1)) y.length)).toArray } }
   rw[strsFrom_eq]
   refine fin (numbered s.toks _) _ ((numbered_texts _ _).trans ?_)
   unfold Txt.split
   rw[c1,c2]
   rfl
  ·refine call_meets F.slot_str_split (typeIs_str _ _ _) F.entry_str_split (F.args_str_split_2 _ _) (meets_str_split_not_found x y t u c1 hy c2) (fin [(x,t)] _ ?_)
   unfold Txt.split
   rw[c1,c2]
   rfl
 ·refine call_meets F.slot_str_split (typeIs_str _ _ _) F.entry_str_split (F.args_str_split_2 _ _) (meets_str_split_cannot_occur x y t u c1) (fin [(x,t)] _ ?_)
  unfold Txt.split
  rw[c1]
  rfl
theorem Tz:∀l:List (Str×Tok),Vals ((l.map (·.1)).map V.str) (strValues l)
 | []=>.nil
 | p::l=>.cons ⟨p.2,rfl⟩ (Tz l)
theorem Uk:∀ {xs:List Str} {us:List LP},Vals (xs.map V.str) us->∃l:List (Str×Tok),us=strValues l/\l.map (·.1)=xs
 | [],_,.nil=>⟨[],rfl,rfl⟩
 | x::xs,_,.cons ⟨t,e⟩ r=>by
  obtain⟨l,h1,h2⟩:=Uk r
  exact⟨(x,t)::l,by rw[e,h1];rfl,by rw[MU,h2]⟩
section
variable {X:Cx}
def zY:V->List V->Hp->VK->Prop:=λx vs H Q=>∃z y,x=.str z/\vs=[.str y]/\(y.length == 0)=false/\z.length+2<=MG/\∀l,H l=none->Q (.ref l) (upd H l (.lst ((Txt.split z y).map V.str)))
theorem Gv:CY X "str.split" zY:=by
 intro pins s σ H x vs v us Q I rx rv h
 obtain⟨z,y,rfl,rfl,hy,hz,q⟩:=h
 obtain⟨t,rfl⟩:=rx
 obtain⟨u,rfl,⟨t',rfl⟩⟩:=rv.one
 refine oU hy hz λl k hl=>⟨.ref s.heap.objs.size,_,?_,rfl,q _ I.fresh⟩
 refine I.lnew (its:=strValues l) (by rw[<- hl];exact Tz l) ?_
 rw[LN]
 have:=split_le z y
 omega
def rJoin(K:LO):V->List V->Hp->VK->Prop:=λx vs H Q=>∃z a xs,x=.str z/\vs=[.ref a]/\Av K H a (xs.map V.str)/\JoinOk z xs=true/\Q (.str (Str.join z xs)) H
theorem Hf:CY X "str.join" (rJoin X.K):=by
 intro pins s σ H x vs v us Q I rx rv h
 obtain⟨z,a,xs,rfl,rfl,hq,hj,q⟩:=h
 obtain⟨t,rfl⟩:=rx
 obtain⟨u,rfl,ru⟩:=rv.one
 cases ru
 obtain⟨its,r,pl,hz⟩:=I.list hq
 obtain⟨l,e1,e2⟩:=Uk r
 refine SC.join (l:=l) (texts:=xs) (by rw[<- e1];exact pl.isList) e2 hj λt' k=>⟨.str _,H,I.tok _,⟨t',rfl⟩,?_⟩
 show Q (.str (glued z xs)) H
 rw[StrLaws.glued_eq_join]
 exact q
end
def dD(K:LO)(a:LZ):It:=
 ⟨λi H=>∃xs x,Av K H a xs/\xs[i]? = some x,
  λi H v H'=>∃T x,H T=none/\v=.ref T/\H'=upd H T (.tup [.int ((i:Int)+1),x])/\∀xs,Av K H a xs->xs[i]? = some x,
  λi H=>∃xs,Av K H a xs/\xs.length<=i⟩
theorem cG{P:MV}{w:NU}{K:LO}{elts:List Expr}{kk:Nat}{tpos:Pos}(n a:LZ):Turn P w K (.Tuple elts kk tpos) (dD K a) [n+1,n] (n+1)
 (λi h=>(∃old,IsEnum h (n+1) n ((i:Int)+1) old)/\h.IsListIter n a i) where
 mem:=by simp
 obj:=λi h st c hc=>by
  obtain⟨⟨old,he⟩,⟨o1,e1,c1,d1⟩⟩:=st
  simp only[LX,MM,or_false] at hc
  rcases hc with rfl | rfl
  ·exact⟨_,he,λv z=>nomatch z⟩
  ·exact⟨_,e1,λv z=>by rw[d1] at z;cases z⟩
 keep:=λi h h' st k=>by
  obtain⟨⟨old,he⟩,h1⟩:=st
  exact⟨⟨old,k _ (by simp) _ he⟩,h1.at λo e=>k _ (by simp) o e⟩
 item:=by
  intro X hP hw hK hc i pins s σ H E I hf st hg
  subst hP hw hK
  obtain⟨xs,x,hq,hx⟩:=hg
  obtain⟨its,rv,p,_⟩:=I.list hq
  obtain⟨u,hu,ru⟩:=rv.get hx
  obtain⟨⟨old,he⟩,h1⟩:=st
  refine cY he h1 p.isList (x:=u) (by simpa using hu) (ap n 1 0 (by decide)) λh' a1 a2 a3 a4 k=>?_
  refine⟨_,rfl,wpAny_letOwnedTupleGo_enum a1 λh2' he2 sb=>?_⟩
  have lt:∀c∈[n+1,n],c≠s.heap.objs.size:=λc hc=>by
   simp only[LX,MM,or_false] at hc
   obtain⟨_,q1,_,_⟩:=id h1
   rcases hc with rfl | rfl
   ·exact NF (MQ he)
   ·exact NF (MQ q1)
  have I1:Inv X pins σ H { s with heap:=h2',toks:=s.toks+1 }:=I.turns (ch:=[n+1,n]) (λc o hc e=>by
   simp only[LX,MM,or_false,not_or] at hc
   exact(sb.2 c hc.1).trans (k c o hc.1 hc.2 e)) hf
  have fT:Dd X pins H s.heap.objs.size:=I.fpOk (MC _) (I.hok.fresh (MC _))
  have eT:h2'.get? s.heap.objs.size=some { cls:=.type "tuple", data:=.seq #[.int ((i:Int)+1) s.toks,u] }:=(sb.2 _ (NT (lt (n+1) (by simp)))).trans a3
  refine⟨.ref s.heap.objs.size,_,I1.adopt (o:=.tup [.int ((i:Int)+1),x]) fT.1 fT.2.1 I.sz fT.2.2.2.2.1 fT.2.2.2.2.2 ⟨by show 2<=MG;decide,[.int ((i:Int)+1) s.toks,u],.cons ⟨_,rfl⟩ (.cons ru .nil),⟨_,eT,rfl,0,rfl⟩⟩,rfl,⟨_,x,fT.1,rfl,rfl,λzs hzs=>?_⟩,?_,λc hc=>?_⟩
  ·rw[I.list_inj hzs hq];exact hx
  ·exact⟨⟨_,by have z:=he2;rw[show (((i+1:Nat):Int)+1)=((i:Int)+1+1) from rfl];exact z⟩,a2.at λo e=>(sb.2 _ (ap n 0 1 (by decide))).trans e⟩
  ·rw[Ai (lt c hc)]
   exact(hf c hc).1
 done:=by
  intro X hP hw hK hc i pins s σ H E I hf st hg
  subst hP hw hK
  obtain⟨xs,hq,hx⟩:=hg
  obtain⟨its,rv,p,_⟩:=I.list hq
  obtain⟨⟨old,he⟩,h1⟩:=st
  have l1:=rv.length
  refine gN (I.calmS hc) he h1 p.isList (by simp;omega) λh' k=>⟨rfl,?_⟩
  exact I.turns (t':=s.toks) (ch:=[n]) (λc o hc e=>k c o (by simpa using hc) e) λc hc=>hf c (by simp at hc ⊢;exact .inr hc)
 self:=λA i s Q E st h=>by
  obtain⟨⟨old,he⟩,_⟩:=st
  have hT:s.TypeIs (.ref (n+1)) "enumerate" := ⟨_,he,rfl⟩
  refine wpAny_pyIter_slot hT F.slot_enumerate_iter (OC F.slot_enumerate_iter hT F.entry_enumerate_iter ?_ (F.args_enumerate_iter_1 _))
  show ND _ _ (ret (.ref (n+1))) _ _ s
  exact MI ⟨_,rfl,"enumerate", _,hT,QN.lookup,h⟩
theorem Ww{M:Model}{A:NV}{E:LP->LV->Prop}{s:LV}{pos:Pos}{T:String}{args:List (Bool×Sem LP)}{kws:List (Option Str×Sem LP)}{Q:LP->LV->Prop}(h1:args.any (·.1)=false)(h2:kws.any (·.1.isNone)=false)(h:ND M A (evalArgs (.type T) true args kws) (λa s'=>ND M A (call (.type T) a.pos a.kw) Q E s') E s):ND M A (callWith pos (.type T) [] args kws) Q E s:=by
 unfold callWith
 refine LL (PM (OR h (λb s' hb=>LL (UL ?_)) λ_ _ y=>y))
 simp only[h1,h2,Bool.or_false]
 refine LL (MI ?_)
 exact LL (OR hb (λr s2 hr=>LL (PM (wpAny_point (MI hr)))) λ_ _ y=>y)
def AB(K:LO)(ta:TA):TI:=λσ H R=>ta σ H λvs H1=>∃a,vs=[.ref a]/\(∃xs,Av K H1 a xs)/\R (dD K a) H1
theorem qT{X:Cx}{elts:List Expr}{kk:Nat}{tpos:Pos}{a:Expr}{ta:TA}{p p1 kp pos:Pos}{c1:Nat}(hg:Gl X "enumerate")(hm:X.mg "enumerate" = none)(ha:PA X [a] ta)(hs:NH [a] X.env=[(false,RY a X.env)]:=by rfl):
 PI X (.Tuple elts kk tpos) (.Call (.Name "enumerate" p) [a] [⟨some "start", .Constant (.int 1) c1 p1,kp⟩] pos) (AB X.K ta):=by
 intro pins s σ H R I h
 have hev:RY (.Call (.Name "enumerate" p) [a] [⟨some "start", .Constant (.int 1) c1 p1,kp⟩] pos) X.env=(do callWith pos (<- RY (.Name "enumerate" p) X.env) [] (SR pos (NH [a] X.env)) (backToKw pos (SS [⟨some "start", .Constant (.int 1) c1 p1,kp⟩] X.env))):=rfl
 rw[hev]
 refine LL (Il I hg hm Uv (Ww (by rw[hs];rfl) rfl ?_))
 have hA:=ha pos pins s σ H _ I h
 rw[hs] at hA ⊢
 refine evalArgs_kwB rfl (Bv hA λus s1 ⟨vs,H1,I1,r1,q1⟩=>kws_cons (wpAny_Constant_int (kws_nil ?_)))
 obtain⟨a',e,⟨xs,hq1⟩,q⟩:=q1
 subst e
 obtain⟨u,rfl,r⟩:=vals1 r1
 cases r
 obtain⟨its1,rv1,p1',_⟩:=I1.list hq1
 have I2:Inv X pins σ H1 { s1 with toks:=s1.toks+1 }:=I1.tok _
 show ND _ _ (call (.type "enumerate") [.ref a'] [("start", .int 1 _)]) _ _ _
 refine gG (s:={ s1 with toks:=s1.toks+1 }) p1'.isList λh' z1 z2 k=>?_
 have T:Turn X.prog X.w X.K (.Tuple elts kk tpos) (dD X.K a') _ _ _:=cG s1.heap.objs.size a'
 refine T.self _ 0 { s1 with heap:=h',toks:=s1.toks+1 } _ _ ⟨⟨_,z1⟩,z2⟩ ?_
 refine⟨s1.heap.objs.size+1,[s1.heap.objs.size+1,s1.heap.objs.size],_,_,H1,rfl,I2.kept (t':=s1.toks+1) k,T,⟨⟨_,z1⟩,z2⟩,λc hc=>?_,q⟩
 have hle:s1.heap.objs.size<=c:=by
  simp only[LX,MM,or_false] at hc
  rcases hc with rfl | rfl
  ·exact iO _ 1
  ·exact iO _ 0
 exact I1.fpOk hle (I1.hok.fresh hle)
theorem zJ{K:LO}{a:LZ}{xs:List V}{n:Nat}{fr:List (Str×Nat)}{g:TG}{te:TE}{σ:St}{H:Hp}{F:List V->Hp->Prop}(Pv:Nat->List V->Hp->Prop)(h0:Pv 0 [] H)(hl:∀i ys H,i<=xs.length->Pv i ys H->Av K H a xs)(hs:∀i x ys H T,xs[i]? = some x->Pv i ys H->H T=none->g (.ref T) (stC n fr σ) (upd H T (.tup [.int ((i:Int)+1),x])) λσ2 H2=>te σ2 H2 λy H4=>ys.length < MG/\Pv (i+1) (ys++[y]) H4)(hd:∀ys H,Pv xs.length ys H->F ys H):Em n fr g Pk te σ (dD K a) H F:=by
 refine⟨λi m ys H=>m=xs.length-i/\i<=xs.length/\Pv i ys H,⟨xs.length,by simp,NI _,h0⟩,?_⟩
 rintro i m ys H ⟨rfl,hi,p⟩
 have q1:=hl i ys H hi p
 by_cases hlt:i < xs.length
 ·refine .inr ⟨⟨xs,xs[i],q1,by simp[hlt]⟩,Pv (i+1),λys' H' p'=>⟨xs.length-(i+1),by omega,rfl,hlt,p'⟩,λx H' y=>?_⟩
  obtain⟨T,x',hT,rfl,rfl,e1⟩:=y
  exact hs i x' ys _ T (e1 xs q1) p hT
 ·have e:i=xs.length:=by omega
  subst e
  exact .inl ⟨⟨xs,q1,MC _⟩,hd ys H p⟩
theorem nA{K:LO}{a:LZ}{xs:List V}{g:TG}{tb:TS}{D:Ends}{σ:St}{H:Hp}(Pv:Nat->St->Hp->Prop)(h0:Pv 0 σ H)(hl:∀i σ H,i<=xs.length->Pv i σ H->Av K H a xs)(hs:∀i x σ H T,xs[i]? = some x->Pv i σ H->H T=none->g (.ref T) σ (upd H T (.tup [.int ((i:Int)+1),x])) λσ2 H2=>tb { D with nx:=Pv (i+1),ct:=Pv (i+1),bk:=D.nx } σ2 H2)(hd:∀σ H,Pv xs.length σ H->D.nx σ H):
 ∃W:Nat->Nat->St->Hp->Prop,(∃m,W 0 m σ H)/\∀i m σ H,W i m σ H ->
  ((dD K a).stop i H/\D.nx σ H)∨((dD K a).go i H/\∃N:St->Hp->Prop,(∀σ' H',N σ' H'->∃m',m' < m/\W (i+1) m' σ' H')/\∀x H',(dD K a).yld i H x H'->g x σ H' λσ2 H2=>tb { D with nx:=N,ct:=N,bk:=D.nx } σ2 H2):=by
 refine⟨λi m σ H=>m=xs.length-i/\i<=xs.length/\Pv i σ H,⟨xs.length,by simp,NI _,h0⟩,?_⟩
 rintro i m σ H ⟨rfl,hi,p⟩
 have q1:=hl i σ H hi p
 by_cases hlt:i < xs.length
 ·refine .inr ⟨⟨xs,xs[i],q1,by simp[hlt]⟩,Pv (i+1),λσ' H' p'=>⟨xs.length-(i+1),by omega,rfl,hlt,p'⟩,λx H' y=>?_⟩
  obtain⟨T,x',hT,rfl,rfl,e1⟩:=y
  exact hs i x' σ _ T (e1 xs q1) p hT
 ·have e:i=xs.length:=by omega
  subst e
  exact .inl ⟨⟨xs,q1,MC _⟩,hd σ H p⟩
section
variable {X:Cx} {K:LO} {o e:Expr} {es:List Expr} {to:TE} {t:TA} {name:Str} {apos cpos:Pos} {T id:String} {r:V->List V->Hp->VK->Prop}
theorem pR(pa:PlainAttrs T)(slot:Slot T name id)(hty:typeOf (.builtin id)=pure (.type "method_descriptor"))(hm:KJ X id r)(ho:PE X o to)(ha:PA X (e::es) t)(hK:X.K=K:=by rfl)(hbase:attributeBase o name X.env (RY o X.env)=RY o X.env:=by rfl)(hfew:((SR cpos (NH (e::es) X.env)).all (λx=>!x.1) && (backToKw cpos (SS [] X.env)).all (λx=>x.1.isSome) && decide ((e::es).length+([]:List Keyword).length+(if ([]:List Keyword).isEmpty then 0 else 1) < 30))=true:=by rfl)(hline:(apos.endLine == cpos.line)=true:=by rfl)(hs:NH (e::es) X.env=(false,RY e X.env)::NH es X.env:=by rfl)(hplain:(SR cpos (NH es X.env)).any (·.1)=false:=by rfl):
 PE X (.Call (.Attribute o name apos) (e::es) [] cpos) (KP K T r to t):=by
 subst hK
 exact Dg pa slot hty hm ho ha hbase hfew hline hs hplain
end
section
variable {X:Cx}
def CF:V->List V->Hp->VK->Prop:=λx vs H Q=>∃z y,x=.str z/\vs=[.str y]/\z.length<=MG/\Q (.str (Txt.stripChars z y)) H
theorem Qu:CY X "str.strip" CF:=by
 intro pins s σ H x vs v us Q I rx rv h
 obtain⟨z,y,rfl,rfl,hz,q⟩:=h
 obtain⟨t,rfl⟩:=rx
 obtain⟨u,rfl,⟨t',rfl⟩⟩:=rv.one
 exact SC.stripChars (λt2 k=>⟨.str _,H,I.tok _,⟨t2,rfl⟩,q⟩) hz
def yP:V->List V->Hp->VK->Prop:=λx vs H Q=>∃z y,x=.str z/\vs=[.str y]/\z.length<=MG/\Q (.str (Txt.rstripChars z y)) H
theorem jZ:CY X "str.rstrip" yP:=by
 intro pins s σ H x vs v us Q I rx rv h
 obtain⟨z,y,rfl,rfl,hz,q⟩:=h
 obtain⟨t,rfl⟩:=rx
 obtain⟨u,rfl,⟨t',rfl⟩⟩:=rv.one
 exact SC.rstripChars (λt2 k=>⟨.str _,H,I.tok _,⟨t2,rfl⟩,q⟩) hz
def xU:V->List V->Hp->VK->Prop:=λx vs H Q=>∃z y,x=.str z/\vs=[.str y]/\Q (.bl (Txt.startswith z y)) H
theorem Ud:CY X "str.startswith" xU:=by
 intro pins s σ H x vs v us Q I rx rv h
 obtain⟨z,y,rfl,rfl,q⟩:=h
 obtain⟨t,rfl⟩:=rx
 obtain⟨u,rfl,⟨t',rfl⟩⟩:=rv.one
 exact SC.startswith ⟨.bl _,H,I,rfl,q⟩
def AY:V->List V->Hp->VK->Prop:=λx vs H Q=>∃z y,x=.str z/\vs=[.str y]/\(y.length == 0)=false/\z.length<=MG/\∀p,H p=none->Q (.ref p) (upd H p (.tup [.str (Txt.partition z y).1,.str (Txt.partition z y).2.1,.str (Txt.partition z y).2.2]))
theorem lA{prog:MV}{w:NU}{A:NV}{E:LP->LV->Prop}{s:LV}{x y:Str}{t u:Tok}{Q:LP->LV->Prop}(hy:(y.length == 0)=false)(hz:x.length<=MG)(fin:∀ta tb tc k,Q (.ref s.heap.objs.size) { s with heap:=s.heap.push { cls:=.type "tuple", data:=.seq [.str (Txt.partition x y).1 ta,.str (Txt.partition x y).2.1 tb,.str (Txt.partition x y).2.2 tc].toArray },toks:=k }):
 ND (NJ prog w) A (call (.builtin "str.partition") [.str x t,.str y u]) Q E s:=by
 refine call_meets F.slot_str_partition (typeIs_str _ _ _) F.entry_str_partition (F.args_str_partition_2 _ _) (meets_str_partition x y t u hy hz) ?_
 have g:=fin
 unfold Txt.partition at g
 cases e:occurrences x y 0 x.length 1 with
 | nil=>
  rw[e] at g
  exact g _ _ _ _
 | cons i r=>
  rw[e] at g
  exact g _ _ _ _
theorem yI:CY X "str.partition" AY:=by
 intro pins s σ H x vs v us Q I rx rv h
 obtain⟨z,y,rfl,rfl,hy,hz,q⟩:=h
 obtain⟨t,rfl⟩:=rx
 obtain⟨u,rfl,⟨t',rfl⟩⟩:=rv.one
 refine lA hy hz λta tb tc k=>⟨.ref s.heap.objs.size,_,?_,rfl,q _ I.fresh⟩
 refine I.laid (a:=s.heap.objs.size) (t':=k) (λb o e=>LQ _ e) (MC _) ?_
 exact⟨by rw[LR];exact Nat.le_of_ble_eq_true rfl,[.str (Txt.partition z y).1 ta,.str (Txt.partition z y).2.1 tb,.str (Txt.partition z y).2.2 tc],.cons ⟨_,rfl⟩ (.cons ⟨_,rfl⟩ (.cons ⟨_,rfl⟩ .nil)),⟨_,MS _ rfl,rfl,_,rfl⟩⟩
theorem Tg:Fs X (.type "int") (λxs H Q=>∃z n,xs=[.str z]/\PySem.intText? z=some n/\z.length<=640/\Q (.int n) H):=by
 intro pins s σ H xs us Q I r h
 obtain⟨z,n,rfl,hn,hl,q⟩:=h
 obtain⟨u,rfl,ru⟩:=vals1 r
 obtain⟨t,rfl⟩:=ru
 exact PySem.W.KIN.call_text hn hl ⟨.int n,H,I.tok _,⟨_,rfl⟩,q⟩
def CP:List V->Hp->VK->Prop:=λxs H Q=>(∃i,xs=[.int i]/\i.natAbs.log2 < 1920/\Q (.str (toString i)) H) ∨ ∃x,xs=[.str x]/\Q (.str x) H
theorem Pa:Fs X (.type "str") CP:=by
 intro pins s σ H xs us Q I r h
 rcases h with ⟨i,rfl,hz,q⟩ | ⟨x,rfl,q⟩
 ·obtain⟨u,rfl,t,rfl⟩:=vals1 r
  exact PySem.P.str_of_int hz ⟨.str _,H,I.tok _,⟨_,rfl⟩,q⟩
 ·obtain⟨u,rfl,t,rfl⟩:=vals1 r
  exact PySem.P.str_of_str ⟨.str _,H,I,⟨_,rfl⟩,q⟩
end
theorem fU{K:LO}{a:LZ}{xs:List V}{n:Nat}{fr:List (Str×Nat)}{g:TG}{te:TE}{σ:St}{H:Hp}{F:List V->Hp->Prop}(Pv:Nat->List V->Hp->Prop)(h0:Pv 0 [] H)(hl:∀i ys H,i<=xs.length->Pv i ys H->Dq K H a xs)(hs:∀i x ys H,xs[i]? = some x->Pv i ys H->g x (stC n fr σ) H λσ2 H2=>te σ2 H2 λy H4=>ys.length < MG/\Pv (i+1) (ys++[y]) H4)(hd:∀ys H,Pv xs.length ys H->F ys H):Em n fr g Pk te σ (JL K a) H F:=by
 refine⟨λi m ys H=>m=xs.length-i/\i<=xs.length/\Pv i ys H,⟨xs.length,by simp,NI _,h0⟩,?_⟩
 rintro i m ys H ⟨rfl,hi,p⟩
 have q:=hl i ys H hi p
 by_cases hlt:i < xs.length
 ·refine .inr ⟨⟨xs,xs[i],q,by simp[hlt]⟩,Pv (i+1),λys' H' p'=>⟨xs.length-(i+1),by omega,rfl,hlt,p'⟩,λx H' y=>?_⟩
  obtain⟨e,y⟩:=y
  subst e
  exact hs i x ys _ (y xs q) p
 ·have e:i=xs.length:=by omega
  subst e
  exact .inl ⟨⟨xs,q,MC _⟩,hd ys H p⟩
theorem Fi{z:Str}{ls:List Str}{k:Nat}(h:∀l∈ls,l.length<=k)(hz:ls.length * (k+z.length)<=1000000):JoinOk z ls=true:=by
 have hs:(ls.map (·.length)).sum<=ls.length * k:=by
  clear hz
  induction ls with
  | nil=>exact NI _
  | cons x r ih=>
   rw[MU,List.sum_cons,MT,Nat.succ_mul]
   have h1:=h x MD
   have h2:=ih λl hl=>h l (ME _ hl)
   omega
 unfold JoinOk
 rw[Bool.not_eq_true']
 unfold Builtin.Str.tooLong
 refine decide_eq_false ?_
 rw[StrLaws.joinTotal,LR]
 rw[Nat.mul_add] at hz
 omega
theorem cX{z:Str}{ls:List Str}{k:Nat}(h:∀l∈ls,l.length<=k)(hz:ls.length * (k+z.length)<=6000000):JoinOk z ls=true:=by
 have hs:(ls.map (·.length)).sum<=ls.length * k:=by
  clear hz
  induction ls with
  | nil=>exact NI _
  | cons x r ih=>
   rw[MU,List.sum_cons,MT,Nat.succ_mul]
   have h1:=h x MD
   have h2:=ih λl hl=>h l (ME _ hl)
   omega
 unfold JoinOk
 rw[Bool.not_eq_true']
 unfold Builtin.Str.tooLong
 refine decide_eq_false ?_
 rw[StrLaws.joinTotal,LR]
 rw[Nat.mul_add] at hz
 omega
end L2
namespace Bk
open PySem L2 Mg
def top(i:Nat):RL:=PySem.Challenge.pw_elderline_k12_written.main.body.getD i (.Pass ⟨0,0,0,0⟩)
abbrev Ga:RL:=top 10
abbrev Lx:RL:=top 11
abbrev Zw:RL:=top 12
abbrev aR:RL:=top 13
abbrev sO:RL:=top 14
abbrev So:RL:=top 15
abbrev Yq:RL:=top 16
abbrev Yd:RL:=top 18
abbrev Qe:RL:=top 20
abbrev fJ:RL:=top 21
abbrev Wa:RL:=top 22
abbrev Qg:RL:=top 25
abbrev Qi:RL:=top 26
abbrev Vj:RL:=top 27
abbrev pI:RL:=top 33
abbrev Ni:RL:=top 34
abbrev eA:RL:=top 35
abbrev Xk:RL:=top 36
abbrev eI:RL:=top 37
abbrev Wm:RL:=top 38
abbrev Rv:RL:=top 39
abbrev Mq:RL:=top 40
abbrev Kn:RL:=top 41
abbrev Kj:RL:=top 42
abbrev Nq:RL:=top 43
abbrev Zl:RL:=top 44
abbrev Mw:RL:=top 45
abbrev Sj:RL:=top 46
abbrev My:RL:=top 47
abbrev Qn:RL:=top 48
abbrev qA:RL:=top 50
abbrev Uo:RL:=top 51
abbrev Fp:RL:=top 52
abbrev dZ:RL:=top 53
abbrev Dl:RL:=top 54
abbrev Wq:RL:=top 55
abbrev Om:RL:=top 56
abbrev Xt:RL:=top 57
abbrev Nu:RL:=top 58
abbrev Fy:RL:=top 59
abbrev Ss:RL:=inClass (top 7) 0
abbrev bU:RL:=inClass (top 29) 0
abbrev eR:RL:=inClass (top 30) 0
abbrev Ie:RL:=inClass (top 30) 1
abbrev Vv:RL:=inClass (top 30) 2
abbrev cA:RL:=inClass (top 30) 3
abbrev Wi:RL:=inClass (top 30) 4
abbrev BX:RL:=inClass (top 30) 6
abbrev gD:RL:=inClass (top 30) 7
abbrev Vk:RL:=inClass (top 30) 8
abbrev uE:RL:=inClass (top 30) 9
abbrev gL:RL:=inClass (top 30) 10
structure Txt(mg:Str->Option LP):Prop where
 len:mg "len" = none
 zip:mg "zip" = none
 enum:mg "enumerate" = none
 any:mg "any" = none
 range:mg "range" = none
 isi:mg "isinstance" = none
 list:mg "list" = none
 str:mg "str" = none
 all:mg "all" = none
 rev:mg "reversed" = none
 set:mg "set" = none
 tup:mg "tuple" = none
 int:mg "int" = none
 bool:mg "bool" = none
 vErr:mg "ValueError" = none
def Ax(r:List Str):List V:=r.map V.str
theorem Au(r:List Str):(Ax r).length=r.length:=LN _
theorem El{r:List Str}{i:Nat}{v:V}(h:(Ax r)[i]? = some v):∃x,r[i]? = some x/\v=.str x:=by
 unfold Ax at h
 rw[MX] at h
 cases e:r[i]? with
 | none=>rw[e] at h;cases h
 | some x=>rw[e] at h;exact⟨x,rfl,(MZ h).symm⟩
theorem gA{r:List Str}{i:Nat}{x:Str}(h:r[i]? = some x):(Ax r)[i]? = some (.str x):=by
 unfold Ax
 rw[MX,h]<;>rfl
structure Cw(H:Hp)(ra:LZ)(as:List LZ)(rows:List (List Str)):Prop where
 lst:H ra=some (.lst (as.map V.ref))
 len:as.length=rows.length
 row:∀(i:Nat)(a:LZ)(r:List Str),as[i]? = some a->rows[i]? = some r->H a=some (.lst (Ax r))
theorem Cw.same{H H':Hp}{ra:LZ}{as:List LZ}{rows:List (List Str)}(R:Cw H ra as rows)(h:Ak H H'):Cw H' ra as rows:=⟨h _ _ R.lst,R.len,λi a r h1 h2=>h _ _ (R.row i a r h1 h2)⟩
theorem Dj{as:List LZ}{i:Nat}{v:V}(h:(as.map V.ref)[i]? = some v):∃a,as[i]? = some a/\v=.ref a:=by
 rw[MX] at h
 cases e:as[i]? with
 | none=>rw[e] at h;cases h
 | some x=>rw[e] at h;exact⟨x,rfl,(MZ h).symm⟩
theorem Cw.get{H:Hp}{ra:LZ}{as:List LZ}{rows:List (List Str)}(R:Cw H ra as rows){i:Nat}{a:LZ}(h:as[i]? = some a):∃r,rows[i]? = some r/\H a=some (.lst (Ax r)):=by
 have hi:i < rows.length:=by rw[<- R.len];exact(LM.mp h).1
 exact⟨rows[i],LU hi,R.row i a _ h (LU hi)⟩
def Rr(st:List Nat):List V:=st.map λn:Nat=>V.int (n:Int)
theorem Ql(st:List Nat):(Rr st).length=st.length:=LN _
theorem Xh{st:List Nat}{i:Nat}{v:V}(h:(Rr st)[i]? = some v):∃n:Nat,st[i]? = some n/\v=.int n:=by
 unfold Rr at h
 rw[MX] at h
 cases e:st[i]? with
 | none=>rw[e] at h;cases h
 | some x=>rw[e] at h;exact⟨x,rfl,(MZ h).symm⟩
theorem CN{st:List Nat}{i n:Nat}(h:st[i]? = some n):(Rr st)[i]? = some (.int n):=by
 unfold Rr
 rw[MX,h]<;>rfl
def bJ(kvs:List (Key×V))(f:Str->Nat):Prop:=∀x:Str,(valV kvs (MY x:Key)).getD (V.int 0)=V.int (f x)
theorem bJ.put{kvs:List (Key×V)}{f g:Str->Nat}{x:Str}{n:Int}(h:bJ kvs f)(hx:n=(g x:Int))(hg:∀y,¬ y=x->g y=f y):bJ (putK kvs (MY x:Key) (.int n)) g:=λy=>by
 rw[Ry]
 by_cases e:y=x
 ·subst e
  rw[if_pos rfl,hx]
  all_goals rfl
 ·rw[if_neg (λz:(MY y:Key)=MY x=>e (MY.inj z)),h y,hg y e]
theorem bJ.pos{kvs:List (Key×V)}{f:Str->Nat}{x:Str}(h:bJ kvs f)(hx:0 < f x):valV kvs (MY x:Key)=some (.int (f x)):=by
 have q:=h x
 cases e:valV kvs (MY x:Key) with
 | none=>
  rw[e] at q
  have q':(0:Int)=(f x:Int):=V.int.inj q
  omega
 | some v=>
  rw[e] at q
  exact congrArg some q
theorem xM{kvs:List (Key×V)}{k:Key}{u v:V}(h:valV kvs k=some u):(putK kvs k v).length=kvs.length:=by
 unfold putK
 rw[Hb,h,if_pos (show (some u).isSome=true from rfl),LN]
theorem Ad{H:Hp}{p:LZ}(h:H p=none)(o:HO):Ak H (upd H p o):=λb u q=>by rw[Ai (Ah q h)];exact q
theorem lay{H:Hp}{l:LZ}(h:H l=none)(o:HO):∃H',upd H l o=H'/\Ak H H'/\H' l=some o:=⟨_,rfl,Ad h o,Aa⟩
theorem DE(xs:List V):Es xs (some 1) none=xs.tail:=by
 unfold Es
 rw[HT.sIx_none]
 have e:HT.sIx xs.length 0 (some 1)=min 1 xs.length:=HT.sIx_nat xs.length 0 1
 rw[e]
 cases xs with
 | nil=>rfl
 | cons x r=>
  have e2:min 1 (x::r).length=1:=by rw[MT];omega
  rw[e2]
  simp
theorem Wb(xs:List V)(n:Nat)(h:n<=xs.length):Es xs (some (n:Int)) none=xs.drop n:=by
 unfold Es
 rw[HT.sIx_none,HT.sIx_nat,Nat.min_eq_left h]
 rw[NY (by rw[OW];omega)]
def Qq:Sp:=λvs H Q _=>∃(ra:LZ)(as:List LZ)(rows:List (List Str)),vs=[.ref ra]/\Cw H ra as rows/\tot rows<=1000000 /\
 ∀(d:LZ)(kvs:List (Key×V))(H':Hp),H d=none->Ak H H'->H' d=some (.dK kvs)->bJ kvs (cnt rows)->kvs.length<=tot rows->Q (.ref d) H'
structure Rz(H:Hp)(rows:List (List Str))(sa ba:LZ)(st:List Nat)(kvs:List (Key×V)):Prop where
 lst:H sa=some (.lst (Rr st))
 len:st.length=rows.length
 dic:H ba=some (.dK kvs)
def aD:Option Str->V
 | some x=>.str x
 | none=>.non
def cJ:Sp:=λvs H Q _=>∃(ra sa ba:LZ)(as:List LZ)(rows:List (List Str))(st:List Nat)(kvs:List (Key×V))(g:Str->Nat),vs=[.ref ra,.ref sa,.ref ba]/\Cw H ra as rows/\Rz H rows sa ba st kvs/\bJ kvs g /\
 ∀H',Ak H H'->Q (aD (pick g (rests rows st))) H'
def gK:Sp:=λvs H Q _=>∃(x:Str)(ra sa ba:LZ)(as:List LZ)(rows:List (List Str))(st:List Nat)(kvs:List (Key×V)),vs=[.str x,.ref ra,.ref sa,.ref ba]/\Cw H ra as rows/\Rz H rows sa ba st kvs /\
 (∀(i:Nat)(r:List Str)(n:Nat),rows[i]? = some r->st[i]? = some n->n<=r.length)/\bJ kvs (cnt (rests rows st))/\kvs.length<=1000000/\sa≠ra/\(∀a∈as,a≠sa) /\
 ∀(st':List Nat)(kvs':List (Key×V))(H':Hp),Rz H' rows sa ba st' kvs'->rests rows st'=(rests rows st).map (Ct x)->(∀(i:Nat)(r:List Str)(n:Nat),rows[i]? = some r->st'[i]? = some n->n<=r.length) ->
  bJ kvs' (cnt (rests rows st'))->kvs'.length=kvs.length->(∀b o,H b=some o->b≠sa->b≠ba->H' b=some o)->Q .non H'
section
variable {P:MV} {w:NU} {K:LO} {mg:Str->Option LP} {base:OS} {f:LZ} {fd:NP}
theorem Mo:Al ["rows","behind","row","name"] ["rows"] (Ac Lx):=Fm (by decide +kernel)
theorem Up(F:Dx K "counts_behind" "counts_behind" Lx f fd)(T:Txt mg):Aj P w K mg base Bj 1 f fd ["rows"] Qq:=by
 refine F.ok Mo (λvs H Q E h=>?_) (λcdv A outer s H vs Q E hr h=>?_)
 ·obtain⟨ra,as,rows,rfl,_⟩:=h
  rfl
 obtain⟨ra,as,rows,rfl,R,ht,q⟩:=h
 have hu:=Hx hr
 refine⟨_,Ab (Bx 1 Mo.nd Jt)
  (Ab (Gp PX rfl (Bz (pv 0)) (De 2 Mo.nd)
   (Ag (Gp PX rfl (Bz (Ck Ew (pv 2) (Cv Ae) Dt)) (De 3 Mo.nd)
    (Ag (Ir hu (pv 1) (pv 3) (Am En (aC hu (pv 1) (pv 3) Ae ⟨rfl,rfl,rfl,rfl⟩) Ae) rfl)))))
  (Ag (Ap (pv 1)))),?_⟩
 intro d hd
 have s0:Ak H (upd H d (.dK [])):=Ad hd _
 refine⟨_,rfl,ra,rfl,⟨_,Av.of (s0 _ _ R.lst)⟩,Jk (K:=K) (a:=ra) (xs:=as.map V.ref) (λi σ H2=>∃(kvs:List (Key×V))(v3 v4:Option V),σ=[some (.ref ra),some (.ref d),v3,v4]/\Ak H H2/\H2 d=some (.dK kvs)/\bJ kvs (cnt (rows.take i))/\kvs.length<=tot (rows.take i))
  ⟨[],none,none,rfl,s0,Aa,λx=>rfl,NI _⟩ (λi σ H2 _ ⟨_,_,_,_,s2,_⟩=>Av.of (s2 _ _ R.lst)) ?_ ?_⟩
 ·rintro i y σ H2 hi ⟨kvs,v3,v4,rfl,s2,hd2,B,hl⟩
  obtain⟨a,ha,rfl⟩:=Dj hi
  obtain⟨r,hr',er⟩:=R.get ha
  refine⟨_,rfl,_,rfl,a,_,rfl,Av.of (s2 _ _ er),λp hp=>?_⟩
  rw[DE]
  have npd:p≠d:=λe=>by rw[e] at hp;rw[hd2] at hp;cases hp
  refine⟨p,rfl,⟨_,Av.of Aa⟩,Jk (K:=K) (a:=p) (xs:=(Ax r).tail) (λj σ H3=>∃(kvs:List (Key×V))(v4:Option V),σ=[some (.ref ra),some (.ref d),some (.ref a),v4]/\Ak H H3/\H3 p=some (.lst (Ax r).tail)/\H3 d=some (.dK kvs)/\bJ kvs (λx=>cnt (rows.take i) x+(r.tail.take j).count x)/\kvs.length<=tot (rows.take i)+j)
   ⟨kvs,v4,rfl,s2.trans (Ad hp _),Aa,by rw[Ai (NT npd)];exact hd2,λx=>by rw[B x];simp,Nat.le_add_right_of_le hl⟩ (λj σ H3 _ ⟨_,_,_,_,e,_⟩=>Av.of e) ?_ ?_⟩
  ·rintro j y σ H3 hj ⟨kvs,v4,rfl,s3,ep,ed,B,hl⟩
   have hj':(Ax r.tail)[j]? = some y:=by
    unfold Ax at hj ⊢
    rw[List.map_tail]
    exact hj
   obtain⟨x,hx,rfl⟩:=El hj'
   refine⟨_,rfl,d,rfl,.inl ⟨kvs,.inl ed⟩,_,rfl,_,Fu.k (k:=MY x) ed,_,_,B x,rfl,_,rfl,_,rfl,d,_,rfl,Pp.k (k:=MY x) ed (RV hl ?_),?_⟩
   ·have h1:=Xy rows (i+1)
    rw[Lb hr'] at h1
    have h2:j < r.tail.length:=(LM.mp hx).1
    rw[List.length_tail] at h2
    rw[LR]
    omega
   ·refine⟨_,_,rfl,λb o e=>?_,by rw[Ai npd];exact ep,Aa,B.put ?_ λz hz=>?_,NA (Hd _ _ _) (by omega)⟩
    ·rw[Ai (Ah e hd)];exact s3 b o e
    ·show ((cnt (rows.take i) x+(r.tail.take j).count x:Nat):Int)+1=((cnt (rows.take i) x+(r.tail.take (j+1)).count x:Nat):Int)
     rw[Jf hx,if_pos rfl]
     omega
    ·show cnt (rows.take i) z+(r.tail.take (j+1)).count z=cnt (rows.take i) z+(r.tail.take j).count z
     rw[Jf hx,if_neg hz]
     omega
  ·rintro σ H3 ⟨kvs,v4,rfl,s3,ep,ed,B,hl⟩
   have hlen:(Ax r).tail.length=r.tail.length:=by unfold Ax;rw[<- List.map_tail,LN]
   rw[hlen] at B hl
   refine⟨kvs,_,_,rfl,s3,ed,λx=>?_,?_⟩
   ·rw[B x,Tq hr',NY (MC _)]
   ·rw[Lb hr']
    rw[List.length_tail] at hl
    omega
 ·rintro σ H2 ⟨kvs,v3,v4,rfl,s2,hd2,B,hl⟩
  have hlen:(as.map V.ref).length=rows.length:=by rw[LN,R.len]
  rw[hlen,NY (MC _)] at B hl
  exact⟨_,rfl,q d kvs H2 hd s2 hd2 B hl⟩
end
theorem Wt{r:List Str}{n:Nat}(h:n < r.length):Sz (Ax r) (n:Int)=some (.str r[n]):=Cj (gA (LU h))
section
variable {P:MV} {w:NU} {K:LO} {mg:Str->Option LP} {base:OS} {f:LZ} {fd:NP}
theorem eB:Al ["rows","starts","behind","row","start"] ["rows","starts","behind"] (Ac Zw):=Fm (by decide +kernel)
theorem iL(F:Dx K "free_name" "free_name" Zw f fd)(T:Txt mg):Aj P w K mg base Bj 1 f fd ["rows","starts","behind"] cJ:=by
 refine F.ok eB (λvs H Q E h=>?_) (λcdv A outer s H vs Q E hr h=>?_)
 ·obtain⟨ra,sa,ba,as,rows,st,kvs,g,rfl,_⟩:=h
  rfl
 obtain⟨ra,sa,ba,as,rows,st,kvs,g,rfl,R,S,B,q⟩:=h
 have hu:=Hx hr
 refine⟨_,Ab (Gp PX rfl (Vu rfl T.zip (Hh (pv 0) (pv 1))) (Lf rfl (Cy (De 3 eB.nd) (Cy (De 4 eB.nd) Ii)))
  (Ag (Bh (PW.pt (Fe (Ao Ph (pv 4) (Ep T.len (pv 3)) (Aw _)) (Ez (Ao Cf (aC hu (pv 2) (Az Be (pv 3) (pv 4) (λ_ _=>rfl)) Ae ⟨rfl,rfl,rfl,rfl⟩) Ae (Aw _)))))
   (Ag (Ap (Az Be (pv 3) (pv 4) (λ_ _=>rfl)))) Ar)))
  (Ag (Ap tG)),?_⟩
 refine⟨_,rfl,_,rfl,ra,sa,rfl,⟨_,Av.of R.lst⟩,⟨_,Av.of S.lst⟩,xP (K:=K) (a:=ra) (b:=sa) (xs:=as.map V.ref) (ys:=Rr st) (by rw[LN,Ql,S.len,R.len])
  (λi σ H2=>∃v3 v4:Option V,σ=[some (.ref ra),some (.ref sa),some (.ref ba),v3,v4]/\Ak H H2/\pick g (rests rows st)=pick g ((rests rows st).drop i)) ⟨none,none,rfl,Ak.refl _,rfl⟩
  (λi σ H2 _ ⟨_,_,_,s2,_⟩=>⟨Av.of (s2 _ _ R.lst),Av.of (s2 _ _ S.lst)⟩) ?_ ?_⟩
 ·rintro i x y σ H2 Tp hx hy ⟨v3,v4,rfl,s2,hp⟩ hT
  obtain⟨a,ha,rfl⟩:=Dj hx
  obtain⟨n,hn,rfl⟩:=Xh hy
  obtain⟨r,hr',er⟩:=R.get ha
  have s3:Ak H (upd H2 Tp (.tup [.ref a,.int n])):=s2.trans (Ad hT _)
  have hrs:=Gg hr' hn
  refine⟨Tp,_,rfl,Dq.of Aa,rfl,_,_,rfl,_,_,rfl,rfl,?_⟩
  refine⟨_,rfl,_,rfl,a,_,rfl,.inl (Av.of (s3 _ _ er)),_,_,rfl,rfl,_,rfl,?_⟩
  refine Cr (λc=>?_) (λc=>?_)
  ·have c':(n:Int) < ((Ax r).length:Int):=of_decide_eq_true c
   rw[Au] at c'
   have c2:n < r.length:=by omega
   refine⟨_,rfl,ba,rfl,.inl ⟨kvs,.inl (s3 _ _ S.dic)⟩,_,rfl,_,rfl,a,_,_,_,rfl,rfl,Av.of (s3 _ _ er),Wt c2,_,Fu.k (k:=MY r[n]) (s3 _ _ S.dic),?_⟩
   rw[B r[n]]
   refine⟨rfl,_,rfl,?_⟩
   have hd:pick g ((rests rows st).drop i)=if g r[n]=0 then some r[n] else pick g ((rests rows st).drop (i+1)):=by
    rw[Gh c2] at hrs
    exact cV hrs
   refine Cr (λc3=>?_) (λc3=>?_)
   ·have c4:V.int (g r[n]:Int)=V.int 0:=of_decide_eq_true c3
    have c5:g r[n]=0:=by
     have:=V.int.inj c4
     omega
    refine⟨_,rfl,_,rfl,a,_,_,_,rfl,rfl,Av.of (s3 _ _ er),Wt c2,?_⟩
    have qq:=q _ s3
    rw[hp,hd,if_pos c5] at qq
    exact qq
   ·have c4:¬ V.int (g r[n]:Int)=V.int 0:=of_decide_eq_false (PU.mpr c3)
    have c5:¬ g r[n]=0:=λz=>c4 (by rw[z]<;>rfl)
    rw[if_neg c5] at hd
    exact⟨_,_,rfl,s3,hp.trans hd⟩
  ·have c':¬ (n:Int) < ((Ax r).length:Int):=of_decide_eq_false (PU.mpr c)
   rw[Au] at c'
   refine Cd ?_
   have hd:pick g ((rests rows st).drop i)=pick g ((rests rows st).drop (i+1)):=by
    rw[QQ (by omega)] at hrs
    exact gR hrs
   exact⟨_,_,rfl,s3,hp.trans hd⟩
 ·rintro σ H2 ⟨v3,v4,rfl,s2,hp⟩
  have qq:=q H2 s2
  rw[hp,QQ (by rw[Jc S.len,LN,R.len];exact MC _)] at qq
  exact qq
theorem Xe:Al ["name","rows","starts","behind","index","row","start"] ["name","rows","starts","behind"] (Ac aR):=Fm (by decide +kernel)
theorem iK(F:Dx K "take_out" "take_out" aR f fd)(T:Txt mg):Aj P w K mg base Bj 1 f fd ["name","rows","starts","behind"] gK:=by
 refine F.ok Xe (λvs H Q E h=>?_) (λcdv A outer s H vs Q E hr h=>?_)
 ·obtain⟨x,ra,sa,ba,as,rows,st,kvs,rfl,_⟩:=h
  rfl
 obtain⟨x,ra,sa,ba,as,rows,st,kvs,rfl,R,S,hb,B,hk,nsr,nsa,q⟩:=h
 have hu:=Hx hr
 refine⟨_,Ag (Gp PX rfl (uR rfl T.enum (Bw (pv 1))) (Lf rfl (Cy (De 4 Xe.nd) (Cy (De 5 Xe.nd) Ii)))
  (Ab (Bx 6 Xe.nd (Az Be (pv 2) (pv 4) (λ_ _=>rfl)))
  (Ag (Bh (PW.pt (Fe (Ao Ph (pv 6) (Ep T.len (pv 5)) (Aw _)) (Ez (Ao Cf (Az Be (pv 5) (pv 6) (λ_ _=>rfl)) (pv 0) (Aw _)))))
   (Ab (CQ (Am En (pv 6) Ae) (CI (pv 2) (pv 4) set_list))
   (Ag (Bh (Ao Ph (Am En (pv 6) Ae) (Ep T.len (pv 5)) (Aw _))
    (Ag (Ir hu (pv 3) (Az Be (pv 5) (Am En (pv 6) Ae) (λ_ _=>rfl)) (Am Ws (Iv hu (pv 3) (Az Be (pv 5) (Am En (pv 6) Ae) (λ_ _=>rfl)) (λ_ _=>rfl)) Ae) rfl)) Ar))) Ar)))),?_⟩
 have hba:ba≠sa:=Ei S.dic S.lst (by intro z;cases z)
 have hra:ra≠ba:=Ei R.lst S.dic (by intro z;cases z)
 have naa:∀(i:Nat)(a:LZ),as[i]? = some a->a≠sa/\a≠ba:=λi a ha=>⟨nsa a (MK ha),by
  obtain⟨r,_,er⟩:=R.get ha
  exact Ei er S.dic (by intro z;cases z)⟩
 refine⟨_,rfl,ra,rfl,⟨_,Av.of R.lst⟩,sQ (K:=K) (a:=ra) (xs:=as.map V.ref)
  (λi σ H2=>∃(v4 v5 v6:Option V)(st2:List Nat)(kvs2:List (Key×V)),σ=[some (.str x),some (.ref ra),some (.ref sa),some (.ref ba),v4,v5,v6]/\(∀b o,H b=some o->b≠sa->b≠ba->H2 b=some o)/\Rz H2 rows sa ba st2 kvs2 /\
   rests rows st2=half x (rests rows st) i/\(∀(j:Nat)(r:List Str)(n:Nat),rows[j]? = some r->st2[j]? = some n->n<=r.length)/\bJ kvs2 (cnt (rests rows st2))/\kvs2.length=kvs.length/\∀j,i<=j->st2[j]? = st[j]?)
  ⟨none,none,none,st,kvs,rfl,λb o e _ _=>e,S,(oK _ _).symm,hb,B,rfl,λ_ _=>rfl⟩
  (λi σ H2 _ ⟨_,_,_,_,_,_,k,_⟩=>Av.of (k _ _ R.lst (NT nsr) hra)) ?_ ?_⟩
 ·rintro i y σ H2 Tp hx ⟨v4,v5,v6,st2,kvs2,rfl,k2,S2,h2,hb2,B2,hl2,hst⟩ hT
  obtain⟨a,ha,rfl⟩:=Dj hx
  obtain⟨r,hr',er⟩:=R.get ha
  obtain⟨na1,na2⟩:=naa i a ha
  have hi:i < st2.length:=by rw[S2.len];exact(LM.mp hr').1
  obtain⟨n,hn⟩:∃n,st2[i]? = some n:=⟨st2[i],LU hi⟩
  have hn0:st[i]? = some n:=by rw[<- hst i (MC _)];exact hn
  have hle:n<=r.length:=hb2 i r n hr' hn
  have hrs:=Gg hr' hn0
  have hrs2:=Gg hr' hn
  have eT:∀b o,H2 b=some o->(upd H2 Tp (.tup [.int i,.ref a])) b=some o:=λb o e=>Ad hT _ b o e
  have ea:(upd H2 Tp (.tup [.int i,.ref a])) a=some (.lst (Ax r)):=eT _ _ (k2 _ _ er na1 na2)
  have es:(upd H2 Tp (.tup [.int i,.ref a])) sa=some (.lst (Rr st2)):=eT _ _ S2.lst
  have ed:(upd H2 Tp (.tup [.int i,.ref a])) ba=some (.dK kvs2):=eT _ _ S2.dic
  have k3:∀b o,H b=some o->b≠sa->b≠ba->(upd H2 Tp (.tup [.int i,.ref a])) b=some o:=λb o e n1 n2=>eT _ _ (k2 b o e n1 n2)
  have hil:pQ (Rr st2).length (i:Int)=some i:=by
   unfold pQ
   rw[Ql,if_pos (by omega),if_pos (by omega)]
   simp
  refine⟨Tp,_,rfl,Dq.of Aa,rfl,_,_,rfl,_,_,rfl,rfl,?_⟩
  refine⟨_,rfl,_,rfl,sa,_,_,_,rfl,rfl,Av.of es,Cj (CN hn),?_⟩
  refine⟨_,rfl,_,rfl,a,_,rfl,.inl (Av.of ea),_,_,rfl,rfl,_,rfl,?_⟩
  have stay:Ct x (r.drop n)=r.drop n->Rz (upd H2 Tp (.tup [.int i,.ref a])) rows sa ba st2 kvs2/\rests rows st2=half x (rests rows st) (i+1):=λe=>⟨⟨es,S2.len,ed⟩,by rw[h2,nV hrs e]⟩
  refine Cr (λc=>?_) (λc=>?_)
  ·have c':(n:Int) < ((Ax r).length:Int):=of_decide_eq_true c
   rw[Au] at c'
   have c2:n < r.length:=by omega
   refine⟨_,rfl,_,rfl,a,_,_,_,rfl,rfl,Av.of ea,Wt c2,_,rfl,rfl,_,rfl,?_⟩
   refine Cr (λc3=>?_) (λc3=>?_)
   ·have c4:V.str r[n]=V.str x:=of_decide_eq_true c3
    have c5:r[n]=x:=V.str.inj c4
    have hdr:Ct x (r.drop n)=r.drop (n+1):=by rw[Gh c2,c5,Ja]
    -- starts[index]=start+1
    refine⟨_,rfl,_,_,rfl,rfl,_,rfl,_,rfl,sa,_,_,_,rfl,rfl,es,hil,?_⟩
    have e1:(Rr st2).set i (.int ((n:Int)+1))=Rr (st2.set i (n+1)):=by
     unfold Rr
     rw[List.map_set]
     rfl
    rw[e1]
    have hnew:rests rows (st2.set i (n+1))=half x (rests rows st) (i+1):=by
     rw[lC hr' hi,h2,<- hdr,rA hrs]
    have eT4:∀b o,b≠sa->(upd H2 Tp (.tup [.int i,.ref a])) b=some o->(upd (upd H2 Tp (.tup [.int i,.ref a])) sa (.lst (Rr (st2.set i (n+1))))) b=some o:=λb o hne e=>by rw[Ai hne];exact e
    have hb3:∀(j:Nat)(r':List Str)(m:Nat),rows[j]? = some r'->(st2.set i (n+1))[j]? = some m->m<=r'.length:=λj r' m h1 h3=>by
     by_cases hj:i=j
     ·subst hj
      rw[QC hi] at h3
      cases h3
      rw[hr'] at h1
      cases h1
      omega
     ·rw[QB hj] at h3
      exact hb2 j r' m h1 h3
    have hst3:∀j,i+1<=j->(st2.set i (n+1))[j]? = st[j]?:=λj hj=>by rw[QB (by omega)];exact hst j (by omega)
    have hc:=pD (x:=x) hrs
    rw[hdr] at hc
    refine⟨_,rfl,_,_,rfl,rfl,_,rfl,a,_,rfl,.inl (Av.of (eT4 _ _ na1 ea)),_,_,rfl,rfl,_,rfl,?_⟩
    refine Cr (λc6=>?_) (λc6=>?_)
    ·have c7:(n:Int)+1 < ((Ax r).length:Int):=of_decide_eq_true c6
     rw[Au] at c7
     have c8:n+1 < r.length:=by omega
     have e2:((n:Int)+1)=((n+1:Nat):Int):=by omega
     have hat:Sz (Ax r) ((n:Int)+1)=some (.str r[n+1]):=by rw[e2];exact Wt c8
     have ht1:(r.drop n).tail=r[n+1]::r.drop (n+2):=by rw[Gh c2,List.tail_cons,Gh c8]
     have ht2:(r.drop (n+1)).tail=r.drop (n+2):=by rw[Gh c8,List.tail_cons]
     rw[ht1,ht2] at hc
     have hpos:0 < cnt (rests rows st2) r[n+1]:=by
      have:=hc r[n+1]
      rw[List.count_cons_self] at this
      rw[h2]
      omega
     have hv:=B2.pos hpos
     refine⟨_,rfl,_,rfl,_,rfl,_,_,rfl,rfl,a,_,_,_,rfl,rfl,Av.of (eT4 _ _ na1 ea),hat,ba,.int (cnt (rests rows st2) r[n+1]),rfl,?_,_,_,rfl,rfl,_,rfl,_,rfl,_,rfl,_,_,rfl,rfl,a,_,_,_,rfl,rfl,Av.of (eT4 _ _ na1 ea),hat,ba,_,rfl,Pp.k (k:=MY r[n+1]) (eT4 _ _ hba ed) (by rw[hl2,LR];omega),?_⟩
     ·exact hv ▸ Fu.k (k:=MY r[n+1]) (eT4 _ _ hba ed)
     ·refine⟨_,_,_,st2.set i (n+1),_,rfl,λb o e n1 n2=>by rw[Ai n2];exact eT4 _ _ n1 (k3 b o e n1 n2),⟨by rw[Ai (NT hba),Aa],by rw[List.length_set];exact S2.len,Aa⟩,hnew,hb3,B2.put ?_ λz hz=>?_,(xM hv).trans hl2,hst3⟩
      ·have:=hc r[n+1]
       rw[List.count_cons_self] at this
       rw[hnew,h2]
       omega
      ·have:=hc z
       rw[List.count_cons_of_ne (λe=>hz e.symm)] at this
       rw[hnew,h2]
       omega
    ·have c7:¬ (n:Int)+1 < ((Ax r).length:Int):=of_decide_eq_false (PU.mpr c6)
     rw[Au] at c7
     have hd0:r.drop (n+1)=[]:=QQ (by omega)
     have ht1:(r.drop n).tail=[]:=by rw[Gh c2,List.tail_cons,hd0]
     rw[ht1,hd0] at hc
     refine⟨_,_,_,st2.set i (n+1),kvs2,rfl,λb o e n1 n2=>eT4 _ _ n1 (k3 b o e n1 n2),⟨Aa,by rw[List.length_set];exact S2.len,eT4 _ _ hba ed⟩,hnew,hb3,λz=>?_,hl2,hst3⟩
     rw[B2 z,hnew,h2]
     have:=hc z
     simp only[List.tail_nil,List.count_nil,Nat.add_zero] at this
     rw[this]
   ·have c4:¬ V.str r[n]=V.str x:=of_decide_eq_false (PU.mpr c3)
    have c5:¬ r[n]=x:=λz=>c4 (by rw[z])
    obtain⟨z1,z2⟩:=stay (by rw[Gh c2,Fd,if_neg c5])
    exact⟨_,_,_,st2,kvs2,rfl,k3,z1,z2,hb2,B2,hl2,λj hj=>hst j (by omega)⟩
  ·have c':¬ (n:Int) < ((Ax r).length:Int):=of_decide_eq_false (PU.mpr c)
   rw[Au] at c'
   refine Cd ?_
   obtain⟨z1,z2⟩:=stay (by rw[QQ (by omega)]<;>rfl)
   exact⟨_,_,_,st2,kvs2,rfl,k3,z1,z2,hb2,B2,hl2,λj hj=>hst j (by omega)⟩
 ·rintro σ H2 ⟨v4,v5,v6,st2,kvs2,rfl,k2,S2,h2,hb2,B2,hl2,hst⟩
  rw[tZ _ _ (by rw[Jc S.len,LN,R.len];exact MC _)] at h2
  exact q st2 kvs2 H2 S2 h2 hb2 B2 hl2 k2
end
end Bk
namespace Bk
open PySem L2 Mg Nm
def Wy(K:LO):Sp:=λvs H Q _=>∃(a:LZ)(ns:List Int)(k:Nat),vs=[.ref a,.int (k:Int)]/\Av K H a (ns.map V.int)/\Q (.int (ns.getD k 0)) H
theorem Nr{i:Int}(h0:0<=i)(h1:i < 26):Sz Eg.cps.toList i=some (97+i.toNat):=by
 obtain⟨n,rfl⟩:=QM h0
 refine Cj ?_
 rw[Pj,MX,List.getElem?_range (by omega)]
 simp
theorem sl52:(52:Nat)<=MG:=by rw[LR];decide
section
variable {P:MV} {w:NU} {K:LO} {mg:Str->Option LP} {base:OS} {f:LZ} {fd:NP}
theorem BH:Al ["_law_script","_law_k"] ["_law_script","_law_k"] (Ac qA):=Fm (by decide +kernel)
theorem xT(F:Dx K "_law_cell_at" "_law_cell_at" qA f fd)(T:Txt mg):Aj P w K mg base Bj 1 f fd ["_law_script","_law_k"] (Wy K):=by
 refine F.ok BH (λvs H Q E h=>?_) (λcdv A outer s H vs Q E hr h=>?_)
 ·obtain⟨a,ns,k,rfl,_⟩:=h
  rfl
 obtain⟨a,ns,k,rfl,S,q⟩:=h
 refine⟨_,Ab (Bh (Ao Ph (pv 1) (Ep T.len (pv 0)) (Aw _)) (Ag (Ap (Az Be (pv 0) (pv 1) (λ_ _=>rfl)))) Ar) (Ag (Ap Ae)),?_⟩
 refine⟨_,rfl,_,rfl,a,_,rfl,.inl S,_,_,rfl,rfl,_,rfl,?_⟩
 refine Cr (λc=>?_) (λc=>?_)
 ·have c':(k:Int) < ((ns.map V.int).length:Int):=of_decide_eq_true c
  rw[LN] at c'
  have c2:k < ns.length:=by omega
  refine⟨_,rfl,_,rfl,a,_,_,_,rfl,rfl,S,Cj (v:=.int ns[k]) (by rw[MX,LU c2]<;>rfl),?_⟩
  have e:ns.getD k 0=ns[k]:=by rw[MF,LU c2];rfl
  rw[e] at q
  exact q
 ·have c':¬ (k:Int) < ((ns.map V.int).length:Int):=of_decide_eq_false (PU.mpr c)
  rw[LN] at c'
  have e:ns.getD k 0=0:=by rw[MF,List.getElem?_eq_none (by omega)];rfl
  rw[e] at q
  exact q
theorem Hr(K:LO)(n:String):TL K (.type n) (.type n)=some true:=by
 unfold TL
 exact if_pos (by simp)
end
def As(x:Str):Bool:=decide (1<=x.length) && decide (x.length<=20) && x.cps.toList.all λc=>decide (97<=c) && decide (c<=122)
theorem Pu{x:Str}(h:isNm x):As x=true:=by
 obtain⟨h1,h2,h3⟩:=h
 unfold As
 rw[decide_eq_true h1,decide_eq_true h2,QU,QU,QO]
 intro c hc
 obtain⟨a,b⟩:=h3 c hc
 rw[decide_eq_true a,decide_eq_true b]
 rfl
def PV(v:V):Prop:=(∃i,v=.int i) ∨ ∃x,v=.str x/\x.length<=MG
def HI:V->Bool
 | .str x=>As x
 | _=>false
def Gj:Sp:=λvs H Q _=>∃v:V,vs=[v]/\PV v/\∀H',Ak H H'->Q (.bl (HI v)) H'
theorem Fg{K:LO}{H:Hp}:∀ks:List Bool,Yh K H (ks.map V.bl) ks
 | []=>.nil
 | k::ks=>.cons rfl (Fg ks)
section
variable {P:MV} {w:NU} {K:LO} {mg:Str->Option LP} {base:OS} {f fM fC fF fT:LZ} {fd dM dC dF dT:NP}
theorem GJ:(["sign"]:List Str).Nodup:=by decide +kernel
theorem rG:Al ["value"] ["value"] (Ac Qe):=Fm (by decide +kernel)
theorem Ut(F:Dx K "is_name" "is_name" Qe f fd)(T:Txt mg):Aj P w K mg base Bj 1 f fd ["value"] Gj:=by
 refine F.ok rG (λvs H Q E h=>?_) (λcdv A outer s H vs Q E hr h=>?_)
 ·obtain⟨v,rfl,_⟩:=h
  rfl
 obtain⟨v,rfl,hv,q⟩:=h
 refine⟨_,Ag (Ap (Jq (Bg Ea rfl T.isi PD (Hh (pv 0) (Ij (v:=.ty "str") rfl T.str PyProof.Rows.boot_str rfl)))
  (Jq (Lz Sg Sg Ae (Bg Ih rfl T.len PP (Bw (pv 0))) Ae)
  (Oi (Bg (Jv rfl) rfl T.all Hv (Bw (Dw (Ac Qe) ["value"] ["sign"] [] rfl (pT (pv 0)) (Bd (i:=0) (by decide)) (λ_ _ _ _ _ _=>⟨De 0 GJ,Ca,
   Lz Kh Kh Aq (pv 0) Aq⟩)))))))),?_⟩
 rcases hv with ⟨i,rfl⟩ | ⟨x,rfl,hx⟩
 ·exact⟨_,rfl,_,_,_,_,rfl,.int _,(show TL K (.type "int") (.type "str")=some false from rfl),_,rfl,Cd (q _ (Ak.refl _))⟩
 replace q:∀H',Ak H H'->Q (.bl (As x)) H':=q
 refine⟨_,rfl,_,_,_,_,rfl,.str _,Hr K "str", _,rfl,Dk ?_⟩
 refine⟨_,rfl,x,rfl,hx,_,_,rfl,rfl,_,rfl,Cr (λc1=>?_) (λc1=>?_)⟩
 rotate_left
 ·have h1:¬ 1<=x.length:=λz=>c1 (decide_eq_true (by omega))
  have e:As x=false:=by unfold As;rw[decide_eq_false h1,OZ,OZ]
  rw[e] at q
  exact⟨_,rfl,Cd (q _ (Ak.refl _))⟩
 have h1:1<=x.length:=by have:=of_decide_eq_true c1;omega
 refine⟨_,_,rfl,rfl,_,rfl,Cr (λc2=>?_) (λc2=>?_)⟩
 rotate_left
 ·have h2:¬ x.length<=20:=λz=>c2 (decide_eq_true (by omega))
  have e:As x=false:=by unfold As;rw[decide_eq_false h2,Bool.and_false,OZ]
  rw[e] at q
  exact q _ (Ak.refl _)
 have h2:x.length<=20:=by have:=of_decide_eq_true c2;omega
 have ea:("a" : Str).cps.toList=[97]:=by decide +kernel
 have ez:("z" : Str).cps.toList=[122]:=by decide +kernel
 refine⟨_,rfl,x,rfl,Qv (λi ys H2=>H2=H/\ys=((x.cps.toList.take i).map λc=>decide (97<=c) && decide (c<=122)).map V.bl) ⟨rfl,rfl⟩ ?_ ?_⟩
 ·rintro i c ys H2 hc ⟨rfl,rfl⟩
  have ga:(!decide ((⟨#[c]⟩:Str).cps.toList < ("a" : Str).cps.toList))=decide (97<=c):=by rw[ea];exact wZ c
  have gz:(!decide (("z" : Str).cps.toList < (⟨#[c]⟩:Str).cps.toList))=decide (c<=122):=by rw[ez];exact xK c
  have hc':x.cps.toList[i]? = some c:=by rw[UU];exact hc
  have hil:i < x.cps.toList.length:=(LM.mp hc').1
  have hxl:x.length=x.cps.toList.length:=len_list x
  have hlen:(((x.cps.toList.take i).map λc=>decide (97<=c) && decide (c<=122)).map V.bl).length < MG:=by
   rw[LN,LN,NM,LR]
   omega
  have htk:x.cps.toList.take (i+1)=x.cps.toList.take i++[c]:=by rw[NR,hc'];rfl
  refine⟨_,rfl,_,_,rfl,rfl,_,rfl,Cr (λk=>?_) (λk=>?_)⟩
  ·refine⟨_,_,rfl,rfl,hlen,rfl,?_⟩
   have k':decide (97<=c)=true:=ga.symm.trans k
   rw[htk,LW,LW]
   refine congrArg (_ ++ ·) ?_
   show [V.bl (!decide (("z" : Str).cps.toList < (⟨#[c]⟩:Str).cps.toList))]=[V.bl (decide (97<=c) && decide (c<=122))]
   rw[gz,k',QU]
  ·refine⟨hlen,rfl,?_⟩
   have k':decide (97<=c)=false:=by
    rw[<- ga]
    exact PU.mpr k
   rw[htk,LW,LW]
   refine congrArg (_ ++ ·) ?_
   show [V.bl false]=[V.bl (decide (97<=c) && decide (c<=122))]
   rw[k',OZ]
 ·rintro ys H2 ⟨rfl,rfl⟩ p hp
  refine⟨p,_,_,rfl,Av.of Aa,Fg _,?_⟩
  have e:As x=((x.cps.toList.take x.cps.size).map λc=>decide (97<=c) && decide (c<=122)).all id:=by
   unfold As
   rw[decide_eq_true h1,decide_eq_true h2,QU,QU,NY (by simp),List.all_map]
   rfl
  rw[e] at q
  exact q _ (Ad hp _)
theorem Cw.snoc{H H':Hp}{ra q ea:LZ}{as:List LZ}{rows:List (List Str)}{el:List Str}(R:Cw H ra as rows)(s:Ak H H')(e:H' ea=some (.lst (Ax el)))(l:H' q=some (.lst ((as++[ea]).map V.ref))):Cw H' q (as++[ea]) (rows++[el]):=by
 refine⟨l,by rw[LS,LS,R.len];rfl,λi a r h1 h2=>?_⟩
 by_cases hi:i < as.length
 ·rw[MW hi] at h1
  rw[MW (by rw[<- R.len];exact hi)] at h2
  exact s _ _ (R.row i a r h1 h2)
 ·have hl:i < (as++[ea]).length:=(LM.mp h1).1
  rw[LS,MR] at hl
  obtain rfl:i=as.length:=by omega
  rw[NK] at h1
  cases h1
  rw[R.len,NK] at h2
  cases h2
  exact e
end
def hF(ea oa ba:LZ):List (Str×V):=[("elder_row", .ref ea),("order_row", .ref oa),("bodies", .ref ba)]
def bF(d:LZ):List (Str×V):=[("by_name", .ref d)]
theorem Rl(d:LZ):(bF d).lookup ("by_name" : Str)=some (.ref d):=by
 unfold bF
 rw[NS,beq_self_eq_true]
theorem Dy(d:LZ){m:Str}(h:(m == ("by_name" : Str))=false):(bF d).lookup m=none:=by
 unfold bF
 rw[NS,h]
 rfl
theorem EL(ea oa ba:LZ):(hF ea oa ba).lookup ("elder_row" : Str)=some (.ref ea):=by
 unfold hF
 rw[NS,beq_self_eq_true]
theorem FU(ea oa ba:LZ):(hF ea oa ba).lookup ("order_row" : Str)=some (.ref oa):=by
 unfold hF
 rw[NS,show (("order_row" : Str) == "elder_row")=false by decide +kernel,NS,beq_self_eq_true]
theorem iI(ea oa ba:LZ):(hF ea oa ba).lookup ("bodies" : Str)=some (.ref ba):=by
 unfold hF
 rw[NS,show (("bodies" : Str) == "elder_row")=false by decide +kernel,NS,show (("bodies" : Str) == "order_row")=false by decide +kernel,NS,beq_self_eq_true]
theorem CT(ea oa ba:LZ):Hk "bodies" (.ref ba) (Hk "order_row" (.ref oa) (Hk "elder_row" (.ref ea) []))=hF ea oa ba:=by
 show Hk "bodies" (.ref ba) (if ("elder_row" : Str) = "order_row" then [(("elder_row" : Str),V.ref oa)] else (("elder_row" : Str),V.ref ea)::Hk "order_row" (.ref oa) [])=hF ea oa ba
 rw[if_neg (by decide +kernel)]
 show (if ("elder_row" : Str) = "bodies" then _ else (("elder_row" : Str),V.ref ea)::(if ("order_row" : Str) = "bodies" then _ else (("order_row" : Str),V.ref oa)::[(("bodies" : Str),V.ref ba)]))=hF ea oa ba
 rw[if_neg (by decide +kernel),if_neg (by decide +kernel)]
 rfl
structure Ent where
 nm:Str
 at_:LZ
 dx:LZ
 ea:LZ
 oa:LZ
 ba:LZ
 el:List Str
 od:List Str
 bd:List (Key×V)
structure Zu(CH:LZ)(H:Hp)(e:Ent):Prop where
 ob:H e.at_=some (.ins CH e.dx (hF e.ea e.oa e.ba))
 el:H e.ea=some (.lst (Ax e.el))
 od:H e.oa=some (.lst (Ax e.od))
 bd:H e.ba=some (.dK e.bd)
theorem Zu.same{CH:LZ}{H H':Hp}{e:Ent}(E:Zu CH H e)(h:Ak H H'):Zu CH H' e:=⟨h _ _ E.ob,h _ _ E.el,h _ _ E.od,h _ _ E.bd⟩
def kU(L:List Ent):List (Key×V):=L.map λe=>((MY e.nm:Key),V.ref e.at_)
def Hm(L:List Ent)(x:Str):Option Ent:=L.find? λe=>decide (e.nm=x)
theorem Xc(L:List Ent)(x:Str):valV (kU L) (MY x:Key)=(Hm L x).map λe=>V.ref e.at_:=by
 unfold kU Hm
 induction L with
 | nil=>rfl
 | cons e L ih=>
  rw[MU]
  by_cases h:e.nm=x
  ·rw[Cz (show ((MY e.nm:Key),V.ref e.at_).1=MY x by rw[h]),SO (by rw[decide_eq_true h])]
   rfl
  ·rw[Dc (λz=>h (MY.inj z)),ih,SQ (by rw[decide_eq_false h];exact LY)]
theorem Ey{L:List Ent}{x:Str}{e:Ent}(h:Hm L x=some e):e∈L/\e.nm=x:=⟨List.mem_of_find?_eq_some h,of_decide_eq_true (List.find?_some (p:=λe:Ent=>decide (e.nm=x)) h)⟩
theorem Yg{L:List Ent}{x:Str}(h:∀e∈L,e.nm≠x):Hm L x=none:=List.find?_eq_none.mpr λe he=>by rw[decide_eq_false (h e he)];exact LY
theorem Lc{L:List Ent}{e:Ent}(nd:(L.map (·.nm)).Nodup)(h:e∈L):Hm L e.nm=some e:=by
 unfold Hm
 induction L with
 | nil=>cases h
 | cons a L ih=>
  rw[MU,OP] at nd
  rcases LX.mp h with rfl | h'
  ·rw[SO (by rw[decide_eq_true rfl])]
  ·rw[SQ,ih nd.2 h']
   have:a.nm≠e.nm:=λz=>nd.1 (by rw[z];exact List.mem_map_of_mem h')
   rw[decide_eq_false this]
   exact LY
structure Bc(CB CH:LZ)(H:Hp)(p d:LZ)(L:List Ent):Prop where
 ob:∃dx,H p=some (.ins CB dx (bF d))
 dc:H d=some (.dK (kU L))
 en:∀e∈L,Zu CH H e
 nb:∀e∈L,e.ba≠d
 nd:(L.map (·.nm)).Nodup
 nn:(L.map (·.ba)).Nodup
theorem Bc.same{CB CH:LZ}{H H':Hp}{p d:LZ}{L:List Ent}(B:Bc CB CH H p d L)(h:Ak H H'):Bc CB CH H' p d L:=
 ⟨let ⟨dx,e⟩:=B.ob;⟨dx,h _ _ e⟩,h _ _ B.dc,λe he=>(B.en e he).same h,B.nb,B.nd,B.nn⟩
theorem Bc.get{CB CH:LZ}{H:Hp}{p d:LZ}{L:List Ent}{x:Str}{e:Ent}(B:Bc CB CH H p d L)(h:Hm L x=some e):Fu H d (.str x) (some (.ref e.at_)):=by
 have:=Fu.k (k:=(MY x:Key)) B.dc
 rw[Xc,h] at this
 exact this
theorem Bc.no{CB CH:LZ}{H:Hp}{p d:LZ}{L:List Ent}{x:Str}(B:Bc CB CH H p d L)(h:Hm L x=none):Fu H d (.str x) none:=by
 have:=Fu.k (k:=(MY x:Key)) B.dc
 rw[Xc,h] at this
 exact this
structure Gb(K:LO)(mg:Str->Option LP)(CB CH:LZ):Prop where
 clB:dY K CB
 clH:dY K CH
 nBy:Gn K CB "by_name"
 nEl:Gn K CH "elder_row"
 nOd:Gn K CH "order_row"
 nBd:Gn K CH "bodies"
 mgB:mg "Book" = some (.ref CB)
 mgH:mg "House" = some (.ref CH)
def Qj(CB:LZ):Sp:=λvs H Q _=>∃(p dx:LZ),vs=[.ref p]/\H p=some (.ins CB dx [])/\∀d,H d=none->Q .non (upd (upd H d (.dK [])) p (.ins CB dx (bF d)))
def Md(CH:LZ):Sp:=λvs H Q _=>∃(p ea oa dx:LZ),vs=[.ref p,.ref ea,.ref oa]/\H p=some (.ins CH dx [])/\∀(b:LZ)(H':Hp),H b=none->H' p=some (.ins CH dx (hF ea oa b))->H' b=some (.dK [])->(∀c o,H c=some o->c≠p->H' c=some o)->Q .non H'
def Gd(CB CH:LZ):Sp:=λvs H Q _=>∃(p d:LZ)(L:List Ent)(x:Str)(e:Ent),vs=[.ref p,.str x]/\Bc CB CH H p d L/\Hm L x=some e/\Q (.ref e.at_) H
def Na(CB CH:LZ):Sp:=λvs H Q _=>∃(p d:LZ)(L:List Ent)(x:Str)(e:Ent),vs=[.ref p,.str x]/\Bc CB CH H p d L/\Hm L x=some e/\∀l,H l=none->Q (.ref l) (upd H l (.lst (Ax e.od)))
def Mu(CB CH:LZ):Sp:=λvs H Q _=>∃(p d:LZ)(L:List Ent)(x:Str)(e:Ent),vs=[.ref p,.str x]/\Bc CB CH H p d L/\Hm L x=some e/\∀l,H l=none->Q (.ref l) (upd H l (.lst (Ax e.el)))
def Mc(CB CH:LZ):Sp:=λvs H Q _=>∃(p d:LZ)(L:List Ent),vs=[.ref p]/\Bc CB CH H p d L/\∀l,H l=none->Q (.ref l) (upd H l (.lst (Ax (L.map (·.nm)))))
section
variable {P:MV} {w:NU} {K:LO} {mg:Str->Option LP} {base:OS} {f fH CB CH:LZ} {fd dH:NP}
theorem xI:Al ["self"] ["self"] (Ac eR):=Fm (by decide +kernel)
theorem qH(F:Dx K "__init__" "Book.__init__" eR f fd)(T:Gb K mg CB CH):Aj P w K mg base Bj 1 f fd ["self"] (Qj CB):=by
 refine F.ok xI (λvs H Q E h=>?_) (λcdv A outer s H vs Q E hr h=>?_)
 ·obtain⟨p,dx,rfl,_⟩:=h
  rfl
 obtain⟨p,dx,rfl,hp,k⟩:=h
 refine⟨_,Ag (We (pv 0) Jt rfl),?_⟩
 intro d hd
 have npd:p≠d:=Ah hp hd
 refine⟨_,rfl,p,CB,dx,[],rfl,(by rw[Ai npd];exact hp),T.clB,T.nBy,(by show 0 < 1000;decide),?_⟩
 exact k d hd
theorem vF:Al ["self","elder_row","order_row"] ["self","elder_row","order_row"] (Ac bU):=Fm (by decide +kernel)
theorem aJ(F:Dx K "__init__" "House.__init__" bU f fd)(T:Gb K mg CB CH):Aj P w K mg base Bj 1 f fd ["self","elder_row","order_row"] (Md CH):=by
 refine F.ok vF (λvs H Q E h=>?_) (λcdv A outer s H vs Q E hr h=>?_)
 ·obtain⟨p,ea,oa,dx,rfl,_⟩:=h
  rfl
 obtain⟨p,ea,oa,dx,rfl,hp,k⟩:=h
 refine⟨_,Ab (We (pv 0) (pv 1) rfl) (Ab (We (pv 0) (pv 2) rfl) (Ag (We (pv 0) Jt rfl))),?_⟩
 refine⟨_,rfl,_,rfl,p,CH,dx,[],rfl,hp,T.clH,T.nEl,(by show 0 < 1000;decide),?_⟩
 refine⟨_,rfl,_,rfl,p,CH,dx,_,rfl,Aa,T.clH,T.nOd,(by show 1 < 1000;decide),?_⟩
 intro b hb
 have hb2:p≠b:=λz=>by rw[<- z,Aa] at hb;cases hb
 have hb':H b=none:=by rw[Ai (NT hb2),Ai (NT hb2)] at hb;exact hb
 refine⟨_,rfl,p,CH,dx,_,rfl,(by rw[Ai hb2];exact Aa),T.clH,T.nBd,?_,?_⟩
 ·exact RV (Jz _ _ _) (by show 2 < 1000;decide)
 ·refine k b _ hb' (by rw[Aa,CT]) (by rw[Ai (NT hb2),Aa]) λc o e hc=>?_
  rw[Ai hc,Ai (Ah e hb'),Ai hc,Ai hc]
  exact e
theorem wH:Al ["self","name"] ["self","name"] (Ac gL):=Fm (by decide +kernel)
theorem Zr(F:Dx K "house" "Book.house" gL f fd)(T:Gb K mg CB CH):Aj P w K mg base Bj 1 f fd ["self","name"] (Gd CB CH):=by
 refine F.ok wH (λvs H Q E h=>?_) (λcdv A outer s H vs Q E hr h=>?_)
 ·obtain⟨p,d,L,x,e,rfl,_⟩:=h
  rfl
 obtain⟨p,d,L,x,e,rfl,B,he,q⟩:=h
 have hu:=Hx hr
 obtain⟨dx,hp⟩:=B.ob
 refine⟨_,Ab (Bh (Gq (Kq hu (pv 1) (Fj (pv 0) rfl))) Br Ar) (Ag (Ap (Iv hu (Fj (pv 0) rfl) (pv 1) (λ_ _=>rfl)))),?_⟩
 refine⟨_,rfl,_,rfl,p,CB,dx,_,_,rfl,hp,T.clB,T.nBy,Rl d,d,_,rfl,B.get he,_,rfl,Cd ?_⟩
 exact⟨_,rfl,p,CB,dx,_,_,rfl,hp,T.clB,T.nBy,Rl d,_,rfl,d,_,rfl,B.get he,q⟩
theorem uM:Al ["self","name"] ["self","name"] (Ac cA):=Fm (by decide +kernel)
theorem Xq(F:Dx K "order" "Book.order" cA f fd)(T:Gb K mg CB CH)(Tx:Txt mg)(GH:Aj P w K mg base Bj 1 fH dH ["self","name"] (Gd CB CH))(bH:Binds K dH ["self","name"] [])(mH:Meth K CB "house" fH):Aj P w K mg base Bj 2 f fd ["self","name"] (Na CB CH):=by
 refine F.ok uM (λvs H Q E h=>?_) (λcdv A outer s H vs Q E hr h=>?_)
 ·obtain⟨p,d,L,x,e,rfl,_⟩:=h
  rfl
 obtain⟨p,d,L,x,e,rfl,B,he,q⟩:=h
 obtain⟨dx,hp⟩:=B.ob
 have E:=B.en e (Ey he).1
 refine⟨_,Ag (Ap (Bo Et rfl Tx.list OD (Bw (Fj (Cn (pv 0) T.clB mH GH hr bH .nil Cm (Bw (pv 1))) rfl)))),?_⟩
 exact⟨_,rfl,p,dx,_,rfl,hp,Dy d (by decide +kernel),_,rfl,p,d,L,x,e,rfl,B,he,e.at_,CH,e.dx,_,_,rfl,E.ob,T.clH,T.nOd,FU _ _ _,e.oa,_,rfl,.inl (Av.of E.od),q⟩
theorem uH:Al ["self","name"] ["self","name"] (Ac Wi):=Fm (by decide +kernel)
theorem nP(F:Dx K "elders" "Book.elders" Wi f fd)(T:Gb K mg CB CH)(Tx:Txt mg)(GH:Aj P w K mg base Bj 1 fH dH ["self","name"] (Gd CB CH))(bH:Binds K dH ["self","name"] [])(mH:Meth K CB "house" fH):Aj P w K mg base Bj 2 f fd ["self","name"] (Mu CB CH):=by
 refine F.ok uH (λvs H Q E h=>?_) (λcdv A outer s H vs Q E hr h=>?_)
 ·obtain⟨p,d,L,x,e,rfl,_⟩:=h
  rfl
 obtain⟨p,d,L,x,e,rfl,B,he,q⟩:=h
 obtain⟨dx,hp⟩:=B.ob
 have E:=B.en e (Ey he).1
 refine⟨_,Ag (Ap (Bo Et rfl Tx.list OD (Bw (Fj (Cn (pv 0) T.clB mH GH hr bH .nil Cm (Bw (pv 1))) rfl)))),?_⟩
 exact⟨_,rfl,p,dx,_,rfl,hp,Dy d (by decide +kernel),_,rfl,p,d,L,x,e,rfl,B,he,e.at_,CH,e.dx,_,_,rfl,E.ob,T.clH,T.nEl,EL _ _ _,e.ea,_,rfl,.inl (Av.of E.el),q⟩
end
end Bk
namespace Bk
open PySem L2 Mg
def Sx:Sp:=λvs H Q _=>∃(ra la:LZ)(as:List LZ)(rows:List (List Str))(n:Nat),vs=[.ref ra,.ref la]/\Cw H ra as rows/\tot rows<=1000/\rows.length<=1000/\(∀r∈(Di n rows).2,r=[]) /\
 ∀(p:LZ)(H':Hp),H p=none->Ak H H'->H' p=some (.lst (Ax (Di n rows).1))->Q (.ref p) H'
theorem uC(n:Nat):(NC n (V.int 0))=Rr (NC n 0):=by
 unfold Rr
 rw[List.map_replicate]
 rfl
theorem Qp{K:LO}{H:Hp}:∀ps:List LZ,(∀p∈ps,H p=some (.lst []))->Yh K H (ps.map V.ref) (NC ps.length false)
 | [],_=>.nil
 | p::ps,h=>.cons (.inl ⟨[],Av.of (h p MD),rfl⟩) (Qp ps λq hq=>h q (ME _ hq))
theorem mY(n:Nat):(NC n false).any id=false:=by
 induction n with
 | zero=>rfl
 | succ n ih=>rw[List.replicate_succ,UD,ih];rfl
section
variable {P:MV} {w:NU} {K:LO} {mg:Str->Option LP} {base:OS} {f fC fF fT:LZ} {fd dC dF dT:NP}
abbrev iY:List Str:=["rows","labels","starts","behind","joined","name","rests"]
theorem LB:(["row"]:List Str).Nodup:=by decide +kernel
theorem KR:(["row","start"]:List Str).Nodup:=by decide +kernel
theorem Gx:Al ["rows","labels","starts","behind","joined","name","rests"] ["rows","labels"] (Ac Ga):=Fm (by decide +kernel)
theorem lX(F:Dx K "merged" "merged" Ga f fd)(T:Txt mg)(FC:Dx K "counts_behind" "counts_behind" Lx fC dC)(bC:Binds K dC ["rows"] [])(mC:mg "counts_behind" = some (.ref fC))(FF:Dx K "free_name" "free_name" Zw fF dF)(bF:Binds K dF ["rows","starts","behind"] [])(mF:mg "free_name" = some (.ref fF))(FT:Dx K "take_out" "take_out" aR fT dT)(bT:Binds K dT ["name","rows","starts","behind"] [])(mT:mg "take_out" = some (.ref fT)):Aj P w K mg base Bj 2 f fd ["rows","labels"] Sx:=by
 have GC:Aj P w K mg base Bj 1 fC dC ["rows"] Qq:=Up FC T
 have GF:Aj P w K mg base Bj 1 fF dF ["rows","starts","behind"] cJ:=iL FF T
 have GT:Aj P w K mg base Bj 1 fT dT ["name","rows","starts","behind"] gK:=iK FT T
 refine F.ok Gx (λvs H Q E h=>?_) (λcdv A outer s H vs Q E hr h=>?_)
 ·obtain⟨ra,la,as,rows,n,rfl,_⟩:=h
  rfl
 obtain⟨ra,la,as,rows,n,rfl,R,ht,hrl,hend,q⟩:=h
 refine⟨_,Ab (Cc (i:=2) (Ac Ga) iY ["row"] [] rfl Gx.nd rfl rfl (Bz (pv 0)) (Bd (i:=0) (by decide)) (λ_ _ _ _ _ _=>⟨De 0 LB,Ca,Ae⟩))
  (Ab (Bx 3 Gx.nd (Ci GC hr rfl mC FC.kp bC .nil Cm (Bw (pv 0))))
  (Ab (Bx 4 Gx.nd (Dn Gr))
  (Ab (Bx 5 Gx.nd (Ci GF hr rfl mF FF.kp bF .nil Cm (Tc (pv 0) (pv 2) (pv 3))))
  (Ab (Sq PX (Gq (iS (pv 5)))
   (Ab (Cu (Dg RE QZ QY Gf (pv 4) (Bw (pv 5))))
   (Ab (Cu (Ci GT hr rfl mT FT.kp bT .nil Cm (FZ (pv 5) (pv 0) (pv 2) (pv 3))))
   (Ag (Bx 5 Gx.nd (Ci GF hr rfl mF FF.kp bF .nil Cm (Tc (pv 0) (pv 2) (pv 3))))))))
  (Ab (Cc (i:=6) (Ac Ga) iY ["row","start"] [] rfl Gx.nd rfl rfl (Vu rfl T.zip (Hh (pv 0) (pv 2))) (Qc (K:=K) (Er (Bd (i:=0) (by decide)) (Er (Bd (i:=1) (by decide)) Nc)))
   (λ_ _ _ _ _ _=>⟨Lf (n:=2) rfl (Cy (De 0 KR) (Cy (De 1 KR) Ii)),Ca,Ck (r:=rM K) Ew (pv 0) (Cv (pv 1)) Dt⟩))
  (Ab (Bh (Ej (Bg (Zt rfl) rfl T.any Va (Bw (pv 6)))) Br Ar)
  (Ag (Ap (pv 4))))))))),?_⟩
 -- starts=[0 for row in rows]
 refine⟨_,rfl,ra,rfl,⟨_,Av.of R.lst⟩,Bq (K:=K) (a:=ra) (xs:=as.map V.ref) (λi ys H2=>H2=H/\ys=NC i (V.int 0)) ⟨rfl,rfl⟩ (λi ys H2 _ h=>by rw[h.1];exact Av.of R.lst) ?_ ?_⟩
 ·rintro i y ys H2 hi ⟨rfl,rfl⟩
  refine⟨?_,rfl,?_⟩
  ·have hi':=(LM.mp hi).1
   rw[LN,R.len] at hi'
   rw[OL,LR]
   omega
  ·exact TF.symm
 rintro ys H2 ⟨rfl,rfl⟩ sa hsa
 rw[LN,R.len,uC]
 have s1:Ak H2 (upd H2 sa (.lst (Rr (NC rows.length 0)))):=Ad hsa _
 -- behind=counts_behind(rows)
 refine⟨_,rfl,ra,as,rows,rfl,R.same s1,by omega,λba kvs H3 hba s2 eb B hl=>?_⟩
 -- joined=[]
 refine⟨(by show 0<=MG;decide),λja hja=>?_⟩
 have s3:Ak H3 (upd H3 ja (.lst [])):=Ad hja _
 have hsa3:H3 sa=some (.lst (Rr (NC rows.length 0))):=s2 _ _ Aa
 have n_sj:sa≠ja:=Ah hsa3 hja
 have n_bj:ba≠ja:=Ah eb hja
 have n_sb:sa≠ba:=Ei hsa3 eb (by intro z;cases z)
 have st0:Rz (upd H3 ja (.lst [])) rows sa ba (NC rows.length 0) kvs:=⟨s3 _ _ hsa3,OL,s3 _ _ eb⟩
 have sH:Ak H2 (upd H3 ja (.lst [])):=s1.trans (s2.trans s3)
 have hba2:H2 ba=none:=s1.free hba
 have hja2:H2 ja=none:=s1.free (s2.free hja)
 have nsr:sa≠ra:=NT (Ah R.lst hsa)
 have nsa:∀a∈as,a≠sa:=λa ha=>by
  obtain⟨i,hi⟩:=NX ha
  obtain⟨r,_,er⟩:=R.get hi
  exact Ah er hsa
 -- name=free_name(rows,starts,behind)
 refine⟨_,rfl,_,rfl,_,rfl,ra,sa,ba,as,rows,_,kvs,cnt rows,rfl,R.same sH,st0,B,λH4 s4=>?_⟩
 rw[Cs]
 have hb0:∀(i:Nat)(r:List Str)(m:Nat),rows[i]? = some r->(NC rows.length 0)[i]? = some m->m<=r.length:=λi r m _ h2=>by
  rw[RF] at h2
  split at h2
  ·cases h2;exact NI _
  ·cases h2
 -- while name is not None
 refine⟨λm σ H5=>∃(joined:List Str)(st:List Nat)(kvs:List (Key×V))(k:Nat)(v6:Option V),σ=[some (.ref ra),some (.ref la),some (.ref sa),some (.ref ba),some (.ref ja),some (aD (pick (cnt (rests rows st)) (rests rows st))),v6] /\
  Ak H2 H5/\H5 ja=some (.lst (Ax joined))/\Rz H5 rows sa ba st kvs/\(∀(i:Nat)(r:List Str)(m:Nat),rows[i]? = some r->st[i]? = some m->m<=r.length)/\bJ kvs (cnt (rests rows st))/\kvs.length<=1000 /\
  (joined++(Di k (rests rows st)).1=(Di n rows).1/\(Di k (rests rows st)).2=(Di n rows).2)/\m=tot (rests rows st)/\joined.length+tot (rests rows st)<=tot rows,
  ⟨_,[],NC rows.length 0,kvs,n,none,by rw[Cs];rfl,sH.trans s4,s4 _ _ Aa,⟨s4 _ _ st0.lst,st0.len,s4 _ _ st0.dic⟩,hb0,by rw[Cs];exact B,by omega,by rw[Cs];exact⟨rfl,rfl⟩,rfl,by rw[Cs];simp⟩,?_⟩
 rintro m σ H5 ⟨joined,st,kvs,k,v6,rfl,s5,ej,S,hb,B,hl,⟨e1,e2⟩,rfl,hj⟩
 refine⟨_,rfl,_,rfl,?_⟩
 cases hp:pick (cnt (rests rows st)) (rests rows st) with
 | some x=>
  refine Dk ?_
  obtain⟨hx0,r0,hr0,t0,er0⟩:=Hz hp
  have hlt:tot ((rests rows st).map (Ct x)) < tot (rests rows st):=Jx (by rw[<- er0];exact hr0)
  refine⟨λσ' H'=>∃m',m' < tot (rests rows st)/\∃(joined:List Str)(st:List Nat)(kvs:List (Key×V))(k:Nat)(v6:Option V),σ'=[some (.ref ra),some (.ref la),some (.ref sa),some (.ref ba),some (.ref ja),some (aD (pick (cnt (rests rows st)) (rests rows st))),v6] /\
   Ak H2 H'/\H' ja=some (.lst (Ax joined))/\Rz H' rows sa ba st kvs/\(∀(i:Nat)(r:List Str)(m:Nat),rows[i]? = some r->st[i]? = some m->m<=r.length)/\bJ kvs (cnt (rests rows st))/\kvs.length<=1000 /\
   (joined++(Di k (rests rows st)).1=(Di n rows).1/\(Di k (rests rows st)).2=(Di n rows).2)/\m'=tot (rests rows st)/\joined.length+tot (rests rows st)<=tot rows,λσ' H' h=>h,?_⟩
  -- joined.append(name)
  refine⟨_,rfl,.inl ⟨rfl,_,Av.of ej⟩,_,rfl,ja,_,_,rfl,rfl,ej,by rw[Au,LR];omega,?_⟩
  have ejx:Ax joined++[V.str x]=Ax (joined++[x]):=by unfold Ax;rw[LW];rfl
  have hup:∀b o,b≠ja->H5 b=some o->(upd H5 ja (.lst (Ax joined++[V.str x]))) b=some o:=λb o hne e=>by rw[Ai hne];exact e
  have s6:Ak H2 (upd H5 ja (.lst (Ax joined++[V.str x]))):=λb o e=>hup b o (Ah e hja2) (s5 b o e)
  -- take_out(name,rows,starts,behind)
  refine⟨_,rfl,_,rfl,_,rfl,_,rfl,x,ra,sa,ba,as,rows,st,kvs,rfl,R.same s6,⟨hup _ _ n_sj S.lst,S.len,hup _ _ n_bj S.dic⟩,hb,B,by omega,nsr,nsa,λst' kvs' H6 S6 h6 hb6 B6 hl6 k6=>?_⟩
  have s7:Ak H2 H6:=λb o e=>k6 b o (s6 b o e) (Ah e hsa) (Ah e hba2)
  -- name=free_name(rows,starts,behind)
  refine⟨_,rfl,_,rfl,_,rfl,ra,sa,ba,as,rows,st',kvs',_,rfl,R.same s7,S6,B6,λH7 s8=>?_⟩
  obtain⟨k',rfl⟩:∃k',k=k'+1:=by
   cases k with
   | zero=>
    have z:=hend r0 (by rw[<- e2];exact hr0)
    rw[er0] at z
    cases z
   | succ k'=>exact⟨k',rfl⟩
  rw[Ma hp] at e1 e2
  refine⟨_,?_,joined++[x],st',kvs',k',v6,rfl,s7.trans s8,s8 _ _ ?_,⟨s8 _ _ S6.lst,S6.len,s8 _ _ S6.dic⟩,hb6,B6,by omega,⟨?_,?_⟩,rfl,?_⟩
  ·rw[h6];exact hlt
  ·rw[<- ejx]
   exact k6 _ _ Aa (NT n_sj) (NT n_bj)
  ·rw[h6,OA];exact e1
  ·rw[h6];exact e2
  ·rw[h6,LS,MR];omega
 | none=>
  refine Cd ?_
  rw[aO hp] at e1 e2
  have e1':joined=(Di n rows).1:=by rw[<- e1,NL]
  have e2':rests rows st=(Di n rows).2:=e2
  have hall:∀(i:Nat)(r:List Str)(j:Nat),rows[i]? = some r->st[i]? = some j->r.drop j=[]:=λi r j h1 h2=>hend _ (by rw[<- e2'];exact MK (Gg h1 h2))
  -- rests=[row[start:] for row,start in zip(rows,starts)]
  have R5:=R.same s5
  refine⟨_,rfl,_,rfl,ra,sa,rfl,⟨_,Av.of R5.lst⟩,⟨_,Av.of S.lst⟩,Rg (K:=K) (a:=ra) (b:=sa) (xs:=as.map V.ref) (zs:=Rr st) (by rw[LN,Ql,S.len,R.len])
   (λi ys H6=>Ak H5 H6/\∃ps:List LZ,ys=ps.map V.ref/\ps.length=i/\∀p∈ps,H6 p=some (.lst [])) ⟨Ak.refl _,[],rfl,rfl,λp hp=>nomatch hp⟩ (λi ys H6 _ h=>⟨Av.of (h.1 _ _ R5.lst),Av.of (h.1 _ _ S.lst)⟩) ?_ ?_⟩
  ·rintro i y z ys H6 Tp hy hz ⟨s6,ps,rfl,hps,hpl⟩ hT
   obtain⟨a,ha,rfl⟩:=Dj hy
   obtain⟨j,hj',rfl⟩:=Xh hz
   obtain⟨r,hr',er⟩:=R5.get ha
   have s9:Ak H5 (upd H6 Tp (.tup [.ref a,.int j])):=s6.trans (Ad hT _)
   refine⟨Tp,_,rfl,Dq.of Aa,rfl,_,_,rfl,_,_,rfl,rfl,?_⟩
   refine⟨_,rfl,_,rfl,_,rfl,a,_,rfl,Av.of (s9 _ _ er),λp hp'=>?_⟩
   have hc:Es (Ax r) (some (j:Int)) none=[]:=by
    rw[Wb _ _ (by rw[Au];exact hb i r j hr' hj')]
    unfold Ax
    rw[<- List.map_drop,hall i r j hr' hj']
    rfl
   rw[hc]
   refine⟨?_,s9.trans (Ad hp' _),ps++[p],by rw[LW];rfl,by rw[LS,hps];rfl,λp' hp2=>?_⟩
   ·have:=(LM.mp hr').1
    rw[LN,hps,LR]
    omega
   ·rcases MJ.mp hp2 with z | z
    ·have e:=Ad hT (.tup [.ref a,.int j]) _ _ (hpl p' z)
     exact Ad hp' _ _ _ e
    ·have e:p'=p:=by simpa using z
     subst e
     exact Aa
  ·rintro ys H6 ⟨s6,ps,rfl,hps,hpl⟩ qa hqa
   -- if any(rests)
   have s9:=Ad (H:=H6) hqa (.lst (ps.map V.ref))
   refine⟨_,rfl,qa,_,_,rfl,Av.of Aa,Qp ps λp hp'=>s9 _ _ (hpl p hp'),?_⟩
   rw[mY]
   refine⟨_,rfl,Cd ?_⟩
   -- return joined
   refine⟨_,rfl,q ja _ hja2 (s5.trans (s6.trans s9)) ?_⟩
   rw[<- e1']
   exact s9 _ _ (s6 _ _ ej)
end
end Bk
namespace Bk
open PySem L2 Mg Nm
section
variable {P:MV} {w:NU} {K:LO} {mg:Str->Option LP} {base:OS} {f fM fC fF fT:LZ} {fd dM dC dF dT:NP}
def eQ:Sp:=λvs H Q _=>∃(x:Str)(ea oa:LZ)(as:List LZ)(el:List Str)(rows:List (List Str))(n:Nat),vs=[.str x,.ref ea,.ref oa]/\H ea=some (.lst (Ax el))/\Cw H oa as rows/\tot (rows++[el])<=900/\rows.length<=900/\el.length<=900/\(∀r∈(Di n (rows++[el])).2,r=[])/\(Di n (rows++[el])).1.length<=900 /\
 ∀(p:LZ)(H':Hp),H p=none->Ak H H'->H' p=some (.lst (Ax (x::(Di n (rows++[el])).1)))->Q (.ref p) H'
theorem CC:Al ["name","elders","orders"] ["name","elders","orders"] (Ac Yd):=Fm (by decide +kernel)
theorem vQ(F:Dx K "made_order" "made_order" Yd f fd)(T:Txt mg)(GM:Aj P w K mg base Bj 2 fM dM ["rows","labels"] Sx)(kM:MN K (.ref fM)=true)(bM:Binds K dM ["rows","labels"] [])(mM:mg "merged" = some (.ref fM)):
 Aj P w K mg base Bj 3 f fd ["name","elders","orders"] eQ:=by
 refine F.ok CC (λvs H Q E h=>?_) (λcdv A outer s H vs Q E hr h=>?_)
 ·obtain⟨x,ea,oa,as,el,rows,n,rfl,_⟩:=h
  rfl
 obtain⟨x,ea,oa,as,el,rows,n,rfl,eel,R,ht,hrl,hell,hrun,hjl,q⟩:=h
 refine⟨_,Ag (Ap (Am Ic (Dn (Bw (pv 0))) (Ds GM hr mM kM bM (Hh (Am Ic (pv 2) (Dn (Bw (pv 1)))) (Am Ic (pv 1) (Dn (Bw (pv 0)))))))),?_⟩
 have hlR:as.length=rows.length:=R.len
 refine⟨_,rfl,by show 1<=MG;decide,λl1 hl1=>?_⟩
 have s1:=Ad hl1 (.lst [V.str x])
 refine⟨_,rfl,_,rfl,by show 1<=MG;decide,λl2 hl2=>?_⟩
 have s2:=Ad hl2 (.lst [V.ref ea])
 refine⟨oa,l2,_,_,rfl,rfl,s2 _ _ (s1 _ _ R.lst),Aa,by rw[LN,LR,MR];omega,λl3 hl3=>?_⟩
 have s3:=Ad hl3 (.lst (as.map V.ref++[V.ref ea]))
 refine⟨_,rfl,_,rfl,by show 1<=MG;decide,λl4 hl4=>?_⟩
 have s4:=Ad hl4 (.lst [V.str x])
 have sA:=s1.trans (s2.trans (s3.trans s4))
 refine⟨ea,l4,_,_,rfl,rfl,sA _ _ eel,Aa,by rw[Au,LR,MR];omega,λl5 hl5=>?_⟩
 have s5:=Ad hl5 (.lst (Ax el++[V.str x]))
 have sB:=sA.trans s5
 have e3:=s5 _ _ (s4 _ _ (Aa (H:=upd (upd H l1 (.lst [V.str x])) l2 (.lst [V.ref ea])) (a:=l3) (o:=.lst (as.map V.ref++[V.ref ea]))))
 have R5:=R.snoc sB (sB _ _ eel) (q:=l3) (by rw[LW];exact e3)
 have n1:=s5 _ _ (s4 _ _ (s3 _ _ (s2 _ _ (Aa (H:=H) (a:=l1) (o:=.lst [V.str x])))))
 refine⟨l3,l5,as++[ea],rows++[el],n,rfl,R5,by omega,by rw[LS,MR];omega,hrun,λp H6 hp s6 ep=>?_⟩
 refine⟨l1,p,_,_,rfl,rfl,s6 _ _ n1,ep,by rw[Au,LR,MR];omega,λz hz=>?_⟩
 exact q z _ (sB.free (s6.free hz)) (sB.trans (s6.trans (Ad hz _))) Aa
end
def Hand(H:Hp)(v:V)(el:List Str):Prop:=(v=.non/\el=[]) ∨ ∃a,v=.ref a/\H a=some (.lst (Ax el))
theorem Hand.same{H H':Hp}{v:V}{el:List Str}(h:Hand H v el)(s:Ak H H'):Hand H' v el:=by
 rcases h with h | ⟨a,e,h⟩
 ·exact .inl h
 ·exact .inr ⟨a,e,s _ _ h⟩
def aW(L:List Ent)(y:Str):List Str:=((Hm L y).map (·.od)).getD []
theorem hV{L:List Ent}{y:Str}{e:Ent}(h:Hm L y=some e):aW L y=e.od:=by
 unfold aW
 rw[h]
 rfl
def rowsOf(L:List Ent)(el:List Str):List (List Str):=el.map (aW L)++[el]
structure iZ(H:Hp)(e:Ent):Prop where
 at_:H e.at_=none
 ea:H e.ea=none
 oa:H e.oa=none
 ba:H e.ba=none
structure Fo(CB CH:LZ)(H:Hp)(p d:LZ)(L:List Ent)(x:Str)(el:List Str)(n:Nat):Prop where
 bk:Bc CB CH H p d L
 nm:As x=true
 nl:x.length<=MG
 new:Hm L x=none
 els:∀y∈el,∃e,Hm L y=some e
 nd:el.Nodup
 ell:el.length<=60
 ll:L.length<=100
 tot:tot (rowsOf L el)<=900
 run:∀r∈(Di n (rowsOf L el)).2,r=[]
 jl:(Di n (rowsOf L el)).1.length<=900
def aH(H:Hp)(L:List Ent)(x:Str)(el:List Str)(n:Nat)(e:Ent):Prop:=e.nm=x/\e.el=el/\e.od=x::(Di n (rowsOf L el)).1/\e.bd=[]/\iZ H e
def Mz(CB CH:LZ):Sp:=λvs H Q _=>∃(p d:LZ)(L:List Ent)(x:Str)(v:V)(el:List Str)(n:Nat),vs=[.ref p,.str x,v]/\Fo CB CH H p d L x el n/\Hand H v el /\
 ∀(e:Ent)(H':Hp),aH H L x el n e->Bc CB CH H' p d (L++[e])->(∀b o,H b=some o->b≠d->H' b=some o)->Q .non H'
theorem Bc.add{CB CH:LZ}{H H':Hp}{p d:LZ}{L:List Ent}{e:Ent}(B:Bc CB CH H p d L)(hn:Hm L e.nm=none)(fr:H e.ba=none)(E:Zu CH H' e)(hd:H' d=some (.dK (putK (kU L) (MY e.nm) (.ref e.at_))))(k:∀b o,H b=some o->b≠d->H' b=some o):Bc CB CH H' p d (L++[e]):=by
 obtain⟨dx,hp⟩:=B.ob
 have npd:p≠d:=Ei hp B.dc (by intro z;cases z)
 refine⟨⟨dx,k _ _ hp npd⟩,?_,?_,?_,?_,?_⟩
 ·rw[hd,rB _ (by rw[Xc,hn];rfl)]
  unfold kU
  rw[LW]
  rfl
 ·intro a ha
  rcases MJ.mp ha with h | h
  ·have A:=B.en a h
   exact⟨k _ _ A.ob (Ei A.ob B.dc (by intro z;cases z)),k _ _ A.el (Ei A.el B.dc (by intro z;cases z)),k _ _ A.od (Ei A.od B.dc (by intro z;cases z)),k _ _ A.bd (B.nb a h)⟩
  ·rw[MA] at h
   subst h
   exact E
 ·intro a ha
  rcases MJ.mp ha with h | h
  ·exact B.nb a h
  ·rw[MA] at h
   subst h
   exact NT (Ah B.dc fr)
 ·rw[LW,PQ]
  refine⟨B.nd,by simp,λa ha b hb=>?_⟩
  obtain⟨c,hc,rfl⟩:=ML.mp ha
  have hb':b=e.nm:=by simpa using hb
  subst hb'
  intro z
  have:=List.find?_eq_none.mp hn c hc
  exact this (decide_eq_true z)
 ·rw[LW,PQ]
  refine⟨B.nn,by simp,λa ha b hb=>?_⟩
  obtain⟨c,hc,rfl⟩:=ML.mp ha
  have hb':b=e.ba:=by simpa using hb
  subst hb'
  exact Ah (B.en c hc).bd fr
section
variable {P:MV} {w:NU} {K:LO} {mg:Str->Option LP} {base:OS} {f fO fN fM fI CB CH T0:LZ} {fd dO dN dM dI:NP}
abbrev qM:List Str:=["self","name","elders","elder_row","orders"]
theorem EF:(["elder","self"]:List Str).Nodup:=by decide +kernel
theorem Kt:Al ["self","name","elders","elder_row","orders"] ["self","name","elders"] (Ac Ie):=Fm (by decide +kernel)
theorem pC(F:Tr K "found" "Book.found" Ie f fd T0)(T:Gb K mg CB CH)(Tx:Txt mg)(GO:Aj P w K mg base Bj 2 fO dO ["self","name"] (Na CB CH))(bO:Binds K dO ["self","name"] [])(mO:Meth K CB "order" fO)(GN:Aj P w K mg base Bj 1 fN dN ["value"] Gj)(kN:MN K (.ref fN)=true)(bN:Binds K dN ["value"] [])(mN:mg "is_name" = some (.ref fN))(GM:Aj P w K mg base Bj 3 fM dM ["name","elders","orders"] eQ)(kM:MN K (.ref fM)=true)(bM:Binds K dM ["name","elders","orders"] [])(mM:mg "made_order" = some (.ref fM))(GI:Aj P w K mg base Bj 1 fI dI ["self","elder_row","order_row"] (Md CH))(bI:Binds K dI ["self","elder_row","order_row"] [])(MH:Mk K CH fI):Aj P w K mg base Bj 4 f fd ["self","name","elders"] (Mz CB CH):=by
 refine F.ok Kt (λvs H Q E h=>?_) (λcdv A outer s H vs Q E hr h=>?_)
 ·obtain⟨p,d,L,x,v,el,n,rfl,_⟩:=h
  rfl
 obtain⟨p,d,L,x,v,el,n,rfl,⟨B,hok,hxl,hno,hel,hnd,hell,hll,htot,hrun,hjl⟩,hand,q⟩:=h
 have hu:=Hx hr
 have hr1:=hr.mono (j:=1) (by decide)
 have hr2:=hr.mono (j:=2) (by decide)
 obtain⟨dx,hp⟩:=B.ob
 refine⟨_,Ab (Bh (Fv (Ej (Ds GN hr1 mN kN bN (Bw (pv 1))))) Br Ar)
  (Ab (Bh (Gq (pS hu (pv 1) (Fj (pv 0) rfl))) Br Ar)
  (Ab (Bx 3 Kt.nd (PE.imp (t':=λσ H Q=>∃v el,σ[2]? = some (some v)/\Hand H v el/\∀l,H l=none->Q (.ref l) (upd H l (.lst (Ax el)))) (Hw (Gq (cP (pv 2))) (Dn Gr) (Bo (Rf (K:=K)) rfl Tx.list OD (Bw (pv 2))))
   (λσ H Q ⟨v,el,h1,h2,h3⟩=>?imp)))
  (Ab (Cc (i:=4) (Ac Ie) qM ["elder"] [("self", 0)] rfl Kt.nd rfl rfl (Bz (pv 3)) (Bd (i:=0) (by decide)) (λ_ _ _ _ _ _=>⟨De 0 EF,Ca,Cn (pv 1) T.clB mO GO hr2 bO .nil Cm (Bw (pv 0))⟩))
  (Ab (Bh (Ao Ph (Bg Ky rfl Tx.len PP (Bw (Bo (Jl rfl) rfl Tx.set Ve (Bw (pv 3))))) (Ep Tx.len (pv 3)) (Aw _)) Br Ar)
  (Ag (Ir hu (Fj (pv 0) rfl) (pv 1) (jE MH GI hr2 rfl T.mgH bI .nil Cm (Hh (pv 3) (Ds GM hr mM kM bM (Tc (pv 1) (pv 3) (pv 4))))) rfl)))))),?_⟩
 case imp=>
  refine⟨_,h1,_,rfl,?_⟩
  rcases h2 with ⟨rfl,rfl⟩ | ⟨a,rfl,ea⟩
  ·exact Dk ⟨by show 0<=MG;decide,h3⟩
  ·exact Cd ⟨_,h1,a,_,rfl,.inl (Av.of ea),h3⟩
 -- is_name(name)
 refine⟨_,rfl,.str x,rfl,.inr ⟨x,rfl,hxl⟩,λH1 s1=>?_⟩
 rw[show HI (.str x)=true from hok]
 refine⟨_,rfl,Cd ?_⟩
 -- name in self.by_name
 have B1:=B.same s1
 refine⟨_,rfl,_,rfl,p,CB,dx,_,_,rfl,s1 _ _ hp,T.clB,T.nBy,Rl d,d,_,rfl,B1.no hno,_,rfl,Cd ?_⟩
 -- elder_row
 refine⟨v,el,rfl,hand.same s1,λla hla=>?_⟩
 have s2:=Ad hla (.lst (Ax el))
 have sA:=s1.trans s2
 have hla0:H la=none:=s1.free hla
 have ela:(upd H1 la (.lst (Ax el))) la=some (.lst (Ax el)):=Aa
 generalize upd H1 la (.lst (Ax el))=H2 at *
 -- orders
 refine⟨_,rfl,la,rfl,⟨_,Av.of ela⟩,Bq (K:=K) (a:=la) (xs:=Ax el) (λi ys H3=>Ak H2 H3/\∃ps:List LZ,ys=ps.map V.ref/\ps.length=i/\∀(j:Nat)(a:LZ)(r:List Str),ps[j]? = some a->(el.map (aW L))[j]? = some r->H3 a=some (.lst (Ax r)))
  ⟨Ak.refl _,[],rfl,rfl,λj a r h=>by simp at h⟩ (λi ys H3 _ h=>Av.of (h.1 _ _ ela)) ?_ ?_⟩
 ·rintro i y ys H3 hi ⟨s3,ps,rfl,hps,hpl⟩
  obtain⟨z,hz,rfl⟩:=El hi
  obtain⟨e,he⟩:=hel z (MK hz)
  have sB:=sA.trans s3
  have hil:i < el.length:=(LM.mp hz).1
  refine⟨_,rfl,p,dx,_,rfl,sB _ _ hp,Dy d (by decide +kernel),_,rfl,p,d,L,z,e,rfl,B.same sB,he,λl hl=>?_⟩
  have s4:=Ad hl (.lst (Ax e.od))
  refine⟨by rw[LN,hps,LR];omega,s3.trans s4,ps++[l],by rw[LW];rfl,by rw[LS,hps];rfl,λj a r h1 h2=>?_⟩
  by_cases hj:j < ps.length
  ·rw[MW hj] at h1
   exact s4 _ _ (hpl j a r h1 h2)
  ·have hjl:j < (ps++[l]).length:=(LM.mp h1).1
   rw[LS,MR] at hjl
   obtain rfl:j=ps.length:=by omega
   rw[NK] at h1
   cases h1
   rw[MX,hps,hz] at h2
   cases h2
   rw[hV he]
   exact Aa
 rintro ys H3 ⟨s3,ps,rfl,hps,hpl⟩ qa hqa
 rw[Au] at hps
 have s4:=Ad hqa (.lst (ps.map V.ref))
 have R:Cw (upd H3 qa (.lst (ps.map V.ref))) qa ps (el.map (aW L)):=⟨Aa,by rw[hps,LN],λi a r h1 h2=>s4 _ _ (hpl i a r h1 h2)⟩
 have sB:=s3.trans s4
 have sC:=sA.trans sB
 generalize upd H3 qa (.lst (ps.map V.ref))=H4 at *
 -- len(set(elder_row)) < len(elder_row)
 refine⟨_,rfl,la,el,rfl,Av.of (sB _ _ ela),hnd,by show el.length+1 < 4096;omega,λsa hsa=>?_⟩
 have s5:=Ad hsa (Yi P w sa el.length)
 refine⟨sa,_,rfl,Aa,_,rfl,la,_,rfl,.inl (Av.of (s5 _ _ (sB _ _ ela))),_,_,rfl,rfl,_,rfl,Cr (λc=>?_) (λ_=>?_)⟩
 ·have:=of_decide_eq_true c
  rw[Au] at this
  omega
 have sD:=sC.trans s5
 have R5:=R.same s5
 have ela5:=s5 _ _ (sB _ _ ela)
 -- self.by_name[name]=House(elder_row,made_order(name,elder_row,orders))
 refine⟨_,rfl,_,rfl,_,rfl,_,rfl,x,la,qa,ps,el,el.map (aW L),n,rfl,ela5,R5,htot,by rw[LN];omega,by omega,hrun,hjl,λoa H6 hoa s6 eoa=>?_⟩
 intro hx hdx nx ndx nex
 have sE:=sD.trans s6
 have s7:Ak H6 (upd (upd H6 hdx (.own hx)) hx (.ins CH hdx [])):=λb o e=>by
  rw[Ai (Ah e nx),Ai (Ah e ndx)]
  exact e
 refine⟨hx,la,oa,hdx,rfl,Aa,λba H7 hba e1 e2 kp=>⟨rfl,?_⟩⟩
 have s8:Ak H6 H7:=λb o e=>kp b o (s7 b o e) (Ah e nx)
 have sF:=sE.trans s8
 have B7:=B.same sF
 refine⟨_,rfl,p,CB,dx,_,_,rfl,sF _ _ hp,T.clB,T.nBy,Rl d,_,rfl,d,_,rfl,Pp.k (k:=(MY x:Key)) B7.dc (by unfold kU;rw[LN,LR];omega),?_⟩
 have hla6:H6 la=some (.lst (Ax el)):=s6 _ _ ela5
 have hba6:H6 ba=none:=s7.free hba
 have nlx:la≠hx:=Ah hla6 nx
 have frE:iZ H ⟨x,hx,hdx,la,oa,ba,el,x::(Di n (rowsOf L el)).1,[]⟩:=⟨sE.free nx,hla0,sD.free hoa,sE.free hba6⟩
 have k8:∀b o,H b=some o->b≠d->(upd H7 d (.dK (putK (kU L) (MY x:Key) (.ref hx)))) b=some o:=λb o e hb=>by rw[Ai hb];exact sF _ _ e
 have nd_of:∀b,H b=none->b≠d:=λb hb=>NT (Ah B.dc hb)
 refine q ⟨x,hx,hdx,la,oa,ba,el,x::(Di n (rowsOf L el)).1,[]⟩ _ ⟨rfl,rfl,rfl,rfl,frE⟩ (B.add (e:=⟨x,hx,hdx,la,oa,ba,el,x::(Di n (rowsOf L el)).1,[]⟩) hno frE.ba ⟨?_,?_,?_,?_⟩ Aa k8) k8
 ·rw[Ai (nd_of _ frE.at_)];exact e1
 ·rw[Ai (nd_of _ frE.ea)];exact s8 _ _ hla6
 ·rw[Ai (nd_of _ frE.oa)];exact s8 _ _ eoa
 ·rw[Ai (nd_of _ frE.ba)];exact e2
end
def big:Int:=10 ^ 30
def yV(lo hi:Int):V->Bool
 | .int i=>decide (lo<=i) && decide (i<=hi)
 | _=>false
def Ex(kd:Str)(v:V):Bool:=if kd = "word" then HI v else if kd = "shift" then yV 0 64 v else if kd = "divisor" then yV (-big) big v && !decide (v=.int 0) else yV (-big) big v
def Qk:Sp:=λvs H Q _=>∃(v:V)(lo hi:Int),vs=[v,.int lo,.int hi]/\PV v/\Q (.bl (yV lo hi v)) H
def Sa:Sp:=λvs H Q _=>∃v:V,vs=[v]/\PV v/\Q (.bl (yV (-big) big v)) H
def gQ:Sp:=λvs H Q _=>∃(v:V)(kd:Str),vs=[v,.str kd]/\PV v/\∀H',Ak H H'->Q (.bl (Ex kd v)) H'
section
variable {P:MV} {w:NU} {K:LO} {mg:Str->Option LP} {base:OS} {f fW fA fN fP fS aP:LZ} {fd dW dA dN dP dS:NP}
theorem uP:Al ["value","least","most"] ["value","least","most"] (Ac fJ):=Fm (by decide +kernel)
theorem qB(F:Dx K "is_whole" "is_whole" fJ f fd)(T:Txt mg):Aj P w K mg base Bj 1 f fd ["value","least","most"] Qk:=by
 refine F.ok uP (λvs H Q E h=>?_) (λcdv A outer s H vs Q E hr h=>?_)
 ·obtain⟨v,lo,hi,rfl,_⟩:=h
  rfl
 obtain⟨v,lo,hi,rfl,hv,q⟩:=h
 refine⟨_,Ag (Ap (Jq (Bg Ea rfl T.isi PD (Hh (pv 0) (Ij (v:=.ty "int") rfl T.int PyProof.Rows.boot_int rfl)))
  (Jq (BA (Bg Ea rfl T.isi PD (Hh (pv 0) (Ij (v:=.ty "bool") rfl T.bool PyProof.Rows.boot_bool rfl))))
  (Oi (Lz Sg Sg (pv 1) (pv 0) (pv 2)))))),?_⟩
 rcases hv with ⟨i,rfl⟩ | ⟨x,rfl,hx⟩
 ·refine⟨_,rfl,_,_,_,_,rfl,.int _,Hr K "int", _,rfl,Dk ?_⟩
  refine⟨_,rfl,_,_,_,_,rfl,.int _,(show TL K (.type "int") (.type "bool")=some false from rfl),_,rfl,_,rfl,Dk ?_⟩
  refine⟨_,rfl,_,rfl,_,_,rfl,rfl,_,rfl,Cr (λc=>?_) (λc=>?_)⟩
  ·refine⟨_,rfl,_,_,rfl,rfl,?_⟩
   have e:yV lo hi (.int i)=decide (i<=hi):=by
    show (decide (lo<=i) && decide (i<=hi))=_
    rw[c,QU]
   rw[e] at q
   exact q
  ·have e:yV lo hi (.int i)=false:=by
    show (decide (lo<=i) && decide (i<=hi))=_
    rw[PU.mpr c,OZ]
   rw[e] at q
   exact q
 ·exact⟨_,rfl,_,_,_,_,rfl,.str _,(show TL K (.type "str") (.type "int")=some false from rfl),_,rfl,Cd q⟩
theorem rZ:Al ["value"] ["value"] (Ac Wa):=Fm (by decide +kernel)
theorem oI(F:Dx K "is_amount" "is_amount" Wa f fd)(T:Txt mg)(GW:Aj P w K mg base Bj 1 fW dW ["value","least","most"] Qk)(kW:MN K (.ref fW)=true)(bW:Binds K dW ["value","least","most"] [])(mW:mg "is_whole" = some (.ref fW)):Aj P w K mg base Bj 2 f fd ["value"] Sa:=by
 refine F.ok rZ (λvs H Q E h=>?_) (λcdv A outer s H vs Q E hr h=>?_)
 ·obtain⟨v,rfl,_⟩:=h
  rfl
 obtain⟨v,rfl,hv,q⟩:=h
 refine⟨_,Ag (Ap (Ds GW hr mW kW bW (Tc (pv 0) (Oz Jr (Am Rj Ae Ae)) (Am Rj Ae Ae)))),?_⟩
 exact⟨_,rfl,_,_,rfl,rfl,⟨by decide,by decide,by decide⟩,_,rfl,_,_,rfl,rfl,⟨by decide,by decide,by decide⟩,v,-big,big,rfl,hv,q⟩
theorem AR:Al ["part","kind"] ["part","kind"] (Ac Vj):=Fm (by decide +kernel)
theorem vD(F:Dx K "is_part" "is_part" Vj f fd)(T:Txt mg)(GW:Aj P w K mg base Bj 1 fW dW ["value","least","most"] Qk)(kW:MN K (.ref fW)=true)(bW:Binds K dW ["value","least","most"] [])(mW:mg "is_whole" = some (.ref fW))(GA:Aj P w K mg base Bj 2 fA dA ["value"] Sa)(kA:MN K (.ref fA)=true)(bA:Binds K dA ["value"] [])(mA:mg "is_amount" = some (.ref fA))(GN:Aj P w K mg base Bj 1 fN dN ["value"] Gj)(kN:MN K (.ref fN)=true)(bN:Binds K dN ["value"] [])(mN:mg "is_name" = some (.ref fN)):Aj P w K mg base Bj 3 f fd ["part","kind"] gQ:=by
 refine F.ok AR (λvs H Q E h=>?_) (λcdv A outer s H vs Q E hr h=>?_)
 ·obtain⟨v,kd,rfl,_⟩:=h
  rfl
 obtain⟨v,kd,rfl,hv,q⟩:=h
 have hr1:=hr.mono (j:=1) (by decide)
 refine⟨_,Ab (Bh (Ao Cf (pv 1) Aq (Aw _)) (Ag (Ap (Ds GN hr1 mN kN bN (Bw (pv 0))))) Ar)
  (Ab (Bh (Ao Cf (pv 1) Aq (Aw _)) (Ag (Ap (Ds GW hr1 mW kW bW (Tc (pv 0) Ae Ae)))) Ar)
  (Ab (Bh (Ao Cf (pv 1) Aq (Aw _)) (Ag (Ap (Jq (Ds GA hr mA kA bA (Bw (pv 0))) (Oi (Ko Kx (pv 0) Ae (Aw _)))))) Ar)
  (Ag (Ap (Ds GA hr mA kA bA (Bw (pv 0))))))),?_⟩
 unfold Ex at q
 have de:∀ {a b:Str},decide (V.str a=V.str b)=true->a=b:=λh=>V.str.inj (of_decide_eq_true h)
 have dn:∀ {a b:Str},¬ decide (V.str a=V.str b)=true->¬ a=b:=λh e=>h (by rw[e];exact decide_eq_true rfl)
 refine⟨_,rfl,rfl,_,rfl,Cr (λc=>?_) (λc=>?_)⟩
 ·rw[if_pos (de c)] at q
  exact⟨_,rfl,v,rfl,hv,q⟩
 rw[if_neg (dn c)] at q
 refine⟨_,rfl,rfl,_,rfl,Cr (λc=>?_) (λc=>?_)⟩
 ·rw[if_pos (de c)] at q
  exact⟨_,rfl,v,0,64,rfl,hv,q _ (Ak.refl _)⟩
 rw[if_neg (dn c)] at q
 refine⟨_,rfl,rfl,_,rfl,Cr (λc=>?_) (λc=>?_)⟩
 ·rw[if_pos (de c)] at q
  refine⟨_,rfl,v,rfl,hv,_,rfl,Cr (λc2=>?_) (λc2=>?_)⟩
  ·rw[c2,QU] at q
   rcases hv with ⟨i,rfl⟩ | ⟨x,rfl,_⟩
   ·exact⟨_,rfl,rfl,q _ (Ak.refl _)⟩
   ·cases c2
  ·rw[PU.mpr c2,OZ] at q
   exact q _ (Ak.refl _)
 rw[if_neg (dn c)] at q
 exact⟨_,rfl,v,rfl,hv,q _ (Ak.refl _)⟩
theorem rE:(["part","kind"]:List Str).Nodup:=by decide +kernel
theorem CZ:(["step"]:List Str).Nodup:=by decide +kernel
structure Tab(P:MV)(w:NU)(K:LO)(aP:LZ)(ks:List (Str×LZ×List Str)):Prop where
 dic:bY P w K aP (ks.map λp=>((MY p.1:Key),V.ref p.2.1))
 tup:∀p∈ks,∀H:Hp,Dq K H p.2.1 (Ax p.2.2)
def Dv(ks:List (Str×LZ×List Str))(kd:Str):Option (LZ×List Str):=(ks.find? λp=>decide (p.1=kd)).map (·.2)
theorem yD(ks:List (Str×LZ×List Str))(kd:Str):valV (ks.map λp=>((MY p.1:Key),V.ref p.2.1)) (MY kd:Key)=(Dv ks kd).map λq=>V.ref q.1:=by
 unfold Dv
 induction ks with
 | nil=>rfl
 | cons e L ih=>
  rw[MU]
  by_cases h:e.1=kd
  ·rw[Cz (show ((MY e.1:Key),V.ref e.2.1).1=MY kd by rw[h]),SO (by rw[decide_eq_true h])]
   rfl
  ·rw[Dc (λz=>h (MY.inj z)),ih,SQ (by rw[decide_eq_false h];exact LY)]
theorem nU{ks:List (Str×LZ×List Str)}{kd:Str}{a:LZ}{r:List Str}(h:Dv ks kd=some (a,r)):∃p∈ks,p.2=(a,r):=by
 unfold Dv at h
 cases e:ks.find? λp=>decide (p.1=kd) with
 | none=>rw[e] at h;cases h
 | some p=>
  rw[e] at h
  exact⟨p,List.mem_of_find?_eq_some e,MZ h⟩
def Hs(ks:List (Str×LZ×List Str))(kd:Str)(ps:List V):Prop:=∃a r,Dv ks kd=some (a,r)/\ps.length=r.length/\∀(i:Nat)(v:V)(k:Str),ps[i]? = some v->r[i]? = some k->Ex k v=true
def fV(K:LO)(ks:List (Str×LZ×List Str)):Sp:=λvs H Q _=>∃(t:LZ)(kd:Str)(ps:List V),vs=[.ref t]/\Dq K H t (.str kd::ps)/\H t=some (.tup (.str kd::ps))/\Hs ks kd ps/\(∀v∈ps,PV v)/\ps.length<=100/\∀H',Ak H H'->Q (.bl true) H'
theorem FJ(x:V)(xs:List V):Es (x::xs) (some 1) none=xs:=by rw[DE];rfl
theorem qX:Al ["value","kinds"] ["value"] (Ac Qi):=Fm (by decide +kernel)
theorem xG{ks:List (Str×LZ×List Str)}(F:Dx K "is_step" "is_step" Qi f fd)(T:Txt mg)(Tb:Tab P w K aP ks)(mP:mg "PARTS" = some (.ref aP))(GP:Aj P w K mg base Bj 3 fP dP ["part","kind"] gQ)(kP:MN K (.ref fP)=true)(bP:Binds K dP ["part","kind"] [])(mPt:mg "is_part" = some (.ref fP)):Aj P w K mg base Bj 4 f fd ["value"] (fV K ks):=by
 refine F.ok qX (λvs H Q E h=>?_) (λcdv A outer s H vs Q E hr h=>?_)
 ·obtain⟨t,kd,ps,rfl,_⟩:=h
  rfl
 obtain⟨t,kd,ps,rfl,ht,ht',⟨a,r,hk,hl,hg⟩,hpv,hps,q⟩:=h
 refine⟨_,Ab (Bh (PW.pt (Nj (Fv (Ej (Bg Ea rfl T.isi PD (Hh (pv 0) (Ij (v:=.ty "tuple") rfl T.tup PyProof.Rows.boot_tuple rfl)))))
  (Nj (Ao Cf (Ep T.len (pv 0)) Ae (Aw _))
  (Lq (Fv (Ej (Bg Ea rfl T.isi PD (Hh (Az Df (pv 0) Ae (λ_ _=>rfl)) (Ij (v:=.ty "str") rfl T.str PyProof.Rows.boot_str rfl))))))))) Br Ar)
  (Ab (Bx 1 qX.nd (vA (jI (v:=.ref aP) rfl mP rfl) (Az Df (pv 0) Ae (λ_ _=>rfl)) ⟨rfl,rfl,rfl,rfl⟩))
  (Ab (Bh (PW.pt (Nj (Gq (cP (pv 1))) (Lq (Ao Kx (Ep T.len (pv 0)) (Am En Ae (Ep T.len (pv 1))) (Aw _))))) Br Ar)
  (Ag (Ap (Bg (Jv rfl) rfl T.all Hv (Bw (Dw (Ac Qi) ["value","kinds"] ["part","kind"] [] rfl (uU rfl T.zip (Hh (Ck zU (pv 0) (Cv Ae) Dt) (pv 1))) (Qc (K:=K) (Er (Bd (i:=0) (by decide)) (Er (Bd (i:=1) (by decide)) Nc)))
   (λ_ _ _ _ _ _=>⟨Lf (n:=2) rfl (Cy (De 0 rE) (Cy (De 1 rE) Ii)),Ca,Ds GP hr mPt kP bP (Hh (pv 0) (pv 1))⟩)))))))),?_⟩
 have at0:Sz (V.str kd::ps) 0=some (.str kd):=Cj (j:=0) rfl
 obtain⟨pr,hpr,epr⟩:=nU hk
 have hr0:∀H:Hp,Dq K H a (Ax r):=λH=>by
  have:=Tb.tup pr hpr H
  rw[epr] at this
  exact this
 refine⟨_,rfl,_,_,_,_,rfl,.tup ht',Hr K "tuple", _,rfl,Cd ?_⟩
 refine⟨_,rfl,t,_,rfl,.inr ht,rfl,_,rfl,Cr (λc=>?_) (λ_=>?_)⟩
 ·have:=V.int.inj (of_decide_eq_true c)
  rw[MT] at this
  omega
 refine⟨_,rfl,t,_,_,_,rfl,rfl,ht,at0,_,_,_,_,rfl,.str _,Hr K "str", _,rfl,Cd ?_⟩
 -- kinds=PARTS.get(value[0])
 refine⟨aP,_,rfl,Tb.dic,_,rfl,t,_,_,_,rfl,rfl,ht,at0,MY kd,rfl,?_⟩
 rw[yD,hk]
 refine⟨_,rfl,_,rfl,Cd ?_⟩
 refine⟨_,rfl,t,_,rfl,.inr ht,_,rfl,a,_,rfl,.inr (hr0 _),_,_,rfl,rfl,rfl,_,rfl,?_⟩
 have hlen:(V.int ((V.str kd::ps).length:Int))=V.int (1+((Ax r).length:Int)):=by rw[MT,Au,hl];congr 1;omega
 refine EJ hlen ?_
 -- all([is_part(part,kind) for part,kind in zip(value[1:],kinds)])
 refine⟨_,rfl,_,rfl,t,_,rfl,ht,?_,λp hp=>?_⟩
 ·intro z
  have z1:=z.1
  rw[show HT.sIx (V.str kd::ps).length 0 (some 1)=min 1 (V.str kd::ps).length from HT.sIx_nat _ _ 1,MT] at z1
  omega
 rw[FJ]
 have s1:=Ad hp (.tup ps)
 refine⟨_,rfl,p,a,rfl,⟨_,Dq.of Aa⟩,⟨_,hr0 _⟩,Xz (K:=K) (a:=p) (b:=a) (xs:=ps) (zs:=Ax r) (by rw[Au];exact hl) (λi ys H2=>Ak (upd H p (.tup ps)) H2/\ys=(NC i true).map V.bl) ⟨Ak.refl _,rfl⟩ (λi ys H2 _ h=>⟨Dq.of (h.1 _ _ Aa),hr0 _⟩) ?_ ?_⟩
 ·rintro i x z ys H2 Tp hx hz ⟨s2,rfl⟩ hT
  obtain⟨k,hk',rfl⟩:=El hz
  have s3:=Ad hT (.tup [x,.str k])
  refine⟨Tp,_,rfl,Dq.of Aa,rfl,_,_,rfl,_,_,rfl,rfl,?_⟩
  have hil:i < ps.length:=(LM.mp hx).1
  refine⟨_,rfl,_,rfl,x,k,rfl,hpv x (MK hx),λH3 s4=>?_⟩
  rw[hg i x k hx hk']
  refine⟨by rw[LN,OL,LR];omega,s2.trans (s3.trans s4),?_⟩
  rw[TF,LW]
  rfl
 ·rintro ys H2 ⟨s2,rfl⟩ l hl'
  refine⟨l,_,NC ps.length true,rfl,Av.of Aa,Fg _,?_⟩
  have e:(NC ps.length true).all id=true:=by simp
  rw[e]
  exact q _ (s1.trans (s2.trans (Ad hl' _)))
def Ce(H:Hp)(ts:List LZ)(ss:List (Str×List V)):Prop:=ts.length=ss.length/\∀(i:Nat)(t:LZ)(p:Str×List V),ts[i]? = some t->ss[i]? = some p->H t=some (.tup (.str p.1::p.2))
theorem Ce.same{H H':Hp}{ts:List LZ}{ss:List (Str×List V)}(h:Ce H ts ss)(s:Ak H H'):Ce H' ts ss:=⟨h.1,λi t p a b=>s _ _ (h.2 i t p a b)⟩
def Hq(ks:List (Str×LZ×List Str))(ss:List (Str×List V)):Prop:=ss.length<=30/\∀p∈ss,Hs ks p.1 p.2/\(∀v∈p.2,PV v)/\p.2.length<=100
def Rm(ks:List (Str×LZ×List Str)):Sp:=λvs H Q _=>∃(l:LZ)(ts:List LZ)(ss:List (Str×List V)),vs=[.ref l]/\H l=some (.lst (ts.map V.ref))/\Ce H ts ss/\Hq ks ss/\∀H',Ak H H'->Q (.bl true) H'
theorem rP:Al ["value"] ["value"] (Ac Qg):=Fm (by decide +kernel)
theorem lS{ks:List (Str×LZ×List Str)}(F:Dx K "is_body" "is_body" Qg f fd)(T:Txt mg)(GS:Aj P w K mg base Bj 4 fS dS ["value"] (fV K ks))(kS:MN K (.ref fS)=true)(bS:Binds K dS ["value"] [])(mS:mg "is_step" = some (.ref fS)):Aj P w K mg base Bj 5 f fd ["value"] (Rm ks):=by
 refine F.ok rP (λvs H Q E h=>?_) (λcdv A outer s H vs Q E hr h=>?_)
 ·obtain⟨l,ts,ss,rfl,_⟩:=h
  rfl
 obtain⟨l,ts,ss,rfl,el,⟨hts,hat⟩,⟨hs30,hgs⟩,q⟩:=h
 refine⟨_,Ag (Ap (Jq (Bg Ea rfl T.isi PD (Hh (pv 0) (Ij (v:=.ty "list") rfl T.list OD rfl)))
  (Jq (Ko Sg (Ep T.len (pv 0)) Ae (Aw _))
  (Oi (Bg (Jv rfl) rfl T.all Hv (Bw (Dw (Ac Qg) ["value"] ["step"] [] rfl (Bz (pv 0)) (Bd (i:=0) (by decide)) (λ_ _ _ _ _ _=>⟨De 0 CZ,Ca,
   Ds GS hr mS kS bS (Bw (pv 0))⟩)))))))),?_⟩
 refine⟨_,rfl,_,_,_,_,rfl,.lst el,Hr K "list", _,rfl,Dk ?_⟩
 refine⟨_,rfl,l,_,rfl,.inl (Av.of el),_,_,rfl,rfl,_,rfl,Cr (λ_=>?_) (λc=>absurd (decide_eq_true (by rw[LN];omega)) c)⟩
 refine⟨_,rfl,l,rfl,⟨_,Av.of el⟩,Bq (K:=K) (a:=l) (xs:=ts.map V.ref) (λi ys H2=>Ak H H2/\ys=(NC i true).map V.bl) ⟨Ak.refl _,rfl⟩ (λi ys H2 _ h=>Av.of (h.1 _ _ el)) ?_ ?_⟩
 ·rintro i y ys H2 hi ⟨s2,rfl⟩
  obtain⟨t,ht,rfl⟩:=Dj hi
  have hil:i < ss.length:=by rw[<- hts];exact(LM.mp ht).1
  have hp:=LU hil
  have et:=s2 _ _ (hat i t _ ht hp)
  obtain⟨g1,g2,g3⟩:=hgs _ (OO hil)
  refine⟨_,rfl,t,_,_,rfl,Dq.of et,et,g1,g2,g3,λH3 s3=>⟨by rw[LN,OL,LR];omega,s2.trans s3,?_⟩⟩
  rw[TF,LW]
  rfl
 ·rintro ys H2 ⟨s2,rfl⟩ p hp
  refine⟨p,_,NC (ts.map V.ref).length true,rfl,Av.of Aa,Fg _,?_⟩
  have e:(NC (ts.map V.ref).length true).all id=true:=by simp
  rw[e]
  exact q _ (s2.trans (Ad hp _))
end
def Gi(W:List (Str×LZ)):List (Key×V):=W.map λp=>((MY p.1:Key),V.ref p.2)
theorem Ke(W:List (Str×LZ)):(Gi W).length=W.length:=LN _
theorem Mp(W:List (Str×LZ)):((Gi W).map λkv=>kV kv.1)=Ax (W.map (·.1)):=by
 unfold Gi Ax
 rw[List.map_map,List.map_map]
 rfl
theorem xE(W:List (Str×LZ))(x:Str):valV (Gi W) (MY x:Key)=(W.find? λp=>decide (p.1=x)).map λp=>V.ref p.2:=by
 unfold Gi
 induction W with
 | nil=>rfl
 | cons e L ih=>
  rw[MU]
  by_cases h:e.1=x
  ·rw[Cz (show ((MY e.1:Key),V.ref e.2).1=MY x by rw[h]),SO (by rw[decide_eq_true h])]
   rfl
  ·rw[Dc (λz=>h (MY.inj z)),ih,SQ (by rw[decide_eq_false h];exact LY)]
def jG(CB CH:LZ):Sp:=λvs H Q _=>∃(p d:LZ)(L:List Ent)(x:Str)(e:Ent)(W:List (Str×LZ)),vs=[.ref p,.str x]/\Bc CB CH H p d L/\Hm L x=some e/\e.bd=Gi W/\∀l,H l=none->Q (.ref l) (upd H l (.lst (Ax (W.map (·.1)))))
def Pz(CB CH:LZ)(ks:List (Str×LZ×List Str)):Sp:=λvs H Q _=>∃(p d l:LZ)(L:List Ent)(x y:Str)(e:Ent)(ts:List LZ)(ss:List (Str×List V)),vs=[.ref p,.str x,.str y,.ref l]/\Bc CB CH H p d L/\Hm L x=some e/\As y=true/\y.length<=MG/\H l=some (.lst (ts.map V.ref))/\Ce H ts ss/\Hq ks ss/\e.bd.length<=1000 /\
 ∀(la:LZ)(H':Hp),H la=none->H' la=some (.lst (ts.map V.ref))->H' e.ba=some (.dK (putK e.bd (MY y:Key) (.ref la)))->(∀b o,H b=some o->b≠e.ba->H' b=some o)->Q .non H'
def Rw(CB CH:LZ):Sp:=λvs H Q _=>∃(p d:LZ)(L:List Ent)(x y:Str)(e:Ent),vs=[.ref p,.str x,.str y]/\Bc CB CH H p d L/\Hm L x=some e /\
 ∀H',H' e.ba=some (.dK (Hc e.bd (MY y:Key)))->(∀b o,H b=some o->b≠e.ba->H' b=some o)->Q (.bl (valV e.bd (MY y:Key)).isSome) H'
def Vz(CB CH:LZ):Sp:=λvs H Q _=>∃(p d:LZ)(L:List Ent)(x y:Str)(e:Ent),vs=[.ref p,.str x,.str y]/\Bc CB CH H p d L/\Hm L x=some e /\
 ((valV e.bd (MY y:Key)=none/\Q .non H) ∨ ∃(la:LZ)(xs:List V),valV e.bd (MY y:Key)=some (.ref la)/\H la=some (.lst xs)/\∀l,H l=none->Q (.ref l) (upd H l (.lst xs)))
theorem nZ{kvs:List (Key×V)}{k:Key}(h:valV kvs k=none):Hc kvs k=kvs:=by
 unfold Hc
 refine List.filter_eq_self.mpr λkv hkv=>decide_eq_true λz=>?_
 have h2:=Hb k kvs
 rw[h] at h2
 have h3:=UK.mp h2 kv hkv
 exact h3 (decide_eq_true z)
section
variable {P:MV} {w:NU} {K:LO} {mg:Str->Option LP} {base:OS} {f fH fN fB CB CH:LZ} {fd dH dN dB:NP} {ks:List (Str×LZ×List Str)}
theorem sP:Al ["self","name","word","bodies"] ["self","name","word"] (Ac uE):=Fm (by decide +kernel)
theorem wO(F:Dx K "body" "Book.body" uE f fd)(T:Gb K mg CB CH)(Tx:Txt mg)(GH:Aj P w K mg base Bj 1 fH dH ["self","name"] (Gd CB CH))(bH:Binds K dH ["self","name"] [])(mH:Meth K CB "house" fH):Aj P w K mg base Bj 2 f fd ["self","name","word"] (Vz CB CH):=by
 refine F.ok sP (λvs H Q E h=>?_) (λcdv A outer s H vs Q E hr h=>?_)
 ·obtain⟨p,d,L,x,y,e,rfl,_⟩:=h
  rfl
 obtain⟨p,d,L,x,y,e,rfl,B,he,q⟩:=h
 obtain⟨dx,hp⟩:=B.ob
 have hu:=Hx hr
 have E:=B.en e (Ey he).1
 refine⟨_,Ab (Bx 3 sP.nd (Fj (Cn (pv 0) T.clB mH GH hr bH .nil Cm (Bw (pv 1))) rfl))
  (Ab (Bh (Gq (Kq hu (pv 2) (pv 3))) (Ag (Ap tG)) Ar)
  (Ag (Ap (Bo Et rfl Tx.list OD (Bw (Iv hu (pv 3) (pv 2) (λ_ _=>rfl))))))),?_⟩
 refine⟨_,rfl,p,dx,_,rfl,hp,Dy d (by decide +kernel),_,rfl,p,d,L,x,e,rfl,B,he,e.at_,CH,e.dx,_,_,rfl,E.ob,T.clH,T.nBd,iI _ _ _,?_⟩
 refine⟨_,rfl,_,rfl,e.ba,_,rfl,Fu.k (k:=MY y) E.bd,_,rfl,?_⟩
 rcases q with ⟨hv,q⟩ | ⟨la,xs,hv,hla,q⟩
 ·rw[hv]
  exact Dk q
 ·rw[hv]
  refine Cd ?_
  have g:=Fu.k (k:=(MY y:Key)) E.bd
  rw[hv] at g
  exact⟨_,rfl,_,rfl,e.ba,_,rfl,g,la,_,rfl,.inl (Av.of hla),q⟩
theorem gY:Al ["self","name","word","body","house"] ["self","name","word","body"] (Ac gD):=Fm (by decide +kernel)
theorem qQ(F:Dx K "teach" "Book.teach" gD f fd)(T:Gb K mg CB CH)(Tx:Txt mg)(GH:Aj P w K mg base Bj 1 fH dH ["self","name"] (Gd CB CH))(bH:Binds K dH ["self","name"] [])(mH:Meth K CB "house" fH)(GN:Aj P w K mg base Bj 1 fN dN ["value"] Gj)(kN:MN K (.ref fN)=true)(bN:Binds K dN ["value"] [])(mN:mg "is_name" = some (.ref fN))(GB:Aj P w K mg base Bj 5 fB dB ["value"] (Rm ks))(kB:MN K (.ref fB)=true)(bB:Binds K dB ["value"] [])(mB:mg "is_body" = some (.ref fB)):Aj P w K mg base Bj 6 f fd ["self","name","word","body"] (Pz CB CH ks):=by
 refine F.ok gY (λvs H Q E h=>?_) (λcdv A outer s H vs Q E hr h=>?_)
 ·obtain⟨p,d,l,L,x,y,e,ts,ss,rfl,_⟩:=h
  rfl
 obtain⟨p,d,l,L,x,y,e,ts,ss,rfl,B,he,hy,hyl,el,hst,hgd,hbl,q⟩:=h
 obtain⟨dx,hp⟩:=B.ob
 have hu:=Hx hr
 have hr1:=hr.mono (j:=1) (by decide)
 have E:=B.en e (Ey he).1
 refine⟨_,Ab (Bx 4 gY.nd (Cn (pv 0) T.clB mH GH hr1 bH .nil Cm (Bw (pv 1))))
  (Ab (Bh (Fv (Ej (Ds GN hr1 mN kN bN (Bw (pv 2))))) Br Ar)
  (Ab (Bh (Fv (Ej (Ds GB hr mB kB bB (Bw (pv 3))))) Br Ar)
  (Ag (Ir hu (Fj (pv 4) rfl) (pv 2) (Bo Et rfl Tx.list OD (Bw (pv 3))) rfl)))),?_⟩
 refine⟨_,rfl,p,dx,_,rfl,hp,Dy d (by decide +kernel),_,rfl,p,d,L,x,e,rfl,B,he,?_⟩
 refine⟨_,rfl,.str y,rfl,.inr ⟨y,rfl,hyl⟩,λH1 s1=>?_⟩
 rw[show HI (.str y)=true from hy]
 refine⟨_,rfl,Cd ?_⟩
 refine⟨_,rfl,l,ts,ss,rfl,s1 _ _ el,hst.same s1,hgd,λH2 s2=>⟨_,rfl,Cd ?_⟩⟩
 have s3:=s1.trans s2
 refine⟨_,rfl,l,_,rfl,.inl (Av.of (s3 _ _ el)),λla hla=>?_⟩
 have s4:=Ad hla (.lst (ts.map V.ref))
 have s5:=s3.trans s4
 refine⟨_,rfl,e.at_,CH,e.dx,_,_,rfl,s5 _ _ E.ob,T.clH,T.nBd,iI _ _ _,_,rfl,e.ba,_,rfl,Pp.k (k:=(MY y:Key)) (s5 _ _ E.bd) (by rw[LR];omega),?_⟩
 have nlb:la≠e.ba:=NT (Ah (s3 _ _ E.bd) hla)
 exact q la _ (s3.free hla) (by rw[Ai nlb];exact Aa) Aa λb o hb hne=>by rw[Ai hne];exact s5 _ _ hb
end
theorem Vp{a b:Str}(h:decide (V.str a=V.str b)=true):a=b:=V.str.inj (of_decide_eq_true h)
theorem Vl{a b:Str}(h:¬ decide (V.str a=V.str b)=true):¬ a=b:=λe=>h (by rw[e];exact decide_eq_true rfl)
theorem at0(x:V)(xs:List V):Sz (x::xs) 0=some x:=Cj (j:=0) rfl
theorem oP(x y:V)(xs:List V):Sz (x::y::xs) 1=some y:=Cj (j:=1) rfl
theorem at2(x y z:V)(xs:List V):Sz (x::y::z::xs) 2=some z:=Cj (j:=2) rfl
def Kv:V->Str
 | .str x=>x
 | .int i=>Tx.dec i
 | _=>Str.empty
def wS(p:Str×List V):Str:=if p.1 = "try" then Str.join " " ["try", Kv (p.2.getD 0 .non),"else", Kv (p.2.getD 1 .non)] else Str.join " " (p.1::p.2.map Kv)
def AF(v:V):Prop:=(∃i:Int,v=.int i /\ -big<=i/\i<=big) ∨ ∃w,v=.str w/\As w=true
structure Od(p:Str×List V):Prop where
 kd:As p.1=true
 ps:∀v∈p.2,AF v
 tr:p.1 = "try" -> ∃w u,p.2=[.str w,.str u]
 le:p.2.length<=2
def Ri:Sp:=λvs H Q _=>∃(t:LZ)(p:Str×List V),vs=[.ref t]/\H t=some (.tup (.str p.1::p.2))/\Od p/\∀H',Ak H H'->Q (.str (wS p)) H'
theorem Ay{x:Str}(h:As x=true):1<=x.length/\x.length<=20:=by
 unfold As at h
 simp only[OX,decide_eq_true_eq] at h
 exact h.1
theorem Hy{x:Str}(h:As x=true):∀c∈Tx.cs x,97<=c/\c<=122:=by
 unfold As at h
 simp only[OX,decide_eq_true_eq,QO] at h
 exact h.2
theorem uX{i:Int}(h0 : -big<=i)(h1:i<=big):(Tx.dec i).length<=33:=by
 have e:big=10 ^ 30:=rfl
 rw[<- Tx.len_cs]
 cases i with
 | ofNat m=>
  have:Tx.cs (Tx.dec (Int.ofNat m))=Tx.dg m:=Tx.dec_nat m
  rw[this]
  have hm:(m:Int)<=big:=h1
  exact Tx.dg_len (by decide) (RV (show m<=10 ^ 30 by have z:(m:Int)<=10 ^ 30:=(by rw[<- e];exact hm);omega) (by decide))
 | negSucc m=>
  rw[Tx.dec_neg,MT]
  have hm : -(10 ^ 30:Int)<=Int.negSucc m:=by rw[<- e];exact h0
  have:=Tx.dg_len (k:=31) (m:=m+1) (by decide) (by omega)
  omega
theorem Fl{v:V}(h:AF v):(Kv v).length<=33:=by
 rcases h with ⟨i,rfl,h0,h1⟩ | ⟨w,rfl,hw⟩
 ·exact uX h0 h1
 ·exact NA (Ay hw).2 (by decide)
theorem jA{i:Int}(h0 : -big<=i)(h1:i<=big):i.natAbs.log2 < 1920:=by
 have e:big=10 ^ 30:=rfl
 rw[e] at h0 h1
 by_cases z:i.natAbs=0
 ·rw[z];decide
 ·rw[Nat.log2_lt z]
  refine RV (show i.natAbs<=10 ^ 30 by omega) (by decide +kernel)
section
variable {P:MV} {w:NU} {K:LO} {mg:Str->Option LP} {base:OS} {f fS:LZ} {fd dS:NP}
theorem qN:Al ["step"] ["step"] (Ac Qn):=Fm (by decide +kernel)
theorem DU:(["part"]:List Str).Nodup:=by decide +kernel
theorem lZ(F:Dx K "written_step" "written_step" Qn f fd)(T:Txt mg):Aj P w K mg base Bj 1 f fd ["step"] Ri:=by
 refine F.ok qN (λvs H Q E h=>?_) (λcdv A outer s H vs Q E hr h=>?_)
 ·obtain⟨t,p,rfl,_⟩:=h
  rfl
 obtain⟨t,p,rfl,ht,W,q⟩:=h
 refine⟨_,Ab (Bh (Ao Cf (Az Df (pv 0) Ae (λ_ _=>rfl)) Aq (Aw _)) (Ag (Ap (Dg PySem.F.plainAttrs_str PySem.F.slot_str_join PySem.F.type_str_join Hf Aq (Bw (Dn (FZ Aq (Az Df (pv 0) Ae (λ_ _=>rfl)) Aq (Az Df (pv 0) Ae (λ_ _=>rfl)))))))) Ar)
  (Ag (Ap (Dg PySem.F.plainAttrs_str PySem.F.slot_str_join PySem.F.type_str_join Hf Aq (Bw (Dw (Ac Qn) ["step"] ["part"] [] rfl (DG (pv 0)) (Bd (i:=0) (by decide)) (λ_ _ _ _ _ _=>⟨De 0 DU,Ca,Bo Pa rfl T.str PyProof.Rows.boot_str (Bw (pv 0))⟩)))))),?_⟩
 refine⟨_,rfl,t,_,_,_,rfl,rfl,Dq.of ht,at0 _ _,rfl,_,rfl,Cr (λc=>?_) (λc=>?_)⟩
 ·have c:p.1 = "try" := Vp c
  obtain⟨a,b,e⟩:=W.tr c
  have oa:=W.ps (.str a) (by rw[e];simp)
  have ob:=W.ps (.str b) (by rw[e];simp)
  rw[e] at ht
  refine⟨rfl,?_⟩
  refine⟨_,rfl,t,_,_,_,rfl,rfl,Dq.of ht,oP _ _ _,_,rfl,t,_,_,_,rfl,rfl,Dq.of ht,at2 _ _ _ _,by show 4<=MG;decide,λl hl=>?_⟩
  refine⟨" ", l,["try", a,"else", b],rfl,rfl,Av.of Aa,Fi (k:=33) (λx hx=>?_) (by show 4 * (33+1)<=1000000;decide),?_⟩
  ·simp only[LX,MM,or_false] at hx
   rcases hx with rfl | rfl | rfl | rfl
   ·decide +kernel
   ·exact Fl oa
   ·decide +kernel
   ·exact Fl ob
  ·have:=q _ (Ad hl (.lst [.str "try", .str a,.str "else", .str b]))
   unfold wS at this
   rw[if_pos c,e] at this
   exact this
 ·have c:¬ p.1 = "try" := Vl c
  have hl:(V.str p.1::p.2).length<=3:=by rw[MT];have:=W.le;omega
  have hall:∀v∈V.str p.1::p.2,AF v:=λv hv=>by
   rcases LX.mp hv with rfl | hv
   ·exact .inr ⟨_,rfl,W.kd⟩
   ·exact W.ps v hv
  have hwS:wS p=Str.join " " ((V.str p.1::p.2).map Kv):=by
   unfold wS
   rw[if_neg c]
   rfl
  rw[hwS] at q
  generalize V.str p.1::p.2=us at *
  refine⟨rfl,?_⟩
  refine⟨_,rfl,t,rfl,⟨_,Dq.of ht⟩,fU (K:=K) (a:=t) (xs:=us) (λi ys H2=>H2=H/\ys=((us.take i).map Kv).map V.str) ⟨rfl,by simp⟩ (λi ys H2 _ h=>Dq.of (by rw[h.1];exact ht)) ?_ ?_⟩
  ·rintro i v ys H2 hi ⟨rfl,rfl⟩
   have hv:=hall v (MK hi)
   have hil:i < us.length:=(LM.mp hi).1
   have e:((us.take i).map Kv).map V.str++[V.str (Kv v)]=((us.take (i+1)).map Kv).map V.str:=by
    rw[NR,hi,LW,LW]
    rfl
   rcases hv with ⟨n,rfl,n0,n1⟩ | ⟨x,rfl,hx⟩
   ·exact⟨_,rfl,.inl ⟨n,rfl,jA n0 n1,by rw[LN,LN,NM,LR];omega,rfl,e⟩⟩
   ·exact⟨_,rfl,.inr ⟨x,rfl,by rw[LN,LN,NM,LR];omega,rfl,e⟩⟩
  ·rintro ys H2 ⟨rfl,rfl⟩ l hl'
   rw[List.take_length]
   refine⟨" ", l,us.map Kv,rfl,rfl,Av.of Aa,Fi (k:=33) (λx hx=>?_) (by rw[LN];exact NA (Nat.mul_le_mul_right _ hl) (by decide +kernel)),q _ (Ad hl' _)⟩
   obtain⟨v,hv,rfl⟩:=ML.mp hx
   exact Fl (hall v hv)
end
section
variable {P:MV} {w:NU} {K:LO} {mg:Str->Option LP} {base:OS} {f fH CB CH:LZ} {fd dH:NP}
theorem tW(L:List Ent):((kU L).map λkv=>kV kv.1)=Ax (L.map (·.nm)):=by
 unfold kU Ax
 rw[List.map_map,List.map_map]
 rfl
theorem pM:Al ["self"] ["self"] (Ac Vv):=Fm (by decide +kernel)
theorem nB(F:Dx K "houses" "Book.houses" Vv f fd)(T:Gb K mg CB CH)(Tx:Txt mg):Aj P w K mg base Ia 1 f fd ["self"] (Mc CB CH):=by
 refine F.ok1 pM (λvs H Q E h=>?_) (λcdv A outer s H vs Q E hr h=>?_)
 ·obtain⟨p,d,L,rfl,_⟩:=h
  rfl
 obtain⟨p,d,L,rfl,B,q⟩:=h
 obtain⟨dx,hp⟩:=B.ob
 refine⟨_,Ag (Ap (Bo (Ec rfl) rfl Tx.list OD (Bw (Fj (pv 0) rfl)))),?_⟩
 refine⟨_,rfl,p,CB,dx,_,_,rfl,hp,T.clB,T.nBy,Rl d,d,_,rfl,Rd.of B.dc,λl hl=>?_⟩
 rw[tW]
 exact q l hl
end
end Bk
namespace Bk
open PySem L2 Mg Nm Li
theorem Fq(r:List Str)(x:Str):Ax r++[.str x]=Ax (r++[x]):=by
 unfold Ax
 rw[LW]
 rfl
def nl:Str:=⟨#[10]⟩
theorem pW:("\n" : Str)=nl:=by decide +kernel
theorem nM:("" : Str)=Str.empty:=by decide +kernel
def linesOf(x:Str):List Str:=let ls:=Txt.split x nl;if ls.getLast? = some Str.empty then ls.dropLast else ls
theorem Wv{ls:List Str}(h:∀l∈ls,10∉l.cps.toList):linesOf (ends ls)=ls:=by
 have e:Txt.split (ends ls) nl=ls++[Str.empty]:=by
  rw[<- oE]
  refine Eo 10 (by simp) λl hl=>?_
  rcases MJ.mp hl with z | z
  ·exact h l z
  ·rw[MA.mp z];exact λw=>nomatch w
 unfold linesOf
 simp only[e]
 rw[List.getLast?_concat,if_pos rfl,List.dropLast_concat]
def Xj(K:LO):Sp:=λvs H Q _=>∃(a:LZ)(ls:List Str),vs=[.ref a]/\H a=some (.lst (Ax ls))/\ls.length<=100/\(∀l∈ls,l.length<=5000)/\∀H',Ak H H'->Q (.str (ends ls)) H'
def Wl(K:LO):Sp:=λvs H Q _=>∃(x:Str),vs=[.str x]/\x.length<=8000000/\∀(l:LZ)(H':Hp),H l=none->Ak H H'->H' l=some (.lst (Ax (linesOf x)))->Q (.ref l) H'
def wF(x:Str)(el:List Str):Str:=if el=[] then "house " ++ x else "house " ++ x ++ " under " ++ Str.join ", " el
def wK(x y:Str)(ss:List (Str×List V)):Str:=if ss=[] then x ++ " knows " ++ y ++ ":" else x ++ " knows " ++ y ++ ": " ++ Str.join "; " (ss.map wS)
def Oa:Sp:=λvs H Q _=>∃(x:Str)(a:LZ)(el:List Str),vs=[.str x,.ref a]/\H a=some (.lst (Ax el))/\As x=true/\(∀y∈el,As y=true)/\el.length<=100/\Q (.str (wF x el)) H
def Oe:Sp:=λvs H Q _=>∃(x y:Str)(l:LZ)(ts:List LZ)(ss:List (Str×List V)),vs=[.str x,.str y,.ref l]/\H l=some (.lst (ts.map V.ref))/\Ce H ts ss/\As x=true/\As y=true/\(∀p∈ss,Od p)/\ss.length<=30/\∀H',Ak H H'->Q (.str (wK x y ss)) H'
theorem Bi(x:Str):Str.empty++x=x:=str_ext (by rw[Af];rfl)
theorem Ek{z:Str}{ls:List Str}{k:Nat}(h:∀l∈ls,l.length<=k):(Str.join z ls).length<=ls.length * k+ls.length * z.length:=by
 have h1:=StrLaws.join_length_le z ls
 have h2:(ls.map (·.length)).sum<=ls.length * k:=by
  clear h1
  induction ls with
  | nil=>exact NI _
  | cons x r ih=>
   rw[MU,List.sum_cons,MT,Nat.succ_mul]
   have h1:=h x MD
   have h2:=ih λl hl=>h l (ME _ hl)
   omega
 omega
theorem Jm{p:Str×List V}(W:Od p):(wS p).length<=140:=by
 unfold wS
 split
 ·rename_i c
  obtain⟨a,b,e⟩:=W.tr c
  have oa:=W.ps (.str a) (by rw[e];simp)
  have ob:=W.ps (.str b) (by rw[e];simp)
  refine NA (Ek (k:=33) λx hx=>?_) (by show 4 * 33+4 * 1<=140;decide)
  rw[e] at hx
  simp only[LX,MM,or_false] at hx
  rcases hx with rfl | rfl | rfl | rfl
  ·decide +kernel
  ·exact Fl oa
  ·decide +kernel
  ·exact Fl ob
 ·have hl:(p.1::p.2.map Kv).length<=3:=by rw[MT,LN];have:=W.le;omega
  refine NA (Ek (k:=33) λx hx=>?_) ?_
  ·rcases LX.mp hx with rfl | hx
   ·exact NA (Ay W.kd).2 (by decide)
   ·obtain⟨v,hv,rfl⟩:=ML.mp hx
    exact Fl (W.ps v hv)
  ·have:(" " : Str).length=1:=by decide +kernel
   rw[this]
   omega
section
variable {P:MV} {w:NU} {K:LO} {mg:Str->Option LP} {base:OS} {f fS:LZ} {fd dS:NP}
theorem JV:(["line"]:List Str).Nodup:=by decide +kernel
theorem uT:Al ["lines"] ["lines"] (Ac Xk):=Fm (by decide +kernel)
theorem sN(F:Dx K "ended" "ended" Xk f fd):Aj P w K mg base Bj 1 f fd ["lines"] (Xj K):=by
 refine F.ok uT (λvs H Q E h=>?_) (λcdv A outer s H vs Q E hr h=>?_)
 ·obtain⟨a,ls,rfl,_⟩:=h
  rfl
 obtain⟨a,ls,rfl,ha,hl,hs,q⟩:=h
 refine⟨_,Ag (Ap (Dg PySem.F.plainAttrs_str PySem.F.slot_str_join PySem.F.type_str_join Hf Aq (Bw (Dw (Ac Xk) ["lines"] ["line"] [] rfl (Bz (pv 0)) (Bd (i:=0) (by decide)) (λ_ _ _ _ _ _=>⟨De 0 JV,Ca,Am Bf (pv 0) Aq⟩))))),?_⟩
 refine⟨rfl,_,rfl,a,rfl,⟨_,Av.of ha⟩,Bq (K:=K) (a:=a) (xs:=Ax ls) (λi ys H2=>Ak H H2/\ys=Ax ((ls.take i).map λl=>l++nl)) ⟨Ak.refl _,rfl⟩ (λi ys H2 _ h=>Av.of (h.1 _ _ ha)) ?_ ?_⟩
 ·rintro i v ys H2 hv ⟨s2,rfl⟩
  obtain⟨x,hx,rfl⟩:=El hv
  have hxl:=hs x (MK hx)
  have hi:i < ls.length:=(LM.mp hx).1
  refine⟨_,rfl,_,_,rfl,rfl,?_,?_⟩
  ·rw[LR]
   show x.length+1<=_
   omega
  refine⟨by rw[Au,LN,NM,LR];omega,s2,?_⟩
  rw[Fq,pW,List.take_succ,hx]
  rw[LW]
  rfl
 ·rintro ys H2 ⟨s2,rfl⟩ p hp
  rw[Au,List.take_length]
  refine⟨_,p,_,rfl,rfl,Av.of Aa,?_,?_⟩
  ·refine Fi (k:=5001) (λl hl=>?_) (by rw[LN,nM];show _ * (5001+0)<=_;omega)
   obtain⟨x,hx,rfl⟩:=ML.mp hl
   have:=hs x hx
   rw[Str.length_append]
   show x.length+1<=5001
   omega
  ·rw[nM]
   show Q (.str (Str.join Str.empty (ls.map λl=>l++⟨#[10]⟩))) _
   rw[lO]
   exact q _ (s2.trans (Ad hp _))
theorem iX:Al ["text","lines"] ["text"] (Ac eA):=Fm (by decide +kernel)
theorem jX{r:List V}{x:V}(h:r.getLast? = some x):Sz r (-1)=some x:=by
 obtain⟨ys,rfl⟩:=List.getLast?_eq_some_iff.mp h
 exact Zk _ _
theorem qG(xs:List V):Es xs none (some (-1))=xs.dropLast:=by
 unfold Es
 have e1:HT.sIx xs.length 0 none=0:=rfl
 have e2:HT.sIx xs.length xs.length (some (-1))=xs.length-1:=by
  unfold HT.sIx
  simp
  omega
 rw[e1,e2,TQ,List.dropLast_eq_take,Nat.sub_zero]
theorem sL(F:Dx K "lines_of" "lines_of" eA f fd):Aj P w K mg base Bj 1 f fd ["text"] (Wl K):=by
 refine F.ok iX (λvs H Q E h=>?_) (λcdv A outer s H vs Q E hr h=>?_)
 ·obtain⟨x,rfl,_⟩:=h
  rfl
 obtain⟨x,rfl,hx,q⟩:=h
 refine⟨_,Ab (Bx 1 iX.nd (Dg PySem.F.plainAttrs_str PySem.F.slot_str_split PySem.F.type_str_split Gv (pv 0) (Bw Aq)))
  (Ab (Bh (Ao Cf (Az Be (pv 1) (Oz Jr Ae) (λ_ _=>rfl)) Aq (Aw _)) (Ag (Ap (Ck Ew (pv 1) Dt (Cv (Oz Jr Ae))))) Ar)
  (Ag (Ap (pv 1)))),?_⟩
 refine⟨_,rfl,rfl,x,_,rfl,rfl,by rw[pW];rfl,by rw[LR];omega,λl hl=>?_⟩
 rw[pW]
 have hp:=PyProof.Rows.split_pos x nl
 have el:(upd H l (.lst ((Txt.split x nl).map V.str))) l=some (.lst (Ax (Txt.split x nl))):=Aa
 have s1:=Ad hl (.lst ((Txt.split x nl).map V.str))
 have hlo:linesOf x=if (Txt.split x nl).getLast? = some Str.empty then (Txt.split x nl).dropLast else Txt.split x nl:=rfl
 generalize Txt.split x nl=ls at *
 generalize upd H l (.lst (ls.map V.str))=H1 at *
 have hne:ls≠[]:=λz=>by rw[z] at hp;cases hp
 obtain⟨y,hy⟩:∃y,ls.getLast? = some y:=by
  cases e:ls.getLast? with
  | none=>exact absurd (List.getLast?_eq_none_iff.mp e) hne
  | some y=>exact⟨y,rfl⟩
 have hyV:(Ax ls).getLast? = some (.str y):=by unfold Ax;rw[List.getLast?_map,hy];rfl
 refine⟨_,rfl,_,rfl,l,_,_,_,rfl,rfl,Av.of el,jX hyV,rfl,_,rfl,Cr (λc=>?_) (λc=>?_)⟩
 ·have c1:y=Str.empty:=by rw[<- nM];exact V.str.inj (of_decide_eq_true c)
  rw[hy,c1,if_pos rfl] at hlo
  refine⟨_,rfl,_,rfl,_,rfl,l,_,rfl,Av.of el,λp hp2=>?_⟩
  refine q p _ (s1.free hp2) (s1.trans (Ad hp2 _)) ?_
  rw[Aa,hlo]
  show some (HO.lst (Es (Ax ls) none (some (-1))))=_
  rw[qG]
  unfold Ax
  rw[List.map_dropLast]
 ·have c1:¬ y=Str.empty:=λz=>c (by rw[z,nM];exact decide_eq_true rfl)
  rw[hy,if_neg (λz=>c1 (MZ z))] at hlo
  refine⟨_,rfl,q l _ hl s1 ?_⟩
  rw[hlo]
  exact el
theorem Uy:Al ["name","elders","row"] ["name","elders"] (Ac Sj):=Fm (by decide +kernel)
theorem cZ(F:Dx K "written_founding" "written_founding" Sj f fd):Aj P w K mg base Bj 1 f fd ["name","elders"] Oa:=by
 refine F.ok Uy (λvs H Q E h=>?_) (λcdv A outer s H vs Q E hr h=>?_)
 ·obtain⟨x,a,el,rfl,_⟩:=h
  rfl
 obtain⟨x,a,el,rfl,ha,ox,oe,hel,q⟩:=h
 have hx:=(Ay ox).2
 have hrow:(Str.join ", " el).length<=2200:=by
  refine NA (Ek (k:=20) λy hy=>(Ay (oe y hy)).2) ?_
  have:(", " : Str).length=2:=by decide +kernel
  rw[this]
  omega
 have l1:("house " : Str).length=6:=by decide +kernel
 have l2:(" under " : Str).length=7:=by decide +kernel
 refine⟨_,Ab (Bx 2 Uy.nd (Dg PySem.F.plainAttrs_str PySem.F.slot_str_join PySem.F.type_str_join Hf Aq (Bw (pv 1))))
  (Ag (Ap (Hw (Sf (K:=K) (pv 1)) (Kp (Dm Aq (Dm (Pg (pv 0)) (Dm Aq (Dm (Pg (pv 2)) Vx))))) (Kp (Dm Aq (Dm (Pg (pv 0)) Vx)))))),?_⟩
 refine⟨rfl,_,rfl,_,a,el,rfl,rfl,Av.of ha,Fi (k:=20) (λy hy=>(Ay (oe y hy)).2) (by have:(", " : Str).length=2:=(by decide +kernel);rw[this];omega),?_⟩
 refine⟨_,rfl,!(Ax el).isEmpty,.inl ⟨_,Av.of ha,rfl⟩,?_⟩
 cases el with
 | nil=>
  refine Cd ?_
  refine⟨_,rfl,by rw[Bi,l1,LR];decide,_,rfl,_,rfl,by rw[LR];omega,_,rfl,by rw[Bi,Str.length_append,l1,LR];omega,by rw[Bi,Str.length_append,l1,LR];omega,?_⟩
  rw[Bi]
  exact q
 | cons y el=>
  refine Dk ?_
  refine⟨_,rfl,by rw[Bi,l1,LR];decide,_,rfl,_,rfl,by rw[LR];omega,_,rfl,by rw[Bi,Str.length_append,l1,LR];omega,?_⟩
  refine⟨_,rfl,by rw[Bi,Str.length_append,Str.length_append,l1,l2,LR];omega,_,rfl,_,rfl,by rw[LR];omega,_,rfl,by rw[Bi,Str.length_append,Str.length_append,Str.length_append,l1,l2,LR];omega,by rw[Bi,Str.length_append,Str.length_append,Str.length_append,l1,l2,LR];omega,?_⟩
  rw[Bi]
  exact q
end
end Bk
namespace Bk
open PySem L2 Mg Nm
section
variable {P:MV} {w:NU} {K:LO} {mg:Str->Option LP} {base:OS} {f fH fN fB CB CH:LZ} {fd dH dN dB:NP} {ks:List (Str×LZ×List Str)}
theorem EK:Al ["self","name"] ["self","name"] (Ac BX):=Fm (by decide +kernel)
theorem BL(F:Dx K "own_words" "Book.own_words" BX f fd)(T:Gb K mg CB CH)(Tx:Txt mg)(GH:Aj P w K mg base Bj 1 fH dH ["self","name"] (Gd CB CH))(bH:Binds K dH ["self","name"] [])(mH:Meth K CB "house" fH):Aj P w K mg base Ia 2 f fd ["self","name"] (jG CB CH):=by
 refine F.ok1 EK (λvs H Q E h=>?_) (λcdv A outer s H vs Q E hr h=>?_)
 ·obtain⟨p,d,L,x,e,W,rfl,_⟩:=h
  rfl
 obtain⟨p,d,L,x,e,W,rfl,B,he,hb,q⟩:=h
 obtain⟨dx,hp⟩:=B.ob
 have E:=B.en e (Ey he).1
 refine⟨_,Ag (Ap (Bo (Ec rfl) rfl Tx.list OD (Bw (Fj (Cn (pv 0) T.clB mH GH hr bH .nil Cm (Bw (pv 1))) rfl)))),?_⟩
 refine⟨_,rfl,p,dx,_,rfl,hp,Dy d (by decide +kernel),_,rfl,p,d,L,x,e,rfl,B,he,e.at_,CH,e.dx,_,_,rfl,E.ob,T.clH,T.nBd,iI _ _ _,e.ba,_,rfl,Rd.of E.bd,λl hl=>?_⟩
 rw[hb,Mp]
 exact q l hl
end
end Bk
namespace Bk
open PySem L2 Mg Nm Li
abbrev Bdy:=List (Str×List V)
def Pq(H:Hp)(q:Str×LZ)(r:Str×Bdy):Prop:=q.1=r.1/\As q.1=true/\∃ts:List LZ,H q.2=some (.lst (ts.map V.ref))/\Ce H ts r.2/\(∀p∈r.2,Od p)/\r.2.length<=30
theorem Pq.same{H H':Hp}{q:Str×LZ}{r:Str×Bdy}(s:Ak H H')(h:Pq H q r):Pq H' q r:=let ⟨a,b,ts,c,d,e⟩:=h;⟨a,b,ts,s _ _ c,d.same s,e⟩
structure bZ(H:Hp)(e:Ent)(bs:List (Str×Bdy)):Prop where
 w:∃W:List (Str×LZ),e.bd=Gi W/\OJ (Pq H) W bs/\(W.map (·.1)).Nodup/\W.length<=60
 nm:As e.nm=true
 el:∀y∈e.el,As y=true
 le:e.el.length<=100
theorem bZ.same{H H':Hp}{e:Ent}{bs:List (Str×Bdy)}(s:Ak H H')(h:bZ H e bs):bZ H' e bs:=⟨let ⟨W,a,b,c⟩:=h.w;⟨W,a,Paired.mapP b λ_ _ z=>z.same s,c⟩,h.nm,h.el,h.le⟩
def Jn(x:Str)(el:List Str)(bs:List (Str×Bdy)):List Str:=wF x el::bs.map λr=>wK x r.1 r.2
def Ot(CB CH:LZ):Sp:=λvs H Q _=>∃(p d:LZ)(L:List Ent)(x:Str)(e:Ent)(bs:List (Str×Bdy)),vs=[.ref p,.str x]/\Bc CB CH H p d L/\Hm L x=some e/\bZ H e bs/\∀H',Ak H H'->Q (.str (ends (Jn x e.el bs))) H'
def Np(CB CH:LZ):Sp:=λvs H Q _=>∃(p d:LZ)(L:List Ent)(B:List (List (Str×Bdy))),vs=[.ref p]/\Bc CB CH H p d L/\OJ (bZ H) L B/\L.length<=20/\∀H',Ak H H'->Q (.str (Str.join Str.empty ((L.zip B).map λeb=>ends (Jn eb.1.nm eb.1.el eb.2)))) H'
theorem Rn{W:List (Str×LZ)}(nd:(W.map (·.1)).Nodup){q:Str×LZ}(h:q∈W):valV (Gi W) (MY q.1:Key)=some (.ref q.2):=by
 rw[xE]
 have:W.find? (λp=>decide (p.1=q.1))=some q:=by
  induction W with
  | nil=>exact nomatch h
  | cons a W ih=>
   rw[MU,OP] at nd
   rcases LX.mp h with rfl | h
   ·rw[SO (by rw[decide_eq_true rfl])]
   ·rw[SQ,ih nd.2 h]
    have:a.1≠q.1:=λz=>nd.1 (by rw[z];exact List.mem_map_of_mem h)
    rw[decide_eq_false this]
    exact LY
 rw[this]
 rfl
theorem Du{α β:Type}{F:α->β->Prop}{xs:List α}{ys:List β}(h:OJ F xs ys){k:Nat}{x:α}(hx:xs[k]? = some x):∃y,ys[k]? = some y/\F x y:=by
 induction h generalizing k with
 | nil=>exact nomatch hx
 | cons r t ih=>
  cases k with
  | zero=>cases hx;exact⟨_,rfl,r⟩
  | succ k=>exact ih hx
theorem Lm{x y:Str}{ss:Bdy}(ox:As x=true)(oy:As y=true)(W:∀p∈ss,Od p)(hl:ss.length<=30):(wK x y ss).length<=4500:=by
 have hx:=(Ay ox).2
 have hy:=(Ay oy).2
 have l1:(" knows " : Str).length=7:=by decide +kernel
 have l2:(": " : Str).length=2:=by decide +kernel
 have l3:(":" : Str).length=1:=by decide +kernel
 have l4:("; " : Str).length=2:=by decide +kernel
 have hj:(Str.join "; " (ss.map wS)).length<=4260:=by
  refine NA (Ek (k:=140) λz hz=>?_) ?_
  ·obtain⟨p,hp,rfl⟩:=ML.mp hz
   exact Jm (W p hp)
  ·rw[LN,l4]
   omega
 unfold wK
 split
 ·rw[Str.length_append,Str.length_append,Str.length_append,l1,l3]
  omega
 ·rw[Str.length_append,Str.length_append,Str.length_append,Str.length_append,l1,l2]
  omega
theorem Kd{x:Str}{el:List Str}(ox:As x=true)(oe:∀y∈el,As y=true)(hl:el.length<=100):(wF x el).length<=4500:=by
 have hx:=(Ay ox).2
 have l1:("house " : Str).length=6:=by decide +kernel
 have l2:(" under " : Str).length=7:=by decide +kernel
 have l4:(", " : Str).length=2:=by decide +kernel
 have hj:(Str.join ", " el).length<=2200:=by
  refine NA (Ek (k:=20) λy hy=>(Ay (oe y hy)).2) ?_
  rw[l4]
  omega
 unfold wF
 split
 ·rw[Str.length_append,l1]
  omega
 ·rw[Str.length_append,Str.length_append,Str.length_append,l1,l2]
  omega
section
variable {P:MV} {w:NU} {K:LO} {mg:Str->Option LP} {base:OS} {f fS fB fO fE fF fK fN fH CB CH:LZ} {fd dS dB dO dE dF dK dN dH:NP}
theorem Tv:Al ["name","word","body","row"] ["name","word","body"] (Ac My):=Fm (by decide +kernel)
theorem HB:(["step"]:List Str).Nodup:=by decide +kernel
theorem bX(F:Dx K "written_knows" "written_knows" My f fd)(GS:Aj P w K mg base Bj 1 fS dS ["step"] Ri)(kS:MN K (.ref fS)=true)(bS:Binds K dS ["step"] [])(mS:mg "written_step" = some (.ref fS)):Aj P w K mg base Bj 2 f fd ["name","word","body"] Oe:=by
 refine F.ok Tv (λvs H Q E h=>?_) (λcdv A outer s H vs Q E hr h=>?_)
 ·obtain⟨x,y,l,ts,ss,rfl,_⟩:=h
  rfl
 obtain⟨x,y,l,ts,ss,rfl,hl,hst,ox,oy,W,hsl,q⟩:=h
 have hx:=(Ay ox).2
 have hy:=(Ay oy).2
 have l1:(" knows " : Str).length=7:=by decide +kernel
 have l2:(": " : Str).length=2:=by decide +kernel
 have l3:(":" : Str).length=1:=by decide +kernel
 have l4:("; " : Str).length=2:=by decide +kernel
 have hj:(Str.join "; " (ss.map wS)).length<=4260:=by
  refine NA (Ek (k:=140) λz hz=>?_) ?_
  ·obtain⟨p,hp,rfl⟩:=ML.mp hz
   exact Jm (W p hp)
  ·rw[LN,l4]
   omega
 refine⟨_,Ab (Bx 3 Tv.nd (Dg PySem.F.plainAttrs_str PySem.F.slot_str_join PySem.F.type_str_join Hf Aq (Bw (Dw (Ac My) ["name","word","body","row"] ["step"] [] rfl (Bz (pv 2)) (Bd (i:=0) (by decide)) (λ_ _ _ _ _ _=>⟨De 0 HB,Ca,Ds GS hr mS kS bS (Bw (pv 0))⟩)))))
  (Ag (Ap (Hw (Sf (K:=K) (pv 2)) (Kp (Dm (Pg (pv 0)) (Dm Aq (Dm (Pg (pv 1)) (Dm Aq (Dm (Pg (pv 3)) Vx)))))) (Kp (Dm (Pg (pv 0)) (Dm Aq (Dm (Pg (pv 1)) (Dm Aq Vx)))))))),?_⟩
 refine⟨rfl,_,rfl,l,rfl,⟨_,Av.of hl⟩,Bq (K:=K) (a:=l) (xs:=ts.map V.ref) (λi ys H2=>Ak H H2/\ys=Ax ((ss.take i).map wS)) ⟨Ak.refl _,rfl⟩ (λi ys H2 _ h=>Av.of (h.1 _ _ hl)) ?_ ?_⟩
 ·rintro i v ys H2 hi ⟨s2,rfl⟩
  have hit:i < ts.length:=by have:=(LM.mp hi).1;rwa [LN] at this
  have his:i < ss.length:=by rw[<- hst.1];exact hit
  have ht:=LU hit
  have hs:=LU his
  rw[MX,ht] at hi
  cases hi
  refine⟨_,rfl,ts[i],ss[i],rfl,s2 _ _ (hst.2 i _ _ ht hs),W _ (OO his),λH3 s3=>⟨by rw[Au,LN,NM,LR];omega,s2.trans s3,?_⟩⟩
  rw[Fq,NR,hs,LW]
  rfl
 ·rintro ys H2 ⟨s2,rfl⟩ r hr'
  have s3:=Ad hr' (.lst (Ax ((ss.take (ts.map V.ref).length).map wS)))
  have hlen:(ts.map V.ref).length=ss.length:=by rw[LN,hst.1]
  rw[hlen,List.take_length] at s3 ⊢
  have sA:=s2.trans s3
  refine⟨"; ", r,ss.map wS,rfl,rfl,Av.of Aa,Fi (k:=140) (λz hz=>?_) (by rw[LN,l4];omega),?_⟩
  ·obtain⟨p,hp,rfl⟩:=ML.mp hz
   exact Jm (W p hp)
  refine⟨_,rfl,!(ts.map V.ref).isEmpty,.inl ⟨_,Av.of (sA _ _ hl),rfl⟩,?_⟩
  cases ss with
  | nil=>
   have e0:ts=[]:=List.length_eq_zero_iff.mp (by rw[hst.1];rfl)
   rw[e0]
   refine Cd ?_
   refine⟨_,rfl,_,rfl,by rw[LR];omega,_,rfl,by rw[Bi,LR];omega,?_⟩
   refine⟨_,rfl,by rw[Bi,Str.length_append,l1,LR];omega,_,rfl,_,rfl,by rw[LR];omega,_,rfl,by rw[Bi,Str.length_append,Str.length_append,l1,LR];omega,?_⟩
   refine⟨_,rfl,by rw[Bi,Str.length_append,Str.length_append,Str.length_append,l1,l3,LR];omega,by rw[Bi,Str.length_append,Str.length_append,Str.length_append,l1,l3,LR];omega,?_⟩
   rw[Bi]
   exact q _ sA
  | cons p ss=>
   have e0:(!(ts.map V.ref).isEmpty)=true:=by
    cases ts with
    | nil=>have:=hst.1;cases this
    | cons _ _=>rfl
   rw[e0]
   refine Dk ?_
   refine⟨_,rfl,_,rfl,by rw[LR];omega,_,rfl,by rw[Bi,LR];omega,?_⟩
   refine⟨_,rfl,by rw[Bi,Str.length_append,l1,LR];omega,_,rfl,_,rfl,by rw[LR];omega,_,rfl,by rw[Bi,Str.length_append,Str.length_append,l1,LR];omega,?_⟩
   refine⟨_,rfl,by rw[Bi,Str.length_append,Str.length_append,Str.length_append,l1,l2,LR];omega,_,rfl,_,rfl,by rw[LR];omega,_,rfl,by rw[Bi,Str.length_append,Str.length_append,Str.length_append,Str.length_append,l1,l2,LR];omega,by rw[Bi,Str.length_append,Str.length_append,Str.length_append,Str.length_append,l1,l2,LR];omega,?_⟩
   rw[Bi]
   exact q _ sA
abbrev KL:List Str:=["book","name","knows"]
theorem Uj:Al KL ["book","name"] (Ac Mw):=Fm (by decide +kernel)
theorem JP:(["word","book","name"]:List Str).Nodup:=by decide +kernel
theorem cW(F:Dx K "written_house" "written_house" Mw f fd)(T:Gb K mg CB CH)(GO:Aj P w K mg base Ia 2 fO dO ["self","name"] (jG CB CH))(bO:Binds K dO ["self","name"] [])(mO:Meth K CB "own_words" fO)(GB:Aj P w K mg base Bj 2 fB dB ["self","name","word"] (Vz CB CH))(bB:Binds K dB ["self","name","word"] [])(mB:Meth K CB "body" fB)(GE:Aj P w K mg base Bj 2 fE dE ["self","name"] (Mu CB CH))(bE:Binds K dE ["self","name"] [])(mE:Meth K CB "elders" fE)(GK:Aj P w K mg base Bj 2 fK dK ["name","word","body"] Oe)(kK:MN K (.ref fK)=true)(bK:Binds K dK ["name","word","body"] [])(mK:mg "written_knows" = some (.ref fK))(GF:Aj P w K mg base Bj 1 fF dF ["name","elders"] Oa)(kF:MN K (.ref fF)=true)(bF':Binds K dF ["name","elders"] [])(mF:mg "written_founding" = some (.ref fF))(GN:Aj P w K mg base Bj 1 fN dN ["lines"] (Xj K))(kN:MN K (.ref fN)=true)(bN:Binds K dN ["lines"] [])(mN:mg "ended" = some (.ref fN)):Aj P w K mg base Ia 3 f fd ["book","name"] (Ot CB CH):=by
 refine F.ok1 Uj (λvs H Q E h=>?_) (λcdv A outer s H vs Q E hr h=>?_)
 ·obtain⟨p,d,L,x,e,bs,rfl,_⟩:=h
  rfl
 obtain⟨p,d,L,x,e,bs,rfl,B,he,ET,q⟩:=h
 have hr1:=hr.mono (j:=1) (by decide)
 obtain⟨W,eW,PW',nd,wl⟩:=ET.w
 have enm:e.nm=x:=(Ey he).2
 have ox:As x=true:=by rw[<- enm];exact ET.nm
 have hbl:=OF PW'
 refine⟨_,Ab (Cc (i:=2) (Ac Mw) KL ["word"] [("book", 0),("name", 1)] rfl Uj.nd rfl rfl (Bz (Cn (pv 0) T.clB mO GO hr bO .nil Jd (Bw (pv 1)))) (Bd (i:=0) (by decide)) (λ_ _ _ _ _ _=>⟨De 0 JP,Ca,Ds GK hr mK kK bK (Tc (pv 2) (pv 0) (Cn (pv 1) T.clB mB GB hr bB .nil Cm (Hh (pv 2) (pv 0))))⟩))
  (Ag (Ap (Ds GN hr1 mN kN bN (Bw (Am Ic (Dn (Bw (Ci GF hr1 rfl mF kF bF' .nil Cm (Hh (pv 1) (Cn (pv 0) T.clB mE GE hr bE .nil Cm (Bw (pv 1))))))) (pv 2)))))),?_⟩
 obtain⟨dx,hpo⟩:=B.ob
 refine⟨_,rfl,p,dx,_,rfl,hpo,Dy d (by decide +kernel),_,rfl,p,d,L,x,e,W,rfl,B,he,eW,λl hl=>?_⟩
 obtain⟨H1,zz,s1,el⟩:=lay hl (.lst (Ax (W.map (·.1))))
 rw[zz]
 refine⟨l,rfl,⟨_,Av.of el⟩,Bq (K:=K) (a:=l) (xs:=Ax (W.map (·.1))) (λi ys H2=>Ak H1 H2/\ys=Ax ((bs.take i).map λr=>wK x r.1 r.2)) ⟨Ak.refl _,rfl⟩ (λi ys H2 _ h=>Av.of (h.1 _ _ el)) ?_ ?_⟩
 ·rintro i v ys H2 hi ⟨s2,rfl⟩
  obtain⟨y,hy,rfl⟩:=El hi
  rw[MX] at hy
  cases eq:W[i]? with
  | none=>rw[eq] at hy;cases hy
  | some qq=>
  rw[eq] at hy
  cases hy
  obtain⟨r,hr',z1,z2,ts,z3,z4,z5,z6⟩:=Du PW' eq
  have s12:=s1.trans s2
  have hil:i < bs.length:=(LM.mp hr').1
  refine⟨_,rfl,_,rfl,_,rfl,p,dx,_,rfl,s12 _ _ hpo,Dy d (by decide +kernel),_,rfl,_,rfl,p,d,L,x,qq.1,e,rfl,B.same s12,he,.inr ⟨qq.2,ts.map V.ref,by rw[eW];exact Rn nd (MK eq),s12 _ _ z3,λl2 hl2=>?_⟩⟩
  have s3:=Ad hl2 (.lst (ts.map V.ref))
  refine⟨x,qq.1,l2,ts,r.2,rfl,Aa,z4.same (s12.trans s3),ox,z2,z5,z6,λH4 s4=>⟨by rw[Au,LN,NM,LR];omega,s2.trans (s3.trans s4),?_⟩⟩
  rw[Fq,NR,hr',LW,z1]
  rfl
 ·rintro ys H2 ⟨s2,rfl⟩ r hr'
  rw[Au,LN,hbl,List.take_length]
  have s3:=Ad hr' (.lst (Ax (bs.map λr=>wK x r.1 r.2)))
  have er:(upd H2 r (.lst (Ax (bs.map λr=>wK x r.1 r.2)))) r=some (.lst (Ax (bs.map λr=>wK x r.1 r.2))):=Aa
  generalize upd H2 r (.lst (Ax (bs.map λr=>wK x r.1 r.2)))=H3 at *
  have s13:=(s1.trans s2).trans s3
  refine⟨_,rfl,_,rfl,p,dx,_,rfl,s13 _ _ hpo,Dy d (by decide +kernel),_,rfl,p,d,L,x,e,rfl,B.same s13,he,λl3 hl3=>?_⟩
  have s4:=Ad hl3 (.lst (Ax e.el))
  refine⟨x,l3,e.el,rfl,Aa,ox,ET.el,ET.le,by show 1<=MG;rw[LR];decide,λl4 hl4=>?_⟩
  have s5:=Ad hl4 (.lst [.str (wF x e.el)])
  refine⟨_,rfl,l4,r,_,_,rfl,rfl,Aa,(s4.trans s5) _ _ er,by rw[Au,LN,LR];show 1+_<=_;omega,λl5 hl5=>?_⟩
  have s6:=Ad hl5 (.lst ([V.str (wF x e.el)]++Ax (bs.map λr=>wK x r.1 r.2)))
  refine⟨l5,Jn x e.el bs,rfl,Aa,by show (bs.map _).length+1<=100;rw[LN];omega,λz hz=>?_,λH7 s7=>q H7 ((((s13.trans s4).trans s5).trans s6).trans s7)⟩
  rcases LX.mp hz with rfl | hz
  ·exact NA (Kd ox ET.el ET.le) (by decide)
  ·obtain⟨r',hr2,rfl⟩:=ML.mp hz
   obtain⟨k,hk⟩:=NX hr2
   have hkW:k < W.length:=by rw[hbl];exact(LM.mp hk).1
   obtain⟨r3,hr3,z1,z2,ts,z3,z4,z5,z6⟩:=Du PW' (LU hkW)
   rw[hk] at hr3
   cases hr3
   refine NA (Lm ox ?_ z5 z6) (by decide)
   rw[<- z1]
   exact z2
theorem lG:Al ["book"] ["book"] (Ac Ni):=Fm (by decide +kernel)
theorem IB:(["name","book"]:List Str).Nodup:=by decide +kernel
theorem xC{x:Str}{el:List Str}{bs:List (Str×Bdy)}(h:∀z∈Jn x el bs,z.length<=4500)(hb:bs.length<=60):(ends (Jn x el bs)).length<=280000:=by
 have:∀ls:List Str,(∀z∈ls,z.length<=4500)->(ends ls).length<=ls.length * 4501:=by
  intro ls h
  show (List.toArray _).size<=_
  rw[NE,List.length_flatten,List.map_map]
  induction ls with
  | nil=>exact NI _
  | cons x r ih=>
   rw[MU,List.sum_cons,MT,Nat.succ_mul]
   have h1:x.length<=4500:=h x MD
   have h2:=ih λl hl=>h l (ME _ hl)
   have h3:(x.cps.toList++[10]).length=x.length+1:=by rw[LS];show x.cps.toList.length+1=_;rw[SJ];rfl
   show (x.cps.toList++[10]).length+_<=_
   rw[h3]
   omega
 have h1:=this _ h
 have h2:(Jn x el bs).length=bs.length+1:=by show (bs.map _).length+1=_;rw[LN]
 rw[h2] at h1
 omega
theorem cT(F:Dx K "written" "written" Ni f fd)(T:Gb K mg CB CH)(GH:Aj P w K mg base Ia 1 fH dH ["self"] (Mc CB CH))(bH:Binds K dH ["self"] [])(mH:Meth K CB "houses" fH)(GW:Aj P w K mg base Ia 3 fS dS ["book","name"] (Ot CB CH))(kW:MN K (.ref fS)=true)(bW:Binds K dS ["book","name"] [])(mW:mg "written_house" = some (.ref fS)):Aj P w K mg base Ia 4 f fd ["book"] (Np CB CH):=by
 refine F.ok1 lG (λvs H Q E h=>?_) (λcdv A outer s H vs Q E hr h=>?_)
 ·obtain⟨p,d,L,B,rfl,_⟩:=h
  rfl
 obtain⟨p,d,L,Bs,rfl,B,PB,hL,q⟩:=h
 have hr1:=hr.mono (j:=1) (by decide)
 obtain⟨dx,hpo⟩:=B.ob
 have hbl:=OF PB
 have hzl:(L.zip Bs).length=L.length:=by rw[List.length_zip,<- hbl,Nat.min_self]
 refine⟨_,Ag (Ap (Dg PySem.F.plainAttrs_str PySem.F.slot_str_join PySem.F.type_str_join Hf Aq (Bw (Dw (Ac Ni) ["book"] ["name"] [("book", 0)] rfl (Bz (aA (pv 0) T.clB mH GH hr1 bH .nil Jd)) (Bd (i:=0) (by decide)) (λ_ _ _ _ _ _=>⟨De 0 IB,Ca,Ci GW hr rfl mW kW bW .nil Jd (Hh (pv 1) (pv 0))⟩))))),?_⟩
 refine⟨rfl,_,rfl,p,dx,_,rfl,hpo,Dy d (by decide +kernel),p,d,L,rfl,B,λl hl=>?_⟩
 obtain⟨H1,zz,s1,el⟩:=lay hl (.lst (Ax (L.map (·.nm))))
 rw[zz]
 refine⟨l,rfl,⟨_,Av.of el⟩,Bq (K:=K) (a:=l) (xs:=Ax (L.map (·.nm))) (λi ys H2=>Ak H1 H2/\ys=Ax (((L.zip Bs).take i).map λeb=>ends (Jn eb.1.nm eb.1.el eb.2))) ⟨Ak.refl _,rfl⟩ (λi ys H2 _ h=>Av.of (h.1 _ _ el)) ?_ ?_⟩
 ·rintro i v ys H2 hi ⟨s2,rfl⟩
  obtain⟨y,hy,rfl⟩:=El hi
  rw[MX] at hy
  cases eq:L[i]? with
  | none=>rw[eq] at hy;cases hy
  | some e=>
  rw[eq] at hy
  cases hy
  obtain⟨bs,hb,ET⟩:=Du PB eq
  have s12:=s1.trans s2
  have hz:(L.zip Bs)[i]? = some (e,bs):=by rw[List.getElem?_zip_eq_some];exact⟨eq,hb⟩
  have hil:i < L.length:=(LM.mp eq).1
  refine⟨_,rfl,_,rfl,p,d,L,e.nm,e,bs,rfl,B.same s12,Lc B.nd (MK eq),ET.same s12,λH3 s3=>⟨by rw[Au,LN,NM,LR];omega,s2.trans s3,?_⟩⟩
  rw[Fq,NR,hz,LW]
  rfl
 ·rintro ys H2 ⟨s2,rfl⟩ r hr'
  rw[Au,LN,<- hzl,List.take_length]
  refine⟨"", r,_,rfl,rfl,Av.of Aa,cX (k:=280000) (λz hz=>?_) (by rw[LN,hzl,nM];show _ * (280000+0)<=_;omega),?_⟩
  ·obtain⟨⟨e,bs⟩,heb,rfl⟩:=ML.mp hz
   obtain⟨k,hk⟩:=NX heb
   obtain⟨k1,k2⟩:=List.getElem?_zip_eq_some.mp hk
   obtain⟨bs2,hb2,ET⟩:=Du PB k1
   rw[k2] at hb2
   cases hb2
   obtain⟨W,eW,PW',nd,wl⟩:=ET.w
   have hwl:=OF PW'
   refine xC (λz hz=>?_) (by omega)
   rcases LX.mp hz with rfl | hz
   ·exact Kd ET.nm ET.el ET.le
   ·obtain⟨r',hr2,rfl⟩:=ML.mp hz
    obtain⟨k,hk⟩:=NX hr2
    have hkW:k < W.length:=by rw[hwl];exact(LM.mp hk).1
    obtain⟨r3,hr3,z1,z2,ts,z3,z4,z5,z6⟩:=Du PW' (LU hkW)
    rw[hk] at hr3
    cases hr3
    refine Lm ET.nm ?_ z5 z6
    rw[<- z1]
    exact z2
  ·rw[nM]
   exact q _ ((s1.trans s2).trans (Ad hr' _))
end
def Jp(x:Str):List Nat:=if (Tx.cs x).getD 0 0=45 then (Tx.cs x).drop 1 else Tx.cs x
def Th(x:Str):Bool:=decide (1<=(Jp x).length) && decide ((Jp x).length<=31) && (Jp x).all (λc=>decide (48<=c) && decide (c<=57)) && (!decide ((Jp x).getD 0 0=48) || decide (x = "0"))
def eG:Sp:=λvs H Q _=>∃x:Str,vs=[.str x]/\1<=x.length/\x.length<=1000/\∀H',Ak H H'->Q (.bl (Th x)) H'
theorem qC{n:Int}(h0 : -big<=n)(h1:n<=big):Th (Tx.dec n)=true:=by
 have eb:big=10 ^ 30:=rfl
 have alld:∀m,(Tx.dg m).all (λc=>decide (48<=c) && decide (c<=57))=true:=λm=>QO.mpr λc hc=>by
  obtain⟨a,b⟩:=Tx.dg_all m c hc
  rw[decide_eq_true a,decide_eq_true b]
  rfl
 cases n with
 | ofNat m=>
  have e:Tx.cs (Tx.dec (Int.ofNat m))=Tx.dg m:=Tx.dec_nat m
  have hp:=Tx.dg_pos m
  have hm:m<=10 ^ 30:=by have z:(m:Int)<=10 ^ 30:=(by rw[<- eb];exact h1);omega
  have hl:=Tx.dg_len (k:=31) (by decide) (RV hm (by decide))
  have hh:(Tx.dg m).getD 0 0≠45:=λz=>by
   have hmem:(Tx.dg m).getD 0 0∈Tx.dg m:=by
    rw[MF,LU (by omega)]
    exact OO _
   have:=Tx.dg_all m _ hmem
   omega
  have ef:Jp (Tx.dec (Int.ofNat m))=Tx.dg m:=by unfold Jp;rw[e,if_neg hh]
  unfold Th
  rw[ef,decide_eq_true hp,decide_eq_true hl,alld]
  by_cases z:m=0
  ·subst z
   decide +kernel
  ·rw[decide_eq_false (Tx.dg_head m (by omega))]
   rfl
 | negSucc m=>
  have e:=Tx.dec_neg m
  have hp:=Tx.dg_pos (m+1)
  have hm:m+1<=10 ^ 30:=by have z : -(10 ^ 30:Int)<=Int.negSucc m:=(by rw[<- eb];exact h0);omega
  have hl:=Tx.dg_len (k:=31) (by decide) (RV hm (by decide))
  have ef:Jp (Tx.dec (Int.negSucc m))=Tx.dg (m+1):=by unfold Jp;rw[e];rfl
  unfold Th
  rw[ef,decide_eq_true hp,decide_eq_true hl,alld,decide_eq_false (Tx.dg_head (m+1) (by omega))]
  rfl
theorem vI{x:Str}(h:As x=true):Th x=false:=by
 have hl:=(Ay h).1
 have hc:=Hy h
 have hcs:0 < (Tx.cs x).length:=by rw[Tx.len_cs];omega
 have hmem:(Tx.cs x).getD 0 0∈Tx.cs x:=by
  rw[MF,LU hcs]
  exact OO _
 have h0:=hc _ hmem
 have ef:Jp x=Tx.cs x:=by unfold Jp;rw[if_neg (by omega)]
 have ha:(Tx.cs x).all (λc=>decide (48<=c) && decide (c<=57))=false:=by
  rw[List.all_eq_false]
  refine⟨_,hmem,?_⟩
  rw[decide_eq_false (show ¬ (Tx.cs x).getD 0 0<=57 by omega),Bool.and_false]
  exact LY
 unfold Th
 rw[ef,ha,Bool.and_false,OZ]
theorem oG(x:Str):Txt.startswith x "-" = decide ((Tx.cs x).getD 0 0=45):=by
 have e:("-" : Str)=⟨#[45]⟩:=by decide +kernel
 rw[e]
 by_cases h:(Tx.cs x).getD 0 0=45
 ·rw[decide_eq_true h]
  cases hx:Tx.cs x with
  | nil=>rw[hx] at h;cases h
  | cons c r=>
   rw[hx] at h
   have h:c=45:=h
   rw[h] at hx
   exact Tx.starts_one hx
 ·rw[decide_eq_false h]
  exact Tx.starts_not (c:=45) rfl (by decide) h
theorem pO(a b:Nat):(!decide (([a]:List Nat) < [b]))=decide (b<=a):=by
 by_cases h:b<=a
 ·rw[decide_eq_true h]
  have:¬ ([a]:List Nat) < [b]:=λz=>by
   rcases RW.mp z with z | ⟨_,z⟩
   ·omega
   ·exact absurd z (List.not_lt_nil _)
  rw[decide_eq_false this]
  rfl
 ·rw[decide_eq_false h]
  have:([a]:List Nat) < [b]:=RW.mpr (.inl (by omega))
  rw[decide_eq_true this]
  rfl
abbrev AW(c:Nat):Bool:=decide (48<=c) && decide (c<=57)
section
variable {P:MV} {w:NU} {K:LO} {mg:Str->Option LP} {base:OS} {f fS fP:LZ} {fd dS dP:NP} {tkM:Tok}
theorem tT:Al ["text","figures"] ["text"] (Ac Zl):=Fm (by decide +kernel)
theorem xX(F:Dx K "is_written_amount" "is_written_amount" Zl f fd)(T:Txt mg)(mM:mg "MOST_FIGURES" = some (.int 31 tkM)):Aj P w K mg base Bj 1 f fd ["text"] eG:=by
 refine F.ok tT (λvs H Q E h=>?_) (λcdv A outer s H vs Q E hr h=>?_)
 ·obtain⟨x,rfl,_⟩:=h
  rfl
 obtain⟨x,rfl,hx0,hx,q⟩:=h
 have hxs:x.length<=MG:=by rw[LR];omega
 -- behind the figures
 refine Km (tail:=(Bb Zl).drop 1) (λtt=>∀(D:L2.Ends)(y:Str),D.rt=Q->Tx.cs y=Jp x->tt D [some (.str x),some (.str y)] H) ?_ ?_
 ·refine⟨_,Ab (Bh (PW.pt (Nj (Fv (rX Sg Sg Ae (Bg Ih rfl T.len PP (Bw (pv 1))) (jI (v:=.int 31) rfl mM ⟨_,rfl⟩)))
   (Lq (Fv (Ej (Bg (Jv rfl) rfl T.all Hv (Bw (Dw (Ac Zl) ["text","figures"] ["sign"] [] rfl (pT (pv 1)) (Bd (i:=0) (by decide)) (λ_ _ _ _ _ _=>⟨De 0 GJ,Ca,
    Lz Kh Kh Aq (pv 0) Aq⟩))))))))) (Ag (Ap Ms)) Ar)
   (Ag (Ap (FK (Ko Kx (Az Xm (pv 1) Ae (λ_ _=>rfl)) Aq (Aw _)) (Oi (Ko Cf (pv 0) Aq (Aw _)))))),λD y hD ey=>?_⟩
  have hyl:y.length=(Jp x).length:=by rw[<- ey,Tx.len_cs]
  have hfl:(Jp x).length<=x.length:=by
   unfold Jp
   split
   ·rw[OW,Tx.len_cs];omega
   ·rw[Tx.len_cs];exact MC _
  have hys:y.length<=MG:=by rw[LR];omega
  have wr:Th x=(decide (1<=y.length) && decide (y.length<=31) && (Tx.cs y).all AW && (!decide ((Tx.cs y).getD 0 0=48) || decide (x = "0"))):=by
   unfold Th
   rw[<- ey,Tx.len_cs]
  refine⟨_,rfl,y,rfl,hys,_,_,rfl,rfl,_,rfl,Cr (λc1=>?_) (λc1=>?_)⟩
  rotate_left
  ·have h1:¬ 1<=y.length:=λz=>c1 (decide_eq_true (by omega))
   rw[decide_eq_false h1,OZ,OZ,OZ] at wr
   rw[hD]
   exact⟨_,rfl,Dk (by have:=q _ (Ak.refl _);rw[wr] at this;exact this)⟩
  have h1:1<=y.length:=by have:=of_decide_eq_true c1;omega
  refine⟨_,_,rfl,rfl,_,rfl,Cr (λc2=>?_) (λc2=>?_)⟩
  ·have h2:¬ y.length<=31:=λz=>by rw[decide_eq_true (show (y.length:Int)<=31 by omega)] at c2;cases c2
   rw[decide_eq_false h2,Bool.and_false,OZ,OZ] at wr
   rw[hD]
   have:=q _ (Ak.refl _)
   rw[wr] at this
   exact this
  have h2:y.length<=31:=Classical.byContradiction λz=>c2 (by rw[decide_eq_false (show ¬ (y.length:Int)<=31 by omega)];rfl)
  rw[decide_eq_true h1,decide_eq_true h2,QU,QU] at wr
  have ea:("0" : Str).cps.toList=[48]:=by decide +kernel
  have ez:("9" : Str).cps.toList=[57]:=by decide +kernel
  refine⟨_,rfl,y,rfl,Qv (λi ys H2=>H2=H/\ys=(((Tx.cs y).take i).map AW).map V.bl) ⟨rfl,rfl⟩ ?_ ?_⟩
  ·rintro i c ys H2 hc ⟨rfl,rfl⟩
   have ga:(!decide ((⟨#[c]⟩:Str).cps.toList < ("0" : Str).cps.toList))=decide (48<=c):=by rw[ea];exact pO c 48
   have gz:(!decide (("9" : Str).cps.toList < (⟨#[c]⟩:Str).cps.toList))=decide (c<=57):=by rw[ez];exact pO 57 c
   have hc':(Tx.cs y)[i]? = some c:=by show y.cps.toList[i]? = _;rw[UU];exact hc
   have hil:i < (Tx.cs y).length:=(LM.mp hc').1
   have hlen:((((Tx.cs y).take i).map AW).map V.bl).length < MG:=by
    rw[LN,LN,NM,LR,Tx.len_cs]
    omega
   have htk:(Tx.cs y).take (i+1)=(Tx.cs y).take i++[c]:=by rw[NR,hc'];rfl
   refine⟨_,rfl,_,_,rfl,rfl,_,rfl,Cr (λk=>?_) (λk=>?_)⟩
   ·refine⟨_,_,rfl,rfl,hlen,rfl,?_⟩
    have k':decide (48<=c)=true:=ga.symm.trans k
    rw[htk,LW,LW]
    refine congrArg (_ ++ ·) ?_
    show [V.bl (!decide (("9" : Str).cps.toList < (⟨#[c]⟩:Str).cps.toList))]=[V.bl (decide (48<=c) && decide (c<=57))]
    rw[gz,k',QU]
   ·refine⟨hlen,rfl,?_⟩
    have k':decide (48<=c)=false:=by
     rw[<- ga]
     exact PU.mpr k
    rw[htk,LW,LW]
    refine congrArg (_ ++ ·) ?_
    show [V.bl false]=[V.bl (decide (48<=c) && decide (c<=57))]
    rw[k',OZ]
  ·rintro ys H2 ⟨rfl,rfl⟩ p hp
   refine⟨p,_,_,rfl,Av.of Aa,Fg _,?_⟩
   have e:(((Tx.cs y).take y.cps.size).map AW).all id=(Tx.cs y).all AW:=by
    rw[NY (by simp),List.all_map]
    rfl
   rw[e]
   have s1:=Ad hp (.lst ((((Tx.cs y).take y.cps.size).map AW).map V.bl))
   cases ed:(Tx.cs y).all AW with
   | false=>
    rw[ed,OZ] at wr
    refine⟨_,rfl,Dk ?_⟩
    rw[hD]
    have:=q _ s1
    rw[wr] at this
    exact this
   | true=>
    rw[ed,QU] at wr
    refine⟨_,rfl,Cd ?_⟩
    have hc0:0 < (Tx.cs y).length:=by rw[Tx.len_cs];omega
    have hat:Sz y.cps.toList 0=some ((Tx.cs y).getD 0 0):=by
     refine Cj (j:=0) ?_
     rw[MF,LU hc0]
     rfl
    refine⟨_,rfl,y,0,(Tx.cs y).getD 0 0,rfl,rfl,hys,hat,rfl,?_⟩
    have ez0:decide (V.str (⟨#[(Tx.cs y).getD 0 0]⟩:Str)=V.str "0")=decide ((Tx.cs y).getD 0 0=48):=by
     by_cases z:(Tx.cs y).getD 0 0=48
     ·rw[z];decide +kernel
     ·rw[decide_eq_false z,decide_eq_false]
      intro w
      have w2:=congrArg (λs:Str=>s.cps.toList) (V.str.inj w)
      rw[ea] at w2
      exact z (List.cons.inj w2).1
    rw[ez0]
    cases e48:decide ((Tx.cs y).getD 0 0=48) with
    | false=>
     rw[e48] at wr
     refine⟨_,rfl,Dk ?_⟩
     rw[hD]
     have:=q _ s1
     rw[wr] at this
     exact this
    | true=>
     rw[e48] at wr
     refine⟨_,rfl,Cd ?_⟩
     refine⟨_,rfl,rfl,?_⟩
     rw[hD]
     have:=q _ s1
     rw[wr] at this
     have e5:decide (V.str x=V.str "0")=decide (x = "0"):=by
      by_cases z:x = "0"
      ·rw[z,decide_eq_true rfl,decide_eq_true rfl]
      ·rw[decide_eq_false z,decide_eq_false λw=>z (V.str.inj w)]
     rw[e5]
     exact this
 intro t1 h1 p1
 refine⟨_,Ab (Bx 1 tT.nd (Hw (Ej (Dg PySem.F.plainAttrs_str PySem.F.slot_str_startswith PySem.F.type_str_startswith Ud (pv 0) (Bw Aq))) (Ck Wk (pv 0) (Cv Ae) Dt) (pv 0))) h1,?_⟩
 refine⟨_,rfl,rfl,x,_,rfl,rfl,?_⟩
 rw[oG]
 by_cases h45:(Tx.cs x).getD 0 0=45
 ·rw[decide_eq_true h45]
  refine⟨_,rfl,Dk ?_⟩
  refine⟨_,rfl,_,rfl,x,rfl,hxs,?_⟩
  refine p1 _ _ rfl ?_
  show (UA x (some 1) none).cps.toList=Jp x
  rw[Zm (by decide) (by omega)]
  unfold Jp
  rw[if_pos h45]
  rfl
 ·rw[decide_eq_false h45]
  refine⟨_,rfl,Cd ?_⟩
  refine⟨_,rfl,?_⟩
  refine p1 _ _ rfl ?_
  unfold Jp
  rw[if_neg h45]
end
theorem Fw:(" " : Str)=⟨#[32]⟩:=by decide +kernel
theorem pB:(";" : Str)=⟨#[59]⟩:=by decide +kernel
theorem Oj{v:V}(h:AF v):∀c∈Tx.cs (Kv v),c=45∨(48<=c/\c<=57)∨(97<=c/\c<=122):=by
 rcases h with ⟨n,rfl,_,_⟩ | ⟨x,rfl,hx⟩
 ·intro c hc
  cases n with
  | ofNat m=>
   have e:Tx.cs (Kv (.int (Int.ofNat m)))=Tx.dg m:=Tx.dec_nat m
   rw[e] at hc
   exact .inr (.inl (Tx.dg_all m c hc))
  | negSucc m=>
   have e:Tx.cs (Kv (.int (Int.negSucc m)))=45::Tx.dg (m+1):=Tx.dec_neg m
   rw[e] at hc
   rcases LX.mp hc with z | z
   ·exact .inl z
   ·exact .inr (.inl (Tx.dg_all _ c z))
 ·exact λc hc=>.inr (.inr (Hy hx c hc))
theorem Qd{v:V}(h:AF v):1<=(Kv v).length:=by
 rcases h with ⟨n,rfl,_,_⟩ | ⟨x,rfl,hx⟩
 ·rw[<- Tx.len_cs]
  cases n with
  | ofNat m=>
   have e:Tx.cs (Kv (.int (Int.ofNat m)))=Tx.dg m:=Tx.dec_nat m
   rw[e]
   exact Tx.dg_pos m
  | negSucc m=>
   have e:Tx.cs (Kv (.int (Int.negSucc m)))=45::Tx.dg (m+1):=Tx.dec_neg m
   rw[e,MT]
   omega
 ·exact(Ay hx).1
def Xn(p:Str×List V):List Str:=if p.1 = "try" then ["try", Kv (p.2.getD 0 .non),"else", Kv (p.2.getD 1 .non)] else p.1::p.2.map Kv
theorem oV(p:Str×List V):wS p=Str.join ⟨#[32]⟩ (Xn p):=by
 unfold wS Xn
 rw[Fw]
 split<;>rfl
theorem lt_str{x:Str}(h:∀c∈Tx.cs x,97<=c/\c<=122):∀c∈Tx.cs x,c=45∨(48<=c/\c<=57)∨(97<=c/\c<=122):=λc hc=>.inr (.inr (h c hc))
theorem Nz{p:Str×List V}(W:Od p):∀x∈Xn p,∀c∈Tx.cs x,c=45∨(48<=c/\c<=57)∨(97<=c/\c<=122):=by
 intro x hx
 unfold Xn at hx
 split at hx
 ·rename_i c
  obtain⟨a,b,e⟩:=W.tr c
  have oa:=W.ps (.str a) (by rw[e];simp)
  have ob:=W.ps (.str b) (by rw[e];simp)
  rw[e] at hx
  simp only[LX,MM,or_false] at hx
  rcases hx with rfl | rfl | rfl | rfl
  ·exact lt_str (by decide +kernel)
  ·exact Oj oa
  ·exact lt_str (by decide +kernel)
  ·exact Oj ob
 ·rcases LX.mp hx with rfl | hx
  ·exact lt_str (Hy W.kd)
  ·obtain⟨v,hv,rfl⟩:=ML.mp hx
   exact Oj (W.ps v hv)
theorem sR(p:Str×List V):Xn p≠[]:=by
 unfold Xn
 split<;>exact List.cons_ne_nil _ _
theorem qI{p:Str×List V}(W:Od p):Txt.split (wS p) ⟨#[32]⟩=Xn p:=by
 rw[oV]
 refine Eo 32 (sR p) λx hx z=>?_
 have:=Nz W x hx 32 z
 omega
def Lu:Sp:=λvs H Q _=>∃v:V,vs=[.str (Kv v)]/\AF v/\∀H',Ak H H'->Q v H'
def Le:Sp:=λvs H Q _=>∃p:Str×List V,vs=[.str (wS p)]/\Od p/\∀t H',Ak H H'->H' t=some (.tup (.str p.1::p.2))->Q (.ref t) H'
theorem nG(x:V)(xs:List V):Es (x::xs) (some 1) none=xs:=by
 unfold Es
 have e1:HT.sIx (x::xs).length 0 (some 1)=1:=by
  unfold HT.sIx
  simp
 have e2:HT.sIx (x::xs).length (x::xs).length none=(x::xs).length:=rfl
 rw[e1,e2,List.drop_one,List.tail_cons,MT,Nat.add_sub_cancel,List.take_length]
section
variable {P:MV} {w:NU} {K:LO} {mg:Str->Option LP} {base:OS} {f fS fP:LZ} {fd dS dP:NP}
theorem eP:Al ["text"] ["text"] (Ac Nq):=Fm (by decide +kernel)
theorem Yf(F:Dx K "read_part" "read_part" Nq f fd)(T:Txt mg)(GS:Aj P w K mg base Bj 1 fS dS ["text"] eG)(kS:MN K (.ref fS)=true)(bS:Binds K dS ["text"] [])(mS:mg "is_written_amount" = some (.ref fS)):Aj P w K mg base Bj 2 f fd ["text"] Lu:=by
 refine F.ok eP (λvs H Q E h=>?_) (λcdv A outer s H vs Q E hr h=>?_)
 ·obtain⟨v,rfl,_⟩:=h
  rfl
 obtain⟨v,rfl,hv,q⟩:=h
 have h33:=Fl hv
 refine⟨_,Ag (Ap (Hw (Ej (Ds GS hr mS kS bS (Bw (pv 0)))) (Bo Tg rfl T.int PyProof.Rows.boot_int (Bw (pv 0))) (pv 0))),?_⟩
 refine⟨_,rfl,Kv v,rfl,Qd hv,by omega,λH1 s1=>?_⟩
 rcases hv with ⟨n,rfl,n0,n1⟩ | ⟨x,rfl,hx⟩
 ·rw[show Th (Kv (.int n))=true from qC n0 n1]
  refine⟨_,rfl,Dk ⟨_,rfl,_,n,rfl,Tx.dec_reads ?_,by omega,q _ s1⟩⟩
  have eb:big=10 ^ 30:=rfl
  rw[eb] at n0 n1
  omega
 ·rw[show Th (Kv (.str x))=false from vI hx]
  exact⟨_,rfl,Cd ⟨_,rfl,q _ s1⟩⟩
theorem Sr:Al ["text","parts"] ["text"] (Ac Kj):=Fm (by decide +kernel)
theorem Yn(F:Dx K "read_step" "read_step" Kj f fd)(T:Txt mg)(GP:Aj P w K mg base Bj 2 fP dP ["text"] Lu)(kP:MN K (.ref fP)=true)(bP:Binds K dP ["text"] [])(mP:mg "read_part" = some (.ref fP)):Aj P w K mg base Bj 3 f fd ["text"] Le:=by
 refine F.ok Sr (λvs H Q E h=>?_) (λcdv A outer s H vs Q E hr h=>?_)
 ·obtain⟨p,rfl,_⟩:=h
  rfl
 obtain⟨p,rfl,W,q⟩:=h
 have hl:=Jm W
 refine⟨_,Ab (Bx 1 Sr.nd (Dg PySem.F.plainAttrs_str PySem.F.slot_str_split PySem.F.type_str_split Gv (pv 0) (Bw Aq)))
  (Ab (Bh (Ao Kx (Az Be (pv 1) Ae (λ_ _=>rfl)) Aq (Aw _)) (Ag (Ap (Bo To rfl T.tup PyProof.Rows.boot_tuple (Bw (Am Ic (Dn (Bw (Az Be (pv 1) Ae (λ_ _=>rfl)))) (Dw (Ac Kj) ["text","parts"] ["part"] [] rfl (Bz (Ck Ew (pv 1) (Cv Ae) Dt)) (Bd (i:=0) (by decide)) (λ_ _ _ _ _ _=>⟨De 0 DU,Ca,Ds GP hr mP kP bP (Bw (pv 0))⟩))))))) Ar)
  (Ab (Bh (PW.pt (Fe (Ao Cf (Ep T.len (pv 1)) Ae (Aw _)) (Ez (Ao Cf (Az Be (pv 1) Ae (λ_ _=>rfl)) Aq (Aw _))))) (Ag (Ap (Eu (Tc Aq (Az Be (pv 1) Ae (λ_ _=>rfl)) (Az Be (pv 1) Ae (λ_ _=>rfl)))))) Ar)
  (Ag (Ap (Eu Gr))))),?_⟩
 refine⟨_,rfl,rfl,_,_,rfl,rfl,by rw[Fw];rfl,by rw[LR];omega,λl hl1=>?_⟩
 rw[Fw,qI W]
 obtain⟨H1,zz,s1,el⟩:=lay hl1 (.lst ((Xn p).map V.str))
 rw[zz]
 have el:H1 l=some (.lst (Ax (Xn p))):=el
 by_cases c:p.1 = "try"
 ·obtain⟨x,y,e⟩:=W.tr c
  have ep:Xn p=(["try", x,"else", y]:List Str):=by unfold Xn;rw[if_pos c,e];rfl
  rw[ep] at el
  refine⟨_,rfl,l,_,_,_,rfl,rfl,Av.of el,at0 _ _,rfl,_,rfl,?_⟩
  rw[decide_eq_true rfl]
  refine Cd ?_
  refine⟨_,rfl,l,_,rfl,.inl (Av.of el),rfl,_,rfl,?_⟩
  refine Dk ?_
  refine⟨_,rfl,l,_,_,_,rfl,rfl,Av.of el,at2 _ _ _ _,rfl,_,rfl,?_⟩
  rw[decide_eq_true rfl]
  refine Dk ?_
  refine⟨_,rfl,l,_,_,_,rfl,rfl,Av.of el,oP _ _ _,_,rfl,l,_,_,_,rfl,rfl,Av.of el,Cj (j:=3) rfl,by show 3<=MG;rw[LR];decide,λt ht=>?_⟩
  exact q t _ (s1.trans (Ad ht _)) (by rw[Aa,c,e])
 ·have ep:Xn p=p.1::p.2.map Kv:=by unfold Xn;rw[if_neg c]
  rw[ep] at el
  have hle:=W.le
  refine⟨_,rfl,l,_,_,_,rfl,rfl,Av.of el,at0 _ _,rfl,_,rfl,?_⟩
  rw[decide_eq_false (λz=>c (V.str.inj z))]
  refine Dk ?_
  refine⟨_,rfl,l,_,_,_,rfl,rfl,Av.of el,at0 _ _,by show 1<=MG;rw[LR];decide,λla hla=>?_⟩
  obtain⟨H2,zz,s2,ela⟩:=lay hla (.lst [.str p.1])
  rw[zz]
  refine⟨_,rfl,_,rfl,l,_,rfl,Av.of (s2 _ _ el),λlb hlb=>?_⟩
  have ec:Es (V.str p.1::List.map V.str (p.2.map Kv)) (some 1) none=Ax (p.2.map Kv):=nG _ _
  have ec2:Es (Ax (p.1::p.2.map Kv)) (some 1) none=Ax (p.2.map Kv):=ec
  rw[ec2]
  obtain⟨H3,zz,s3,elb⟩:=lay hlb (.lst (Ax (p.2.map Kv)))
  rw[zz]
  refine⟨lb,rfl,⟨_,Av.of elb⟩,Bq (K:=K) (a:=lb) (xs:=Ax (p.2.map Kv)) (λi ys H4=>Ak H3 H4/\ys=p.2.take i) ⟨Ak.refl _,rfl⟩ (λi ys H4 _ h=>Av.of (h.1 _ _ elb)) ?_ ?_⟩
  ·rintro i v ys H4 hi ⟨s4,rfl⟩
   obtain⟨y,hy,rfl⟩:=El hi
   rw[MX] at hy
   cases eq:p.2[i]? with
   | none=>rw[eq] at hy;cases hy
   | some u=>
   rw[eq] at hy
   cases hy
   have hil:i < p.2.length:=(LM.mp eq).1
   refine⟨_,rfl,u,rfl,W.ps u (MK eq),λH5 s5=>⟨by rw[NM,LR];omega,s4.trans s5,?_⟩⟩
   rw[NR,eq]
   rfl
  ·rintro ys H4 ⟨s4,rfl⟩ lc hlc
   rw[Au,LN,List.take_length]
   have s5:=Ad hlc (.lst p.2)
   refine⟨la,lc,_,_,rfl,rfl,((s3.trans s4).trans s5) _ _ ela,Aa,by show 1+_<=_;rw[LR];omega,λld hld=>?_⟩
   have s6:=Ad hld (.lst ([V.str p.1]++p.2))
   refine⟨ld,_,rfl,.inl ⟨Av.of Aa,λt ht=>?_⟩⟩
   exact q t _ (((s1.trans s2).trans (s3.trans s4)).trans ((s5.trans s6).trans (Ad ht _))) Aa
end
theorem Iq{a b:List Nat}{k:Nat}(h:a.length<=k):(a++b).getD k 0=b.getD (k-a.length) 0:=by
 rw[MF,MF,OG h]
theorem Tw{a b:List Nat}{k:Nat}(h:k < a.length):(a++b).getD k 0=a.getD k 0:=by
 rw[MF,MF,MW h]
theorem getD_mem{l:List Nat}{k:Nat}(h:k < l.length):l.getD k 0∈l:=by
 rw[MF,LU h]
 exact OO _
theorem Qf{c:Nat}:∀ {ps:List (List Nat)},ps≠[]->(∀p∈ps,0 < p.length/\c∉p)->0 < (jn c ps).length/\(jn c ps).getD 0 0≠c/\(jn c ps).getD ((jn c ps).length-1) 0≠c
 | [],h,_=>absurd rfl h
 | [x],_,h=>by
  obtain⟨h1,h2⟩:=h x MD
  show 0 < x.length/\x.getD 0 0≠c/\x.getD (x.length-1) 0≠c
  exact⟨h1,λz=>h2 (z ▸ getD_mem h1),λz=>h2 (z ▸ getD_mem (by omega))⟩
 | x::y::r,_,h=>by
  obtain⟨h1,h2⟩:=h x MD
  obtain⟨i1,i2,i3⟩:=Qf (c:=c) (ps:=y::r) (List.cons_ne_nil _ _) λp hp=>h p (ME _ hp)
  have e:jn c (x::y::r)=x++c::jn c (y::r):=rfl
  have el:(x++c::jn c (y::r)).length=x.length+(1+(jn c (y::r)).length):=by rw[LS,MT];omega
  rw[e]
  refine⟨by omega,?_,?_⟩
  ·rw[Tw h1]
   exact λz=>h2 (z ▸ getD_mem h1)
  ·rw[Iq (by omega),el]
   have e2:x.length+(1+(jn c (y::r)).length)-1-x.length=(jn c (y::r)).length-1+1:=by omega
   rw[e2]
   exact i3
theorem jO{p:Str×List V}(W:Od p):0 < (Tx.cs (wS p)).length/\(Tx.cs (wS p)).getD 0 0≠32/\(Tx.cs (wS p)).getD ((Tx.cs (wS p)).length-1) 0≠32:=by
 have e:Tx.cs (wS p)=jn 32 ((Xn p).map λl=>l.cps.toList):=by rw[oV];exact Ba 32 (Xn p)
 rw[e]
 refine Qf (by intro z;exact sR p (List.map_eq_nil_iff.mp z)) λq hq=>?_
 obtain⟨x,hx,rfl⟩:=ML.mp hq
 refine⟨?_,λz=>by have:=Nz W x hx 32 z;omega⟩
 have hl:=Tx.len_cs x
 show 0 < (Tx.cs x).length
 unfold Xn at hx
 split at hx
 ·rename_i c
  obtain⟨a,b,e⟩:=W.tr c
  have oa:=W.ps (.str a) (by rw[e];simp)
  have ob:=W.ps (.str b) (by rw[e];simp)
  rw[e] at hx
  simp only[LX,MM,or_false] at hx
  rcases hx with rfl | rfl | rfl | rfl
  ·decide +kernel
  ·have:=Qd oa;rw[<- Tx.len_cs] at this;exact this
  ·decide +kernel
  ·have:=Qd ob;rw[<- Tx.len_cs] at this;exact this
 ·rcases LX.mp hx with rfl | hx
  ·have:=(Ay W.kd).1;omega
  ·obtain⟨v,hv,rfl⟩:=ML.mp hx
   have:=Qd (W.ps v hv)
   rw[<- Tx.len_cs] at this
   exact this
theorem uJ{p:Str×List V}(W:Od p):Txt.stripChars (" " ++ wS p) " " = wS p:=by
 obtain⟨h1,h2,h3⟩:=jO W
 rw[Fw]
 refine Tx.strip_mid (m:=1) (n:=0) ?_ h1 h2 h3
 show (⟨#[32]⟩++wS p:Str).cps.toList=_
 rw[Af]
 simp
def bT(ss:Bdy):Str:=if ss=[] then Str.empty else " " ++ Str.join "; " (ss.map wS)
theorem zA{p:Str×List V}(W:Od p){c:Nat}(h1:c≠32)(h2:c≠45)(h3:¬ (48<=c/\c<=57))(h4:¬ (97<=c/\c<=122)):c∉Tx.cs (wS p):=by
 have e:Tx.cs (wS p)=jn 32 ((Xn p).map λl=>l.cps.toList):=by rw[oV];exact Ba 32 (Xn p)
 rw[e]
 have:∀ps:List (List Nat),(∀q∈ps,c∉q)->c∉jn 32 ps:=by
  intro ps
  induction ps with
  | nil=>intro _ z;exact nomatch z
  | cons x r ih=>
   intro h z
   cases r with
   | nil=>exact h x MD z
   | cons y r=>
    have z:c∈x++32::jn 32 (y::r):=z
    rcases MJ.mp z with z | z
    ·exact h x MD z
    ·rcases LX.mp z with z | z
     ·exact h1 z
     ·exact ih (λq hq=>h q (ME _ hq)) z
 refine this _ λq hq z=>?_
 obtain⟨x,hx,rfl⟩:=ML.mp hq
 rcases Nz W x hx c z with g | g | g
 ·exact h2 g
 ·exact h3 g
 ·exact h4 g
theorem Qb:∀ {xs:List Str},xs≠[]->(" " : Str)++Str.join "; " xs=Str.join ⟨#[59]⟩ (xs.map λx => " " ++ x)
 | [],h=>absurd rfl h
 | [x],_=>rfl
 | x::y::r,_=>by
  have ih:=Qb (xs:=y::r) (List.cons_ne_nil _ _)
  show (" " : Str)++(x ++ "; " ++ Str.join "; " (y::r))=(" " ++ x)++⟨#[59]⟩++Str.join ⟨#[59]⟩ ((y::r).map λx => " " ++ x)
  rw[<- ih]
  refine str_ext ?_
  have es:("; " : Str).cps.toList=[59,32]:=by decide +kernel
  have eb:(" " : Str).cps.toList=[32]:=by decide +kernel
  rw[Af,Af,Af,Af,Af,Af,Af,es,eb]
  simp
theorem sW{ss:Bdy}(W:∀p∈ss,Od p)(h0:ss≠[]):Txt.split (bT ss) ⟨#[59]⟩=ss.map λp => " " ++ wS p:=by
 unfold bT
 rw[if_neg h0,Qb (by intro z;exact h0 (List.map_eq_nil_iff.mp z)),List.map_map]
 refine Eo 59 (by intro z;exact h0 (List.map_eq_nil_iff.mp z)) λx hx z=>?_
 obtain⟨p,hp,rfl⟩:=ML.mp hx
 have z:59∈((" " : Str)++wS p).cps.toList:=z
 rw[Af] at z
 rcases MJ.mp z with z | z
 ·revert z;decide +kernel
 ·exact zA (W p hp) (by decide) (by decide) (by decide) (by decide) z
def Ld:Sp:=λvs H Q _=>∃ss:Bdy,vs=[.str (bT ss)]/\(∀p∈ss,Od p)/\ss.length<=30/\∀(l:LZ) (ts:List LZ) H',Ak H H'->H' l=some (.lst (ts.map V.ref))->Ce H' ts ss->Q (.ref l) H'
theorem AH{ss:Bdy}(W:∀p∈ss,Od p)(hl:ss.length<=30):(bT ss).length<=4300:=by
 have l4:("; " : Str).length=2:=by decide +kernel
 have l1:(" " : Str).length=1:=by decide +kernel
 have hj:(Str.join "; " (ss.map wS)).length<=4260:=by
  refine NA (Ek (k:=140) λz hz=>?_) ?_
  ·obtain⟨p,hp,rfl⟩:=ML.mp hz
   exact Jm (W p hp)
  ·rw[LN,l4]
   omega
 unfold bT
 split
 ·exact NI _
 ·rw[Str.length_append,l1]
  omega
section
variable {P:MV} {w:NU} {K:LO} {mg:Str->Option LP} {base:OS} {f fS:LZ} {fd dS:NP}
theorem fZ:Al ["text"] ["text"] (Ac Kn):=Fm (by decide +kernel)
theorem Zj(F:Dx K "read_body" "read_body" Kn f fd)(GS:Aj P w K mg base Bj 3 fS dS ["text"] Le)(kS:MN K (.ref fS)=true)(bS:Binds K dS ["text"] [])(mS:mg "read_step" = some (.ref fS)):Aj P w K mg base Bj 4 f fd ["text"] Ld:=by
 refine F.ok fZ (λvs H Q E h=>?_) (λcdv A outer s H vs Q E hr h=>?_)
 ·obtain⟨ss,rfl,_⟩:=h
  rfl
 obtain⟨ss,rfl,W,hl,q⟩:=h
 have hb:=AH W hl
 refine⟨_,Ab (Bh (Ao Cf (pv 0) Aq (Aw _)) (Ag (Ap (Dn Gr))) Ar)
  (Ag (Ap (Dw (Ac Kn) ["text"] ["step"] [] rfl (Bz (Dg PySem.F.plainAttrs_str PySem.F.slot_str_split PySem.F.type_str_split Gv (pv 0) (Bw Aq))) (Bd (i:=0) (by decide)) (λ_ _ _ _ _ _=>⟨De 0 HB,Ca,Ds GS hr mS kS bS (Bw (pR (K:=K) PySem.F.plainAttrs_str PySem.F.slot_str_strip PySem.F.type_str_strip Qu (pv 0) (Bw Aq)))⟩)))),?_⟩
 by_cases h0:ss=[]
 ·subst h0
  refine⟨_,rfl,rfl,_,rfl,?_⟩
  rw[show decide (V.str (bT [])=V.str "")=true by decide +kernel]
  exact Dk ⟨by show 0<=MG;exact NI _,λl hl'=>q l [] _ (Ad hl' _) Aa ⟨rfl,λi t p z=>nomatch z⟩⟩
 ·have hne:¬ bT ss = "" := λz=>by
   have e:(bT ss).cps.toList=[]:=by rw[z];decide +kernel
   unfold bT at e
   rw[if_neg h0,Af] at e
   have eb:(" " : Str).cps.toList=[32]:=by decide +kernel
   rw[eb] at e
   cases e
  refine⟨_,rfl,rfl,_,rfl,?_⟩
  rw[decide_eq_false (λz=>hne (V.str.inj z))]
  refine Cd ?_
  refine⟨_,rfl,rfl,_,_,rfl,rfl,by rw[pB];rfl,by rw[LR];omega,λl hl'=>?_⟩
  rw[pB,sW W h0]
  have s1:=Ad hl' (.lst ((ss.map λp => " " ++ wS p).map V.str))
  have el:(upd H l (.lst ((ss.map λp => " " ++ wS p).map V.str))) l=some (.lst (Ax (ss.map λp => " " ++ wS p))):=Aa
  generalize upd H l (.lst ((ss.map λp => " " ++ wS p).map V.str))=H1 at *
  refine⟨l,rfl,⟨_,Av.of el⟩,Bq (K:=K) (a:=l) (xs:=Ax (ss.map λp => " " ++ wS p)) (λi ys H2=>Ak H1 H2/\∃ts:List LZ,ys=ts.map V.ref/\Ce H2 ts (ss.take i)) ⟨Ak.refl _,[],rfl,rfl,λi t p z=>nomatch z⟩ (λi ys H2 _ h=>Av.of (h.1 _ _ el)) ?_ ?_⟩
  ·rintro i v ys H2 hi ⟨s2,ts,rfl,hst⟩
   obtain⟨y,hy,rfl⟩:=El hi
   rw[MX] at hy
   cases eq:ss[i]? with
   | none=>rw[eq] at hy;cases hy
   | some p=>
   rw[eq] at hy
   cases hy
   have hil:i < ss.length:=(LM.mp eq).1
   have Wp:=W p (MK eq)
   have hpl:=Jm Wp
   have hbl:(" " ++ wS p:Str).length<=MG:=by
    rw[Str.length_append,LR]
    have:(" " : Str).length=1:=by decide +kernel
    omega
   refine⟨_,rfl,rfl,_,_,rfl,rfl,hbl,?_⟩
   rw[uJ Wp]
   refine⟨p,rfl,Wp,λt H3 s3 e3=>⟨by rw[LN,hst.1,NM,LR];omega,s2.trans s3,ts++[t],by rw[LW];rfl,?_⟩⟩
   have htl:ts.length=i:=by rw[hst.1,NM];omega
   refine⟨by rw[LS,NR,eq,LS,hst.1];rfl,λk t' p' h1 h2=>?_⟩
   rw[NR,eq] at h2
   by_cases hk:k < i
   ·rw[MW (by omega)] at h1
    rw[MW (by rw[NM];omega)] at h2
    exact s3 _ _ (hst.2 k t' p' h1 h2)
   ·have hk2:k < (ts++[t]).length:=(LM.mp h1).1
    rw[LS,MR] at hk2
    obtain rfl:k=ts.length:=by omega
    rw[NK] at h1
    cases h1
    rw[OG (by rw[NM];omega)] at h2
    have e0:ts.length-(ss.take i).length=0:=by rw[NM];omega
    rw[e0] at h2
    cases h2
    exact e3
  ·rintro ys H2 ⟨s2,ts,rfl,hst⟩ r hr'
   rw[Au,LN,List.take_length] at hst
   have s3:=Ad hr' (.lst (ts.map V.ref))
   exact q r ts _ ((s1.trans s2).trans s3) Aa (hst.same s3)
end
def rY(x y:Str):Str:=Str.join ⟨#[32]⟩ [x,"knows", y]
theorem Xg(x y:Str):Tx.cs (rY x y)=Tx.cs x++32::(Tx.cs "knows" ++ 32::Tx.cs y):=Ba 32 [x,"knows", y]
theorem hU(x y:Str)(ss:Bdy):Tx.cs (wK x y ss)=Tx.cs (rY x y)++58::Tx.cs (bT ss):=by
 have k1:(" knows " : Str).cps.toList=32::(Tx.cs "knows" ++ [32]):=by decide +kernel
 have k2:(":" : Str).cps.toList=[58]:=by decide +kernel
 have k3:(": " : Str).cps.toList=[58,32]:=by decide +kernel
 have k4:(" " : Str).cps.toList=[32]:=by decide +kernel
 rw[Xg]
 unfold wK bT
 by_cases h:ss=[]
 ·rw[if_pos h,if_pos h]
  show (x ++ " knows " ++ y ++ ":" : Str).cps.toList=_
  rw[Af,Af,Af,k1,k2]
  have e0:Tx.cs Str.empty=[]:=by decide +kernel
  rw[e0]
  simp
 ·rw[if_neg h,if_neg h]
  show (x ++ " knows " ++ y ++ ": " ++ Str.join "; " (ss.map wS):Str).cps.toList=_++58::(" " ++ Str.join "; " (ss.map wS):Str).cps.toList
  rw[Af,Af,Af,Af,Af,k1,k3,k4]
  simp
theorem Dr{x:Str}(h:As x=true){c:Nat}(hc:¬ (97<=c/\c<=122)):c∉Tx.cs x:=λz=>hc (Hy h c z)
theorem sI{x y:Str}(ox:As x=true)(oy:As y=true){c:Nat}(hc:¬ (97<=c/\c<=122))(h32:c≠32):c∉Tx.cs (rY x y):=by
 rw[Xg]
 intro z
 rcases MJ.mp z with z | z
 ·exact Dr ox hc z
 rcases LX.mp z with z | z
 ·exact h32 z
 rcases MJ.mp z with z | z
 ·have:∀c∈Tx.cs ("knows" : Str),97<=c/\c<=122:=by decide +kernel
  exact hc (this c z)
 rcases LX.mp z with z | z
 ·exact h32 z
 ·exact Dr oy hc z
theorem vT{x y:Str}{ss:Bdy}(ox:As x=true)(oy:As y=true):Txt.partition (wK x y ss) ":" = (rY x y,(":" : Str),bT ss):=by
 have e:(":" : Str)=⟨#[58]⟩:=by decide +kernel
 rw[e]
 exact Tx.part_at (hU x y ss) (sI ox oy (by decide) (by decide))
theorem lY{x y:Str}(ox:As x=true)(oy:As y=true):Txt.split (rY x y) ⟨#[32]⟩=([x,"knows", y]:List Str):=by
 refine Eo 32 (by simp) λz hz=>?_
 simp only[LX,MM,or_false] at hz
 rcases hz with rfl | rfl | rfl
 ·exact Dr ox (by decide)
 ·decide +kernel
 ·exact Dr oy (by decide)
theorem Rb{x y:Str}(ox:As x=true)(oy:As y=true):Txt.rstripChars (rY x y) " " = rY x y:=by
 have hx:0 < (Tx.cs x).length:=by rw[Tx.len_cs];exact(Ay ox).1
 have hy:0 < (Tx.cs y).length:=by rw[Tx.len_cs];exact(Ay oy).1
 have h:=Qf (c:=32) (ps:=([x,"knows", y]:List Str).map λl=>l.cps.toList) (by simp) λp hp=>by
  obtain⟨z,hz,rfl⟩:=ML.mp hp
  simp only[LX,MM,or_false] at hz
  rcases hz with rfl | rfl | rfl
  ·exact⟨hx,Dr ox (by decide)⟩
  ·exact⟨by decide +kernel,by decide +kernel⟩
  ·exact⟨hy,Dr oy (by decide)⟩
 rw[<- Ba] at h
 rw[Fw]
 exact Tx.rstrip_mid (n:=0) (by simp) h.1 h.2.2
theorem vH{x y:Str}(ox:As x=true)(oy:As y=true):(rY x y).length<=60:=by
 have h1:=(Ay ox).2
 have h2:=(Ay oy).2
 rw[<- Tx.len_cs,Xg,LS,MT,LS,MT]
 have h3:(Tx.cs ("knows" : Str)).length=5:=by decide +kernel
 have h4:=Tx.len_cs x
 have h5:=Tx.len_cs y
 omega
def Ku(CB CH:LZ)(ks:List (Str×LZ×List Str)):Sp:=λvs H Q _=>∃(p d:LZ)(L:List Ent)(x y:Str)(e:Ent)(ss:Bdy),vs=[.ref p,.str (wK x y ss)]/\Bc CB CH H p d L/\Hm L x=some e/\As x=true/\As y=true/\(∀q∈ss,Od q)/\Hq ks ss/\e.bd.length<=1000 /\
 ∀(la:LZ)(ts:List LZ)(H':Hp),H la=none->H' la=some (.lst (ts.map V.ref))->Ce H' ts ss->H' e.ba=some (.dK (putK e.bd (MY y:Key) (.ref la)))->(∀b o,H b=some o->b≠e.ba->H' b=some o)->Q (.bl true) H'
section
variable {P:MV} {w:NU} {K:LO} {mg:Str->Option LP} {base:OS} {f fT fR CB CH:LZ} {fd dT dR:NP} {ks:List (Str×LZ×List Str)}
abbrev LD:List Str:=["book","line","sides","parts"]
theorem Oq:Al LD ["book","line"] (Ac Rv):=Fm (by decide +kernel)
theorem eV(F:Dx K "do_knows" "do_knows" Rv f fd)(T:Gb K mg CB CH)(Tx':Txt mg)(GT:Aj P w K mg base Bj 6 fT dT ["self","name","word","body"] (Pz CB CH ks))(bT':Binds K dT ["self","name","word","body"] [])(mT:Meth K CB "teach" fT)(GR:Aj P w K mg base Bj 4 fR dR ["text"] Ld)(kR:MN K (.ref fR)=true)(bR:Binds K dR ["text"] [])(mR:mg "read_body" = some (.ref fR)):Aj P w K mg base Bj 7 f fd ["book","line"] (Ku CB CH ks):=by
 refine F.ok Oq (λvs H Q E h=>?_) (λcdv A outer s H vs Q E hr h=>?_)
 ·obtain⟨p,d,L,x,y,e,ss,rfl,_⟩:=h
  rfl
 obtain⟨p,d,L,x,y,e,ss,rfl,B,he,ox,oy,W,gs,hbd,q⟩:=h
 have hr4:=hr.mono (j:=4) (by decide)
 have hl:=Lm ox oy W gs.1
 have hh:=vH ox oy
 refine⟨_,Ab (Bx 2 Oq.nd (Dg PySem.F.plainAttrs_str PySem.F.slot_str_partition PySem.F.type_str_partition yI (pv 1) (Bw Aq)))
  (Ab (Bx 3 Oq.nd (Dg PySem.F.plainAttrs_str PySem.F.slot_str_split PySem.F.type_str_split Gv (Dg PySem.F.plainAttrs_str PySem.F.slot_str_rstrip PySem.F.type_str_rstrip jZ (Az Df (pv 2) Ae (λ_ _=>rfl)) (Bw Aq)) (Bw Aq)))
  (Ab (Bh (PW.pt (Nj (Ao Kx (Bg Co rfl Tx'.len PP (Bw (pv 3))) Ae (Aw _)) (Lq (Ao Kx (Az Be (pv 3) Ae (λ_ _=>rfl)) Aq (Aw _))))) Br Ar)
  (Ab (Cu (Cn (pv 0) T.clB mT GT hr bT' .nil Cm (Tc (Az Be (pv 3) Ae (λ_ _=>rfl)) (Az Be (pv 3) Ae (λ_ _=>rfl)) (Ds GR hr4 mR kR bR (Bw (Az Df (pv 2) Ae (λ_ _=>rfl)))))))
  (Ag (Ap Ms))))),?_⟩
 refine⟨_,rfl,rfl,_,_,rfl,rfl,by decide +kernel,by rw[LR];omega,λa ha=>?_⟩
 rw[vT ox oy]
 obtain⟨H1,zz,s1,ea⟩:=lay ha (.tup [.str (rY x y),.str ":", .str (bT ss)])
 rw[zz]
 show _
 refine⟨_,rfl,a,_,_,_,rfl,rfl,Dq.of ea,at0 _ _,rfl,_,_,rfl,rfl,by rw[LR];omega,rfl,_,_,rfl,rfl,by decide +kernel,by rw[Rb ox oy,LR];omega,λl hl'=>?_⟩
 rw[Rb ox oy,Fw,lY ox oy]
 have s2:=Ad hl' (.lst ((([x,"knows", y]:List Str)).map V.str))
 have el:(upd H1 l (.lst ((([x,"knows", y]:List Str)).map V.str))) l=some (.lst [.str x,.str "knows", .str y]):=Aa
 generalize upd H1 l (.lst ((([x,"knows", y]:List Str)).map V.str))=H2 at *
 have s12:=s1.trans s2
 obtain⟨dx,hpo⟩:=B.ob
 refine⟨_,rfl,l,_,rfl,.inl (Av.of el),rfl,_,rfl,Cd ?_⟩
 refine⟨_,rfl,l,_,_,_,rfl,rfl,Av.of el,oP _ _ _,rfl,_,rfl,?_⟩
 rw[decide_eq_true rfl]
 refine Cd ?_
 refine⟨_,rfl,p,dx,_,rfl,s12 _ _ hpo,Dy d (by decide +kernel),_,rfl,l,_,_,_,rfl,rfl,Av.of el,at0 _ _,_,rfl,l,_,_,_,rfl,rfl,Av.of el,at2 _ _ _ _,_,rfl,a,_,_,_,rfl,rfl,Dq.of (s2 _ _ ea),at2 _ _ _ _,ss,rfl,W,gs.1,λlb ts H3 s3 elb hst=>?_⟩
 have s13:=s12.trans s3
 refine⟨p,d,lb,L,x,y,e,ts,ss,rfl,B.same s13,he,oy,by have:=(Ay oy).2;rw[LR];omega,elb,hst,gs,hbd,λla H4 hla e4 eb4 k4=>?_⟩
 have Eb:=(B.same s13).en e (Ey he).1
 have hst4:Ce H4 ts ss:=⟨hst.1,λi t p' h1 h2=>k4 _ _ (hst.2 i t p' h1 h2) (Ei (hst.2 i t p' h1 h2) Eb.bd (by intro z;cases z))⟩
 exact q la ts H4 (s13.free hla) e4 hst4 eb4 λb o hb hn=>k4 _ _ (s13 _ _ hb) hn
end
theorem Zx(p c y:Str)(r:List Str):p++Str.join c (y::r)=Str.join c ((p++y)::r):=by
 cases r with
 | nil=>rfl
 | cons z r=>
  show p++(y++c++Str.join c (z::r))=(p++y)++c++Str.join c (z::r)
  refine str_ext ?_
  rw[Af,Af,Af,Af,Af,Af]
  simp
theorem hZ:∀(y:Str)(r:List Str),Str.join ", " (y::r)=Str.join ⟨#[44]⟩ (y::r.map λx => " " ++ x)
 | y,[]=>rfl
 | y,z::r=>by
  have ih:=hZ z r
  show y ++ ", " ++ Str.join ", " (z::r)=y++⟨#[44]⟩++Str.join ⟨#[44]⟩ ((" " ++ z)::r.map λx => " " ++ x)
  rw[ih,<- Zx]
  refine str_ext ?_
  have es:(", " : Str).cps.toList=[44,32]:=by decide +kernel
  have eb:(" " : Str).cps.toList=[32]:=by decide +kernel
  rw[Af,Af,Af,Af,Af,es,eb]
  simp
def Uh(x:Str):List Str->List Str
 | []=>["house", x]
 | y::_=>["house", x,"under", y]
def FS(x:Str)(el:List Str):List Str:=Str.join ⟨#[32]⟩ (Uh x el)::el.tail
def bQ(x:Str)(el:List Str):List Str:=Str.join ⟨#[32]⟩ (Uh x el)::el.tail.map λy => " " ++ y
theorem Vd(x:Str)(el:List Str):wF x el=Str.join ⟨#[44]⟩ (bQ x el):=by
 have k1:("house " : Str).cps.toList=Tx.cs "house" ++ [32]:=by decide +kernel
 have k2:(" under " : Str).cps.toList=32::(Tx.cs "under" ++ [32]):=by decide +kernel
 unfold wF
 cases el with
 | nil=>
  rw[if_pos rfl]
  show _=Str.join ⟨#[32]⟩ ["house", x]
  refine str_ext ?_
  rw[Af,k1,Ba]
  show _=Tx.cs "house" ++ 32::Tx.cs x
  simp
 | cons y el=>
  rw[if_neg (by intro z;cases z),hZ,Zx]
  show Str.join ⟨#[44]⟩ _=Str.join ⟨#[44]⟩ (Str.join ⟨#[32]⟩ ["house", x,"under", y]::_)
  have e:("house " ++ x ++ " under " ++ y:Str)=Str.join ⟨#[32]⟩ ["house", x,"under", y]:=by
   refine str_ext ?_
   rw[Af,Af,Af,k1,k2,Ba]
   show _=Tx.cs "house" ++ 32::(Tx.cs x++32::(Tx.cs "under" ++ 32::Tx.cs y))
   simp
  rw[e]
  rfl
theorem Jw{x:Str}{el:List Str}(ox:As x=true)(oe:∀y∈el,As y=true):∀z∈Uh x el,As z=true:=by
 intro z hz
 cases el with
 | nil=>
  simp only[Uh,LX,MM,or_false] at hz
  rcases hz with rfl | rfl
  ·decide +kernel
  ·exact ox
 | cons y el=>
  simp only[Uh,LX,MM,or_false] at hz
  rcases hz with rfl | rfl | rfl | rfl
  ·decide +kernel
  ·exact ox
  ·decide +kernel
  ·exact oe _ MD
theorem Vr(x:Str)(el:List Str):Uh x el≠[]:=by
 cases el<;>(intro z;cases z)
theorem iA{c d:Nat}(h1:c≠d):∀ps:List (List Nat),(∀q∈ps,c∉q)->c∉jn d ps:=by
 intro ps
 induction ps with
 | nil=>intro _ z;exact nomatch z
 | cons x r ih=>
  intro h z
  cases r with
  | nil=>exact h x MD z
  | cons y r=>
   have z:c∈x++d::jn d (y::r):=z
   rcases MJ.mp z with z | z
   ·exact h x MD z
   ·rcases LX.mp z with z | z
    ·exact h1 z
    ·exact ih (λq hq=>h q (ME _ hq)) z
theorem cO{ns:List Str}(h:∀z∈ns,As z=true){c:Nat}(hc:¬ (97<=c/\c<=122))(h32:c≠32):c∉Tx.cs (Str.join ⟨#[32]⟩ ns):=by
 have e:Tx.cs (Str.join ⟨#[32]⟩ ns)=jn 32 (ns.map λl=>l.cps.toList):=Ba 32 ns
 rw[e]
 refine iA h32 _ λq hq=>?_
 obtain⟨z,hz,rfl⟩:=ML.mp hq
 exact Dr (h z hz) hc
theorem Tt{ns:List Str}(h0:ns≠[])(h:∀z∈ns,As z=true):Txt.split (Str.join ⟨#[32]⟩ ns) ⟨#[32]⟩=ns:=Eo 32 h0 λz hz=>Dr (h z hz) (by decide)
theorem nW{ns:List Str}(h0:ns≠[])(h:∀z∈ns,As z=true):Txt.stripChars (Str.join ⟨#[32]⟩ ns) " " = Str.join ⟨#[32]⟩ ns:=by
 have g:=Qf (c:=32) (ps:=ns.map λl=>l.cps.toList) (by intro z;exact h0 (List.map_eq_nil_iff.mp z)) λp hp=>by
  obtain⟨z,hz,rfl⟩:=ML.mp hp
  refine⟨?_,Dr (h z hz) (by decide)⟩
  have:=Tx.len_cs z
  have:=(Ay (h z hz)).1
  show 0 < (Tx.cs z).length
  omega
 rw[<- Ba] at g
 rw[Fw]
 exact Tx.strip_mid (m:=0) (n:=0) (by simp) g.1 g.2.1 g.2.2
theorem lR{y:Str}(o:As y=true):Txt.stripChars (" " ++ y) " " = y:=by
 have h1:0 < (Tx.cs y).length:=by have:=Tx.len_cs y;have:=(Ay o).1;omega
 have hn:=Dr o (c:=32) (by decide)
 rw[Fw]
 refine Tx.strip_mid (m:=1) (n:=0) ?_ h1 (λz=>hn (z ▸ getD_mem h1)) (λz=>hn (z ▸ getD_mem (by omega)))
 show (⟨#[32]⟩++y:Str).cps.toList=_
 rw[Af]
 simp
theorem kG{x:Str}{el:List Str}(ox:As x=true)(oe:∀y∈el,As y=true):(bQ x el).map (λl=>Txt.stripChars l " ")=FS x el:=by
 unfold bQ FS
 rw[MU,nW (Vr x el) (Jw ox oe),List.map_map]
 congr 1
 have:∀r:List Str,(∀y∈r,As y=true)->r.map ((λl=>Txt.stripChars l " ") ∘ λy => " " ++ y)=r:=by
  intro r
  induction r with
  | nil=>intro _;rfl
  | cons y r ih=>
   intro h
   rw[MU,ih λz hz=>h z (ME _ hz)]
   show Txt.stripChars (" " ++ y) " " :: r=_
   rw[lR (h y MD)]
 exact this _ λy hy=>oe y (List.mem_of_mem_tail hy)
theorem uA{x:Str}{el:List Str}(ox:As x=true)(oe:∀y∈el,As y=true):Txt.split (wF x el) ⟨#[44]⟩=bQ x el:=by
 rw[Vd]
 refine Eo 44 (by intro z;cases z) λl hl=>?_
 rcases LX.mp hl with rfl | hl
 ·exact cO (Jw ox oe) (by decide) (by decide)
 ·obtain⟨y,hy,rfl⟩:=ML.mp hl
  intro z
  rw[Af] at z
  rcases MJ.mp z with z | z
  ·revert z;decide +kernel
  ·exact Dr (oe y (List.mem_of_mem_tail hy)) (by decide) z
theorem qP{x:Str}{el:List Str}(ox:As x=true)(oe:∀y∈el,As y=true):(Str.join ⟨#[32]⟩ (Uh x el)).length<=84:=by
 refine NA (Ek (k:=20) λz hz=>(Ay (Jw ox oe z hz)).2) ?_
 have h:(Uh x el).length<=4:=by cases el<;>simp[Uh]
 show _+_ * 1<=_
 omega
theorem yM{x:Str}{el:List Str}(ox:As x=true)(oe:∀y∈el,As y=true):∀l∈bQ x el,l.length<=84:=by
 intro l hl
 rcases LX.mp hl with rfl | hl
 ·exact qP ox oe
 ·obtain⟨y,hy,rfl⟩:=ML.mp hl
  have:=(Ay (oe y (List.mem_of_mem_tail hy))).2
  rw[Str.length_append]
  show 1+y.length<=84
  omega
theorem AD:("," : Str)=⟨#[44]⟩:=by decide +kernel
end Bk
namespace Bk
open PySem L2 Mg Nm
theorem Ys{α:Type}[DecidableEq α]:∀t:List α,t.Nodup->Di t.length [t,[]]=(t,[[],[]])
 | [],_=>aO rfl
 | a::t,h=>by
  obtain⟨h1,h2⟩:=OP.mp h
  have hp:pick (cnt [a::t,[]]) [a::t,[]]=some a:=Sd (Jh.mpr λr hr=>by
   rcases LX.mp hr with rfl | hr
   ·exact h1
   ·rw[MA] at hr
    subst hr
    exact MM)
  rw[MT,Ma hp]
  have e:[a::t,[]].map (Ct a)=[t,[]]:=by rw[MU,Ja];rfl
  rw[e,Ys t h2]
theorem yN{α:Type}[DecidableEq α]{a:α}{t:List α}(h:(a::t).Nodup):Di (t.length+1) [a::t,[a]]=(a::t,[[],[]]):=by
 obtain⟨h1,h2⟩:=OP.mp h
 have hp:pick (cnt [a::t,[a]]) [a::t,[a]]=some a:=Sd (Jh.mpr λr hr=>by
  rcases LX.mp hr with rfl | hr
  ·exact h1
  ·rw[MA] at hr
   subst hr
   exact MM)
 rw[Ma hp]
 have e:[a::t,[a]].map (Ct a)=[t,[]]:=by rw[MU,Ja,MU,Ja];rfl
 rw[e,Ys t h2]
theorem aH.free{H H':Hp}{L:List Ent}{x:Str}{el:List Str}{n:Nat}{e:Ent}(h:aH H' L x el n e)(s:Ak H H'):aH H L x el n e:=⟨h.1,h.2.1,h.2.2.1,h.2.2.2.1,⟨s.free h.2.2.2.2.at_,s.free h.2.2.2.2.ea,s.free h.2.2.2.2.oa,s.free h.2.2.2.2.ba⟩⟩
theorem He{H:Hp}{a b:LZ}{o:HO}(h:upd H a o b=none):H b=none:=by
 by_cases e:b=a
 ·rw[e,Aa] at h
  cases h
 ·rw[Ai e] at h
  exact h
theorem vX{CB CH:LZ}{H:Hp}{p d:LZ}{L:List Ent}{x:Str}{e:Ent}{t:List Str}(B:Bc CB CH H p d L)(hx:isNm x)(hn:Hm L x=none)(hl:L.length<=100)(he:e∈L)(ho:e.od=e.nm::t)(hd:e.od.Nodup)(hle:e.od.length<=100):Fo CB CH H p d L x [e.nm] (t.length+1)/\(Di (t.length+1) (rowsOf L [e.nm])).1=e.od:=by
 have hf:=Lc B.nd he
 have er:rowsOf L [e.nm]=[e.nm::t,[e.nm]]:=by
  unfold rowsOf
  rw[MU,hV hf,ho]
  rfl
 have hr:Di (t.length+1) (rowsOf L [e.nm])=(e.nm::t,[[],[]]):=by rw[er];exact yN (by rw[<- ho];exact hd)
 refine⟨⟨B,Pu hx,by rw[LR];have:=hx.2.1;omega,hn,λy hy=>?_,by simp,by simp,hl,?_,λr hr'=>?_,?_⟩,by rw[hr,ho]⟩
 ·rw[MA] at hy
  subst hy
  exact⟨e,hf⟩
 ·rw[er]
  rw[ho] at hle
  have:tot [e.nm::t,[e.nm]]=(e.nm::t).length+(1+0):=rfl
  omega
 ·rw[hr] at hr'
  simpa using hr'
 ·rw[hr]
  rw[ho] at hle
  show (e.nm::t).length<=900
  omega
end Bk
namespace Bk
open PySem L2 Mg Nm Li
def Kl(CB CH:LZ):Sp:=λvs H Q _=>∃(p d:LZ)(L:List Ent)(x:Str)(el:List Str)(n:Nat),vs=[.ref p,.str (wF x el)]/\Fo CB CH H p d L x el n/\(∀y∈el,As y=true) /\
 ∀(e:Ent)(H':Hp),aH H L x el n e->Bc CB CH H' p d (L++[e])->(∀b o,H b=some o->b≠d->H' b=some o)->Q (.bl true) H'
theorem Fo.same'{CB CH:LZ}{H H':Hp}{p d:LZ}{L:List Ent}{x:Str}{el:List Str}{n:Nat}(h:Fo CB CH H p d L x el n)(s:Ak H H'):Fo CB CH H' p d L x el n:={ h with bk:=h.bk.same s }
theorem AN(v:V)(xs:List V):Es (v::xs) (some 1) none=xs:=by
 unfold Es
 have e1:HT.sIx (v::xs).length 0 (some 1)=1:=by
  unfold HT.sIx
  simp
 have e2:HT.sIx (v::xs).length (v::xs).length none=xs.length+1:=rfl
 rw[e1,e2,List.drop_succ_cons,TQ,Nat.add_sub_cancel,List.take_length]
section
variable {P:MV} {w:NU} {K:LO} {mg:Str->Option LP} {base:OS} {f fF CB CH:LZ} {fd dF:NP}
theorem JX:(["side"]:List Str).Nodup:=by decide +kernel
abbrev KG:List Str:=["book","line","sides","parts"]
theorem Nt:Al KG ["book","line"] (Ac Mq):=Fm (by decide +kernel)
theorem gF(F:Dx K "do_house" "do_house" Mq f fd)(T:Gb K mg CB CH)(Tx':Txt mg)(GF:Aj P w K mg base Bj 4 fF dF ["self","name","elders"] (Mz CB CH))(bF2:Binds K dF ["self","name","elders"] [.none])(bF3:Binds K dF ["self","name","elders"] [])(mF:Meth K CB "found" fF):Aj P w K mg base Bj 5 f fd ["book","line"] (Kl CB CH):=by
 refine F.ok Nt (λvs H Q E h=>?_) (λcdv A outer s H vs Q E hr h=>?_)
 ·obtain⟨p,d,L,x,el,n,rfl,_⟩:=h
  rfl
 obtain⟨p,d,L,x,el,n,rfl,C,oe,q⟩:=h
 have ox:=C.nm
 have hl:=Kd ox oe (NA C.ell (by decide))
 have hrl:=yM ox oe
 have hft:=qP ox oe
 have hel:=C.ell
 refine⟨_,Ab (Cc (i:=2) (Ac Mq) KG ["side"] [] rfl Nt.nd rfl rfl (Bz (Dg PySem.F.plainAttrs_str PySem.F.slot_str_split PySem.F.type_str_split Gv (pv 1) (Bw Aq))) (Bd (i:=0) (by decide)) (λ_ _ _ _ _ _=>⟨De 0 JX,Ca,pR (K:=K) PySem.F.plainAttrs_str PySem.F.slot_str_strip PySem.F.type_str_strip Qu (pv 0) (Bw Aq)⟩))
  (Ab (Bx 3 Nt.nd (Dg PySem.F.plainAttrs_str PySem.F.slot_str_split PySem.F.type_str_split Gv (Az Be (pv 2) Ae (λ_ _=>rfl)) (Bw Aq)))
  (Ab (Bh (PW.pt (Fe (Ao Cf (Az Be (pv 3) Ae (λ_ _=>rfl)) Aq (Aw _)) (Fe (Ao Cf (Bg Co rfl Tx'.len PP (Bw (pv 3))) Ae (Aw _)) (Ez (Ao Cf (Bg Co rfl Tx'.len PP (Bw (pv 2))) Ae (Aw _))))))
   (Ab (Cu (Cn (pv 0) T.clB mF GF hr bF2 (dvs:=[.non]) (.cons rfl .nil) Cm (Bw (Az Be (pv 3) Ae (λ_ _=>rfl))))) (Ag (Ap Ms))) Ar)
  (Ab (Bh (PW.pt (Fe (Ao Cf (Az Be (pv 3) Ae (λ_ _=>rfl)) Aq (Aw _)) (Fe (Ao Cf (Bg Co rfl Tx'.len PP (Bw (pv 3))) Ae (Aw _)) (Ez (Ao Cf (Az Be (pv 3) Ae (λ_ _=>rfl)) Aq (Aw _))))))
   (Ab (Cu (Cn (pv 0) T.clB mF GF hr bF3 .nil Cm (Hh (Az Be (pv 3) Ae (λ_ _=>rfl)) (Am Ic (Dn (Bw (Az Be (pv 3) Ae (λ_ _=>rfl)))) (Ck Ew (pv 2) (Cv Ae) Dt))))) (Ag (Ap Ms))) Ar)
  (Ag (Ap Ms))))),?_⟩
 refine⟨_,rfl,rfl,_,_,rfl,rfl,by decide +kernel,by rw[LR];omega,λl hl'=>?_⟩
 rw[AD,uA ox oe]
 have s1:=Ad hl' (.lst ((bQ x el).map V.str))
 have e1:(upd H l (.lst ((bQ x el).map V.str))) l=some (.lst (Ax (bQ x el))):=Aa
 generalize upd H l (.lst ((bQ x el).map V.str))=H1 at *
 have hrwl:(bQ x el).length<=61:=by unfold bQ;rw[MT,LN,List.length_tail];omega
 refine⟨l,rfl,⟨_,Av.of e1⟩,Bq (K:=K) (a:=l) (xs:=Ax (bQ x el)) (λi ys H2=>Ak H1 H2/\ys=Ax (((bQ x el).take i).map λl=>Txt.stripChars l " ")) ⟨Ak.refl _,rfl⟩ (λi ys H2 _ h=>Av.of (h.1 _ _ e1)) ?_ ?_⟩
 ·rintro i v ys H2 hv ⟨s2,rfl⟩
  obtain⟨y,hy,rfl⟩:=El hv
  have hyl:=hrl y (MK hy)
  refine⟨_,rfl,rfl,_,_,rfl,rfl,by rw[LR];omega,?_⟩
  refine⟨by rw[Au,LN,NM,LR];omega,s2,?_⟩
  rw[Fq,List.take_succ,hy,LW]
  rfl
 rintro ys H2 ⟨s2,rfl⟩ r hr'
 rw[Au,List.take_length,kG ox oe]
 have s3:=Ad hr' (.lst (Ax (FS x el)))
 have e3:(upd H2 r (.lst (Ax (FS x el)))) r=some (.lst (.str (Str.join ⟨#[32]⟩ (Uh x el))::Ax el.tail)):=Aa
 generalize upd H2 r (.lst (Ax (FS x el)))=H3 at *
 refine⟨_,rfl,r,_,_,_,rfl,rfl,Av.of e3,at0 _ _,rfl,_,_,rfl,rfl,by decide +kernel,by rw[LR];omega,λt ht=>?_⟩
 rw[Fw,Tt (Vr x el) (Jw ox oe)]
 obtain⟨H4,zz,s4,e4⟩:=lay ht (.lst ((Uh x el).map V.str))
 rw[zz]
 have s14:=((s1.trans s2).trans s3).trans s4
 have e34:=s4 _ _ e3
 obtain⟨dx,hpo⟩:=C.bk.ob
 cases el with
 | nil=>
  have e4:H4 t=some (.lst [.str "house", .str x]):=e4
  have e34:H4 r=some (.lst [.str (Str.join ⟨#[32]⟩ (Uh x []))]):=e34
  refine⟨_,rfl,t,_,_,_,rfl,rfl,Av.of e4,at0 _ _,rfl,_,rfl,?_⟩
  rw[decide_eq_true rfl]
  refine Dk ⟨_,rfl,t,_,rfl,.inl (Av.of e4),rfl,_,rfl,Dk ⟨_,rfl,r,_,rfl,.inl (Av.of e34),rfl,_,rfl,Dk ?_⟩⟩
  refine⟨_,rfl,p,dx,_,rfl,s14 _ _ hpo,Dy d (by decide +kernel),_,rfl,t,_,_,_,rfl,rfl,Av.of e4,oP _ _ _,p,d,L,x,.non,[],n,rfl,C.same' s14,.inl ⟨rfl,rfl⟩,λe H5 hn B5 k5=>?_⟩
  exact q e H5 (hn.free s14) B5 λb o hb hd=>k5 _ _ (s14 _ _ hb) hd
 | cons y el=>
  have e4:H4 t=some (.lst [.str "house", .str x,.str "under", .str y]):=e4
  have e34:H4 r=some (.lst (.str (Str.join ⟨#[32]⟩ (Uh x (y::el)))::Ax el)):=e34
  refine⟨_,rfl,t,_,_,_,rfl,rfl,Av.of e4,at0 _ _,rfl,_,rfl,?_⟩
  rw[decide_eq_true rfl]
  refine Dk ⟨_,rfl,t,_,rfl,.inl (Av.of e4),rfl,_,rfl,Cd ?_⟩
  refine⟨_,rfl,t,_,_,_,rfl,rfl,Av.of e4,at0 _ _,rfl,_,rfl,?_⟩
  rw[decide_eq_true rfl]
  refine Dk ⟨_,rfl,t,_,rfl,.inl (Av.of e4),rfl,_,rfl,Dk ⟨_,rfl,t,_,_,_,rfl,rfl,Av.of e4,at2 _ _ _ _,rfl,_,rfl,?_⟩⟩
  rw[decide_eq_true rfl]
  refine Dk ?_
  refine⟨_,rfl,p,dx,_,rfl,s14 _ _ hpo,Dy d (by decide +kernel),_,rfl,t,_,_,_,rfl,rfl,Av.of e4,oP _ _ _,?_⟩
  refine⟨_,rfl,t,_,_,_,rfl,rfl,Av.of e4,rfl,by show 1<=MG;decide +kernel,λa ha=>?_⟩
  obtain⟨H5,zz,s5,e5⟩:=lay ha (.lst [.str y])
  rw[zz]
  have e5:H5 a=some (.lst (Ax [y])):=e5
  show _
  refine⟨_,rfl,_,rfl,r,_,rfl,Av.of (s5 _ _ e34),λb hb=>?_⟩
  have ec:Es (.str (Str.join ⟨#[32]⟩ (Uh x (y::el)))::Ax el) (some 1) none=Ax el:=AN _ _
  rw[ec]
  obtain⟨H6,zz,s6,e6⟩:=lay hb (.lst (Ax el))
  rw[zz]
  have h60:el.length+1<=60:=hel
  refine⟨a,b,_,_,rfl,rfl,s6 _ _ e5,e6,by rw[Au,Au,LR];show 1+el.length<=_;omega,λc hc=>?_⟩
  obtain⟨H7,zz,s7,e7⟩:=lay hc (.lst (Ax [y]++Ax el))
  rw[zz]
  have e7:H7 c=some (.lst (Ax (y::el))):=e7
  have s17:=((s14.trans s5).trans s6).trans s7
  refine⟨p,d,L,x,.ref c,y::el,n,rfl,C.same' s17,.inr ⟨c,rfl,e7⟩,λe H8 hn B8 k8=>?_⟩
  exact q e H8 (hn.free s17) B8 λb o hb hd=>k8 _ _ (s17 _ _ hb) hd
end
def xN:List Str->List Str
 | []=>[]
 | [y]=>[y]
 | y::z::r=>(y++⟨#[44]⟩)::xN (z::r)
theorem Zz:∀(y:Str)(r:List Str),Str.join ", " (y::r)=Str.join ⟨#[32]⟩ (xN (y::r))
 | y,[]=>rfl
 | y,z::r=>by
  have ih:=Zz z r
  have hc:∃b t,xN (z::r)=b::t:=by cases r<;>exact⟨_,_,rfl⟩
  obtain⟨b,t,hc⟩:=hc
  show y ++ ", " ++ Str.join ", " (z::r)=Str.join ⟨#[32]⟩ ((y++⟨#[44]⟩)::xN (z::r))
  rw[ih,hc]
  show y ++ ", " ++ Str.join ⟨#[32]⟩ (b::t)=(y++⟨#[44]⟩)++⟨#[32]⟩++Str.join ⟨#[32]⟩ (b::t)
  refine str_ext ?_
  have es:(", " : Str).cps.toList=[44,32]:=by decide +kernel
  rw[Af,Af,Af,Af,Af,es]
  simp
theorem iH:∀r:List Str,(xN r).length=r.length
 | []=>rfl
 | [y]=>rfl
 | y::z::r=>by
  show (xN (z::r)).length+1=_
  rw[iH (z::r)]
  rfl
theorem tS:∀ {r:List Str},(∀y∈r,As y=true)->∀z∈xN r,32∉Tx.cs z
 | [],_,z,hz=>nomatch hz
 | [y],h,z,hz=>by
  rw[MA.mp hz]
  exact Dr (h y MD) (by decide)
 | y::z::r,h,u,hu=>by
  rcases LX.mp hu with rfl | hu
  ·intro w
   have w:32∈(y++⟨#[44]⟩:Str).cps.toList:=w
   rw[Af] at w
   rcases MJ.mp w with w | w
   ·exact Dr (h y MD) (by decide) w
   ·revert w;decide +kernel
  ·exact tS (λq hq=>h q (ME _ hq)) u hu
theorem rV{x:Str}{el:List Str}(ox:As x=true)(oe:∀y∈el,As y=true):(Txt.split (wF x el) ⟨#[32]⟩).length≠3:=by
 cases el with
 | nil=>
  have e:wF x []=Str.join ⟨#[32]⟩ (Uh x []):=by rw[Vd];rfl
  rw[e,Tt (Vr x []) (Jw ox oe)]
  show 2≠3
  decide
 | cons y el=>
  have e:wF x (y::el)=Str.join ⟨#[32]⟩ ((["house", x,"under"]:List Str)++xN (y::el)):=by
   have hc:∃b t,xN (y::el)=b::t:=by cases el<;>exact⟨_,_,rfl⟩
   obtain⟨b,t,hc⟩:=hc
   unfold wF
   rw[if_neg (by intro z;cases z),Zz,hc]
   show "house " ++ x ++ " under " ++ Str.join ⟨#[32]⟩ (b::t) = "house" ++ ⟨#[32]⟩++(x++⟨#[32]⟩++("under" ++ ⟨#[32]⟩++Str.join ⟨#[32]⟩ (b::t)))
   have k1:("house " : Str).cps.toList=Tx.cs "house" ++ [32]:=by decide +kernel
   have k2:(" under " : Str).cps.toList=32::(Tx.cs "under" ++ [32]):=by decide +kernel
   refine str_ext ?_
   rw[Af,Af,Af,Af,Af,Af,Af,Af,Af,k1,k2]
   simp
  rw[e,Eo 32 (by simp) λz hz=>?_,LS,iH]
  ·show 3+(el.length+1)≠3
   omega
  ·rcases MJ.mp hz with hz | hz
   ·simp only[LX,MM,or_false] at hz
    rcases hz with rfl | rfl | rfl
    ·decide +kernel
    ·exact Dr ox (by decide)
    ·decide +kernel
   ·exact tS oe z hz
theorem pY:(":" : Str)=⟨#[58]⟩:=by decide +kernel
theorem BE(x y:Str)(ss:Bdy):(!(Builtin.Str.occurrences (wK x y ss) ":" 0 (wK x y ss).length 1).isEmpty)=true:=by
 rw[pY,StrLaws.found_one]
 refine decide_eq_true ?_
 show 58∈Tx.cs (wK x y ss)
 rw[hU]
 simp
theorem AV{x:Str}{el:List Str}(ox:As x=true)(oe:∀y∈el,As y=true):(!(Builtin.Str.occurrences (wF x el) ":" 0 (wF x el).length 1).isEmpty)=false:=by
 rw[pY,StrLaws.found_one]
 refine decide_eq_false ?_
 rw[Vd,Ba]
 refine iA (by decide) _ λq hq=>?_
 obtain⟨l,hl,rfl⟩:=ML.mp hq
 rcases LX.mp hl with rfl | hl
 ·exact cO (Jw ox oe) (by decide) (by decide)
 ·obtain⟨y,hy,rfl⟩:=ML.mp hl
  intro z
  rw[Af] at z
  rcases MJ.mp z with z | z
  ·revert z;decide +kernel
  ·exact Dr (oe y (List.mem_of_mem_tail hy)) (by decide) z
def Dh(CB CH:LZ)(ks:List (Str×LZ×List Str)):Sp:=λvs H Q E=>Ku CB CH ks vs H Q E∨Kl CB CH vs H Q E
section
variable {P:MV} {w:NU} {K:LO} {mg:Str->Option LP} {base:OS} {f fF fO fG CB CH:LZ} {fd dF dO dG:NP} {ks:List (Str×LZ×List Str)}
theorem aS:Al ["book","line","parts"] ["book","line"] (Ac Wm):=Fm (by decide +kernel)
theorem oH(F:Dx K "do_line" "do_line" Wm f fd)(Tx':Txt mg)(GK:Aj P w K mg base Bj 7 fO dO ["book","line"] (Ku CB CH ks))(kK:MN K (.ref fO)=true)(bK:Binds K dO ["book","line"] [])(mK:mg "do_knows" = some (.ref fO))(GH:Aj P w K mg base Bj 5 fG dG ["book","line"] (Kl CB CH))(kH:MN K (.ref fG)=true)(bH:Binds K dG ["book","line"] [])(mH:mg "do_house" = some (.ref fG)):Aj P w K mg base Bj 8 f fd ["book","line"] (Dh CB CH ks):=by
 refine F.ok aS (λvs H Q E h=>?_) (λcdv A outer s H vs Q E hr h=>?_)
 ·rcases h with h | h
  ·obtain⟨p,d,L,x,y,e,ss,rfl,_⟩:=h
   rfl
  ·obtain⟨p,d,L,x,el,n,rfl,_⟩:=h
   rfl
 have hr5:=hr.mono (j:=5) (by decide)
 refine⟨_,Ab (Bx 2 aS.nd (Dg PySem.F.plainAttrs_str PySem.F.slot_str_split PySem.F.type_str_split Gv (pv 1) (Bw Aq)))
  (Ab (Bh (Ao lT Aq (pv 1) rfl) (Ag (Ap (Ds GK hr mK kK bK (Hh (pv 0) (pv 1))))) Ar)
  (Ab (Bh (PW.pt (Fe (Ao Cf (Bg Co rfl Tx'.len PP (Bw (pv 2))) Ae (Aw _)) (Ez (Ao Cf (Az Be (pv 2) Ae (λ_ _=>rfl)) Aq (Aw _))))) Br Ar)
  (Ag (Ap (Ds GH hr5 mH kH bH (Hh (pv 0) (pv 1))))))),?_⟩
 rcases h with h | h
 ·obtain⟨p,d,L,x,y,e,ss,rfl,B,he,ox,oy,W,gs,hbd,q⟩:=h
  have hl:=Lm ox oy W gs.1
  refine⟨_,rfl,rfl,_,_,rfl,rfl,by decide +kernel,by rw[LR];omega,λa ha=>?_⟩
  have s1:=Ad ha (.lst ((Txt.split (wK x y ss) " ").map V.str))
  generalize upd H a (.lst ((Txt.split (wK x y ss) " ").map V.str))=H1 at *
  refine⟨_,rfl,_,_,rfl,rfl,?_⟩
  rw[BE]
  refine⟨_,rfl,Dk ⟨_,rfl,_,rfl,p,d,L,x,y,e,ss,rfl,B.same s1,he,ox,oy,W,gs,hbd,λla ts H2 h1 h2 h3 h4 h5=>?_⟩⟩
  exact q la ts H2 (s1.free h1) h2 h3 h4 λb o hb hn=>h5 _ _ (s1 _ _ hb) hn
 ·obtain⟨p,d,L,x,el,n,rfl,C,oe,q⟩:=h
  have ox:=C.nm
  have hl:=Kd ox oe (NA C.ell (by decide))
  have h3:=rV ox oe
  refine⟨_,rfl,rfl,_,_,rfl,rfl,by decide +kernel,by rw[LR];omega,λa ha=>?_⟩
  rw[Fw]
  obtain⟨H1,zz,s1,e1⟩:=lay ha (.lst ((Txt.split (wF x el) ⟨#[32]⟩).map V.str))
  rw[zz]
  have e1:H1 a=some (.lst (Ax (Txt.split (wF x el) ⟨#[32]⟩))):=e1
  refine⟨_,rfl,_,_,rfl,rfl,?_⟩
  rw[AV ox oe]
  refine⟨_,rfl,Cd ⟨_,rfl,a,_,rfl,.inl (Av.of e1),rfl,_,rfl,?_⟩⟩
  rw[decide_eq_false (by rw[Au];intro z;have z:=V.int.inj z;omega)]
  refine Cd (Cd ⟨_,rfl,_,rfl,p,d,L,x,el,n,rfl,C.same' s1,oe,λe H2 hn B2 k2=>?_⟩)
  exact q e H2 (hn.free s1) B2 λb o hb hd=>k2 _ _ (s1 _ _ hb) hd
end
end Bk
namespace L2
open PySem
theorem yT{X:Cx}{body:List RL}{h₀:TY}{hs:List TY}{pos:Pos}{t:TS}(hb:Ib X.nox body t):PS X.nox (.Try body (h₀::hs) [] [] pos) t:=by
 intro pins s σ H D I h
 refine wpAny_Try_except (OR (hb pins s σ H D I h) (λf s1 q=>?_) λe s1 z=>z.elim)
 cases f with
 | next=>
  obtain⟨σ',H',J,q⟩:=q
  exact UM ⟨σ',H',J,q⟩
 | brk=>exact q
 | cont=>exact q
 | ret u=>exact q
end L2
namespace Bk
open PySem L2 Mg Nm Li
def Vs(CB CH:LZ)(ks:List (Str×LZ×List Str)):Sp:=λvs H Q E=>∃b l n,vs=[b,l,n]/\Dh CB CH ks [b,l] H (λv H'=>v=.bl true->Q .non H') E
section
variable {P:MV} {w:NU} {K:LO} {mg:Str->Option LP} {base:OS} {f fL CB CH:LZ} {fd dL:NP} {ks:List (Str×LZ×List Str)}
theorem jD:Al ["book","line","number","done","refusal"] ["book","line","number"] (Ac eI):=Fm (by decide +kernel)
theorem Dh.true{H:Hp}{vs:List V}{Q:VK}{E:XK}(h:Dh CB CH ks vs H Q E):Dh CB CH ks vs H (λv H'=>v=.bl true/\Q v H') E:=by
 rcases h with h | h
 ·obtain⟨p,d,L,x,y,e,ss,rfl,B,he,ox,oy,W,gs,hbd,q⟩:=h
  exact .inl ⟨p,d,L,x,y,e,ss,rfl,B,he,ox,oy,W,gs,hbd,λla ts H2 h1 h2 h3 h4 h5=>⟨rfl,q la ts H2 h1 h2 h3 h4 h5⟩⟩
 ·obtain⟨p,d,L,x,el,n,rfl,C,oe,q⟩:=h
  exact .inr ⟨p,d,L,x,el,n,rfl,C,oe,λe H2 hn B2 k2=>⟨rfl,q e H2 hn B2 k2⟩⟩
theorem Dh.mono{H:Hp}{vs:List V}{Q Q':VK}{E E':XK}(h:Dh CB CH ks vs H Q E)(hq:∀v H',Q v H'->Q' v H'):Dh CB CH ks vs H Q' E':=by
 rcases h with h | h
 ·obtain⟨p,d,L,x,y,e,ss,rfl,B,he,ox,oy,W,gs,hbd,q⟩:=h
  exact .inl ⟨p,d,L,x,y,e,ss,rfl,B,he,ox,oy,W,gs,hbd,λla ts H2 h1 h2 h3 h4 h5=>hq _ _ (q la ts H2 h1 h2 h3 h4 h5)⟩
 ·obtain⟨p,d,L,x,el,n,rfl,C,oe,q⟩:=h
  exact .inr ⟨p,d,L,x,el,n,rfl,C,oe,λe H2 hn B2 k2=>hq _ _ (q e H2 hn B2 k2)⟩
theorem pJ(F:Dx K "do_numbered" "do_numbered" eI f fd)(GL:Aj P w K mg base Bj 8 fL dL ["book","line"] (Dh CB CH ks))(kL:MN K (.ref fL)=true)(bL:Binds K dL ["book","line"] [])(mL:mg "do_line" = some (.ref fL)):Aj P w K mg base Bj 9 f fd ["book","line","number"] (Vs CB CH ks):=by
 refine F.ok jD (λvs H Q E h=>?_) (λcdv A outer s H vs Q E hr h=>?_)
 ·obtain⟨b,l,n,rfl,_⟩:=h
  rfl
 obtain⟨b,l,n,rfl,h⟩:=h
 refine⟨_,Ab (yT (Ag (Bx 3 jD.nd (Ds GL hr mL kL bL (Hh (pv 0) (pv 1))))))
  (Ag (Bh (Fv (Ej (pv 3))) Br Ar)),?_⟩
 refine⟨_,rfl,_,rfl,?_⟩
 refine(h.true).mono λv H' hv=>?_
 obtain⟨rfl,q⟩:=hv
 refine⟨_,rfl,_,rfl,Cd (q rfl)⟩
end
def uD(l:Str):Prop:=Txt.stripChars l " " = l/\l ≠ "" /\ Txt.startswith l "--" = false/\l.length<=5000
def Vw(CB CH:LZ)(ks:List (Str×LZ×List Str)):Sp:=λvs H Q _=>∃(x:Str)(ls:List Str)(J:Nat->LZ->LZ->Hp->Prop),vs=[.str x]/\linesOf x=ls/\x.length<=8000000/\(∀l∈ls,uD l) /\
 (∀p d H',Ak H H'->H p=none->H d=none->Bc CB CH H' p d []->J 0 p d H')/\(∀i p d H1 H2,J i p d H1->Ak H1 H2->J i p d H2) /\
 (∀(i:Nat) l p d H1,ls[i]? = some l->J i p d H1->Dh CB CH ks [.ref p,.str l] H1 (λ_ H'=>J (i+1) p d H'/\∀b xs,H1 b=some (.lst xs)->H' b=some (.lst xs)) E0) /\
 (∀p d H',J ls.length p d H'->Q (.ref p) H')
section
variable {P:MV} {w:NU} {K:LO} {mg:Str->Option LP} {base:OS} {f fI fL fN CB CH:LZ} {fd dI dL dN:NP} {ks:List (Str×LZ×List Str)}
abbrev KY:List Str:=["text","book","number","line","words"]
theorem Qz:Al KY ["text"] (Ac pI):=Fm (by decide +kernel)
theorem vV(F:Dx K "read" "read" pI f fd)(T:Gb K mg CB CH)(Tx':Txt mg)(GI:Aj P w K mg base Bj 1 fI dI ["self"] (Qj CB))(bI:Binds K dI ["self"] [])(MB:Mk K CB fI)(GL:Aj P w K mg base Bj 1 fL dL ["text"] (Wl K))(kL:MN K (.ref fL)=true)(bL:Binds K dL ["text"] [])(mL:mg "lines_of" = some (.ref fL))(GN:Aj P w K mg base Bj 9 fN dN ["book","line","number"] (Vs CB CH ks))(kN:MN K (.ref fN)=true)(bN:Binds K dN ["book","line","number"] [])(mN:mg "do_numbered" = some (.ref fN)):Aj P w K mg base Bj 10 f fd ["text"] (Vw CB CH ks):=by
 refine F.ok Qz (λvs H Q E h=>?_) (λcdv A outer s H vs Q E hr h=>?_)
 ·obtain⟨x,ls,J,rfl,_⟩:=h
  rfl
 obtain⟨x,ls,J,rfl,hx,hxl,hok,j0,jf,js,q⟩:=h
 have hr1:=hr.mono (j:=1) (by decide)
 have hr2:=hr.mono (j:=2) (by decide)
 refine⟨_,Ab (Bx 1 Qz.nd (Ya MB GI hr2 rfl T.mgB bI .nil Cm))
  (Ab (Gp PX rfl (qT rfl Tx'.enum (Bw (Ds GL hr1 mL kL bL (Bw (pv 0))))) (Lf rfl (Cy (De 2 Qz.nd) (Cy (De 3 Qz.nd) Ii)))
   (Ab (Bx 4 Qz.nd (Dg PySem.F.plainAttrs_str PySem.F.slot_str_strip PySem.F.type_str_strip Qu (pv 3) (Bw Aq)))
   (Ag (Bh (PW.pt (Fe (Ao Kx (pv 4) Aq (Aw _)) (Ez (Fv (Ej (Dg PySem.F.plainAttrs_str PySem.F.slot_str_startswith PySem.F.type_str_startswith Ud (pv 4) (Bw Aq)))))))
    (Ag (Cu (Ds GN hr mN kN bN (Tc (pv 1) (pv 4) (pv 2))))) Ar))))
  (Ag (Ap (pv 1)))),?_⟩
 intro p dx np ndx nex
 refine⟨p,dx,rfl,Aa,λd hd=>⟨rfl,?_⟩⟩
 have hd1:d≠p:=λz=>by rw[z,Aa] at hd;cases hd
 have fd0:H d=none:=He (He hd)
 have sb:Ak H (upd (upd (upd (upd H dx (.own p)) p (.ins CB dx [])) d (.dK [])) p (.ins CB dx (bF d))):=λb o e=>by
  rw[Ai (Ah e np),Ai (Ah e fd0),Ai (Ah e np),Ai (Ah e ndx)]
  exact e
 have ep:(upd (upd (upd (upd H dx (.own p)) p (.ins CB dx [])) d (.dK [])) p (.ins CB dx (bF d))) p=some (.ins CB dx (bF d)):=Aa
 have ed:(upd (upd (upd (upd H dx (.own p)) p (.ins CB dx [])) d (.dK [])) p (.ins CB dx (bF d))) d=some (.dK []):=by rw[Ai hd1];exact Aa
 generalize upd (upd (upd (upd H dx (.own p)) p (.ins CB dx [])) d (.dK [])) p (.ins CB dx (bF d))=H1 at *
 have B0:Bc CB CH H1 p d []:=⟨⟨dx,ep⟩,ed,(λe he=>nomatch he),(λe he=>nomatch he),QI,QI⟩
 have J0:=j0 p d H1 sb np fd0 B0
 refine⟨_,rfl,x,rfl,hxl,λl H2 hl2 s2 el=>?_⟩
 rw[hx] at el
 refine⟨l,rfl,⟨_,Av.of el⟩,nA (K:=K) (a:=l) (xs:=Ax ls)
  (λi σ H3=>∃v2 v3 v4:Option V,σ=[some (.str x),some (.ref p),v2,v3,v4]/\J i p d H3/\H3 l=some (.lst (Ax ls)))
  ⟨none,none,none,rfl,jf _ _ _ _ _ J0 s2,el⟩ (λi σ H3 _ ⟨_,_,_,_,_,h⟩=>Av.of h) ?_ ?_⟩
 ·rintro i y σ H3 Tp hy ⟨v2,v3,v4,rfl,Ji,e3⟩ hT
  obtain⟨z,hz,rfl⟩:=El hy
  obtain⟨k1,k2,k3,k4⟩:=hok z (MK hz)
  obtain⟨H4,zz,s4,eT⟩:=lay hT (.tup [.int ((i:Int)+1),.str z])
  rw[zz]
  have J4:=jf _ _ _ _ _ Ji s4
  have e4:=s4 _ _ e3
  refine⟨Tp,_,rfl,Dq.of eT,rfl,_,_,rfl,_,_,rfl,rfl,?_⟩
  refine⟨_,rfl,rfl,_,_,rfl,rfl,by rw[LR];omega,?_⟩
  rw[k1]
  refine⟨_,rfl,rfl,_,rfl,?_⟩
  rw[decide_eq_false (λc=>k2 (V.str.inj c))]
  refine Dk ⟨_,rfl,rfl,_,_,rfl,rfl,?_⟩
  rw[k3]
  refine⟨_,rfl,Dk ?_⟩
  refine⟨_,rfl,_,rfl,_,rfl,_,_,_,rfl,?_⟩
  refine(js i z p d H4 hz J4).mono λv H5 h5 _=>?_
  exact⟨_,_,_,rfl,h5.1,h5.2 _ _ e4⟩
 ·rintro σ H3 ⟨v2,v3,v4,rfl,Ji,e3⟩
  rw[Au] at Ji
  exact⟨_,rfl,q p d H3 Ji⟩
end
theorem yX{l:Str}(h0:0 < (Tx.cs l).length)(h1:(Tx.cs l).getD 0 0≠32)(h2:(Tx.cs l).getD 0 0≠45)(h3:(Tx.cs l).getD ((Tx.cs l).length-1) 0≠32)(h4:l.length<=5000):uD l:=by
 refine⟨?_,λz=>?_,?_,h4⟩
 ·rw[Fw]
  exact Tx.strip_id h0 h1 h3
 ·rw[z] at h0
  revert h0
  decide +kernel
 ·exact Tx.starts_not (c:=45) (by decide +kernel) (by decide +kernel) h2
theorem Ks{x:Str}(o:As x=true)(r:List Nat){c:Nat}(hc:¬ (97<=c/\c<=122)):(Tx.cs x++r).getD 0 0≠c:=by
 have h1:0 < (Tx.cs x).length:=by have:=Tx.len_cs x;have:=(Ay o).1;omega
 rw[Tw h1]
 exact λz=>Dr o hc (z ▸ getD_mem h1)
theorem Qh{c d:Nat}:∀ {ps:List (List Nat)},ps≠[]->(∀p∈ps,0 < p.length/\p.getD (p.length-1) 0≠c)->0 < (jn d ps).length/\(jn d ps).getD ((jn d ps).length-1) 0≠c
 | [],h,_=>absurd rfl h
 | [x],_,h=>h x MD
 | x::y::r,_,h=>by
  obtain⟨i1,i3⟩:=Qh (c:=c) (d:=d) (ps:=y::r) (List.cons_ne_nil _ _) λp hp=>h p (ME _ hp)
  have e:jn d (x::y::r)=x++d::jn d (y::r):=rfl
  have el:(x++d::jn d (y::r)).length=x.length+(1+(jn d (y::r)).length):=by rw[LS,MT];omega
  rw[e]
  refine⟨by omega,?_⟩
  rw[Iq (by omega),el]
  have e2:x.length+(1+(jn d (y::r)).length)-1-x.length=(jn d (y::r)).length-1+1:=by omega
  rw[e2]
  exact i3
theorem iF{y:Str}(o:As y=true):0 < (Tx.cs y).length/\(Tx.cs y).getD ((Tx.cs y).length-1) 0≠32:=by
 have h1:0 < (Tx.cs y).length:=by have:=Tx.len_cs y;have:=(Ay o).1;omega
 exact⟨h1,λz=>Dr o (c:=32) (by decide) (z ▸ getD_mem (by omega))⟩
theorem jP{y:Str}(h:0 < (Tx.cs y).length/\(Tx.cs y).getD ((Tx.cs y).length-1) 0≠32):0 < (" " ++ y:Str).cps.toList.length/\(" " ++ y:Str).cps.toList.getD ((" " ++ y:Str).cps.toList.length-1) 0≠32:=by
 have eb:(" " : Str).cps.toList=[32]:=by decide +kernel
 have e:(" " ++ y:Str).cps.toList=[32]++Tx.cs y:=by rw[Af,eb]
 rw[e,LS]
 have el:([32]:List Nat).length=1:=rfl
 have h1:=h.1
 rw[el]
 refine⟨by omega,?_⟩
 rw[Iq (by rw[el];omega),el]
 have e2:1+(Tx.cs y).length-1-1=(Tx.cs y).length-1:=by omega
 rw[e2]
 exact h.2
theorem FX{x:Str}{el:List Str}(ox:As x=true)(oe:∀y∈el,As y=true)(hl:el.length<=100):uD (wF x el):=by
 have hlen:=Kd ox oe hl
 have k0:As "house" = true:=by decide +kernel
 have hf:∃r,Tx.cs (Str.join ⟨#[32]⟩ (Uh x el))=Tx.cs "house" ++ r:=by
  have e:Tx.cs (Str.join ⟨#[32]⟩ (Uh x el))=jn 32 ((Uh x el).map λl=>l.cps.toList):=Ba 32 _
  rw[e]
  cases el<;>exact⟨_,rfl⟩
 have hw:∃r,Tx.cs (wF x el)=Tx.cs "house" ++ r:=by
  obtain⟨r,hr⟩:=hf
  have e:Tx.cs (wF x el)=jn 44 ((bQ x el).map λl=>l.cps.toList):=by rw[Vd];exact Ba 44 _
  rw[e]
  unfold bQ
  rw[MU]
  generalize (el.tail.map λy:Str=>(" " : Str)++y).map (λl:Str=>l.cps.toList)=tt
  cases tt with
  | nil=>exact⟨r,hr⟩
  | cons b t=>
   refine⟨r++44::jn 44 (b::t),?_⟩
   show Tx.cs (Str.join ⟨#[32]⟩ (Uh x el))++44::jn 44 (b::t)=_
   rw[hr,OA]
 have hb:=Qh (c:=32) (d:=44) (ps:=(bQ x el).map λl=>l.cps.toList) (by intro z;cases z) λp hp=>by
  obtain⟨l,hl,rfl⟩:=ML.mp hp
  rcases LX.mp hl with rfl | hl
  ·have g:=Qh (c:=32) (d:=32) (ps:=(Uh x el).map λl=>l.cps.toList) (by intro z;exact Vr x el (List.map_eq_nil_iff.mp z)) λp hp=>by
    obtain⟨z,hz,rfl⟩:=ML.mp hp
    exact iF (Jw ox oe z hz)
   rw[<- Ba] at g
   exact g
  ·obtain⟨y,hy,rfl⟩:=ML.mp hl
   exact jP (iF (oe y (List.mem_of_mem_tail hy)))
 rw[<- Ba,<- Vd] at hb
 obtain⟨r,hr⟩:=hw
 exact yX hb.1 (by rw[hr];exact Ks k0 r (by decide)) (by rw[hr];exact Ks k0 r (by decide)) hb.2 (by omega)
theorem GV{x y:Str}{ss:Bdy}(ox:As x=true)(oy:As y=true)(W:∀p∈ss,Od p)(hl:ss.length<=30):uD (wK x y ss):=by
 have hlen:=Lm ox oy W hl
 have hc:=hU x y ss
 have hf:∃r,Tx.cs (wK x y ss)=Tx.cs x++r:=by rw[hc,Xg,OA];exact⟨_,rfl⟩
 have h0:0 < (Tx.cs (wK x y ss)).length:=by rw[hc,LS,MT];omega
 have hlast:(Tx.cs (wK x y ss)).getD ((Tx.cs (wK x y ss)).length-1) 0≠32:=by
  rw[hc,LS,MT,Iq (by omega)]
  have e1:(Tx.cs (rY x y)).length+((Tx.cs (bT ss)).length+1)-1-(Tx.cs (rY x y)).length=(Tx.cs (bT ss)).length:=by omega
  rw[e1]
  by_cases hs:ss=[]
  ·have e0:Tx.cs (bT ss)=[]:=by rw[hs];decide +kernel
   rw[e0]
   decide
  ·have eb:bT ss=Str.join ⟨#[59]⟩ ((ss.map wS).map λx => " " ++ x):=by
    unfold bT
    rw[if_neg hs,Qb (by intro z;exact hs (List.map_eq_nil_iff.mp z))]
   have g:=Qh (c:=32) (d:=59) (ps:=((ss.map wS).map λx:Str=>(" " : Str)++x).map λl:Str=>l.cps.toList) (by intro z;exact hs (List.map_eq_nil_iff.mp (List.map_eq_nil_iff.mp (List.map_eq_nil_iff.mp z)))) λp hp=>by
    obtain⟨z,hz,rfl⟩:=ML.mp hp
    obtain⟨u,hu,rfl⟩:=ML.mp hz
    obtain⟨v,hv,rfl⟩:=ML.mp hu
    have k:=jO (W v hv)
    exact jP ⟨k.1,k.2.2⟩
   rw[<- Ba,<- eb] at g
   have g1:0 < (Tx.cs (bT ss)).length:=g.1
   have g2:(Tx.cs (bT ss)).getD ((Tx.cs (bT ss)).length-1) 0≠32:=g.2
   have e2:(Tx.cs (bT ss)).length=(Tx.cs (bT ss)).length-1+1:=by omega
   rw[e2]
   exact g2
 obtain⟨r,hr⟩:=hf
 exact yX h0 (by rw[hr];exact Ks ox r (by decide)) (by rw[hr];exact Ks ox r (by decide)) hlast (by omega)
def DO(L:List (Str×List Str×List (Str×Bdy))):List Str:=L.flatMap λh=>Jn h.1 h.2.1 h.2.2
theorem Pw(ls:List Str):(ends ls).cps.toList=(ls.map λl=>l.cps.toList++[10]).flatten:=by
 show (List.toArray _).toList=_
 rw[List.toList_toArray]
theorem ends_app(a b:List Str):(ends (a++b)).cps.toList=(ends a).cps.toList++(ends b).cps.toList:=by
 rw[Pw,Pw,Pw,LW,List.flatten_append]
theorem Um(xss:List (List Str)):Str.join Str.empty (xss.map ends)=ends xss.flatten:=by
 refine str_ext ?_
 rw[zK]
 induction xss with
 | nil=>rfl
 | cons a r ih=>
  rw[List.flatten_cons,ends_app,<- ih]
  rfl
theorem wB{x:Str}{el:List Str}(ox:As x=true)(oe:∀y∈el,As y=true):10∉(wF x el).cps.toList:=by
 rw[Vd,Ba]
 refine iA (by decide) _ λq hq=>?_
 obtain⟨l,hl,rfl⟩:=ML.mp hq
 rcases LX.mp hl with rfl | hl
 ·exact cO (Jw ox oe) (by decide) (by decide)
 ·obtain⟨y,hy,rfl⟩:=ML.mp hl
  intro z
  rw[Af] at z
  rcases MJ.mp z with z | z
  ·revert z;decide +kernel
  ·exact Dr (oe y (List.mem_of_mem_tail hy)) (by decide) z
theorem wU{x y:Str}{ss:Bdy}(ox:As x=true)(oy:As y=true)(W:∀p∈ss,Od p):10∉(wK x y ss).cps.toList:=by
 have hc:(wK x y ss).cps.toList=_:=hU x y ss
 rw[hc]
 intro z
 rcases MJ.mp z with z | z
 ·exact sI ox oy (by decide) (by decide) z
 rcases LX.mp z with z | z
 ·cases z
 revert z
 show 10∉(bT ss).cps.toList
 by_cases hs:ss=[]
 ·rw[hs]
  decide +kernel
 ·have eb:bT ss=Str.join ⟨#[59]⟩ ((ss.map wS).map λx:Str=>(" " : Str)++x):=by
   unfold bT
   rw[if_neg hs,Qb (by intro z;exact hs (List.map_eq_nil_iff.mp z))]
  rw[eb,Ba]
  refine iA (by decide) _ λq hq=>?_
  obtain⟨u,hu,rfl⟩:=ML.mp hq
  obtain⟨v,hv,rfl⟩:=ML.mp hu
  obtain⟨p,hp,rfl⟩:=ML.mp hv
  intro z
  rw[Af] at z
  rcases MJ.mp z with z | z
  ·revert z;decide +kernel
  ·exact zA (W p hp) (by decide) (by decide) (by decide) (by decide) z
structure II(h:Str×List Str×List (Str×Bdy)):Prop where
 nm:As h.1=true
 el:∀y∈h.2.1,As y=true
 le:h.2.1.length<=100
 bd:∀r∈h.2.2,As r.1=true/\(∀p∈r.2,Od p)/\r.2.length<=30
theorem pH{L:List (Str×List Str×List (Str×Bdy))}(h:∀x∈L,II x):∀l∈DO L,uD l/\10∉l.cps.toList:=by
 intro l hl
 obtain⟨x,hx,hl⟩:=List.mem_flatMap.mp hl
 have X:=h x hx
 rcases LX.mp hl with rfl | hl
 ·exact⟨FX X.nm X.el X.le,wB X.nm X.el⟩
 ·obtain⟨r,hr,rfl⟩:=ML.mp hl
  obtain⟨a,b,c⟩:=X.bd r hr
  exact⟨GV X.nm a b c,wU X.nm a b⟩
theorem mQ{L:List (Str×List Str×List (Str×Bdy))}(h:∀x∈L,II x):linesOf (Str.join Str.empty (L.map λx=>ends (Jn x.1 x.2.1 x.2.2)))=DO L:=by
 have e:(L.map λx=>ends (Jn x.1 x.2.1 x.2.2))=(L.map λx=>Jn x.1 x.2.1 x.2.2).map ends:=by rw[List.map_map];rfl
 rw[e,Um]
 show linesOf (ends (DO L))=DO L
 exact Wv λl hl=>(pH h l hl).2
def EG(H H':Hp)(ba:LZ):Prop:=∀b o,H b=some o->b≠ba->H' b=some o
theorem Ee{α β:Type}{f:α->β}{L:List α}{a:Nat}{e e':α}(h:L[a]? = some e)(he:f e'=f e):(L.set a e').map f=L.map f:=by
 refine List.ext_getElem? λj=>?_
 rw[MX,MX]
 by_cases hj:a=j
 ·subst hj
  rw[QC (LM.mp h).1,h]
  show some (f e')=some (f e)
  rw[he]
 ·rw[QB hj]
theorem Vm{α:Type}{L:List α}{a j:Nat}{e b:α}(ha:a < L.length)(h:(L.set a e)[j]? = some b):(j=a/\b=e)∨(j≠a/\L[j]? = some b):=by
 by_cases hj:a=j
 ·subst hj
  rw[QC ha] at h
  exact .inl ⟨rfl,(MZ h).symm⟩
 ·rw[QB hj] at h
  exact .inr ⟨NT hj,h⟩
theorem Bc.putBd{CB CH:LZ}{H H':Hp}{p d:LZ}{L:List Ent}{a:Nat}{e:Ent}{bd:List (Key×V)}(B:Bc CB CH H p d L)(he:L[a]? = some e)(k:EG H H' e.ba)(hb:H' e.ba=some (.dK bd)):Bc CB CH H' p d (L.set a { e with bd:=bd }):=by
 have hem:=MK he
 have hal:a < L.length:=(LM.mp he).1
 have E:=B.en e hem
 obtain⟨dx,hp⟩:=B.ob
 have kd:∀b o,H b=some o->(∀z,o ≠ .dK z)->H' b=some o:=λb o h hn=>k b o h (Ei h E.bd (hn _))
 have ed:kU (L.set a { e with bd:=bd })=kU L:=Ee he rfl
 refine⟨⟨dx,kd _ _ hp (by intro _ z;cases z)⟩,?_,λx hx=>?_,λx hx=>?_,?_,?_⟩
 ·rw[ed]
  exact k _ _ B.dc (NT (B.nb e hem))
 ·obtain⟨j,hj⟩:=NX hx
  rcases Vm hal hj with ⟨rfl,rfl⟩ | ⟨hne,hj'⟩
  ·exact⟨kd _ _ E.ob (by intro _ z;cases z),kd _ _ E.el (by intro _ z;cases z),kd _ _ E.od (by intro _ z;cases z),hb⟩
  ·have hx':=MK hj'
   have A:=B.en x hx'
   have nb:x.ba≠e.ba:=λz=>by
    have hx1:(L.map (·.ba))[j]? = some x.ba:=by rw[MX,hj'];rfl
    have hx2:(L.map (·.ba))[a]? = some e.ba:=by rw[MX,he];rfl
    rw[z] at hx1
    have l1:j < (L.map (·.ba)).length:=(LM.mp hx1).1
    exact hne ((List.getElem?_inj l1 B.nn).mp (hx1.trans hx2.symm))
   exact⟨kd _ _ A.ob (by intro _ z;cases z),kd _ _ A.el (by intro _ z;cases z),kd _ _ A.od (by intro _ z;cases z),k _ _ A.bd nb⟩
 ·obtain⟨j,hj⟩:=NX hx
  rcases Vm hal hj with ⟨rfl,rfl⟩ | ⟨hne,hj'⟩
  ·exact B.nb e hem
  ·exact B.nb x (MK hj')
 ·rw[Ee (f:=λx:Ent=>x.nm) (e':={ e with bd:=bd }) he rfl]
  exact B.nd
 ·rw[Ee (f:=λx:Ent=>x.ba) (e':={ e with bd:=bd }) he rfl]
  exact B.nn
theorem FA{L:List Ent}(nd:(L.map (·.nm)).Nodup){i j:Nat}{e e':Ent}(h:L[i]? = some e)(h':L[j]? = some e')(hne:j≠i):e'.nm≠e.nm:=λz=>by
 have a1:(L.map (·.nm))[j]? = some e'.nm:=by rw[MX,h'];rfl
 have a2:(L.map (·.nm))[i]? = some e.nm:=by rw[MX,h];rfl
 rw[z] at a1
 exact hne ((List.getElem?_inj (LM.mp a1).1 nd).mp (a1.trans a2.symm))
def Iz{α:Type}(y:Str)(b:α)(p:Str×α):Str×α:=if p.1=y then (y,b) else p
def Xv{α:Type}(y:Str)(W:List (Str×α)):Bool:=W.any λp=>decide (p.1=y)
def Ng{α:Type}(W:List (Str×α))(y:Str)(b:α):List (Str×α):=W.map (Iz y b)++if Xv y W=true then [] else [(y,b)]
theorem wC{α:Type}(y:Str)(b:α)(p:Str×α):(Iz y b p).1=p.1:=by
 unfold Iz
 split
 ·next h=>exact h.symm
 ·rfl
theorem Hn{α:Type}(y:Str)(W:List (Str×α)):Xv y W=decide (y∈W.map (·.1)):=by
 unfold Xv
 by_cases h:y∈W.map (·.1)
 ·rw[decide_eq_true h,TR]
  obtain⟨p,hp,e⟩:=ML.mp h
  exact⟨p,hp,decide_eq_true e⟩
 ·rw[decide_eq_false h,UK]
  exact λp hp z=>h (ML.mpr ⟨p,hp,of_decide_eq_true z⟩)
theorem sJ{α:Type}(W:List (Str×α))(y:Str)(b:α):(Ng W y b).map (·.1)=W.map (·.1)++if y∈W.map (·.1) then [] else [y]:=by
 unfold Ng
 rw[LW,List.map_map,Hn]
 have e:((λp:Str×α=>p.1) ∘ Iz y b)=λp=>p.1:=funext λp=>wC y b p
 rw[e]
 by_cases h:y∈W.map (·.1)
 ·rw[decide_eq_true h,if_pos rfl,if_pos h]
  rfl
 ·rw[decide_eq_false h,if_neg LY,if_neg h]
  rfl
theorem Wc(W:List (Str×LZ))(y:Str)(la:LZ):putK (Gi W) (MY y:Key) (.ref la)=Gi (Ng W y la):=by
 have ha:((Gi W).any λkv=>decide (kv.1=(MY y:Key)))=Xv y W:=by
  unfold Gi Xv
  rw[List.any_map]
  refine congrArg (λg=>W.any g) (funext λp=>?_)
  show decide ((MY p.1:Key)=MY y)=decide (p.1=y)
  exact oQ _ _
 unfold putK
 rw[ha]
 unfold Ng
 by_cases h:Xv y W=true
 ·rw[if_pos h,if_pos h,NL]
  unfold Gi
  rw[List.map_map,List.map_map]
  refine List.map_congr_left λp _=>?_
  show (if (MY p.1:Key)=MY y then ((MY p.1:Key),V.ref la) else ((MY p.1:Key),V.ref p.2))=((MY (Iz y la p).1:Key),V.ref (Iz y la p).2)
  unfold Iz
  by_cases e:p.1=y
  ·rw[if_pos (by rw[e]),if_pos e,e]
  ·rw[if_neg (λz=>e (MY.inj z)),if_neg e]
 ·rw[if_neg h,if_neg h]
  have e:W.map (Iz y la)=W:=by
   rw[Hn] at h
   have h':y∉W.map (·.1):=λz=>h (decide_eq_true z)
   conv=>rhs;rw[<- List.map_id W]
   refine List.map_congr_left λp hp=>?_
   show Iz y la p=p
   unfold Iz
   exact if_neg λz=>h' (ML.mpr ⟨p,hp,z⟩)
  rw[e]
  unfold Gi
  rw[LW]
  rfl
theorem qU(W:List (Str×LZ))(y:Str):Hc (Gi W) (MY y:Key)=Gi (W.filter λp=>!decide (p.1=y)):=by
 unfold Hc Gi
 rw[List.filter_map]
 refine congrArg (List.map _) (List.filter_congr λp _=>?_)
 have:((MY p.1:Key)=MY y) ↔ p.1=y:=⟨MY.inj,λz=>congrArg _ z⟩
 simp[this]
theorem mV{α:Type}{W:List (Str×α)}(y:Str)(b:α)(h:(W.map (·.1)).Nodup):((Ng W y b).map (·.1)).Nodup:=by
 rw[sJ]
 split
 ·rw[NL];exact h
 ·next hy=>
  rw[PQ]
  exact⟨h,by simp,λa ha c hc=>by rw[MA] at hc;subst hc;exact λz=>hy (z ▸ ha)⟩
theorem Gw{α β:Type}{F:α->β->Prop}{xs:List α}{ys:List β}{xs':List α}{ys':List β}(h:OJ F xs ys)(h':OJ F xs' ys'):OJ F (xs++xs') (ys++ys'):=by
 induction h with
 | nil=>exact h'
 | cons r t ih=>exact .cons r ih
theorem Yb{α β γ δ:Type}{F:α->β->Prop}{G:γ->δ->Prop}{f:α->γ}{g:β->δ}{xs:List α}{ys:List β}(h:OJ F xs ys)(k:∀a b,F a b->G (f a) (g b)):OJ G (xs.map f) (ys.map g):=by
 induction h with
 | nil=>exact .nil
 | cons r t ih=>exact .cons (k _ _ r) ih
theorem Oy{α β:Type}{F:α->β->Prop}{p:α->Bool}{q:β->Bool}{xs:List α}{ys:List β}(h:OJ F xs ys)(k:∀a b,F a b->p a=q b):OJ F (xs.filter p) (ys.filter q):=by
 induction h with
 | nil=>exact .nil
 | @cons a b xs ys r t ih=>
  have e:=k _ _ r
  cases hq:q b with
  | true=>rw[OU (e.trans hq),OU hq];exact .cons r ih
  | false=>
   rw[PR (by rw[e,hq];exact LY),PR (by rw[hq];exact LY)]
   exact ih
theorem lE{α β:Type}{F:α->β->Prop}{xs:List α}{ys:List β}{b:β}:∀ {zs:List α},OJ F zs (ys++[b])->∃as a,zs=as++[a]/\OJ F as ys/\F a b:=by
 induction ys with
 | nil=>
  intro zs h
  cases h with
  | cons r t=>
   cases t
   exact⟨[],_,rfl,.nil,r⟩
 | cons y ys ih=>
  intro zs h
  cases h with
  | cons r t=>
   obtain⟨as,a,rfl,h1,h2⟩:=ih t
   exact⟨_::as,a,rfl,.cons r h1,h2⟩
def Gm(H H':Hp):Prop:=∀b o,H b=some o->((∃xs,o=.lst xs) ∨ ∃xs,o=.tup xs)->H' b=some o
theorem Gm.of_same{H H':Hp}(s:Ak H H'):Gm H H':=λb o h _=>s b o h
theorem Gm.of_keep{H H':Hp}{ba:LZ}{kv:List (Key×V)}(k:∀b o,H b=some o->b≠ba->H' b=some o)(hb:H ba=some (.dK kv)):Gm H H':=λb o h z=>k b o h (Ei h hb (by rcases z with ⟨xs,rfl⟩ | ⟨xs,rfl⟩<;>intro y<;>cases y))
theorem Gm.trans{H H' H'':Hp}(a:Gm H H')(b:Gm H' H''):Gm H H'':=λx o h z=>b x o (a x o h z) z
theorem Gm.lst{H H':Hp}(k:Gm H H'){b:LZ}{xs:List V}(h:H b=some (.lst xs)):H' b=some (.lst xs):=k _ _ h (.inl ⟨_,rfl⟩)
theorem Gm.tup{H H':Hp}(k:Gm H H'){b:LZ}{xs:List V}(h:H b=some (.tup xs)):H' b=some (.tup xs):=k _ _ h (.inr ⟨_,rfl⟩)
theorem Pq.keep{H H':Hp}(k:Gm H H'){q:Str×LZ}{r:Str×Bdy}(h:Pq H q r):Pq H' q r:=let ⟨a,b,ts,c,d,e⟩:=h;⟨a,b,ts,k.lst c,⟨d.1,λi t p x y=>k.tup (d.2 i t p x y)⟩,e⟩
theorem bZ.keep{H H':Hp}(k:Gm H H'){e:Ent}{bs:List (Str×Bdy)}(h:bZ H e bs):bZ H' e bs:=⟨let ⟨W,a,b,c⟩:=h.w;⟨W,a,Paired.mapP b λ_ _ z=>z.keep k,c⟩,h.nm,h.el,h.le⟩
theorem Qa{H:Hp}{W:List (Str×LZ)}{bs:List (Str×Bdy)}(h:OJ (Pq H) W bs):W.map (·.1)=bs.map (·.1):=by
 induction h with
 | nil=>rfl
 | cons r t ih=>rw[MU,MU,ih,r.1]
theorem sU{H:Hp}{y:Str}{la:LZ}{b:Bdy}{W:List (Str×LZ)}{bs:List (Str×Bdy)}(h:OJ (Pq H) W bs)(hb:Pq H (y,la) (y,b)):OJ (Pq H) (Ng W y la) (Ng bs y b):=by
 have hk:=Qa h
 unfold Ng
 rw[Hn,Hn,hk]
 refine Gw (Yb h λp q r=>?_) ?_
 ·unfold Iz
  by_cases hy:p.1=y
  ·rw[if_pos hy,if_pos (r.1 ▸ hy)]
   exact hb
  ·rw[if_neg hy,if_neg (r.1 ▸ hy)]
   exact r
 ·split
  ·exact .nil
  ·exact .cons hb .nil
def sk(e:Ent):Str×List Str×List Str:=(e.nm,e.el,e.od)
abbrev FW:=List (Str×List Str×List Str)
def KA(T:FW)(y:Str):List Str:=((T.find? λt=>decide (t.1=y)).map (·.2.2)).getD []
theorem uV(L:List Ent)(y:Str):aW L y=KA (L.map sk) y:=by
 unfold aW KA Hm
 rw[List.find?_map,Option.map_map]
 rfl
def Ka(T:FW)(el:List Str):List (List Str):=el.map (KA T)++[el]
theorem Ed(L:List Ent)(el:List Str):rowsOf L el=Ka (L.map sk) el:=by
 unfold rowsOf Ka
 rw[List.map_congr_left λy _=>uV L y]
structure Xs(T:FW)(t:Str×List Str×List Str)(n:Nat):Prop where
 nm:As t.1=true
 new:t.1∉T.map (·.1)
 els:∀y∈t.2.1,y∈T.map (·.1)
 oe:∀y∈t.2.1,As y=true
 nd:t.2.1.Nodup
 ell:t.2.1.length<=60
 ll:T.length<=60
 tot:tot (Ka T t.2.1)<=900
 run:∀r∈(Di n (Ka T t.2.1)).2,r=[]
 jl:(Di n (Ka T t.2.1)).1.length<=900
 od:t.2.2=t.1::(Di n (Ka T t.2.1)).1
def zN(T:FW):Prop:=∀a t b,T=a++t::b->∃n,Xs a t n
theorem zN.nil:zN []:=λa t b h=>by
 have:=congrArg List.length h
 simp at this
theorem zN.snoc{T:FW}{t:Str×List Str×List Str}{n:Nat}(h:zN T)(c:Xs T t n):zN (T++[t]):=by
 intro a u b e
 rcases List.eq_nil_or_concat b with rfl | ⟨b',v,rfl⟩
 ·obtain⟨rfl,e2⟩:=List.append_inj' e rfl
  cases e2
  exact⟨n,c⟩
 ·have e':T++[t]=(a++u::b')++[v]:=by rw[e];simp
  exact h a u b' (List.append_inj' e' rfl).1
theorem BM{L:List Ent}{y:Str}(h:y∈(L.map sk).map (·.1)):∃e,Hm L y=some e:=by
 cases q:Hm L y with
 | some e=>exact⟨e,rfl⟩
 | none=>
  rw[List.map_map] at h
  obtain⟨e,he,rfl⟩:=ML.mp h
  have:=List.find?_eq_none.mp q e he
  exact absurd (show decide (e.nm=(sk e).1)=true from decide_eq_true rfl) this
theorem mU{L:List Ent}{y:Str}(h:y∉(L.map sk).map (·.1)):Hm L y=none:=Yg λe he z=>h (by rw[List.map_map];exact ML.mpr ⟨e,he,z⟩)
theorem Xs.can{CB CH:LZ}{H:Hp}{p d:LZ}{L:List Ent}{t:Str×List Str×List Str}{n:Nat}(B:Bc CB CH H p d L)(c:Xs (L.map sk) t n):Fo CB CH H p d L t.1 t.2.1 n:=
 ⟨B,c.nm,by rw[LR];have:=(Ay c.nm).2;omega,mU c.new,λy hy=>BM (c.els y hy),c.nd,c.ell,by have:=c.ll;rw[LN] at this;omega,by rw[Ed];exact c.tot,by rw[Ed];exact c.run,by rw[Ed];exact c.jl⟩
abbrev cL:=(Str×List Str×List Str)×List (Str×Bdy)
def hLn(h:cL):List Str:=Jn h.1.1 h.1.2.1 h.2
def Nv(D:List cL):List Str:=D.flatMap hLn
theorem tP(D:List cL):Nv D=DO (D.map λh=>(h.1.1,h.1.2.1,h.2)):=by
 unfold Nv DO
 rw[List.flatMap_map]
 rfl
structure yE(CB CH:LZ)(H:Hp)(p d:LZ)(D:List cL)(L:List Ent):Prop where
 bk:Bc CB CH H p d L
 sk:L.map sk=D.map (·.1)
 en:OJ (bZ H) L (D.map (·.2))
structure zF(ks:List (Str×LZ×List Str))(r:Str×Bdy):Prop where
 nm:As r.1=true
 wf:∀p∈r.2,Od p
 gs:Hq ks r.2
theorem yE.same{CB CH:LZ}{H H':Hp}{p d:LZ}{D:List cL}{L:List Ent}(R:yE CB CH H p d D L)(s:Ak H H'):yE CB CH H' p d D L:=⟨R.bk.same s,R.sk,Paired.mapP R.en λ_ _ z=>z.same s⟩
section
variable {CB CH:LZ} {ks:List (Str×LZ×List Str)}
structure DB(CB CH:LZ)(H0 H:Hp)(p d:LZ)(D:List cL)(L:List Ent):Prop where
 rd:yE CB CH H p d D L
 sm:Ak H0 H
 fd:H0 d=none
 fb:∀e∈L,H0 e.ba=none
theorem Zo{H0 H:Hp}{p d:LZ}{D:List cL}{L:List Ent}{t:Str×List Str×List Str}{n:Nat}(S:DB CB CH H0 H p d D L)(c:Xs (D.map (·.1)) t n):
 Dh CB CH ks [.ref p,.str (wF t.1 t.2.1)] H (λ_ H'=>(∃L',DB CB CH H0 H' p d (D++[(t,[])]) L')/\∀b xs,H b=some (.lst xs)->H' b=some (.lst xs)) E0:=by
 have R:=S.rd
 have c':=c
 rw[<- R.sk] at c'
 refine .inr ⟨p,d,L,t.1,t.2.1,n,rfl,c'.can R.bk,c.oe,λe H' hn B' k=>?_⟩
 have kp:Gm H H':=Gm.of_keep k R.bk.dc
 obtain⟨n1,n2,n3,n4,n5⟩:=hn
 refine⟨⟨L++[e],⟨B',?_,?_⟩,λb o h=>k _ _ (S.sm _ _ h) (Ah h S.fd),S.fd,λe' he'=>?_⟩,λb xs h=>kp.lst h⟩
 ·rw[LW,LW,R.sk]
  refine congrArg (_++[·]) ?_
  show (e.nm,e.el,e.od)=t
  rw[n1,n2,n3,Ed,<- c'.od]
 ·rw[LW]
  refine Gw (Paired.mapP R.en λ_ _ z=>z.keep kp) (.cons ⟨⟨[],n4,.nil,QI,NI _⟩,by rw[n1];exact c.nm,by rw[n2];exact c.oe,by rw[n2];have:=c.ell;omega⟩ .nil)
 ·rcases MJ.mp he' with z | z
  ·exact S.fb e' z
  ·rw[MA.mp z]
   exact S.sm.free n5.ba
theorem uB{H0 H:Hp}{p d:LZ}{A:List cL}{t:Str×List Str×List Str}{ws:List (Str×Bdy)}{L:List Ent}{r:Str×Bdy}(S:DB CB CH H0 H p d (A++[(t,ws)]) L)(ok:zF ks r)(nw:r.1∉ws.map (·.1))(hl:ws.length < 60):
 Dh CB CH ks [.ref p,.str (wK t.1 r.1 r.2)] H (λ_ H'=>(∃L',DB CB CH H0 H' p d (A++[(t,ws++[r])]) L')/\∀b xs,H b=some (.lst xs)->H' b=some (.lst xs)) E0:=by
 have R:=S.rd
 have hs:=R.sk
 have he:=R.en
 rw[LW] at hs he
 obtain⟨LA,e,rfl,hA,hE⟩:=lE (xs:=L) (b:=ws) he
 rw[LW] at hs
 obtain⟨hs1,hs2⟩:=List.append_inj' hs rfl
 have es:Bk.sk e=t:=List.singleton_inj.mp hs2
 have en:e.nm=t.1:=by rw[<- es];rfl
 have hem:e∈LA++[e]:=MP _ (MA.mpr rfl)
 have fe:Hm (LA++[e]) t.1=some e:=by rw[<- en];exact Lc R.bk.nd hem
 obtain⟨W,eW,PW,ndW,hW⟩:=hE.w
 have hk:W.map (·.1)=ws.map (·.1):=Qa PW
 have hWl:W.length=ws.length:=OF PW
 have onm:As t.1=true:=by rw[<- en];exact hE.nm
 refine .inl ⟨p,d,LA++[e],t.1,r.1,e,r.2,rfl,R.bk,fe,onm,ok.nm,ok.wf,ok.gs,by rw[eW,Ke];omega,λla ts H' h1 h2 h3 h4 k=>?_⟩
 have E:=R.bk.en e hem
 have kp:Gm H H':=Gm.of_keep k E.bd
 have hg:(LA++[e])[LA.length]? = some e:=NK
 have B':=R.bk.putBd hg k h4
 have eset:(LA++[e]).set LA.length { e with bd:=putK e.bd (MY r.1:Key) (.ref la) }=LA++[{ e with bd:=putK e.bd (MY r.1:Key) (.ref la) }]:=by
  rw[List.set_append_right _ _ (MC _),Nat.sub_self]
  rfl
 rw[eset] at B'
 have fbe:=S.fb e hem
 refine⟨⟨_,⟨B',?_,?_⟩,λb o h=>k _ _ (S.sm _ _ h) (Ah h fbe),S.fd,λe' he'=>?_⟩,λb xs h=>kp.lst h⟩
 rotate_left 2
 ·rcases MJ.mp he' with z | z
  ·exact S.fb e' (QA _ z)
  ·rw[MA.mp z]
   exact fbe
 ·rw[LW,LW,<- hs1]
  refine congrArg (_++[·]) ?_
  exact es
 ·rw[LW]
  refine Gw (Paired.mapP hA λ_ _ z=>z.keep kp) (.cons ?_ .nil)
  have hkn:r.1∉W.map (·.1):=by rw[hk];exact nw
  refine⟨⟨W++[(r.1,la)],?_,?_,?_,?_⟩,hE.nm,hE.el,hE.le⟩
  ·show putK e.bd (MY r.1:Key) (.ref la)=_
   rw[eW,Wc]
   unfold Ng
   rw[Hn,decide_eq_false hkn,if_neg LY]
   refine congrArg (λz=>Gi (z++_)) ?_
   conv=>rhs;rw[<- List.map_id W]
   refine List.map_congr_left λq hq=>?_
   show Iz r.1 la q=q
   unfold Iz
   exact if_neg λz=>hkn (ML.mpr ⟨q,hq,z⟩)
  ·exact Gw (Paired.mapP PW λ_ _ z=>z.keep kp) (.cons ⟨rfl,ok.nm,ts,h2,h3,ok.wf,ok.gs.1⟩ .nil)
  ·rw[LW,PQ]
   exact⟨ndW,by simp,λa ha b hb=>by rw[show b=r.1 by simpa using hb];exact λz=>hkn (z ▸ ha)⟩
  ·rw[LS,MR]
   omega
structure iT(ks:List (Str×LZ×List Str))(hs:List cL):Prop where
 re:zN (hs.map (·.1))
 bd:∀h∈hs,(∀r∈h.2,zF ks r)/\(h.2.map (·.1)).Nodup/\h.2.length<=60
theorem iT.tx{hs:List cL}(h:iT ks hs):∀x∈hs.map λh=>(h.1.1,h.1.2.1,h.2),II x:=by
 intro x hx
 obtain⟨y,hy,rfl⟩:=ML.mp hx
 obtain⟨a,b,e⟩:=List.append_of_mem hy
 obtain⟨n,c⟩:=h.re (a.map (·.1)) y.1 (b.map (·.1)) (by rw[e,LW];rfl)
 have hb:=h.bd y hy
 exact⟨c.nm,c.oe,by have:=c.ell;show y.1.2.1.length<=100;omega,λr hr=>⟨(hb.1 r hr).nm,(hb.1 r hr).wf,(hb.1 r hr).gs.1⟩⟩
def Pre(hs D:List cL):Prop:=D=[] ∨ ∃a t ws us b,hs=a++(t,ws++us)::b/\D=a++[(t,ws)]
theorem Ik(a b:List cL):Nv (a++b)=Nv a++Nv b:=List.flatMap_append
theorem Xa(t:Str×List Str×List Str)(ws us:List (Str×Bdy)):hLn (t,ws++us)=hLn (t,ws)++us.map λr=>wK t.1 r.1 r.2:=by
 show wF t.1 t.2.1::(ws++us).map (λr=>wK t.1 r.1 r.2)=(wF t.1 t.2.1::ws.map λr=>wK t.1 r.1 r.2)++us.map λr=>wK t.1 r.1 r.2
 rw[LW]
 rfl
theorem jH(h:cL):1<=(hLn h).length:=by
 show 1<=(_::_:List Str).length
 rw[MT]
 omega
theorem xA{H:Hp}{x:Str}{hs:List cL}{Q:VK}{E:XK}(ok:iT ks hs)(hx:x=Str.join Str.empty (hs.map λh=>ends (hLn h)))(hxl:x.length<=8000000)(q:∀p d L H',DB CB CH H H' p d hs L->Q (.ref p) H'):Vw CB CH ks [.str x] H Q E:=by
 have hlin:linesOf x=Nv hs:=by
  rw[tP,<- mQ ok.tx,hx,List.map_map]
  rfl
 refine⟨x,Nv hs,λi p d H'=>∃D L,DB CB CH H H' p d D L/\Pre hs D/\(Nv D).length=i,rfl,hlin,hxl,λl hl=>?_,λp d H' s _ hd B=>?_,λi p d H1 H2 h s=>?_,λi l p d H1 hl h=>?_,λp d H' h=>?_⟩
 ·rw[tP] at hl
  exact(pH ok.tx l hl).1
 ·exact⟨[],[],⟨⟨B,rfl,.nil⟩,s,hd,λe he=>nomatch he⟩,.inl rfl,rfl⟩
 ·obtain⟨D,L,R,a,b⟩:=h
  exact⟨D,L,⟨R.rd.same s,R.sm.trans s,R.fd,R.fb⟩,a,b⟩
 ·obtain⟨D,L,R,hp,hi⟩:=h
  rcases hp with rfl | ⟨a,t,ws,us,b,rfl,rfl⟩
  ·cases hi
   cases hs with
   | nil=>exact nomatch hl
   | cons h b=>
    obtain⟨⟨y,z⟩,ws⟩:=h
    have el:l=wF y z.1:=(MZ hl).symm
    subst el
    obtain⟨n,c⟩:=ok.re [] (y,z) (b.map (·.1)) rfl
    refine(Zo R c).mono λv H2 h2=>⟨?_,h2.2⟩
    obtain⟨L',R'⟩:=h2.1
    exact⟨_,L',R',.inr ⟨[],(y,z),[],ws,b,rfl,rfl⟩,rfl⟩
  ·have e1:Nv (a++(t,ws++us)::b)=Nv (a++[(t,ws)])++(us.map (λr=>wK t.1 r.1 r.2)++Nv b):=by
    have e2:Nv ((t,ws++us)::b)=hLn (t,ws++us)++Nv b:=rfl
    have e3:Nv [(t,ws)]=hLn (t,ws):=NL _
    rw[Ik,Ik,e2,e3,Xa,OA,OA]
   rw[e1,<- hi,OG (MC _),Nat.sub_self] at hl
   have hbt:=ok.bd (t,ws++us) (MP _ MD)
   cases us with
   | cons u us=>
    have el:l=wK t.1 u.1 u.2:=(MZ hl).symm
    subst el
    have hu:u∈ws++u::us:=MP _ MD
    have hnd:=hbt.2.1
    have hlen:(ws++u::us).length<=60:=hbt.2.2
    rw[LS,MT] at hlen
    rw[LW,MU,PQ] at hnd
    refine(uB R (hbt.1 u hu) (λz=>hnd.2.2 _ z _ MD rfl) (by omega)).mono λv H2 h2=>⟨?_,h2.2⟩
    obtain⟨L',R'⟩:=h2.1
    refine⟨_,L',R',.inr ⟨a,t,ws++[u],us,b,by rw[OA];rfl,rfl⟩,?_⟩
    rw[Ik,LS,show Nv [(t,ws++[u])]=hLn (t,ws++[u]) from NL _,Xa,LS,<- hi,Ik,LS,show Nv [(t,ws)]=hLn (t,ws) from NL _]
    show _+(_+1)=_
    omega
   | nil=>
    rw[NL] at *
    cases b with
    | nil=>exact nomatch hl
    | cons h b=>
     obtain⟨⟨y,z⟩,vs⟩:=h
     have el:l=wF y z.1:=(MZ hl).symm
     subst el
     obtain⟨n,c⟩:=ok.re ((a++[(t,ws)]).map (·.1)) (y,z) (b.map (·.1)) (by rw[LW,LW,OA];rfl)
     refine(Zo R c).mono λv H2 h2=>⟨?_,h2.2⟩
     obtain⟨L',R'⟩:=h2.1
     refine⟨_,L',R',.inr ⟨a++[(t,ws)],(y,z),[],vs,b,by rw[OA];rfl,rfl⟩,?_⟩
     rw[Ik (a++[(t,ws)]),LS,hi]
     rfl
 ·obtain⟨D,L,R,hp,hi⟩:=h
  rcases hp with rfl | ⟨a,t,ws,us,b,rfl,rfl⟩
  ·cases hs with
   | nil=>exact q p d L H' R
   | cons h b=>
    have e2:Nv (h::b)=hLn h++Nv b:=rfl
    rw[e2,LS] at hi
    have:=jH h
    have h0:(Nv []).length=0:=rfl
    omega
  ·have e1:Nv (a++(t,ws++us)::b)=Nv (a++[(t,ws)])++(us.map (λr=>wK t.1 r.1 r.2)++Nv b):=by
    have e2:Nv ((t,ws++us)::b)=hLn (t,ws++us)++Nv b:=rfl
    have e3:Nv [(t,ws)]=hLn (t,ws):=NL _
    rw[Ik,Ik,e2,e3,Xa,OA,OA]
   rw[e1,LS,LS,LN] at hi
   have hu:us=[]:=List.length_eq_zero_iff.mp (by omega)
   have hb:b=[]:=by
    cases b with
    | nil=>rfl
    | cons h b=>
     have e2:Nv (h::b)=hLn h++Nv b:=rfl
     rw[e2,LS] at hi
     have:=jH h
     omega
   subst hu hb
   rw[NL] at *
   exact q p d L H' R
end
def Ll:Sp:=λvs H Q _=>∃(t:LZ)(p:Str×List V),vs=[.ref t]/\H t=some (.tup (.str p.1::p.2))/\Od p/\(p.1 ≠ "try" -> p.2.length<=1)/\Q (.str (wS p)) H
section
variable {P:MV} {w:NU} {K:LO} {mg:Str->Option LP} {base:OS} {f:LZ} {fd:NP}
theorem gW:Al ["_law_step"] ["_law_step"] (Ac Om):=Fm (by decide +kernel)
theorem aT(F:Dx K "_law_step_text" "_law_step_text" Om f fd)(T:Txt mg):Aj P w K mg base Bj 1 f fd ["_law_step"] Ll:=by
 refine F.ok gW (λvs H Q E h=>?_) (λcdv A outer s H vs Q E hr h=>?_)
 ·obtain⟨t,p,rfl,_⟩:=h
  rfl
 obtain⟨t,p,rfl,ht,W,h1,q⟩:=h
 refine⟨_,Ab (Bh (Ao Cf (Az Df (pv 0) Ae (λ_ _=>rfl)) Aq (Aw _)) (Ag (Ap (Am Bf (Am Bf (Am Bf Aq (Az Df (pv 0) Ae (λ_ _=>rfl))) Aq) (Az Df (pv 0) Ae (λ_ _=>rfl))))) Ar)
  (Ab (Bh (Ao Cf (Ep T.len (pv 0)) Ae (Aw _)) (Ag (Ap (Az Df (pv 0) Ae (λ_ _=>rfl)))) Ar)
  (Ag (Ap (Am Bf (Am Bf (Az Df (pv 0) Ae (λ_ _=>rfl)) Aq) (Bo Pa rfl T.str PyProof.Rows.boot_str (Bw (Az Df (pv 0) Ae (λ_ _=>rfl)))))))),?_⟩
 refine⟨_,rfl,t,_,_,_,rfl,rfl,Dq.of ht,at0 _ _,rfl,_,rfl,Cr (λc=>?_) (λc=>?_)⟩
 ·have c:p.1 = "try" := Vp c
  obtain⟨a,b,e⟩:=W.tr c
  have oa:=Fl (W.ps (.str a) (by rw[e];simp))
  have ob:=Fl (W.ps (.str b) (by rw[e];simp))
  have oa:a.length<=33:=oa
  have ob:b.length<=33:=ob
  rw[e] at ht
  have l1:("try " : Str).length=4:=by decide +kernel
  have l2:(" else " : Str).length=6:=by decide +kernel
  refine⟨_,rfl,t,_,_,_,rfl,rfl,Dq.of ht,oP _ _ _,_,_,rfl,rfl,by rw[LR];omega,?_⟩
  refine⟨_,_,rfl,rfl,by rw[Str.length_append,LR];omega,?_⟩
  refine⟨_,rfl,t,_,_,_,rfl,rfl,Dq.of ht,at2 _ _ _ _,_,_,rfl,rfl,by rw[Str.length_append,Str.length_append,LR];omega,?_⟩
  have ew:wS p = "try " ++ a ++ " else " ++ b:=by
   unfold wS
   rw[if_pos c,e]
   have k1:("try " : Str).cps.toList=Tx.cs "try" ++ [32]:=by decide +kernel
   have k2:(" else " : Str).cps.toList=32::(Tx.cs "else" ++ [32]):=by decide +kernel
   refine str_ext ?_
   rw[Af,Af,Af,k1,k2,Fw,Ba]
   show Tx.cs "try" ++ 32::(a.cps.toList++32::(Tx.cs "else" ++ 32::b.cps.toList))=_
   simp
  rw[ew] at q
  exact q
 ·have c:¬ p.1 = "try" := Vl c
  have hp:=h1 c
  obtain⟨kd,ps⟩:=p
  have hwS:wS (kd,ps)=Str.join " " (kd::ps.map Kv):=by
   unfold wS
   rw[if_neg c]
  rw[hwS] at q
  have hk:=(Ay W.kd).2
  have hk:kd.length<=20:=hk
  have l1:(" " : Str).length=1:=by decide +kernel
  have Wp:=W.ps
  refine⟨_,rfl,t,_,rfl,.inr (Dq.of ht),rfl,_,rfl,?_⟩
  cases ps with
  | nil=>exact Dk ⟨_,rfl,t,_,_,_,rfl,rfl,Dq.of ht,at0 _ _,q⟩
  | cons v ps=>
   obtain rfl:ps=[]:=by
    cases ps with
    | nil=>rfl
    | cons u ps=>exact absurd hp (by show ¬ ps.length+1+1<=1;omega)
   have hv:=Wp v MD
   have hvl:=Fl hv
   refine Cd ⟨_,rfl,t,_,_,_,rfl,rfl,Dq.of ht,at0 _ _,_,_,rfl,rfl,by rw[LR];omega,_,rfl,t,_,_,_,rfl,rfl,Dq.of ht,oP _ _ _,?_⟩
   have fin:∃i j,V.str (kd ++ " ")=.str i/\V.str (Kv v)=.str j/\i.length+j.length<=MG/\Q (.str (i++j)) H:=⟨_,_,rfl,rfl,by rw[Str.length_append,LR];omega,q⟩
   rcases hv with ⟨n,rfl,n0,n1⟩ | ⟨x,rfl,hx⟩
   ·exact .inl ⟨n,rfl,jA n0 n1,fin⟩
   ·exact .inr ⟨x,rfl,fin⟩
end
structure Dz(H:Hp)(h:LZ)(rs:List LZ)(W:List ((Str×Str)×LZ)):Prop where
 lst:H h=some (.lst (rs.map V.ref))
 len:rs.length=W.length
 row:∀(i:Nat)(r:LZ)(p:(Str×Str)×LZ),rs[i]? = some r->W[i]? = some p->H r=some (.tup [.str p.1.1,.str p.1.2,.ref p.2])
theorem Dz.same{H H':Hp}{h:LZ}{rs:List LZ}{W:List ((Str×Str)×LZ)}(R:Dz H h rs W)(s:Ak H H'):Dz H' h rs W:=⟨s _ _ R.lst,R.len,λi r p h1 h2=>s _ _ (R.row i r p h1 h2)⟩
theorem Dz.get{H:Hp}{h:LZ}{rs:List LZ}{W:List ((Str×Str)×LZ)}(R:Dz H h rs W){i:Nat}{r:LZ}(e:rs[i]? = some r):∃p,W[i]? = some p/\H r=some (.tup [.str p.1.1,.str p.1.2,.ref p.2]):=by
 have hi:i < W.length:=by rw[<- R.len];exact(LM.mp e).1
 exact⟨_,LU hi,R.row i r _ e (LU hi)⟩
def Jg{α:Type}(y:Str×Str)(b:α)(p:(Str×Str)×α):(Str×Str)×α:=if p.1=y then (y,b) else p
def Lo{α:Type}(y:Str×Str)(W:List ((Str×Str)×α)):Bool:=W.any λp=>decide (p.1=y)
def putN{α:Type}(W:List ((Str×Str)×α))(y:Str×Str)(b:α):List ((Str×Str)×α):=W.map (Jg y b)++if Lo y W=true then [] else [(y,b)]
theorem Ou{α:Type}{l:List α}{a b:α}{j:Nat}(h:(l++[a])[j]? = some b):l[j]? = some b∨(j=l.length/\b=a):=by
 by_cases hj:j < l.length
 ·rw[MW hj] at h
  exact .inl h
 ·have hl:j < (l++[a]).length:=(LM.mp h).1
  rw[LS,MR] at hl
  obtain rfl:j=l.length:=by omega
  rw[NK] at h
  cases h
  exact .inr ⟨rfl,rfl⟩
theorem Dz.snoc{H H':Hp}{h r:LZ}{rs:List LZ}{W:List ((Str×Str)×LZ)}{p:(Str×Str)×LZ}(R:Dz H h rs W)(k:∀b∈rs,∀o,H b=some o->H' b=some o)(l:H' h=some (.lst (rs.map V.ref++[V.ref r])))(e:H' r=some (.tup [.str p.1.1,.str p.1.2,.ref p.2])):Dz H' h (rs++[r]) (W++[p]):=by
 refine⟨by rw[l,LW];rfl,by rw[LS,LS,R.len];rfl,λi a q h1 h2=>?_⟩
 rcases Ou h1 with h1 | ⟨rfl,rfl⟩
 ·have hi:i < W.length:=by rw[<- R.len];exact(LM.mp h1).1
  rw[MW hi] at h2
  exact k a (MK h1) _ (R.row i a q h1 h2)
 ·rw[R.len,NK] at h2
  cases h2
  exact e
def Nk:Sp:=λvs H Q _=>∃(h lb:LZ)(y:Str×Str)(rs:List LZ)(W:List ((Str×Str)×LZ)),vs=[.ref h,.str y.1,.str y.2,.ref lb]/\Dz H h rs W/\W.length<=1000/\∀(l:LZ)(rs':List LZ)(H':Hp),H l=none->(∀r∈rs',r∈rs∨H r=none)->Ak H H'->Dz H' l rs' (putN W y lb)->Q (.ref l) H'
section
variable {P:MV} {w:NU} {K:LO} {mg:Str->Option LP} {base:OS} {f:LZ} {fd:NP}
theorem Ho:Al ["_law_known","_law_name","_law_word","_law_body","_law_rows","_law_new","_law_row"] ["_law_known","_law_name","_law_word","_law_body"] (Ac Wq):=Fm (by decide +kernel)
theorem gC(F:Dx K "_law_taught" "_law_taught" Wq f fd)(T:Txt mg):Aj P w K mg base Bj 1 f fd ["_law_known","_law_name","_law_word","_law_body"] Nk:=by
 refine F.ok Ho (λvs H Q E h=>?_) (λcdv A outer s H vs Q E hr h=>?_)
 ·obtain⟨h,lb,y,rs,W,rfl,_⟩:=h
  rfl
 obtain⟨h,lb,y,rs,W,rfl,R,hWl,q⟩:=h
 refine⟨_,Ab (Bx 4 Ho.nd (Dn Gr))
  (Ab (Bx 5 Ho.nd Ms)
  (Ab (Gp PX rfl (Bz (pv 0)) (De 6 Ho.nd)
   (Ag (Bh (PW.pt (Fe (Ao Cf (Az Df (pv 6) Ae (λ_ _=>rfl)) (pv 1) (Aw _)) (Ez (Ao Cf (Az Df (pv 6) Ae (λ_ _=>rfl)) (pv 2) (Aw _)))))
    (Ab (Cu (Dg RE QZ QY Gf (pv 4) (Bw (Eu (Tc (pv 1) (pv 2) (pv 3))))))
    (Ag (Bx 5 Ho.nd Ms)))
    (Ag (Cu (Dg RE QZ QY Gf (pv 4) (Bw (pv 6))))))))
  (Ab (Bh (Ej (pv 5)) (Ag (Cu (Dg RE QZ QY Gf (pv 4) (Bw (Eu (Tc (pv 1) (pv 2) (pv 3))))))) Ar)
  (Ag (Ap (pv 4)))))),?_⟩
 refine⟨by show 0<=MG;decide,λl hl=>?_⟩
 have s0:=Ad hl (.lst [])
 have nl:∀r∈rs,r≠l:=λr hr'=>by
  obtain⟨i,hi⟩:=NX hr'
  obtain⟨p,_,e⟩:=R.get hi
  exact Ah e hl
 refine⟨_,rfl,h,rfl,⟨_,Av.of (s0 _ _ R.lst)⟩,Jk (K:=K) (a:=h) (xs:=rs.map V.ref) (λi σ H2=>∃(rs':List LZ)(v5:Option V),σ=[some (.ref h),some (.str y.1),some (.str y.2),some (.ref lb),some (.ref l),some (.bl (!Lo y (W.take i))),v5]/\Ak H H2/\Dz H2 l rs' ((W.take i).map (Jg y lb))/\(∀r∈rs',r∈rs∨H r=none)/\∀r∈rs',r≠l)
  ⟨[],none,rfl,s0,⟨Aa,rfl,λi r p h1=>by simp at h1⟩,(λr hr'=>nomatch hr'),(λr hr'=>nomatch hr')⟩ (λi σ H2 _ ⟨_,_,_,s2,_⟩=>Av.of (s2 _ _ R.lst)) ?_ ?_⟩
 ·rintro i v σ H2 hi ⟨rs',v5,rfl,s2,R2,hf,hn⟩
  obtain⟨r,hr',rfl⟩:=Dj hi
  obtain⟨p,hp,er⟩:=R.get hr'
  have hil:i < W.length:=(LM.mp hp).1
  have hl2:rs'.length<=1000:=by rw[R2.len,LN,NM];omega
  have htk:W.take (i+1)=W.take i++[p]:=by rw[NR,hp];rfl
  have hmp:(W.take (i+1)).map (Jg y lb)=(W.take i).map (Jg y lb)++[Jg y lb p]:=by rw[htk,LW];rfl
  have hkp:∀ {X:HO},∀b∈rs',∀o,H2 b=some o->(upd H2 l X) b=some o:=λ{X} b hb o e=>by rw[Ai (hn b hb)];exact e
  refine⟨_,rfl,r,_,_,_,rfl,rfl,Dq.of (s2 _ _ er),at0 _ _,_,rfl,rfl,_,rfl,Cr (λc1=>?_) (λc1=>?_)⟩
  ·refine⟨_,rfl,r,_,_,_,rfl,rfl,Dq.of (s2 _ _ er),oP _ _ _,_,rfl,rfl,_,rfl,Cr (λc2=>?_) (λc2=>?_)⟩
   ·have e1:p.1=y:=Prod.ext (V.str.inj (of_decide_eq_true c1)) (V.str.inj (of_decide_eq_true c2))
    refine⟨_,rfl,.inl ⟨rfl,_,Av.of R2.lst⟩,_,rfl,_,rfl,_,rfl,by show 3<=MG;decide,λnr hnr=>?_⟩
    have s3:=Ad hnr (.tup [V.str y.1,V.str y.2,V.ref lb])
    have nrl:nr≠l:=NT (Ah R2.lst hnr)
    refine⟨l,_,_,rfl,rfl,s3 _ _ R2.lst,by rw[LN,LR];omega,?_⟩
    refine⟨rs'++[nr],some (.ref r),?_,λb o hb=>by rw[Ai (Ah hb hl)];exact s3 _ _ (s2 _ _ hb),?_,?_,?_⟩
    ·have e2:Lo y (W.take (i+1))=true:=by
      unfold Lo
      rw[htk,List.any_append]
      show (_ || (decide (p.1=y) || false))=true
      rw[decide_eq_true e1]
      simp
     rw[e2]
     rfl
    ·rw[hmp]
     have e3:Jg y lb p=(y,lb):=if_pos e1
     rw[e3]
     exact R2.snoc (λb hb o e=>by rw[Ai (hn b hb)];exact s3 _ _ e) Aa (by rw[Ai nrl];exact Aa)
    ·intro b hb
     rcases MJ.mp hb with h' | h'
     ·exact hf b h'
     ·rw[MA] at h'
      subst h'
      exact .inr (s2.free hnr)
    ·intro b hb
     rcases MJ.mp hb with h' | h'
     ·exact hn b h'
     ·rw[MA] at h'
      subst h'
      exact nrl
   ·have e1:¬ p.1=y:=λz=>c2 (decide_eq_true (by rw[z]))
    refine⟨_,rfl,.inl ⟨rfl,_,Av.of R2.lst⟩,_,rfl,l,_,_,rfl,rfl,R2.lst,by rw[LN,LR];omega,?_⟩
    have hrl:r≠l:=nl r (MK hr')
    refine⟨rs'++[r],some (.ref r),?_,λb o hb=>by rw[Ai (Ah hb hl)];exact s2 _ _ hb,?_,?_,?_⟩
    ·have e2:Lo y (W.take (i+1))=Lo y (W.take i):=by
      unfold Lo
      rw[htk,List.any_append]
      show (_ || (decide (p.1=y) || false))=_
      rw[decide_eq_false e1]
      simp
     rw[e2]
     rfl
    ·rw[hmp]
     have e3:Jg y lb p=p:=if_neg e1
     rw[e3]
     exact R2.snoc hkp Aa (by rw[Ai hrl];exact s2 _ _ er)
    ·intro b hb
     rcases MJ.mp hb with h' | h'
     ·exact hf b h'
     ·rw[MA] at h'
      subst h'
      exact .inl (MK hr')
    ·intro b hb
     rcases MJ.mp hb with h' | h'
     ·exact hn b h'
     ·rw[MA] at h'
      subst h'
      exact hrl
  ·have e1:¬ p.1=y:=λz=>c1 (decide_eq_true (by rw[z]))
   refine Cd ?_
   refine⟨_,rfl,.inl ⟨rfl,_,Av.of R2.lst⟩,_,rfl,l,_,_,rfl,rfl,R2.lst,by rw[LN,LR];omega,?_⟩
   have hrl:r≠l:=nl r (MK hr')
   refine⟨rs'++[r],some (.ref r),?_,λb o hb=>by rw[Ai (Ah hb hl)];exact s2 _ _ hb,?_,?_,?_⟩
   ·have e2:Lo y (W.take (i+1))=Lo y (W.take i):=by
     unfold Lo
     rw[htk,List.any_append]
     show (_ || (decide (p.1=y) || false))=_
     rw[decide_eq_false e1]
     simp
    rw[e2]
    rfl
   ·rw[hmp]
    have e3:Jg y lb p=p:=if_neg e1
    rw[e3]
    exact R2.snoc hkp Aa (by rw[Ai hrl];exact s2 _ _ er)
   ·intro b hb
    rcases MJ.mp hb with h' | h'
    ·exact hf b h'
    ·rw[MA] at h'
     subst h'
     exact .inl (MK hr')
   ·intro b hb
    rcases MJ.mp hb with h' | h'
    ·exact hn b h'
    ·rw[MA] at h'
     subst h'
     exact hrl
 ·rintro σ H2 ⟨rs',v5,rfl,s2,R2,hf,hn⟩
  rw[LN,R.len,NY (MC _)] at R2 ⊢
  refine⟨_,rfl,_,rfl,?_⟩
  cases e:Lo y W with
  | true=>
   refine Cd ?_
   exact⟨_,rfl,q l rs' H2 hl hf s2 (by unfold putN;rw[if_pos e,NL];exact R2)⟩
  | false=>
   refine Dk ?_
   refine⟨_,rfl,.inl ⟨rfl,_,Av.of R2.lst⟩,_,rfl,_,rfl,_,rfl,by show 3<=MG;decide,λnr hnr=>?_⟩
   have s3:=Ad hnr (.tup [V.str y.1,V.str y.2,V.ref lb])
   have nrl:nr≠l:=NT (Ah R2.lst hnr)
   refine⟨l,_,_,rfl,rfl,s3 _ _ R2.lst,by rw[LN,R2.len,LN,LR];omega,?_⟩
   refine⟨_,rfl,q l (rs'++[nr]) _ hl ?_ (λb o hb=>by rw[Ai (Ah hb hl)];exact s3 _ _ (s2 _ _ hb)) ?_⟩
   ·intro b hb
    rcases MJ.mp hb with h' | h'
    ·exact hf b h'
    ·rw[MA] at h'
     subst h'
     exact .inr (s2.free hnr)
   ·unfold putN
    rw[if_neg (by rw[e];exact LY)]
    exact R2.snoc (λb hb o e=>by rw[Ai (hn b hb)];exact s3 _ _ e) Aa (by rw[Ai nrl];exact Aa)
end
structure Ht(H:Hp)(aa:LZ)(A:List (Str×LZ))(T:List (Str×List Str)):Prop where
 dc:H aa=some (.dK (Gi A))
 el:OJ (λ(q:Str×LZ) (t:Str×List Str)=>q.1=t.1/\H q.2=some (.lst (Ax t.2))) A T
 nd:(A.map (·.1)).Nodup
theorem Ht.same{H H':Hp}{aa:LZ}{A:List (Str×LZ)}{T:List (Str×List Str)}(h:Ht H aa A T)(s:Ak H H'):Ht H' aa A T:=⟨s _ _ h.dc,Paired.mapP h.el λ_ _ z=>⟨z.1,s _ _ z.2⟩,h.nd⟩
def cS(H:Hp)(q:(Str×Str)×LZ)(n:(Str×Str)×Bdy):Prop:=q.1=n.1/\As q.1.2=true/\∃ts:List LZ,H q.2=some (.lst (ts.map V.ref))/\Ce H ts n.2/\(∀p∈n.2,Od p/\(p.1 ≠ "try" -> p.2.length<=1))/\n.2.length<=30
theorem cS.keep{H H':Hp}(k:Gm H H'){q:(Str×Str)×LZ}{n:(Str×Str)×Bdy}(h:cS H q n):cS H' q n:=let ⟨a,b,ts,c,d,e⟩:=h;⟨a,b,ts,k.lst c,⟨d.1,λi t p x y=>k.tup (d.2 i t p x y)⟩,e⟩
theorem Dz.keep{H H':Hp}(k:Gm H H'){h:LZ}{rs:List LZ}{W:List ((Str×Str)×LZ)}(R:Dz H h rs W):Dz H' h rs W:=⟨k.lst R.lst,R.len,λi r p h1 h2=>k.tup (R.row i r p h1 h2)⟩
def An(N:List ((Str×Str)×Bdy))(x:Str):List (Str×Bdy):=(N.filter λn=>decide (n.1.1=x)).map λn=>(n.1.2,n.2)
theorem Pe{N:List ((Str×Str)×Bdy)}{j:Nat}{n:(Str×Str)×Bdy}(h:N[j]? = some n)(x:Str):An (N.take (j+1)) x=An (N.take j) x++if n.1.1=x then [(n.1.2,n.2)] else []:=by
 unfold An
 rw[NR,h]
 show List.map _ (List.filter _ (List.take j N++[n]))=_
 rw[List.filter_append,LW]
 refine congrArg (_ ++ ·) ?_
 by_cases e:n.1.1=x
 ·rw[if_pos e,OU (by rw[decide_eq_true e])]
  rfl
 ·rw[if_neg e,PR (by rw[decide_eq_false e];exact LY)]
  rfl
theorem Gy(N:List ((Str×Str)×Bdy))(x:Str):(An N x).length<=N.length:=by
 unfold An
 rw[LN]
 exact UP _ _
def jY(T:List (Str×List Str))(N:List ((Str×Str)×Bdy)):List Str:=T.flatMap λt=>Jn t.1 t.2 (An N t.1)
def Jo(T:List (Str×List Str))(N:List ((Str×Str)×Bdy)):Str:=ends (jY T N)
theorem Nw(a b:List Str):ends (a++b)=ends a++ends b:=str_ext (by rw[ends_app,Af])
theorem Qt(l:Str):ends [l]=l ++ "\n" := by
 refine str_ext ?_
 have e:("\n" : Str).cps.toList=[10]:=by decide +kernel
 rw[Pw,Af,e]
 simp
theorem Hl(a b c:Str):a++b++c=a++(b++c):=str_ext (by rw[Af,Af,Af,Af,OA])
theorem Rc{k:Nat}:∀ {ls:List Str},(∀l∈ls,l.length<=k)->(ends ls).length<=ls.length * (k+1)
 | [],_=>by
  show (0:Nat)<=_
  exact NI _
 | l::ls,h=>by
  have ih:=Rc (ls:=ls) λx hx=>h x (ME _ hx)
  have e:ends (l::ls)=ends [l]++ends ls:=Nw [l] ls
  have l1:("\n" : Str).length=1:=by decide +kernel
  have hl:=h l MD
  rw[e,Str.length_append,Qt,Str.length_append,l1,MT,Nat.succ_mul]
  omega
theorem iE{x:Str}{el:List Str}{bs:List (Str×Bdy)}(ox:As x=true)(oe:∀y∈el,As y=true)(hl:el.length<=100)(hb:∀r∈bs,As r.1=true/\(∀p∈r.2,Od p)/\r.2.length<=30):(ends (Jn x el bs)).length<=4501 * (bs.length+1):=by
 have:=Rc (k:=4500) (ls:=Jn x el bs) λl h=>by
  rcases LX.mp h with rfl | h
  ·exact Kd ox oe hl
  ·obtain⟨r,hr,rfl⟩:=ML.mp h
   obtain⟨a,b,c⟩:=hb r hr
   exact Lm ox a b c
 have e:(Jn x el bs).length=bs.length+1:=by
  show (_::List.map _ bs:List Str).length=_
  rw[MT,LN]
 rw[e] at this
 omega
theorem AM(X x:Str)(el:List Str):X++wF x el=if el=[] then X ++ "house " ++ x else X ++ "house " ++ x ++ " under " ++ Str.join ", " el:=by
 unfold wF
 split
 ·rw[Hl]
 ·rw[Hl,Hl,Hl,Hl,Hl]
theorem BY(X x y:Str)(ss:Bdy):X++wK x y ss=if ss=[] then X++x ++ " knows " ++ y ++ ":" else X++x ++ " knows " ++ y ++ ":" ++ " " ++ Str.join "; " (ss.map wS):=by
 have e:(": " : Str) = ":" ++ " " := by decide +kernel
 unfold wK
 split
 ·simp only[Hl]
 ·rw[e]
  simp only[Hl]
structure CU(T:List (Str×List Str))(N:List ((Str×Str)×Bdy)):Prop where
 hs:∀t∈T,As t.1=true/\(∀y∈t.2,As y=true)/\t.2.length<=100
 tl:T.length<=20
 nl:N.length<=60
def cK:Sp:=λvs H Q _=>∃(aa ka:LZ)(A:List (Str×LZ))(T:List (Str×List Str))(rs:List LZ)(W:List ((Str×Str)×LZ))(N:List ((Str×Str)×Bdy)),vs=[.ref aa,.ref ka]/\Ht H aa A T/\Dz H ka rs W/\OJ (cS H) W N/\CU T N/\∀H',Ak H H'->Q (.str (Jo T N)) H'
section
variable {P:MV} {w:NU} {K:LO} {mg:Str->Option LP} {base:OS} {f fS:LZ} {fd dS:NP}
abbrev KN:List Str:=["_law_above","_law_known","_law_text_here","_law_name","_law_row","_law_steps"]
theorem Ha:Al KN ["_law_above","_law_known"] (Ac Xt):=Fm (by decide +kernel)
theorem IY:(["_law_step"]:List Str).Nodup:=by decide +kernel
theorem Mm{H:Hp}{W:List ((Str×Str)×LZ)}{N:List ((Str×Str)×Bdy)}(PN:OJ (cS H) W N)(x:Str):∀r∈An N x,As r.1=true/\(∀p∈r.2,Od p)/\r.2.length<=30:=by
 intro r hr
 unfold An at hr
 obtain⟨n,hn,rfl⟩:=ML.mp hr
 have hn:=(List.mem_filter.mp hn).1
 obtain⟨k,hk⟩:=NX hn
 have hkW:k < W.length:=by rw[OF PN];exact(LM.mp hk).1
 obtain⟨n',hn',z1,z2,ts,z3,z4,z5,z6⟩:=Du PN (LU hkW)
 rw[hk] at hn'
 cases hn'
 exact⟨by rw[<- z1];exact z2,λp hp=>(z5 p hp).1,z6⟩
theorem vN(F:Dx K "_law_text" "_law_text" Xt f fd)(Tx':Txt mg)(GS:Aj P w K mg base Bj 1 fS dS ["_law_step"] Ll)(kS:MN K (.ref fS)=true)(bS:Binds K dS ["_law_step"] [])(mS:mg "_law_step_text" = some (.ref fS)):Aj P w K mg base Ia 2 f fd ["_law_above","_law_known"] cK:=by
 refine F.ok1 Ha (λvs H Q E h=>?_) (λcdv A outer s H vs Q E hr h=>?_)
 ·obtain⟨aa,ka,A,T,rs,W,N,rfl,_⟩:=h
  rfl
 obtain⟨aa,ka,AA,T,rs,W,N,rfl,HA,HR,PN,ok,q⟩:=h
 have hu:=Hx hr
 have l1:("house " : Str).length=6:=by decide +kernel
 have l2:(" under " : Str).length=7:=by decide +kernel
 have l3:(", " : Str).length=2:=by decide +kernel
 have l4:("\n" : Str).length=1:=by decide +kernel
 have l5:(" knows " : Str).length=7:=by decide +kernel
 have l6:(":" : Str).length=1:=by decide +kernel
 have l7:(" " : Str).length=1:=by decide +kernel
 have l8:("; " : Str).length=2:=by decide +kernel
 have htl:=ok.tl
 have hnl:=ok.nl
 have hAT:=OF HA.el
 have hWN:=OF PN
 refine Km (tail:=(fBody ((Bb Xt).getD 1 (.Pass ⟨0,0,0,0⟩))).drop 2) (λtt=>∀(D:Ends)(H2:Hp)(X0 x:Str)(el:List Str)(v4 v5:Option V),Dz H2 ka rs W->OJ (cS H2) W N->As x=true->(∀y∈el,As y=true)->el.length<=100->X0.length<=6000000 ->
  (∀(v4 v5:Option V)(H3:Hp),Ak H2 H3->D.nx [some (.ref aa),some (.ref ka),some (.str (X0++ends (Jn x el (An N x)))),some (.str x),v4,v5] H3)->tt D [some (.ref aa),some (.ref ka),some (.str (X0++wF x el)),some (.str x),v4,v5] H2) ?_ ?_
 ·refine⟨_,Ab (Bx 2 Ha.nd (Am Bf (pv 2) Aq))
   (Ag (Gp PX rfl (Bz (pv 1)) (De 4 Ha.nd)
    (Ag (Bh (Ao Cf (Az Df (pv 4) Ae (λ_ _=>rfl)) (pv 3) (Aw _))
     (Ab (Cc (i:=5) (Ac Xt) KN ["_law_step"] [] rfl Ha.nd rfl rfl (Bz (Az Df (pv 4) Ae (λ_ _=>rfl))) (Bd (i:=0) (by decide)) (λ_ _ _ _ _ _=>⟨De 0 IY,Ca,Ds GS hr mS kS bS (Bw (pv 0))⟩))
     (Ab (Bx 2 Ha.nd (Am Bf (Am Bf (Am Bf (Am Bf (pv 2) (pv 3)) Aq) (Az Df (pv 4) Ae (λ_ _=>rfl))) Aq))
     (Ab (Bh (Sf (K:=K) (pv 5)) (Ag (Bx 2 Ha.nd (Am Bf (Am Bf (pv 2) Aq) (Dg PySem.F.plainAttrs_str PySem.F.slot_str_join PySem.F.type_str_join Hf Aq (Bw (pv 5)))))) Ar)
     (Ag (Bx 2 Ha.nd (Am Bf (pv 2) Aq))))))
     Ar)))),λD H2 X0 x el v4 v5 R2 P2 ox oe hel hX qq=>?_⟩
  have hx:=(Ay ox).2
  have hwf:=Kd ox oe hel
  refine⟨_,rfl,_,_,rfl,rfl,by rw[Str.length_append,l4,LR];omega,?_⟩
  have e0:X0++wF x el ++ "\n" = X0++ends (Jn x el (An (N.take 0) x)):=by
   show _=X0++ends [wF x el]
   rw[Qt,Hl]
  rw[e0]
  refine⟨_,rfl,ka,rfl,⟨_,Av.of R2.lst⟩,Jk (K:=K) (a:=ka) (xs:=rs.map V.ref) (λj σ H3=>∃v4 v5:Option V,σ=[some (.ref aa),some (.ref ka),some (.str (X0++ends (Jn x el (An (N.take j) x)))),some (.str x),v4,v5]/\Ak H2 H3)
   ⟨v4,v5,rfl,Ak.refl _⟩ (λj σ H3 _ ⟨_,_,_,s3⟩=>Av.of (s3 _ _ R2.lst)) ?_ ?_⟩
  ·rintro j v σ H3 hj ⟨w4,w5,rfl,s3⟩
   obtain⟨r,hr',rfl⟩:=Dj hj
   obtain⟨pr,hpr,er⟩:=R2.get hr'
   obtain⟨n,hn,z1,z2,ts,z3,z4,z5,z6⟩:=Du P2 hpr
   have hjl:j < N.length:=(LM.mp hn).1
   have hrl:=Gy (N.take j) x
   rw[NM] at hrl
   have hlen:(ends (Jn x el (An (N.take j) x))).length<=4501 * 61:=by
    refine NA (iE ox oe hel λr hr=>Mm P2 x r ?_) ?_
    ·unfold An at hr ⊢
     obtain⟨m,hm,rfl⟩:=ML.mp hr
     obtain⟨m1,m2⟩:=List.mem_filter.mp hm
     exact ML.mpr ⟨m,List.mem_filter.mpr ⟨List.mem_of_mem_take m1,m2⟩,rfl⟩
    ·omega
   rw[Pe hn]
   refine⟨_,rfl,r,_,_,_,rfl,rfl,Dq.of (s3 _ _ er),at0 _ _,_,rfl,rfl,_,rfl,Cr (λc=>?_) (λc=>?_)⟩
   ·have c1:n.1.1=x:=by rw[<- z1];exact V.str.inj (of_decide_eq_true c)
    rw[if_pos c1]
    obtain⟨⟨nx,ny⟩,ss⟩:=n
    have z1:pr.1=(nx,ny):=z1
    have ey:pr.1.2=ny:=by rw[z1]
    have hy:=(Ay z2).2
    rw[ey] at hy er
    refine⟨_,rfl,r,_,_,_,rfl,rfl,Dq.of (s3 _ _ er),at2 _ _ _ _,pr.2,rfl,⟨_,Av.of (s3 _ _ z3)⟩,Bq (K:=K) (a:=pr.2) (xs:=ts.map V.ref) (λi ys H4=>H4=H3/\ys=Ax ((ss.take i).map wS)) ⟨rfl,rfl⟩ (λi ys H4 _ h=>by rw[h.1];exact Av.of (s3 _ _ z3)) ?_ ?_⟩
    ·rintro i v ys H4 hi ⟨rfl,rfl⟩
     have hit:i < ts.length:=by have:=(LM.mp hi).1;rwa [LN] at this
     have his:i < ss.length:=by rw[<- z4.1];exact hit
     have ht:=LU hit
     have hs:=LU his
     rw[MX,ht] at hi
     cases hi
     have w5:=z5 _ (OO his)
     have z6:ss.length<=30:=z6
     refine⟨_,rfl,ts[i],ss[i],rfl,s3 _ _ (z4.2 i _ _ ht hs),w5.1,w5.2,by rw[Au,LN,NM,LR];omega,rfl,?_⟩
     rw[Fq,NR,hs,LW]
     rfl
    ·rintro ys H4 ⟨rfl,rfl⟩ la hla
     have hlen2:(ts.map V.ref).length=ss.length:=by rw[LN,z4.1]
     rw[hlen2,List.take_length]
     obtain⟨H5,zz,s4,e4⟩:=lay hla (.lst (Ax (ss.map wS)))
     rw[zz]
     have s35:=s3.trans s4
     have z6:ss.length<=30:=z6
     have hj2:(Str.join "; " (ss.map wS)).length<=4260:=by
      refine NA (Ek (k:=140) λz hz=>?_) ?_
      ·obtain⟨p,hp,rfl⟩:=ML.mp hz
       exact Jm (z5 p hp).1
      ·rw[LN,l8]
       omega
     have eY:X0++ends (Jn x el (An (N.take j) x++[(ny,ss)]))=X0++ends (Jn x el (An (N.take j) x))++wK x ny ss ++ "\n" := by
      have e:Jn x el (An (N.take j) x++[(ny,ss)])=Jn x el (An (N.take j) x)++[wK x ny ss]:=by
       show wF x el::List.map _ (_++[(ny,ss)])=_
       rw[LW]
       rfl
      rw[e,Nw,Qt]
      simp only[Hl]
     have e2:=BY (X0++ends (Jn x el (An (N.take j) x))) x ny ss
     show _
     generalize ends (Jn x el (An (N.take j) x))=Y at *
     refine⟨_,rfl,_,rfl,_,_,rfl,rfl,by rw[Str.length_append,LR];omega,?_⟩
     refine⟨_,_,rfl,rfl,by rw[Str.length_append,Str.length_append,LR];omega,?_⟩
     refine⟨_,rfl,r,_,_,_,rfl,rfl,Dq.of (s35 _ _ er),oP _ _ _,_,_,rfl,rfl,by rw[Str.length_append,Str.length_append,Str.length_append,LR];omega,?_⟩
     refine⟨_,_,rfl,rfl,by rw[Str.length_append,Str.length_append,Str.length_append,Str.length_append,LR];omega,?_⟩
     refine⟨_,rfl,!(Ax (ss.map wS)).isEmpty,.inl ⟨_,Av.of e4,rfl⟩,?_⟩
     cases ss with
     | nil=>
      refine Cd ⟨_,rfl,_,_,rfl,rfl,by rw[Str.length_append,Str.length_append,Str.length_append,Str.length_append,Str.length_append,LR];omega,?_⟩
      rw[if_pos rfl] at e2
      exact⟨some (.ref r),some (.ref la),by rw[eY,e2];rfl,s35⟩
     | cons p ss=>
      rw[if_neg (by intro z;cases z)] at e2
      refine Dk ⟨_,rfl,_,_,rfl,rfl,by rw[Str.length_append,Str.length_append,Str.length_append,Str.length_append,Str.length_append,LR];omega,?_⟩
      refine⟨rfl,_,rfl,"; ", la,(p::ss).map wS,rfl,rfl,Av.of e4,Fi (k:=140) (λz hz=>?_) (by rw[LN,l8];omega),?_⟩
      ·obtain⟨p',hp,rfl⟩:=ML.mp hz
       exact Jm (z5 p' hp).1
      refine⟨_,_,rfl,rfl,by rw[Str.length_append,Str.length_append,Str.length_append,Str.length_append,Str.length_append,Str.length_append,LR];omega,?_⟩
      refine⟨_,rfl,_,_,rfl,rfl,by rw[Str.length_append,Str.length_append,Str.length_append,Str.length_append,Str.length_append,Str.length_append,Str.length_append,LR];omega,?_⟩
      exact⟨some (.ref r),some (.ref la),by rw[eY,e2];rfl,s35⟩
   ·have c1:¬ n.1.1=x:=λz=>c (decide_eq_true (by rw[z1,z]))
    rw[if_neg c1,NL]
    exact⟨_,_,rfl,s3⟩
  ·rintro σ H3 ⟨w4,w5,rfl,s3⟩
   rw[LN,R2.len,hWN,List.take_length]
   exact qq _ _ H3 s3
 intro tt htt ptt
 refine⟨_,Ab (Bx 2 Ha.nd Aq)
  (Ab (iD (Gp PX rfl (jN (pv 0)) (De 3 Ha.nd)
   (Ab (Bx 2 Ha.nd (Am Bf (Am Bf (pv 2) Aq) (pv 3)))
   (Ab (Bh (Sf (K:=K) (Iv hu (pv 0) (pv 3) (λ_ _=>rfl))) (Ag (Bx 2 Ha.nd (Am Bf (Am Bf (pv 2) Aq) (Dg PySem.F.plainAttrs_str PySem.F.slot_str_join PySem.F.type_str_join Hf Aq (Bw (Iv hu (pv 0) (pv 3) (λ_ _=>rfl))))))) Ar) htt))))
  (Ag (Ap (pv 2)))),?_⟩
 refine⟨_,rfl,aa,Gi AA,rfl,HA.dc,λob nf=>?_⟩
 have kF:∀b o,H b=some o->b≠aa->(upd H aa (.frz ob (.dK (Gi AA)))) b=some o:=λb o h hn=>by rw[Ai hn];exact h
 have eF:(upd H aa (.frz ob (.dK (Gi AA)))) aa=some (.frz ob (.dK (Gi AA))):=Aa
 generalize upd H aa (.frz ob (.dK (Gi AA)))=HF at *
 have kL:Gm H HF:=Gm.of_keep kF HA.dc
 have R1:=HR.keep kL
 have PN1:OJ (cS HF) W N:=Paired.mapP PN λ_ _ z=>z.keep kL
 refine aB (d:=aa) (o:=ob) (kvs:=Gi AA) (λi σ H2=>∃v3 v4 v5:Option V,σ=[some (.ref aa),some (.ref ka),some (.str (Jo (T.take i) N)),v3,v4,v5]/\Ak HF H2/\(Jo (T.take i) N).length<=300000 * i)
  ⟨none,none,none,rfl,Ak.refl _,MC _⟩ (λi σ H2 _ ⟨_,_,_,_,s2,_⟩=>s2 _ _ eF) ?_ ?_
 ·rintro i kv σ H2 hi ⟨v3,v4,v5,rfl,s2,hlen⟩
  have hiA:i < AA.length:=by have:=(LM.mp hi).1;rwa [Ke] at this
  have hA:=LU hiA
  unfold Gi at hi
  rw[MX,hA] at hi
  obtain rfl:((MY AA[i].1:Key),V.ref AA[i].2)=kv:=MZ hi
  obtain⟨t,ht,z1,z2⟩:=Du HA.el hA
  have hget:Fu H2 aa (.str AA[i].1) (some (.ref AA[i].2)):=by
   have h0:=Rn HA.nd (OO hiA)
   exact .inl ⟨Gi AA,MY AA[i].1,.inr ⟨ob,s2 _ _ eF⟩,rfl,h0.symm⟩
  have hel2:=s2 _ _ (kL.lst z2)
  obtain⟨o1,o2,o3⟩:=ok.hs t (MK ht)
  obtain⟨x,el⟩:=t
  have z1:AA[i].1=x:=z1
  rw[z1] at hget
  have hiT:i < T.length:=by rw[<- hAT];exact hiA
  have hx:=(Ay o1).2
  have hx:x.length<=20:=hx
  have o3:el.length<=100:=o3
  have htk:Jo (T.take (i+1)) N=Jo (T.take i) N++ends (Jn x el (An N x)):=by
   unfold Jo jY
   rw[NR,ht]
   show ends ((List.take i T++[(x,el)]).flatMap _)=_
   rw[List.flatMap_append,Nw]
   refine congrArg (λz=>_++ends z) ?_
   show Jn x el (An N x)++[]=_
   rw[NL]
  have hll:(ends (Jn x el (An N x))).length<=4501 * 61:=NA (iE o1 o2 o3 (Mm PN x)) (by have:=Gy N x;omega)
  have fin:∀(v4 v5:Option V)(H3:Hp),Ak H2 H3->∃w3 w4 w5:Option V,[some (V.ref aa),some (.ref ka),some (.str (Jo (T.take i) N++ends (Jn x el (An N x)))),some (.str x),v4,v5]=[some (.ref aa),some (.ref ka),some (.str (Jo (T.take (i+1)) N)),w3,w4,w5]/\Ak HF H3/\(Jo (T.take (i+1)) N).length<=300000 * (i+1):=λv4 v5 H3 s3=>⟨_,_,_,by rw[htk],s2.trans s3,by rw[htk,Str.length_append];omega⟩
  have hX:(Jo (T.take i) N).length<=6000000:=by omega
  have e1:=AM (Jo (T.take i) N) x el
  have hjl:(Str.join ", " el).length<=2200:=by
   refine NA (Ek (k:=20) λy hy=>(Ay (o2 y hy)).2) ?_
   rw[l3]
   omega
  have kv1:kV (MY AA[i].1:Key)=.str x:=by rw[z1];rfl
  show _
  rw[kv1]
  refine⟨_,rfl,_,_,rfl,rfl,by rw[LR];omega,_,rfl,_,_,rfl,rfl,by rw[Str.length_append,LR];omega,?_⟩
  refine⟨_,rfl,_,rfl,aa,_,rfl,hget,!(Ax el).isEmpty,.inl ⟨_,Av.of hel2,rfl⟩,?_⟩
  cases el with
  | nil=>
   refine Cd ?_
   rw[if_pos rfl] at e1
   rw[<- e1]
   exact ptt _ H2 _ x [] _ _ ((R1.same s2)) (Paired.mapP PN1 λ_ _ z=>z.keep (Gm.of_same s2)) o1 o2 o3 hX fin
  | cons y el=>
   refine Dk ?_
   rw[if_neg (by intro z;cases z)] at e1
   refine⟨_,rfl,_,_,rfl,rfl,by rw[Str.length_append,Str.length_append,LR];omega,?_⟩
   refine⟨rfl,_,rfl,_,rfl,aa,_,rfl,hget,", ", _,y::el,rfl,rfl,Av.of hel2,Fi (k:=20) (λz hz=>(Ay (o2 z hz)).2) (by rw[l3];omega),?_⟩
   refine⟨_,_,rfl,rfl,by rw[Str.length_append,Str.length_append,Str.length_append,LR];omega,?_⟩
   rw[<- e1]
   exact ptt _ H2 _ x (y::el) _ _ ((R1.same s2)) (Paired.mapP PN1 λ_ _ z=>z.keep (Gm.of_same s2)) o1 o2 o3 hX fin
 ·rintro σ H2 ⟨v3,v4,v5,rfl,s2,hlen⟩
  refine⟨aa,ob,Gi AA,nf,s2 _ _ eF,_,rfl,?_⟩
  rw[Ke,hAT,List.take_length]
  refine q _ λb o h=>?_
  by_cases hb:b=aa
  ·subst hb
   rw[Aa,<- h]
   exact HA.dc.symm
  ·rw[Ai hb]
   exact s2 _ _ (kF _ _ h hb)
end
theorem fY{x:Str}(h:As x=true):PyData.strOk x=true:=by
 unfold PyData.strOk
 rw[<- Array.all_toList,QO]
 intro c hc
 have z:=Hy h c hc
 exact decide_eq_true (by omega)
theorem jQ{K:LO}{H:Hp}:∀ {el:List Str},(∀y∈el,As y=true)->DVs K H (Ax el) (el.map PyData.str)/\plainDs (el.map PyData.str)=true/\RC (el.map PyData.str)=0
 | [],_=>⟨.nil,rfl,by simp[RC]⟩
 | y::el,h=>by
  obtain⟨a,b,c⟩:=jQ (K:=K) (H:=H) (el:=el) λz hz=>h z (ME _ hz)
  refine⟨.cons (.str _) a,?_,?_⟩
  ·show (PyData.strOk y && plainDs _)=true
   rw[b,fY (h y MD)]
   rfl
  ·rw[MU]
   simp[RC,PyData.depth,c]
theorem Vn{K:LO}{H:Hp}{a b:LZ}{el:List Str}(os:∀y∈el,As y=true)(ha:H a=some (.lst (Ax el)))(hb:H b=some (.lst (Ax el))){Q:VK}(q:Q (.bl false) H):rT K true (.ref a) (.ref b) H Q:=by
 obtain⟨d,p,dp⟩:=jQ (K:=K) (H:=H) os
 have pl:Fh (.list (el.map PyData.str))=true:=by simp only[Fh];exact p
 have sh:=Vg pl (by simp only[PyData.depth];omega)
 refine⟨_,_,.lst (Av.of ha) d,.lst (Av.of hb) d,sh,sh,(same_self _ pl).2.1,?_⟩
 rw[(same_self _ pl).1]
 exact q
def gX:V->TZ
 | .int i=>.int i
 | .str x=>.str x
 | _=>.none
theorem jC{K:LO}{H:Hp}:∀ {ps:List V},(∀v∈ps,AF v)->DVs K H ps (ps.map gX)/\plainDs (ps.map gX)=true/\RC (ps.map gX)=0
 | [],_=>⟨.nil,rfl,by simp[RC]⟩
 | v::ps,h=>by
  obtain⟨a,b,c⟩:=jC (K:=K) (H:=H) (ps:=ps) λz hz=>h z (ME _ hz)
  rcases h v MD with ⟨i,rfl,_⟩ | ⟨x,rfl,ox⟩
  ·refine⟨.cons (.int _) a,?_,?_⟩
   ·show (true && plainDs _)=true
    rw[b]
    rfl
   ·rw[MU]
    simp[RC,gX,PyData.depth,c]
  ·refine⟨.cons (.str _) a,?_,?_⟩
   ·show (PyData.strOk x && plainDs _)=true
    rw[b,fY ox]
    rfl
   ·rw[MU]
    simp[RC,gX,PyData.depth,c]
def qW(p:Str×List V):TZ:=.tuple (.str p.1::p.2.map gX)
theorem Wn{K:LO}{H:Hp}:∀ {ss:Bdy} {ts:List LZ},(∀p∈ss,Od p)->Ce H ts ss->DVs K H (ts.map V.ref) (ss.map qW)/\plainDs (ss.map qW)=true/\RC (ss.map qW)<=2
 | [],ts,_,h=>by
  have:ts=[]:=List.length_eq_zero_iff.mp h.1
  subst this
  exact⟨.nil,rfl,by simp[RC]⟩
 | p::ss,[],_,h=>by have:=h.1;cases this
 | p::ss,t::ts,W,h=>by
  have ht:=h.2 0 t p rfl rfl
  obtain⟨a,b,c⟩:=Wn (K:=K) (H:=H) (ss:=ss) (ts:=ts) (λq hq=>W q (ME _ hq)) ⟨Nat.succ.inj h.1,λi u q hu hq=>h.2 (i+1) u q hu hq⟩
  have Wp:=W p MD
  obtain⟨a1,b1,c1⟩:=jC (K:=K) (H:=H) Wp.ps
  refine⟨.cons (.tup (Dq.of ht) (.cons (.str _) a1)) a,?_,?_⟩
  ·show (Fh (.tuple (.str p.1::p.2.map gX)) && plainDs _)=true
   rw[b]
   simp only[Fh,plainDs]
   rw[fY Wp.kd,b1]
   rfl
  ·rw[MU]
   simp only[RC,qW,PyData.depth,c1]
   omega
theorem yO{K:LO}{H:Hp}{a b:LZ}{ss:Bdy}{ts us:List LZ}(W:∀p∈ss,Od p)(ha:H a=some (.lst (ts.map V.ref)))(hb:H b=some (.lst (us.map V.ref)))(st:Ce H ts ss)(su:Ce H us ss){Q:VK}(q:Q (.bl true) H):rT K false (.ref a) (.ref b) H Q:=by
 obtain⟨d,p,dp⟩:=Wn (K:=K) W st
 obtain⟨d',_,_⟩:=Wn (K:=K) W su
 have pl:Fh (.list (ss.map qW))=true:=by simp only[Fh];exact p
 have sh:=Vg pl (by simp only[PyData.depth];omega)
 refine⟨_,_,.lst (Av.of ha) d,.lst (Av.of hb) d',sh,sh,(same_self _ pl).2.1,?_⟩
 rw[(same_self _ pl).1]
 exact q
theorem wV{X:Cx}{K:LO}(hu:X.A.units+64 < cLine)(hK:X.K=K:=by rfl):Mr X (QW .Eq) (rT K false):=by
 subst hK
 exact BW hu
structure Tn(CB CH:LZ)(H:Hp)(p d aa ka:LZ)(L:List Ent)(A:List (Str×LZ))(rs:List LZ)(W:List ((Str×Str)×LZ))(N:List ((Str×Str)×Bdy)):Prop where
 bk:Bc CB CH H p d L
 en:∀e∈L,bZ H e (An N e.nm)
 ab:Ht H aa A (L.map λe=>(e.nm,e.el))
 ro:Dz H ka rs W
 pn:OJ (cS H) W N
 nm:∀n∈N,n.1.1∈L.map (·.nm)
 nd:(N.map (·.1)).Nodup
 ad:aa≠d
 ae:∀e∈L,aa≠e.ba
 ll:L.length<=20
 nl:N.length<=60
def Xi(CB CH:LZ):Sp:=λvs H Q _=>∃(p d aa ka:LZ)(L:List Ent)(A:List (Str×LZ))(rs:List LZ)(W:List ((Str×Str)×LZ))(N:List ((Str×Str)×Bdy)),vs=[.ref p,.ref aa,.ref ka]/\Tn CB CH H p d aa ka L A rs W N/\∀H',Ak H H'->Q (.bl true) H'
theorem Bc.but{CB CH:LZ}{H H':Hp}{p d aa:LZ}{kv:List (Key×V)}{L:List Ent}(B:Bc CB CH H p d L)(ha:H aa=some (.dK kv))(n1:aa≠d)(n2:∀e∈L,aa≠e.ba)(k:∀b o,H b=some o->b≠aa->H' b=some o):Bc CB CH H' p d L:=by
 obtain⟨dx,hp⟩:=B.ob
 refine⟨⟨dx,k _ _ hp (Ei hp ha (by intro z;cases z))⟩,k _ _ B.dc (NT n1),λe he=>?_,B.nb,B.nd,B.nn⟩
 have E:=B.en e he
 exact⟨k _ _ E.ob (Ei E.ob ha (by intro z;cases z)),k _ _ E.el (Ei E.el ha (by intro z;cases z)),k _ _ E.od (Ei E.od ha (by intro z;cases z)),k _ _ E.bd (NT (n2 e he))⟩
theorem sZ{α β:Type}{F:α->β->Prop}{xs:List α}{ys:List β}(h:OJ F xs ys){k:Nat}{y:β}(hy:ys[k]? = some y):∃x,xs[k]? = some x/\F x y:=by
 have hk:k < xs.length:=by rw[OF h];exact(LM.mp hy).1
 obtain⟨y',h1,h2⟩:=Du h (LU hk)
 rw[hy] at h1
 cases h1
 exact⟨_,LU hk,h2⟩
theorem oJ{N:List ((Str×Str)×Bdy)}{n:(Str×Str)×Bdy}(h:n∈N):(n.1.2,n.2)∈An N n.1.1:=ML.mpr ⟨n,List.mem_filter.mpr ⟨h,decide_eq_true rfl⟩,rfl⟩
section
variable {P:MV} {w:NU} {K:LO} {mg:Str->Option LP} {base:OS} {f fN fE fO fB CB CH:LZ} {fd dN dE dO dB:NP}
abbrev JI:List Str:=["_law_book","_law_above","_law_known","_law_name","_law_own"]
theorem Wd:Al JI ["_law_book","_law_above","_law_known"] (Ac Nu):=Fm (by decide +kernel)
theorem IV:(["_law_row","_law_name"]:List Str).Nodup:=by decide +kernel
theorem IR:(["_law_row","_law_book"]:List Str).Nodup:=by decide +kernel
theorem tU(F:Dx K "_law_alike" "_law_alike" Nu f fd)(T:Gb K mg CB CH)(Tx':Txt mg)(GN:Aj P w K mg base Ia 1 fN dN ["self"] (Mc CB CH))(bN:Binds K dN ["self"] [])(mN:Meth K CB "houses" fN)(GE:Aj P w K mg base Bj 2 fE dE ["self","name"] (Mu CB CH))(bE:Binds K dE ["self","name"] [])(mE:Meth K CB "elders" fE)(GO:Aj P w K mg base Ia 2 fO dO ["self","name"] (jG CB CH))(bO:Binds K dO ["self","name"] [])(mO:Meth K CB "own_words" fO)(GB:Aj P w K mg base Bj 2 fB dB ["self","name","word"] (Vz CB CH))(bB:Binds K dB ["self","name","word"] [])(mB:Meth K CB "body" fB):Aj P w K mg base Ia 3 f fd ["_law_book","_law_above","_law_known"] (Xi CB CH):=by
 refine F.ok1 Wd (λvs H Q E h=>?_) (λcdv A outer s H vs Q E hr h=>?_)
 ·obtain⟨p,d,aa,ka,L,A,rs,W,N,rfl,_⟩:=h
  rfl
 obtain⟨p,d,aa,ka,L,AA,rs,W,N,rfl,S,q⟩:=h
 have hu:=Hx hr
 have hu64:(A.deeper (QE "_law_alike" (Ac Nu) s.heap.objs.size f cdv)).units+64 < cLine:=by have:=hr.un;omega
 have hr1:=hr.mono (j:=1) (by decide)
 have B:=S.bk
 have onm:∀y∈L.map (·.nm),As y=true:=λy hy=>by
  obtain⟨e,he,rfl⟩:=ML.mp hy
  exact(S.en e he).nm
 have hkeys:AA.map (·.1)=L.map (·.nm):=by
  have:=S.ab.el
  clear S onm
  generalize eT:(L.map λe=>(e.nm,e.el))=TT at this
  have e2:L.map (·.nm)=TT.map (·.1):=by rw[<- eT,List.map_map];rfl
  rw[e2]
  clear eT e2
  induction this with
  | nil=>rfl
  | cons r t ih=>rw[MU,MU,ih,r.1]
 have hAT:AA.length=L.length:=by
  have:=congrArg List.length hkeys
  rwa [LN,LN] at this
 have hWN:=OF S.pn
 refine⟨_,Ab (Bh (Ao (cQ hu64) (aA (pv 0) T.clB mN GN hr1 bN .nil Jd) (Bo (Ec rfl) rfl Tx'.list OD (Bw (pv 1))) (Aw _)) Br Ar)
  (Ab (iD (Gp PX rfl (jN (pv 1)) (Xf (i:=3) Wd.nd rfl (Or.inr rfl))
   (Ab (Cc (i:=4) (Ac Nu) JI ["_law_row"] [("_law_name", 3)] rfl Wd.nd rfl rfl (Bz (pv 2)) (Bd (i:=0) (by decide)) (λ_ _ _ _ _ _=>⟨De 0 IV,Mf (Ao Cf (Az (Iy (K:=K)) (pv 0) Ae (λ_ _=>rfl)) (pv 1) (Aw _)),Az (Iy (K:=K)) (pv 0) Ae (λ_ _=>rfl)⟩))
   (Ag (Bh (PW.pt (Nj (Ao (cQ hu64) (Cn (pv 0) T.clB mE GE hr bE .nil Cm (Bw (pv 3))) (Iv hu (pv 1) (pv 3) (λ_ _=>rfl)) (Aw _)) (Lq (Ao (cQ hu64) (Cn (pv 0) T.clB mO GO hr bO .nil Jd (Bw (pv 3))) (pv 4) (Aw _))))) Br Ar)))))
  (Ag (Ap (Bg (Jv rfl) rfl Tx'.all Hv (Bw (Dw (Ac Nu) JI ["_law_row"] [("_law_book", 0)] rfl (Bz (pv 2)) (Bd (i:=0) (by decide)) (λ_ _ _ _ _ _=>⟨De 0 IR,Ca,
   Ko (wV (K:=K) hu64) (Cn (pv 1) T.clB mB GB hr bB .nil Cm (Hh (Az (Iy (K:=K)) (pv 0) Ae (λ_ _=>rfl)) (Az (Iy (K:=K)) (pv 0) Ae (λ_ _=>rfl)))) (Az (Iy (K:=K)) (pv 0) Ae (λ_ _=>rfl)) (Aw _)⟩))))))),?_⟩
 obtain⟨dx,hp⟩:=B.ob
 refine⟨_,rfl,p,dx,_,rfl,hp,Dy d (by decide +kernel),p,d,L,rfl,B,λl1 hl1=>?_⟩
 have s1:=Ad hl1 (.lst (Ax (L.map (·.nm))))
 have e1:=Aa (H:=H) (a:=l1) (o:=.lst (Ax (L.map (·.nm))))
 generalize upd H l1 (.lst (Ax (L.map (·.nm))))=H1 at *
 refine⟨_,rfl,aa,_,rfl,Rd.of (s1 _ _ S.ab.dc),λl2 hl2=>?_⟩
 rw[Mp,hkeys]
 have s2:=Ad hl2 (.lst (Ax (L.map (·.nm))))
 have e2:=Aa (H:=H1) (a:=l2) (o:=.lst (Ax (L.map (·.nm))))
 generalize upd H1 l2 (.lst (Ax (L.map (·.nm))))=H2 at *
 have s12:=s1.trans s2
 refine Vn onm (s2 _ _ e1) e2 ⟨_,rfl,Cd ?_⟩
 have dc2:=s12 _ _ S.ab.dc
 refine⟨_,rfl,aa,Gi AA,rfl,dc2,λob nf=>?_⟩
 have kF:∀b o,H2 b=some o->b≠aa->(upd H2 aa (.frz ob (.dK (Gi AA)))) b=some o:=λb o h hn=>by rw[Ai hn];exact h
 have eF:(upd H2 aa (.frz ob (.dK (Gi AA)))) aa=some (.frz ob (.dK (Gi AA))):=Aa
 generalize upd H2 aa (.frz ob (.dK (Gi AA)))=HF at *
 have kL:Gm H2 HF:=Gm.of_keep kF dc2
 have k2:Gm H HF:=(Gm.of_same s12).trans kL
 have BF:Bc CB CH HF p d L:=(B.same s12).but dc2 S.ad S.ae kF
 have R1:=S.ro.keep k2
 have enF:∀e∈L,bZ HF e (An N e.nm):=λe he=>(S.en e he).keep k2
 refine aB (d:=aa) (o:=ob) (kvs:=Gi AA) (λi σ H3=>∃v3 v4:Option V,σ=[some (.ref p),some (.ref aa),some (.ref ka),v3,v4]/\Ak HF H3)
  ⟨none,none,rfl,Ak.refl _⟩ (λi σ H3 _ ⟨_,_,_,s3⟩=>s3 _ _ eF) ?_ ?_
 ·rintro i kv σ H3 hi ⟨v3,v4,rfl,s3⟩
  have hiA:i < AA.length:=by have:=(LM.mp hi).1;rwa [Ke] at this
  have hA:=LU hiA
  unfold Gi at hi
  rw[MX,hA] at hi
  obtain rfl:((MY AA[i].1:Key),V.ref AA[i].2)=kv:=MZ hi
  obtain⟨t,ht,z1,z2⟩:=Du S.ab.el hA
  have hiL:i < L.length:=by rw[<- hAT];exact hiA
  have hL:=LU hiL
  rw[MX,hL] at ht
  obtain rfl:=MZ ht
  generalize hle:L[i]=e at *
  have hem:e∈L:=by rw[<- hle];exact OO hiL
  have z1:AA[i].1=e.nm:=z1
  have z2:H AA[i].2=some (.lst (Ax e.el)):=z2
  have fe:Hm L e.nm=some e:=Lc B.nd hem
  have hget:Fu H3 aa (.str e.nm) (some (.ref AA[i].2)):=by
   have h0:=Rn S.ab.nd (OO hiA)
   rw[<- z1]
   exact .inl ⟨Gi AA,MY AA[i].1,.inr ⟨ob,s3 _ _ eF⟩,rfl,h0.symm⟩
  have kv1:kV (MY AA[i].1:Key)=.str e.nm:=by rw[z1];rfl
  show _
  rw[kv1]
  obtain⟨W',eW,PW,ndW,hW⟩:=(enF e hem).w
  have hkW:=Qa PW
  have R3:=R1.same s3
  refine⟨_,rfl,ka,rfl,⟨_,Av.of R3.lst⟩,Ig (K:=K) (a:=ka) (xs:=rs.map V.ref) (λj ys H4=>H4=H3/\ys=Ax ((An (N.take j) e.nm).map (·.1))) ⟨rfl,rfl⟩ (λj ys H4 _ h=>by rw[h.1];exact Av.of R3.lst) ?_ ?_⟩
  ·rintro j v ys H4 hj ⟨rfl,rfl⟩
   obtain⟨r,hr',rfl⟩:=Dj hj
   obtain⟨pr,hpr,er⟩:=R3.get hr'
   obtain⟨n,hn,y1,_⟩:=Du S.pn hpr
   have hjl:j < N.length:=(LM.mp hn).1
   have hnl:=S.nl
   have hrl:=Gy (N.take j) e.nm
   rw[NM] at hrl
   rw[Pe hn]
   refine⟨_,rfl,r,_,_,_,rfl,rfl,Dq.of er,at0 _ _,_,rfl,rfl,_,rfl,Cr (λc=>?_) (λc=>?_)⟩
   ·have c':n.1.1=e.nm:=by rw[<- y1];exact V.str.inj (of_decide_eq_true c)
    refine⟨_,rfl,r,_,_,_,rfl,rfl,Dq.of er,oP _ _ _,by rw[Au,LN,LR];omega,rfl,?_⟩
    rw[if_pos c',LW,Fq,y1]
    rfl
   ·have c':¬ n.1.1=e.nm:=λz=>c (decide_eq_true (by rw[y1,z]))
    refine⟨rfl,?_⟩
    rw[if_neg c',NL]
  rintro ys H4 ⟨rfl,rfl⟩ l3 hl3
  rw[LN,R3.len,hWN,List.take_length]
  have s4:=Ad hl3 (.lst (Ax ((An N e.nm).map (·.1))))
  have e3:=Aa (H:=H4) (a:=l3) (o:=.lst (Ax ((An N e.nm).map (·.1))))
  generalize upd H4 l3 (.lst (Ax ((An N e.nm).map (·.1))))=H5 at *
  have s35:=s3.trans s4
  have B5:=BF.same s35
  obtain⟨dx5,hp5⟩:=B5.ob
  refine⟨_,rfl,p,dx5,_,rfl,hp5,Dy d (by decide +kernel),_,rfl,p,d,L,e.nm,e,rfl,B5,fe,λl4 hl4=>?_⟩
  have s5:=Ad hl4 (.lst (Ax e.el))
  have e5:=Aa (H:=H5) (a:=l4) (o:=.lst (Ax e.el))
  generalize upd H5 l4 (.lst (Ax e.el))=H6 at *
  have s36:=s35.trans s5
  have hget6:Fu H6 aa (.str e.nm) (some (.ref AA[i].2)):=by
   have h0:=Rn S.ab.nd (OO hiA)
   rw[<- z1]
   exact .inl ⟨Gi AA,MY AA[i].1,.inr ⟨ob,s36 _ _ eF⟩,rfl,h0.symm⟩
  refine⟨_,rfl,_,rfl,aa,_,rfl,hget6,Vn (S.en e hem).el e5 (s36 _ _ (k2.lst z2)) ⟨_,rfl,Cd ?_⟩⟩
  have B6:=BF.same s36
  obtain⟨dx6,hp6⟩:=B6.ob
  refine⟨_,rfl,p,dx6,_,rfl,hp6,Dy d (by decide +kernel),_,rfl,p,d,L,e.nm,e,W',rfl,B6,fe,eW,λl5 hl5=>?_⟩
  rw[hkW]
  have s6:=Ad hl5 (.lst (Ax ((An N e.nm).map (·.1))))
  have e6:=Aa (H:=H6) (a:=l5) (o:=.lst (Ax ((An N e.nm).map (·.1))))
  generalize upd H6 l5 (.lst (Ax ((An N e.nm).map (·.1))))=H7 at *
  refine⟨_,rfl,Vn (λy hy=>?_) e6 (s6 _ _ (s5 _ _ e3)) ⟨_,rfl,Cd ⟨_,_,rfl,s36.trans s6⟩⟩⟩
  obtain⟨r,hr',rfl⟩:=ML.mp hy
  exact(Mm S.pn e.nm r hr').1
 ·rintro σ H3 ⟨v3,v4,rfl,s3⟩
  refine⟨aa,ob,Gi AA,nf,s3 _ _ eF,?_⟩
  have sH:Ak H (upd H3 aa (.dK (Gi AA))):=λb o h=>by
   by_cases hb:b=aa
   ·subst hb
    rw[Aa,<- h]
    exact S.ab.dc.symm
   ·rw[Ai hb]
    exact s3 _ _ (kF _ _ (s12 _ _ h) hb)
  generalize upd H3 aa (.dK (Gi AA))=H4 at *
  have R4:=S.ro.same sH
  refine⟨_,rfl,ka,rfl,⟨_,Av.of R4.lst⟩,Bq (K:=K) (a:=ka) (xs:=rs.map V.ref) (λi ys H5=>Ak H4 H5/\ys=(NC i true).map V.bl) ⟨Ak.refl _,rfl⟩ (λi ys H5 _ h=>Av.of (h.1 _ _ R4.lst)) ?_ ?_⟩
  ·rintro i y ys H5 hi ⟨s5,rfl⟩
   obtain⟨r,hr',rfl⟩:=Dj hi
   obtain⟨pr,hpr,er⟩:=R4.get hr'
   obtain⟨n,hn,y1,y2,ts,y3,y4,y5,y6⟩:=Du S.pn hpr
   have sH5:=sH.trans s5
   have hil:i < N.length:=(LM.mp hn).1
   have hnl:=S.nl
   have hnm:=MK hn
   obtain⟨e,he,hee⟩:=ML.mp (S.nm n hnm)
   have hee:e.nm=n.1.1:=hee
   have fe:Hm L n.1.1=some e:=by rw[<- hee];exact Lc B.nd he
   obtain⟨W',eW,PW,ndW,hW⟩:=(S.en e he).w
   have hmem:=oJ hnm
   rw[<- hee] at hmem
   obtain⟨k,hk⟩:=NX hmem
   obtain⟨qq,hq,u1,u2,us,u3,u4,u5,u6⟩:=sZ PW hk
   have hval:valV e.bd (MY n.1.2:Key)=some (.ref qq.2):=by
    rw[eW]
    have:=Rn ndW (MK hq)
    have u1:qq.1=n.1.2:=u1
    rw[u1] at this
    exact this
   have B5:=B.same sH5
   obtain⟨dx5,hp5⟩:=B5.ob
   rw[y1] at er
   refine⟨_,rfl,p,dx5,_,rfl,hp5,Dy d (by decide +kernel),_,rfl,r,_,_,_,rfl,rfl,Dq.of (s5 _ _ er),at0 _ _,_,rfl,r,_,_,_,rfl,rfl,Dq.of (s5 _ _ er),oP _ _ _,p,d,L,n.1.1,n.1.2,e,rfl,B5,fe,.inr ⟨qq.2,us.map V.ref,hval,sH5 _ _ u3,λl hl=>?_⟩⟩
   have s6:=Ad hl (.lst (us.map V.ref))
   have e6:=Aa (H:=H5) (a:=l) (o:=.lst (us.map V.ref))
   generalize upd H5 l (.lst (us.map V.ref))=H6 at *
   have sH6:=sH5.trans s6
   refine⟨_,rfl,r,_,_,_,rfl,rfl,Dq.of (s6 _ _ (s5 _ _ er)),at2 _ _ _ _,yO (λp hp=>(y5 p hp).1) e6 (sH6 _ _ y3) (u4.same sH6) (y4.same sH6) ⟨by rw[LN,OL,LR];omega,s5.trans s6,?_⟩⟩
   rw[TF,LW]
   rfl
  ·rintro ys H5 ⟨s5,rfl⟩ l hl
   refine⟨l,_,NC (rs.map V.ref).length true,rfl,Av.of Aa,Fg _,?_⟩
   have e:(NC (rs.map V.ref).length true).all id=true:=by simp
   rw[e]
   exact q _ ((sH.trans s5).trans (Ad hl _))
end
structure aX(ks:List (Str×LZ×List Str)):Prop where
 non:∀kd∈(["say","onwards"]:List Str),∃a,Dv ks kd=some (a,[])
 amt:∀kd∈(["put","plus","times","both","any","odd"]:List Str),∃a,Dv ks kd=some (a,([("amount" : Str)]:List Str))
 dv:∀kd∈(["over","part"]:List Str),∃a,Dv ks kd=some (a,([("divisor" : Str)]:List Str))
 sh:∀kd∈(["up","down"]:List Str),∃a,Dv ks kd=some (a,([("shift" : Str)]:List Str))
 ask:∃a,Dv ks "ask" = some (a,([("word" : Str)]:List Str))
 try_:∃a,Dv ks "try" = some (a,([("word" : Str),("word" : Str)]:List Str))
theorem Wu{y:Str}(h:As y=true):Ex "word" (.str y)=true:=by
 unfold Ex
 rw[if_pos rfl]
 exact h
theorem Rh{lo hi a:Int}(h0:lo<=a)(h1:a<=hi):yV lo hi (.int a)=true:=by
 show (decide (lo<=a) && decide (a<=hi))=true
 rw[decide_eq_true h0,decide_eq_true h1]
 rfl
theorem rQ{a:Int}(h0 : -big<=a)(h1:a<=big):Ex "amount" (.int a)=true:=by
 unfold Ex
 rw[if_neg (by decide +kernel),if_neg (by decide +kernel),if_neg (by decide +kernel)]
 exact Rh h0 h1
theorem wY{a:Int}(h0 : -big<=a)(h1:a<=big)(hz:a≠0):Ex "divisor" (.int a)=true:=by
 unfold Ex
 rw[if_neg (by decide +kernel),if_neg (by decide +kernel),if_pos rfl,Rh h0 h1,decide_eq_false (λz=>hz (V.int.inj z))]
 rfl
theorem wM{a:Int}(h0:0<=a)(h1:a<=64):Ex "shift" (.int a)=true:=by
 unfold Ex
 rw[if_neg (by decide +kernel),if_pos rfl]
 exact Rh h0 h1
theorem kE{ks:List (Str×LZ×List Str)}{kd:Str}{ad:LZ}(hk:Dv ks kd=some (ad,[])):Hs ks kd []:=⟨ad,[],hk,rfl,λi v k hv _=>by simp at hv⟩
theorem Ml{ks:List (Str×LZ×List Str)}{kd k:Str}{u:V}{ad:LZ}(hk:Dv ks kd=some (ad,[k]))(hp:Ex k u=true):Hs ks kd [u]:=⟨ad,[k],hk,rfl,λi v k' hv hk'=>by
 have hi:i < 1:=(LM.mp hv).1
 obtain rfl:i=0:=by omega
 cases hv
 cases hk'
 exact hp⟩
theorem qY{ks:List (Str×LZ×List Str)}{kd k k2:Str}{u u2:V}{ad:LZ}(hk:Dv ks kd=some (ad,[k,k2]))(hp:Ex k u=true)(hp2:Ex k2 u2=true):Hs ks kd [u,u2]:=⟨ad,[k,k2],hk,rfl,λi v k' hv hk'=>by
 have hi:i < 2:=(LM.mp hv).1
 match i,hi with
 | 0,_=>cases hv;cases hk';exact hp
 | 1,_=>cases hv;cases hk';exact hp2⟩
structure Pt(ks:List (Str×LZ×List Str))(p:Str×List V):Prop where
 wf:Od p
 l1:p.1 ≠ "try" -> p.2.length<=1
 gd:Hs ks p.1 p.2
 pv:∀v∈p.2,PV v
section
variable {ks:List (Str×LZ×List Str)}
theorem xQ(T:aX ks){kd:Str}(h:kd = "say" ∨ kd = "onwards"):Pt ks (kd,[]):=by
 have hm:kd∈(["say","onwards"]:List Str):=by rcases h with rfl | rfl<;>decide +kernel
 obtain⟨a,ha⟩:=T.non kd hm
 refine⟨⟨?_,(λv hv=>nomatch hv),λz=>?_,NI _⟩,λ_=>NI _,kE ha,λv hv=>nomatch hv⟩
 ·rcases h with rfl | rfl<;>decide +kernel
 ·have z:kd = "try" := z
  exfalso
  rcases h with rfl | rfl<;>revert z<;>decide +kernel
theorem tD{y:Str}(h:As y=true):PV (.str y):=.inr ⟨y,rfl,by rw[LR];have:=(Ay h).2;omega⟩
theorem BD(T:aX ks){y:Str}(h:As y=true):Pt ks ("ask", [.str y]):=by
 obtain⟨a,ha⟩:=T.ask
 exact⟨⟨by show As "ask" = true;decide +kernel,λv hv=>by rw[MA.mp hv];exact .inr ⟨y,rfl,h⟩,λz=>absurd z (by show ¬ ("ask" : Str) = "try"; decide +kernel),by show 1<=2;decide⟩,λ_=>MC _,Ml ha (Wu h),λv hv=>by rw[MA.mp hv];exact tD h⟩
theorem AK(T:aX ks){y z:Str}(h:As y=true)(h2:As z=true):Pt ks ("try", [.str y,.str z]):=by
 obtain⟨a,ha⟩:=T.try_
 refine⟨⟨by show As "try" = true;decide +kernel,λv hv=>?_,λ_=>⟨y,z,rfl⟩,by show 2<=2;decide⟩,λc=>absurd rfl c,qY ha (Wu h) (Wu h2),λv hv=>?_⟩
 ·rcases LX.mp hv with rfl | hv
  ·exact .inr ⟨y,rfl,h⟩
  ·rw[MA.mp hv]
   exact .inr ⟨z,rfl,h2⟩
 ·rcases LX.mp hv with rfl | hv
  ·exact tD h
  ·rw[MA.mp hv]
   exact tD h2
def Qm:List Str:=["put","plus","times","both","any","odd","over","part","up","down"]
theorem AS:∀x∈Qm,As x=true/\x ≠ "try" := by decide +kernel
theorem BR(T:aX ks){kd:Str}{a:Int}(hm:kd∈Qm)(h0 : -big<=a)(h1:a<=big)(hd:kd = "over" ∨ kd = "part" -> a≠0)(hs:kd = "up" ∨ kd = "down" -> 0<=a/\a<=64):Pt ks (kd,[.int a]):=by
 obtain⟨o1,o2⟩:=AS kd hm
 refine⟨⟨o1,λv hv=>by rw[MA.mp hv];exact .inl ⟨a,rfl,h0,h1⟩,λz=>absurd z o2,by show 1<=2;decide⟩,λ_=>MC _,?_,λv hv=>.inl ⟨a,MA.mp hv⟩⟩
 by_cases c1:kd = "over" ∨ kd = "part"
 ·obtain⟨ad,e⟩:=T.dv kd (by rcases c1 with rfl | rfl<;>decide +kernel)
  exact Ml e (wY h0 h1 (hd c1))
 by_cases c2:kd = "up" ∨ kd = "down"
 ·obtain⟨ad,e⟩:=T.sh kd (by rcases c2 with rfl | rfl<;>decide +kernel)
  exact Ml e (wM (hs c2).1 (hs c2).2)
 ·unfold Qm at hm
  simp only[LX,MM,or_false] at hm
  obtain⟨ad,e⟩:=T.amt kd (by
   rcases hm with rfl | rfl | rfl | rfl | rfl | rfl | rfl | rfl | rfl | rfl
   ·decide +kernel
   ·decide +kernel
   ·decide +kernel
   ·decide +kernel
   ·decide +kernel
   ·decide +kernel
   ·exact absurd (.inl rfl) c1
   ·exact absurd (.inr rfl) c1
   ·exact absurd (.inl rfl) c2
   ·exact absurd (.inr rfl) c2)
  exact Ml e (rQ h0 h1)
theorem jV{ss:Bdy}(h:∀p∈ss,Pt ks p)(hl:ss.length<=30):Hq ks ss:=⟨hl,λp hp=>⟨(h p hp).gd,(h p hp).pv,by have:=(h p hp).wf.le;omega⟩⟩
end
def Mx:List Str:=["say","put","plus","times","both","any","odd","over","part","up","down","onwards","ask","try"]
def kd14(c:Int):Str:=Mx.getD (c % 14).toNat "say"
theorem vL(c:Int):Sz (Mx.map V.str) (c % 14)=some (.str (kd14 c)):=by
 have h:(c % 14).toNat < Mx.length:=by
  show (c % 14).toNat < 14
  omega
 obtain⟨n,hn⟩:=QM (OM c (show (14:Int)≠0 by decide))
 unfold kd14
 rw[hn] at h ⊢
 rw[show ((n:Int)).toNat=n from OY n] at h ⊢
 refine Cj ?_
 rw[MX,LU h,MF,LU h]
 rfl
theorem pA(c:Int):kd14 c∈Mx:=by
 unfold kd14
 have h:(c % 14).toNat < Mx.length:=by
  show (c % 14).toNat < 14
  omega
 rw[MF,LU h]
 exact OO h
theorem vB:∀x∈Mx,¬ x = "say" -> ¬ x = "onwards" -> ¬ x = "ask" -> ¬ x = "try" -> x∈Qm:=by decide +kernel
theorem Za{kd p q:Str}:FE (V.str kd) [V.str p,V.str q]=true ↔ kd=p∨kd=q:=by
 show ((p == kd) || ((q == kd) || false))=true ↔ _
 rw[Bool.or_false,Bool.or_eq_true,beq_iff_eq,beq_iff_eq]
 exact⟨λh=>h.imp Eq.symm Eq.symm,λh=>h.imp Eq.symm Eq.symm⟩
theorem jS{x:Int}{n:Nat}(h:0 < n):∃k:Nat,x % (n:Int)=(k:Int)/\k < n:=by
 have b0:0<=x % (n:Int):=OM _ (by omega)
 have b1:x % (n:Int) < (n:Int):=OH _ (by omega)
 obtain⟨k,hk⟩:=QM b0
 exact⟨k,hk,by omega⟩
theorem cI:big=1000000000000000000000000000000:=by decide
def Pm:List Str:=["house","under","knows","forgets","else","try","ask","say","none","put","onwards"]
def ownAt(c:Int):Str:=Pm.getD (c % 11).toNat "house"
theorem tN(c:Int):Sz (Pm.map V.str) (c % 11)=some (.str (ownAt c)):=by
 have h:(c % 11).toNat < Pm.length:=by
  show (c % 11).toNat < 11
  omega
 obtain⟨n,hn⟩:=QM (OM c (show (11:Int)≠0 by decide))
 unfold ownAt
 rw[hn] at h ⊢
 rw[show ((n:Int)).toNat=n from OY n] at h ⊢
 refine Cj ?_
 rw[MX,LU h,MF,LU h]
 rfl
theorem BO:∀x∈Pm,As x=true:=by decide +kernel
theorem mZ(c:Int):ownAt c∈Pm:=by
 unfold ownAt
 have h:(c % 11).toNat < Pm.length:=by
  show (c % 11).toNat < 11
  omega
 rw[MF,LU h]
 exact OO h
theorem CS:Pm.Nodup:=by decide +kernel
theorem kD{a b:Int}(h:ownAt a=ownAt b):a % 11=b % 11:=by
 have ha:(a % 11).toNat < Pm.length:=by
  show (a % 11).toNat < 11
  omega
 have hb:(b % 11).toNat < Pm.length:=by
  show (b % 11).toNat < 11
  omega
 unfold ownAt at h
 rw[MF,LU ha,MF,LU hb] at h
 have e:=(List.getElem_inj CS).mp h
 omega
theorem EU{x:Str}(h:As x=true):isNm x:=⟨(Ay h).1,(Ay h).2,Hy h⟩
end Bk
namespace Mg
section
variable {α:Type} [DecidableEq α]
def after(rs:List (List α))(xs:List α):List (List α):=xs.foldl (λrs x=>rs.map (Ct x)) rs
theorem gO(rs:List (List α))(xs:List α)(x:α):after rs (xs++[x])=(after rs xs).map (Ct x):=by
 unfold after
 rw[List.foldl_append]
 rfl
def Good(rs:List (List α))(xs:List α):Prop:=∀i x,xs[i]? = some x->pick (cnt (after rs (xs.take i))) (after rs (xs.take i))=some x
theorem rN(rs:List (List α)):Good rs []:=λi x h=>by simp at h
theorem oF{rs:List (List α)}{xs:List α}{x:α}(g:Good rs xs)(h:pick (cnt (after rs xs)) (after rs xs)=some x):Good rs (xs++[x]):=λi y hy=>by
 by_cases hi:i < xs.length
 ·rw[MW hi] at hy
  rw[List.take_append_of_le_length (by omega)]
  exact g i y hy
 ·by_cases he:i=xs.length
  ·subst he
   rw[NK] at hy
   cases hy
   rw[List.take_append_of_le_length (MC _),List.take_length]
   exact h
  ·rw[List.getElem?_eq_none (by rw[LS,MR];omega)] at hy
   cases hy
theorem Oo{f:α->Nat}:∀ {rs:List (List α)},pick f rs=none->∀r∈rs,∀x t,r=x::t->f x≠0
 | [],_,r,hr,_,_,_=>nomatch hr
 | []::rs,h,r,hr,x,t,e=>by
  rcases LX.mp hr with rfl | hr
  ·cases e
  ·exact Oo (rs:=rs) h r hr x t e
 | (y::u)::rs,h,r,hr,x,t,e=>by
  unfold pick at h
  by_cases hy:f y=0
  ·rw[if_pos hy] at h
   cases h
  ·rw[if_neg hy] at h
   rcases LX.mp hr with rfl | hr
   ·cases e
    exact hy
   ·exact Oo (rs:=rs) h r hr x t e
theorem yF{rs:List (List α)}{x:α}:cnt rs x≠0 ↔ ∃r∈rs,x∈r.tail:=by
 constructor
 ·intro h
  by_cases q:∃r∈rs,x∈r.tail
  ·exact q
  ·exact absurd (Jh.mpr λr hr hx=>q ⟨r,hr,hx⟩) h
 ·rintro⟨r,hr,hx⟩ z
  exact Jh.mp z r hr hx
variable {β:Type}
def Us(rs:List (List α))(ls:List β)(x:α×α×β):Prop:=∃(i:Nat)(r:List α),rs[i]? = some (x.1::r)/\x.2.1∈r/\ls[i]? = some x.2.2
structure Xb(rs:List (List α))(ls:List β)(ring:List (α×α×β)):Prop where
 lean:∀x∈ring,Us rs ls x
 cyc:∃c T,ring.map (·.1)=c::T/\ring.map (·.2.1)=T++[c]/\(c::T).Nodup/\T≠[]
structure Way(rs:List (List α))(ls:List β)(path:List (α×α×β))(ns:List α)(c:α):Prop where
 lean:∀x∈path,Us rs ls x
 fst:path.map (·.1)=(ns++[c]).tail
 snd:path.map (·.2.1)=ns
 nd:ns.Nodup
 hd:∀x∈ns++[c],∃r∈rs,∃t,r=x::t
theorem Way.step{rs:List (List α)}{ls:List β}{path:List (α×α×β)}{ns:List α}{c a:α}{l:β}(w:Way rs ls path ns c)(hc:c∉ns)(hl:Us rs ls (a,c,l)):Way rs ls (path++[(a,c,l)]) (ns++[c]) a where
 lean:=λx hx=>by
  rcases MJ.mp hx with z | z
  ·exact w.lean x z
  ·rw[MA.mp z];exact hl
 fst:=by
  rw[LW,w.fst]
  show (ns++[c]).tail++[a]=_
  cases ns with
  | nil=>rfl
  | cons n ns=>rfl
 snd:=by
  rw[LW,w.snd]
  rfl
 nd:=by
  rw[PQ]
  refine⟨w.nd,by simp,λx hx y hy e=>?_⟩
  rw[MA.mp hy] at e
  exact hc (e ▸ hx)
 hd:=λx hx=>by
  rcases MJ.mp hx with z | z
  ·exact w.hd x z
  ·rw[MA.mp z]
   obtain⟨i,r,h1,_,_⟩:=hl
   exact⟨a::r,MK h1,r,rfl⟩
theorem Way.ring{rs:List (List α)}{ls:List β}{path:List (α×α×β)}{ns:List α}{c:α}{j:Nat}(w:Way rs ls path ns c)(hnd:∀r∈rs,r.Nodup)(hj:ns[j]? = some c):Xb rs ls (path.drop j).reverse:=by
 obtain⟨hjl,ej⟩:=LM.mp hj
 have hf:((path.drop j).reverse).map (·.1)=c::(ns.drop (j+1)).reverse:=by
  rw[List.map_reverse,List.map_drop,w.fst,List.drop_tail,List.drop_append_of_le_length (by omega),List.reverse_append]
  rfl
 have hs:((path.drop j).reverse).map (·.2.1)=(ns.drop (j+1)).reverse++[c]:=by
  rw[List.map_reverse,List.map_drop,w.snd,QT hjl,ej,List.reverse_cons]
 have hcn:c∉ns.drop (j+1):=λhm=>by
  have nd:=w.nd
  rw[<- List.take_append_drop j ns,QT hjl,ej,PQ] at nd
  exact(OP.mp nd.2.1).1 hm
 refine⟨λx hx=>w.lean x (UW (List.mem_reverse.mp hx)),c,_,hf,hs,OP.mpr ⟨λz=>hcn (List.mem_reverse.mp z),?_⟩,λz=>?_⟩
 ·exact List.pairwise_reverse.mpr ((List.Sublist.nodup (List.drop_sublist _ _) w.nd).imp λh=>NT h)
 ·-- one leaning alone: its first one would stand behind itself
  rw[z] at hf hs
  cases hp:(path.drop j).reverse with
  | nil=>rw[hp] at hf;cases hf
  | cons x r=>
   rw[hp] at hf hs
   have e1:x.1=c:=(List.cons.inj hf).1
   have e2:x.2.1=c:=(List.cons.inj hs).1
   obtain⟨i,t,h1,h2,_⟩:=w.lean x (UW (List.mem_reverse.mp (by rw[hp];exact MD)))
   rw[e1] at h1
   rw[e2] at h2
   exact(OP.mp (hnd _ (MK h1))).1 h2
theorem Zq:∀(xs ys:List α),xs.Nodup->(∀x∈xs,x∈ys)->xs.length<=ys.length
 | [],_,_,_=>NI _
 | x::xs,ys,h,hs=>by
  obtain⟨h1,h2⟩:=OP.mp h
  have hx:=hs x MD
  have ih:=Zq xs (ys.erase x) h2 λy hy=>(List.mem_erase_of_ne (λe=>h1 (by rw[<- e];exact hy))).mpr (hs y (ME _ hy))
  rw[List.length_erase_of_mem hx] at ih
  have:0 < ys.length:=List.length_pos_of_mem hx
  rw[MT]
  omega
theorem Way.le{rs:List (List α)}{ls:List β}{path:List (α×α×β)}{ns:List α}{c:α}(w:Way rs ls path ns c):ns.length<=rs.length:=by
 have h:=Zq ns ((rs.map λr=>r.head?.toList).flatten) w.nd λx hx=>by
  obtain⟨r,hr,t,e⟩:=w.hd x (QA _ hx)
  exact List.mem_flatten.mpr ⟨[x],ML.mpr ⟨r,hr,by rw[e];rfl⟩,by simp⟩
 have le:∀l:List (List α),((l.map λr=>r.head?.toList).flatten).length<=l.length:=λl=>by
  induction l with
  | nil=>exact MC _
  | cons r l ih=>
   rw[MU,List.flatten_cons,LS,MT]
   have:(r.head?.toList).length<=1:=by cases r<;>simp
   omega
 exact NA h (le rs)
theorem Way.lt{rs:List (List α)}{ls:List β}{path:List (α×α×β)}{ns:List α}{c:α}(w:Way rs ls path ns c)(hc:c∉ns)(hr:∃a l,Us rs ls (a,c,l)):ns.length < rs.length:=by
 obtain⟨a,l,hl⟩:=hr
 have:=(w.step hc hl).le
 rw[LS,MR] at this
 omega
end
end Mg
namespace Bk
open PySem L2 Mg
abbrev Ln:=Str×Str×Str
def DI(x:Ln):List V:=[.str x.1,.str x.2.1,.str x.2.2]
structure Fx(H:Hp)(p:LZ)(ts:List LZ)(ring:List Ln):Prop where
 lst:H p=some (.lst (ts.map V.ref))
 len:ts.length=ring.length
 at_:∀(m:Nat)(t:LZ)(x:Ln),ts[m]? = some t->ring[m]? = some x->H t=some (.tup (DI x))
theorem Fx.same{H H':Hp}{p:LZ}{ts:List LZ}{ring:List Ln}(R:Fx H p ts ring)(h:Ak H H'):Fx H' p ts ring:=⟨h _ _ R.lst,R.len,λi a r h1 h2=>h _ _ (R.at_ i a r h1 h2)⟩
def jR:Sp:=λvs H Q _=>∃(ra:LZ)(as:List LZ)(rs:List (List Str)),vs=[.ref ra]/\Cw H ra as rs/\rs.length<=1000/\(∃r∈rs,r≠[]) /\
 ∀(x:Str)(r t:List Str)(H':Hp),r∈rs->r=x::t->Ak H H'->Q (.str x) H'
def sY:Sp:=λvs H Q _=>∃(x:Str)(ra la:LZ)(as:List LZ)(rs:List (List Str))(ls:List Str),vs=[.str x,.ref ra,.ref la]/\Cw H ra as rs/\H la=some (.lst (Ax ls))/\ls.length=rs.length/\rs.length<=1000/\(∃r∈rs,x∈r.tail) /\
 ∀(t:LZ)(a l:Str)(H':Hp),Ak H H'->H' t=some (.tup (DI (a,x,l)))->Us rs ls (a,x,l)->Q (.ref t) H'
def eC:Sp:=λvs H Q _=>∃(ra la:LZ)(as:List LZ)(rs:List (List Str))(ls:List Str),vs=[.ref ra,.ref la]/\Cw H ra as rs/\H la=some (.lst (Ax ls))/\ls.length=rs.length/\rs.length<=1000/\(∃r∈rs,r≠[])/\(∀r∈rs,r.Nodup) /\
 (∀r∈rs,∀x t,r=x::t->cnt rs x≠0)/\∀(p:LZ)(ts:List LZ)(ring:List Ln)(H':Hp),Ak H H'->Fx H' p ts ring->Xb rs ls ring->Q (.ref p) H'
section
variable {P:MV} {w:NU} {K:LO} {mg:Str->Option LP} {base:OS} {f fF fL:LZ} {fd dF dL:NP}
theorem JB:(["rest"]:List Str).Nodup:=by decide +kernel
theorem vO:Al ["rests"] ["rests"] (Ac So):=Fm (by decide +kernel)
theorem tX(F:Dx K "first_name" "first_name" So f fd)(T:Txt mg):Aj P w K mg base Bj 1 f fd ["rests"] jR:=by
 refine F.ok vO (λvs H Q E h=>?_) (λcdv A outer s H vs Q E hr h=>?_)
 ·obtain⟨ra,as,rs,rfl,_⟩:=h
  rfl
 obtain⟨ra,as,rs,rfl,R,hn,⟨r0,hr0,ne0⟩,q⟩:=h
 refine⟨_,Ag (Ap (Az (r:=mJ K) Be (Dw (Ac So) ["rests"] ["rest"] [] rfl (Bz (pv 0)) (Bd (i:=0) (by decide)) (λ_ _ _ _ _ _=>⟨De 0 JB,Mf (Sf (K:=K) (pv 0)),Az (r:=mJ K) Be (pv 0) Ae (λ_ _=>rfl)⟩)) Ae (λ_ _=>rfl))),?_⟩
 refine⟨_,rfl,ra,rfl,⟨_,Av.of R.lst⟩,Ig (K:=K) (a:=ra) (xs:=as.map V.ref) (λi ys H2=>H2=H/\∃zs:List Str,ys=Ax zs/\zs.length<=i/\(∀z∈zs,∃r∈rs,∃t,r=z::t)/\((∃r∈rs.take i,r≠[])->zs≠[]))
  ⟨rfl,[],rfl,MC _,(λz hz=>nomatch hz),λ⟨r,hr',_⟩=>by simp at hr'⟩ (λi ys H2 _ h=>by rw[h.1];exact Av.of R.lst) ?_ ?_⟩
 ·rintro i y ys H2 hi ⟨rfl,zs,rfl,hz,hz2,hz3⟩
  obtain⟨a,ha,rfl⟩:=Dj hi
  obtain⟨r,hr',er⟩:=R.get ha
  have hil:i < rs.length:=(LM.mp hr').1
  have htk:rs.take (i+1)=rs.take i++[r]:=by rw[NR,hr'];rfl
  refine⟨_,rfl,_,.inl ⟨_,Av.of er,rfl⟩,?_⟩
  cases hrr:r with
  | nil=>
   refine Cd ⟨rfl,zs,rfl,by omega,hz2,?_⟩
   rw[htk]
   rintro⟨r',hr2,ne⟩
   rcases MJ.mp hr2 with z | z
   ·exact hz3 ⟨r',z,ne⟩
   ·rw[MA.mp z] at ne
    exact absurd hrr ne
  | cons x t=>
   rw[hrr] at er
   refine Dk ?_
   refine⟨_,rfl,a,_,_,_,rfl,rfl,Av.of er,Cj (j:=0) rfl,?_⟩
   refine⟨by rw[Au,LR];omega,rfl,zs++[x],by unfold Ax;rw[LW];rfl,by rw[LS,MR];omega,λz hz'=>?_,λ_ e=>?_⟩
   ·rcases MJ.mp hz' with z1 | z1
    ·exact hz2 z z1
    ·rw[MA.mp z1]
     exact⟨r,MK hr',t,hrr⟩
   ·exact absurd e (by simp)
 ·rintro ys H2 ⟨rfl,zs,rfl,hz,hz2,hz3⟩ p hp
  have hlen:(as.map V.ref).length=rs.length:=by rw[LN,R.len]
  rw[hlen,NY (MC _)] at hz3
  cases zs with
  | nil=>exact absurd rfl (hz3 ⟨r0,hr0,ne0⟩)
  | cons x zs=>
   obtain⟨r,hr',t,e⟩:=hz2 x MD
   exact⟨p,_,_,_,rfl,rfl,Av.of Aa,Cj (j:=0) rfl,q x r t _ hr' e (Ad hp _)⟩
theorem KH:(["rest","label","name"]:List Str).Nodup:=by decide +kernel
theorem CD:Al ["name","rests","labels"] ["name","rests","labels"] (Ac Yq):=Fm (by decide +kernel)
theorem xW(F:Dx K "leaning_against" "leaning_against" Yq f fd)(T:Txt mg):Aj P w K mg base Bj 1 f fd ["name","rests","labels"] sY:=by
 refine F.ok CD (λvs H Q E h=>?_) (λcdv A outer s H vs Q E hr h=>?_)
 ·obtain⟨x,ra,la,as,rs,ls,rfl,_⟩:=h
  rfl
 obtain⟨x,ra,la,as,rs,ls,rfl,R,el,hll,hn,⟨r0,hr0,hx0⟩,q⟩:=h
 refine⟨_,Ag (Ap (Az (r:=mJ K) Be (Dw (Ac Yq) ["name","rests","labels"] ["rest","label"] [("name", 0)] rfl (Vu rfl T.zip (Hh (pv 1) (pv 2)))
  (Qc (K:=K) (Er (Bd (i:=0) (by decide)) (Er (Bd (i:=1) (by decide)) Nc)))
  (λ_ _ _ _ _ _=>⟨Lf (n:=2) rfl (Cy (De 0 KH) (Cy (De 1 KH) Ii)),
   Mf (Ao (r:=KS K false) Kr (pv 2) (Ck (r:=rM K) Ew (pv 0) (Cv Ae) Dt) rfl),
   Eu (Tc (Az (r:=mJ K) Be (pv 0) Ae (λ_ _=>rfl)) (pv 2) (pv 1))⟩)) Ae (λ_ _=>rfl))),?_⟩
 have inC:∀(y:Str)(zs:List Str),FE (.str y) (Ax zs)=decide (y∈zs):=λy zs=>by
  unfold FE Ax
  rw[List.any_map]
  by_cases hy:y∈zs
  ·rw[decide_eq_true hy,TR]
   exact⟨y,hy,by show (y == y)=true;exact beq_self_eq_true y⟩
  ·rw[decide_eq_false hy,UK]
   intro z hz e
   have e':(z == y)=true:=e
   exact hy (beq_iff_eq.mp e' ▸ hz)
 have flat:∀zs:List Str,(Ax zs).all Nb=true:=λzs=>by
  unfold Ax
  rw[List.all_map,QO]
  intro z _
  rfl
 refine⟨_,rfl,_,rfl,ra,la,rfl,⟨_,Av.of R.lst⟩,⟨_,Av.of el⟩,Ue (K:=K) (a:=ra) (b:=la) (xs:=as.map V.ref) (zs:=Ax ls) (by rw[LN,Au,R.len,hll])
  (λi ys H2=>Ak H H2/\∃ts:List LZ,ys=ts.map V.ref/\ts.length<=i/\(∀t∈ts,∃a l,Us rs ls (a,x,l)/\H2 t=some (.tup (DI (a,x,l))))/\((∃r∈rs.take i,x∈r.tail)->ts≠[]))
  ⟨Ak.refl _,[],rfl,MC _,(λz hz=>nomatch hz),λ⟨r,hr',_⟩=>by simp at hr'⟩ (λi ys H2 _ h=>⟨Av.of (h.1 _ _ R.lst),Av.of (h.1 _ _ el)⟩) ?_ ?_⟩
 ·rintro i y z ys H2 Tp hi hz ⟨s2,ts,rfl,hts,ht2,ht3⟩ hT
  obtain⟨a,ha,rfl⟩:=Dj hi
  obtain⟨l,hl,rfl⟩:=El hz
  obtain⟨r,hr',er⟩:=R.get ha
  have hil:i < rs.length:=(LM.mp hr').1
  have htk:rs.take (i+1)=rs.take i++[r]:=by rw[NR,hr'];rfl
  have s3:Ak H2 (upd H2 Tp (.tup [.ref a,.str l])):=Ad hT _
  have er3:=s3 _ _ (s2 _ _ er)
  refine⟨Tp,_,rfl,Dq.of Aa,rfl,_,_,rfl,_,_,rfl,rfl,?_⟩
  refine⟨_,rfl,_,rfl,_,rfl,a,_,rfl,Av.of er3,λp hp=>?_⟩
  rw[DE]
  have etl:(Ax r).tail=Ax r.tail:=by unfold Ax;rw[List.map_tail]
  rw[etl]
  have s4:=s3.trans (Ad hp (.lst (Ax r.tail)))
  refine⟨p,_,rfl,.inl (Av.of Aa),rfl,flat _,_,rfl,?_⟩
  rw[if_neg LY,inC]
  refine Cr (λc=>?_) (λc=>?_)
  ·have c':x∈r.tail:=of_decide_eq_true c
   cases hrr:r with
   | nil=>rw[hrr] at c';cases c'
   | cons b t=>
    rw[hrr] at c' er3
    have er4:=Ad hp (.lst (Ax r.tail)) _ _ er3
    rw[<- hrr]
    refine⟨_,rfl,a,_,_,_,rfl,rfl,Av.of er4,Cj (j:=0) rfl,_,rfl,_,rfl,(by show 3<=MG;decide),λtp htp=>?_⟩
    have s5:=s4.trans (Ad htp (.tup (DI (b,x,l))))
    refine⟨by rw[LN,LR];omega,s2.trans s5,ts++[tp],by rw[LW];rfl,by rw[LS,MR];omega,λt' ht'=>?_,λ_ e=>absurd e (by simp)⟩
    rcases MJ.mp ht' with z1 | z1
    ·obtain⟨a',l',h1,h2⟩:=ht2 t' z1
     exact⟨a',l',h1,s5 _ _ h2⟩
    ·rw[MA.mp z1]
     exact⟨b,l,⟨i,t,by rw[hr',hrr],c',hl⟩,Aa⟩
  ·have c':¬ x∈r.tail:=of_decide_eq_false (PU.mpr c)
   refine⟨s2.trans s4,ts,rfl,by omega,λt' ht'=>?_,?_⟩
   ·obtain⟨a',l',h1,h2⟩:=ht2 t' ht'
    exact⟨a',l',h1,s4 _ _ h2⟩
   ·rw[htk]
    rintro⟨r',hr2,hx⟩
    rcases MJ.mp hr2 with z1 | z1
    ·exact ht3 ⟨r',z1,hx⟩
    ·rw[MA.mp z1] at hx
     exact absurd hx c'
 ·rintro ys H2 ⟨s2,ts,rfl,hts,ht2,ht3⟩ p hp
  have hlen:(as.map V.ref).length=rs.length:=by rw[LN,R.len]
  rw[hlen,NY (MC _)] at ht3
  cases ts with
  | nil=>exact absurd rfl (ht3 ⟨r0,hr0,hx0⟩)
  | cons t ts=>
   obtain⟨a,l,h1,h2⟩:=ht2 t MD
   have s3:=Ad (H:=H2) hp (.lst ((t::ts).map V.ref))
   exact⟨p,_,_,_,rfl,rfl,Av.of Aa,Cj (j:=0) rfl,q t a l _ (s2.trans s3) (s3 _ _ h2) h1⟩
end
section
variable {P:MV} {w:NU} {K:LO} {mg:Str->Option LP} {base:OS} {f fF fL:LZ} {fd dF dL:NP}
structure Yy(kvs:List (Key×V))(ns:List Str):Prop where
 at_:∀(i:Nat)(x:Str),ns[i]? = some x->valV kvs (MY x:Key)=some (.int (i:Nat))
 no:∀x:Str,x∉ns->valV kvs (MY x:Key)=none
 len:kvs.length<=ns.length
theorem Yy.put{kvs:List (Key×V)}{ns:List Str}{c:Str}(m:Yy kvs ns)(hc:c∉ns):Yy (putK kvs (MY c:Key) (.int (ns.length:Nat))) (ns++[c]) where
 at_:=λi x hx=>by
  rw[Ry]
  by_cases hi:i < ns.length
  ·rw[MW hi] at hx
   have:x≠c:=λe=>hc (e ▸ MK hx)
   rw[if_neg (λz:(MY x:Key)=MY c=>this (MY.inj z))]
   exact m.at_ i x hx
  ·have hil:i < (ns++[c]).length:=(LM.mp hx).1
   rw[LS,MR] at hil
   obtain rfl:i=ns.length:=by omega
   rw[NK] at hx
   cases hx
   rw[if_pos rfl]
 no:=λx hx=>by
  rw[MJ,not_or] at hx
  rw[Ry,if_neg (λz:(MY x:Key)=MY c=>hx.2 (by rw[MY.inj z];simp))]
  exact m.no x hx.1
 len:=by
  have:=Hd kvs (MY c:Key) (.int (ns.length:Nat))
  have h2:=m.len
  rw[LS,MR]
  omega
theorem Sk:Al ["rests","labels","met","path","name"] ["rests","labels"] (Ac sO):=Fm (by decide +kernel)
theorem Fx.snoc{H:Hp}{p t:LZ}{ts:List LZ}{path:List Ln}{x:Ln}(L:Fx H p ts path)(ht:H t=some (.tup (DI x))):Fx (upd H p (.lst ((ts++[t]).map V.ref))) p (ts++[t]) (path++[x]) where
 lst:=Aa
 len:=by rw[LS,LS,L.len];rfl
 at_:=λm a y ha hy=>by
  have np:∀ {a:LZ} {zs:List V},H a=some (.tup zs)->a≠p:=λ{a zs} e z=>by rw[z,L.lst] at e;cases e
  by_cases hm:m < ts.length
  ·rw[MW hm] at ha
   rw[MW (by rw[<- L.len];exact hm)] at hy
   have e:=L.at_ m a y ha hy
   rw[Ai (np e)]
   exact e
  ·have hml:m < (ts++[t]).length:=(LM.mp ha).1
   rw[LS,MR] at hml
   obtain rfl:m=ts.length:=by omega
   rw[NK] at ha
   rw[L.len,NK] at hy
   cases ha
   cases hy
   rw[Ai (np ht)]
   exact ht
theorem xD(F:Dx K "ring_of" "ring_of" sO f fd)(T:Txt mg)(FF:Dx K "first_name" "first_name" So fF dF)(bF:Binds K dF ["rests"] [])(mF:mg "first_name" = some (.ref fF))(FL:Dx K "leaning_against" "leaning_against" Yq fL dL)(bL:Binds K dL ["name","rests","labels"] [])(mL:mg "leaning_against" = some (.ref fL)):Aj P w K mg base Ia 2 f fd ["rests","labels"] eC:=by
 have GF:Aj P w K mg base Bj 1 fF dF ["rests"] jR:=tX FF T
 have GL:Aj P w K mg base Bj 1 fL dL ["name","rests","labels"] sY:=xW FL T
 refine F.ok1 Sk (λvs H Q E h=>?_) (λcdv A outer s H vs Q E hr h=>?_)
 ·obtain⟨ra,la,as,rs,ls,rfl,_⟩:=h
  rfl
 obtain⟨ra,la,as,rs,ls,rfl,R,el,hll,hn,hne,hnd,hcn,q⟩:=h
 have hu:=Hx hr
 refine⟨_,Ab (Bx 2 Sk.nd Jt)
  (Ab (Bx 3 Sk.nd (Dn Gr))
  (Ab (Bx 4 Sk.nd (Ci GF hr rfl mF FF.kp bF .nil Cm (Bw (pv 0))))
  (Ab (Sq PX (Gq (Kq hu (pv 4) (pv 2)))
   (Ab (Ir hu (pv 2) (pv 4) (Ep T.len (pv 3)) rfl)
   (Ab (Cu (Dg RE QZ QY Gf (pv 3) (Bw (Ci GL hr rfl mL FL.kp bL .nil Cm (Tc (pv 4) (pv 0) (pv 1))))))
   (Ag (Bx 4 Sk.nd (Az Df (Az Be (pv 3) (Oz Jr Ae) (λ_ _=>rfl)) Ae (λ_ _=>rfl)))))))
  (Ag (Ap (Bo (Td rfl) rfl T.list OD (Bw (Bo Ti rfl T.rev boot_reversed (Bw (Ck Ew (pv 3) (Cv (Iv hu (pv 2) (pv 4) (λ_ _=>rfl))) Dt)))))))))),?_⟩
 intro d hd
 have s1:Ak H (upd H d (.dK [])):=Ad hd _
 refine⟨(by show 0<=MG;decide),λpa hpa=>?_⟩
 have s2:Ak H (upd (upd H d (.dK [])) pa (.lst [])):=s1.trans (Ad hpa _)
 have npd:pa≠d:=λe=>by rw[e,Aa] at hpa;cases hpa
 have hpa0:H pa=none:=s1.free hpa
 refine⟨_,rfl,ra,as,rs,rfl,R.same s2,hn,hne,λc0 r0 t0 H3 hr0 er0 s3=>?_⟩
 refine⟨λm σ H5=>∃(path:List Ln)(ns:List Str)(c:Str)(kvs:List (Key×V))(ts:List LZ),σ=[some (.ref ra),some (.ref la),some (.ref d),some (.ref pa),some (.str c)]/\Ak H H5/\H5 d=some (.dK kvs)/\Yy kvs ns/\Fx H5 pa ts path/\Way rs ls path ns c/\m=rs.length-ns.length,
  ⟨_,[],[],c0,[],[],rfl,s2.trans s3,s3 _ _ (by rw[Ai (NT npd)];exact Aa),⟨λi x h=>(by simp at h),λx _=>rfl,MC _⟩,⟨s3 _ _ Aa,rfl,λm t x h=>(by simp at h)⟩,
   ⟨(λx hx=>nomatch hx),rfl,rfl,QI,λx hx=>⟨r0,hr0,t0,by rw[MA.mp hx];exact er0⟩⟩,rfl⟩,?_⟩
 rintro m σ H5 ⟨path,ns,c,kvs,ts,rfl,s5,ed,M,L,W,rfl⟩
 have hpl:path.length=ns.length:=by rw[<- W.snd,LN]
 refine⟨_,rfl,_,rfl,d,_,rfl,Fu.k (k:=MY c) ed,_,rfl,?_⟩
 by_cases hc:c∈ns
 ·obtain⟨j,hj⟩:=NX hc
  have hv:=M.at_ j c hj
  have hjl:j < ns.length:=(LM.mp hj).1
  rw[hv]
  refine Cd ?_
  -- return list(reversed(path[met[name]:]))
  refine⟨_,rfl,_,rfl,_,rfl,d,.int (j:Nat),rfl,hv ▸ Fu.k (k:=MY c) ed,_,rfl,pa,_,rfl,Av.of L.lst,λp1 hp1=>?_⟩
  have hcut:Es (ts.map V.ref) (some ((j:Nat):Int)) none=(ts.drop j).map V.ref:=by
   rw[Wb _ _ (by rw[LN,L.len,hpl];omega),List.map_drop]
  rw[hcut]
  have s6:=Ad (H:=H5) hp1 (.lst ((ts.drop j).map V.ref))
  refine⟨p1,_,rfl,Av.of Aa,λit hit=>?_⟩
  have n1:p1≠it:=λe=>by rw[e,Aa] at hit;cases hit
  refine⟨it,p1,(ts.drop j).map V.ref,rfl,Aa,Av.of (by rw[Ai n1];exact Aa),λl hl=>?_⟩
  rw[yC hit]
  have hl':(upd H5 p1 (.lst ((ts.drop j).map V.ref))) l=none:=by
   by_cases e:l=it
   ·rw[e];exact hit
   ·rw[Ai e] at hl;exact hl
  have s7:=s6.trans (Ad hl' (.lst ((ts.drop j).map V.ref).reverse))
  refine q l (ts.drop j).reverse (path.drop j).reverse _ (s5.trans s7) ⟨?_,?_,λm t x h1 h2=>?_⟩ (W.ring hnd hj)
  ·rw[Aa,List.map_reverse]
  ·rw[SI,SI,OW,OW,L.len]
  ·have hm:m < (ts.drop j).length:=by
    have:=(LM.mp h1).1
    rwa [SI] at this
   have hm2:m < (path.drop j).length:=by rw[OW,<- L.len,<- OW];exact hm
   rw[List.getElem?_reverse hm,List.getElem?_drop] at h1
   rw[List.getElem?_reverse hm2,List.getElem?_drop,OW,<- L.len,<- OW] at h2
   exact s7 _ _ (L.at_ _ t x h1 h2)
 ·rw[M.no c hc]
  refine Dk ?_
  obtain⟨r1,hr1,t1,e1⟩:=W.hd c (by simp)
  have hbe:∃r∈rs,c∈r.tail:=yF.mp (hcn r1 hr1 c t1 e1)
  refine⟨λσ' H'=>∃m',m' < rs.length-ns.length/\∃(path:List Ln)(ns:List Str)(c:Str)(kvs:List (Key×V))(ts:List LZ),σ'=[some (.ref ra),some (.ref la),some (.ref d),some (.ref pa),some (.str c)]/\Ak H H'/\H' d=some (.dK kvs)/\Yy kvs ns/\Fx H' pa ts path/\Way rs ls path ns c/\m'=rs.length-ns.length,λσ' H' h=>h,?_⟩
  have hle:=W.le
  have hkl:=M.len
  -- met[name]=len(path)
  refine⟨_,rfl,pa,_,rfl,.inl (Av.of L.lst),_,rfl,_,rfl,d,_,rfl,Pp.k (k:=MY c) ed (by rw[LR];omega),?_⟩
  have etl:(((ts.map V.ref).length:Nat):Int)=((ns.length:Nat):Int):=by rw[LN,L.len,hpl]
  rw[etl]
  have M2:=M.put hc
  have k6:∀b o,b≠d->H5 b=some o->(upd H5 d (.dK (putK kvs (MY c:Key) (.int (ns.length:Nat))))) b=some o:=λb o hb e=>by rw[Ai hb];exact e
  have s6:Ak H (upd H5 d (.dK (putK kvs (MY c:Key) (.int (ns.length:Nat))))):=λb o e=>k6 b o (Ah e hd) (s5 b o e)
  have L6:Fx (upd H5 d (.dK (putK kvs (MY c:Key) (.int (ns.length:Nat))))) pa ts path:=⟨k6 _ _ npd L.lst,L.len,λm t x h1 h2=>k6 _ _ (λe=>by have:=L.at_ m t x h1 h2;rw[e,ed] at this;cases this) (L.at_ m t x h1 h2)⟩
  have ed6:=Aa (H:=H5) (a:=d) (o:=.dK (putK kvs (MY c:Key) (.int (ns.length:Nat))))
  generalize upd H5 d (.dK (putK kvs (MY c:Key) (.int (ns.length:Nat))))=H6 at *
  -- path.append(leaning_against(name,rests,labels))
  refine⟨_,rfl,.inl ⟨rfl,_,Av.of L6.lst⟩,_,rfl,_,rfl,_,rfl,c,ra,la,as,rs,ls,rfl,R.same s6,s6 _ _ el,hll,hn,hbe,λt a l H7 s7 et hl=>?_⟩
  have L7:=L6.same s7
  refine⟨pa,_,_,rfl,rfl,L7.lst,by rw[LN,L.len,hpl,LR];omega,?_⟩
  have em:ts.map V.ref++[V.ref t]=(ts++[t]).map V.ref:=by rw[LW];rfl
  rw[em]
  have L8:=L7.snoc et
  have s8:Ak H (upd H7 pa (.lst ((ts++[t]).map V.ref))):=λb o e=>by rw[Ai (Ah e hpa0)];exact s7 _ _ (s6 b o e)
  have ed8:(upd H7 pa (.lst ((ts++[t]).map V.ref))) d=some (.dK (putK kvs (MY c:Key) (.int (ns.length:Nat)))):=by rw[Ai (NT npd)];exact s7 _ _ ed6
  -- name=path[-1][0]
  have lx:(upd H7 pa (.lst ((ts++[t]).map V.ref))) pa=some (.lst (ts.map V.ref++[V.ref t])):=by rw[L8.lst,<- em]
  have et8:(upd H7 pa (.lst ((ts++[t]).map V.ref))) t=some (.tup (DI (a,c,l))):=L8.at_ ts.length t _ (NK) (by rw[L.len];exact NK)
  refine⟨_,rfl,_,rfl,pa,_,_,_,rfl,rfl,Av.of lx,Zk _ _,t,_,_,_,rfl,rfl,Dq.of et8,Cj (j:=0) rfl,?_⟩
  have W2:=W.step hc hl
  have hlt:=W.lt hc ⟨a,l,hl⟩
  refine⟨_,?_,path++[(a,c,l)],ns++[c],a,_,ts++[t],rfl,s8,ed8,M2,L8,W2,rfl⟩
  rw[LS,MR]
  omega
end
def rS(K:LO):Sp:=λvs H Q _=>∃(x C:LZ)(bm:List LP)(t:LZ)(v:V),vs=[.ref x,v]/\H x=some (uK x C none t)/\Yx K C bm/\vK K C "ring" /\
 ∀dx,H dx=none->dx≠x->Q .non (upd (upd H x (uK x C (some dx) t)) dx (.xd [("ring", v)]))
structure Ends(rows rs:List (List Str)):Prop where
 len:rs.length=rows.length
 suf:∀(i:Nat)(r s:List Str),rows[i]? = some r->rs[i]? = some s->∃a,r=a++s
def Og(C:LZ):Sp:=λvs H Q E=>∃(ra la:LZ)(as:List LZ)(rows:List (List Str))(ls:List Str),vs=[.ref ra,.ref la]/\Cw H ra as rows/\H la=some (.lst (Ax ls))/\ls.length=rows.length/\tot rows<=1000/\rows.length<=1000/\(∀r∈rows,r.Nodup) /\
 (∀(p:LZ)(found:List Str)(H':Hp),H p=none->Ak H H'->H' p=some (.lst (Ax found))->Good rows found->(∀r∈after rows found,r=[])->found.length<=1000->Q (.ref p) H') /\
 ∀(dx p:LZ)(ts:List LZ)(ring:List Ln)(rs:List (List Str))(joined:List Str)(H':Hp),Ak H H'->H' dx=some (.xd [("ring", .ref p)])->Fx H' p ts ring->Ends rows rs->Xb rs ls ring->Good rows joined->pick (cnt (after rows joined)) (after rows joined)=none->(∃r∈after rows joined,r≠[])->E (.ref C) (some dx) H'
theorem nE{K:LO}{H:Hp}{ps:List LZ}{rs:List (List Str)}{ra:LZ}(R:Cw H ra ps rs):Yh K H (ps.map V.ref) (rs.map λr=>!r.isEmpty):=by
 have go:∀(ps:List LZ)(rs:List (List Str)),ps.length=rs.length->(∀(i:Nat)(a:LZ)(r:List Str),ps[i]? = some a->rs[i]? = some r->H a=some (.lst (Ax r)))->Yh K H (ps.map V.ref) (rs.map λr=>!r.isEmpty):=by
  intro ps
  induction ps with
  | nil=>
   intro rs hl _
   cases rs with
   | nil=>exact .nil
   | cons _ _=>cases hl
  | cons p ps ih=>
   intro rs hl h
   cases rs with
   | nil=>cases hl
   | cons r rs=>
    refine .cons (.inl ⟨_,Av.of (h 0 p r rfl rfl),?_⟩) (ih rs (by simpa using hl) λi a s h1 h2=>h (i+1) a s h1 h2)
    cases r<;>rfl
 exact go ps rs R.len R.row
section
variable {P:MV} {w:NU} {K:LO} {mg:Str->Option LP} {base:OS} {f fC fF fT fR fI C:LZ} {fd dC dF dT dR dI:NP} {bm:List LP}
theorem CL:Al ["self","ring"] ["self","ring"] (Ac Ss):=Fm (by decide +kernel)
theorem vJ(F:Dx K "__init__" "AtOdds.__init__" Ss f fd):Aj P w K mg base Bj 1 f fd ["self","ring"] (rS K):=by
 refine F.ok CL (λvs H Q E h=>?_) (λcdv A outer s H vs Q E hr h=>?_)
 ·obtain⟨x,C,bm,t,v,rfl,_⟩:=h
  rfl
 obtain⟨x,C,bm,t,v,rfl,hx,c,F',q⟩:=h
 exact⟨_,Ag (yR (pv 0) (pv 1)),_,rfl,_,rfl,x,C,bm,t,rfl,hx,c,F',q⟩
theorem vW{H:Hp}{x dx:LZ}{o o' u:HO}(hx:H x=none)(hd:dx≠x):rem (upd (upd (upd H x o) x o') dx u) x=upd H dx u:=by
 funext b
 by_cases e:b=x
 ·subst e
  rw[Jj,Ai (NT hd),hx]
 ·rw[Wz e]
  by_cases e2:b=dx
  ·subst e2
   rw[Aa,Aa]
  ·rw[Ai e2,Ai e2,Ai e,Ai e]
abbrev aL:List Str:=["rows","labels","starts","behind","joined","name","rests"]
theorem KD:(["row"]:List Str).Nodup:=by decide +kernel
theorem GQ:(["row","start"]:List Str).Nodup:=by decide +kernel
theorem lD(n:Nat):(NC n (V.int 0))=Rr (NC n 0):=by
 unfold Rr
 rw[List.map_replicate]
 rfl
theorem Ff:Al ["rows","labels","starts","behind","joined","name","rests"] ["rows","labels"] (Ac Ga):=Fm (by decide +kernel)
theorem eN(F:Dx K "merged" "merged" Ga f fd)(T:Txt mg)(FC:Dx K "counts_behind" "counts_behind" Lx fC dC)(bC:Binds K dC ["rows"] [])(mC:mg "counts_behind" = some (.ref fC))(FF:Dx K "free_name" "free_name" Zw fF dF)(bF:Binds K dF ["rows","starts","behind"] [])(mF:mg "free_name" = some (.ref fF))(FT:Dx K "take_out" "take_out" aR fT dT)(bT:Binds K dT ["name","rows","starts","behind"] [])(mT:mg "take_out" = some (.ref fT))(GR:Aj P w K mg base Ia 2 fR dR ["rests","labels"] eC)(kR:MN K (.ref fR)=true)(bR:Binds K dR ["rests","labels"] [])(mR:mg "ring_of" = some (.ref fR))(FI:Dx K "__init__" "AtOdds.__init__" Ss fI dI)(bI:Binds K dI ["self","ring"] [])(mI:mg "AtOdds" = some (.ref C))(hc:Yx K C bm)(hf:vK K C "ring")(hbase:bm.contains (.type "BaseException")=true)(hi:QD K (.ref C) "__init__" = some (some (.ref fI)))(hfn:PySem.W.isFn K (.ref fI)=true):Aj P w K mg base (Pl P w) 3 f fd ["rows","labels"] (Og C):=by
 have GC:Aj P w K mg base Bj 1 fC dC ["rows"] Qq:=Up FC T
 have GF:Aj P w K mg base Bj 1 fF dF ["rows","starts","behind"] cJ:=iL FF T
 have GT:Aj P w K mg base Bj 1 fT dT ["name","rows","starts","behind"] gK:=iK FT T
 have GI:Aj P w K mg base Bj 1 fI dI ["self","ring"] (rS K):=vJ FI
 refine F.okX Ff (λvs H Q E h=>?_) (λcdv A outer s H vs Q E hr h=>?_)
 ·obtain⟨ra,la,as,rows,ls,rfl,_⟩:=h
  rfl
 obtain⟨ra,la,as,rows,ls,rfl,R,el,hll,ht,hrl,hnd,q,qE⟩:=h
 have hr1:=hr.mono (j:=1) (by decide)
 refine⟨_,Ab (Cc (i:=2) (Ac Ga) aL ["row"] [] rfl Ff.nd rfl rfl (Bz (pv 0)) (Bd (i:=0) (by decide)) (λ_ _ _ _ _ _=>⟨De 0 KD,Ca,Ae⟩))
  (Ab (Bx 3 Ff.nd (Ci GC hr1 rfl mC FC.kp bC .nil Cm (Bw (pv 0))))
  (Ab (Bx 4 Ff.nd (Dn Gr))
  (Ab (Bx 5 Ff.nd (Ci GF hr1 rfl mF FF.kp bF .nil Cm (Tc (pv 0) (pv 2) (pv 3))))
  (Ab (Sq (Wx.passesOwn eE) (Gq (iS (pv 5)))
   (Ab (Cu (Dg RE QZ QY Gf (pv 4) (Bw (pv 5))))
   (Ab (Cu (Ci GT hr1 rfl mT FT.kp bT .nil Cm (FZ (pv 5) (pv 0) (pv 2) (pv 3))))
   (Ag (Bx 5 Ff.nd (Ci GF hr1 rfl mF FF.kp bF .nil Cm (Tc (pv 0) (pv 2) (pv 3))))))))
  (Ab (Cc (i:=6) (Ac Ga) aL ["row","start"] [] rfl Ff.nd rfl rfl (Vu rfl T.zip (Hh (pv 0) (pv 2))) (Qc (K:=K) (Er (Bd (i:=0) (by decide)) (Er (Bd (i:=1) (by decide)) Nc)))
   (λ_ _ _ _ _ _=>⟨Lf (n:=2) rfl (Cy (De 0 GQ) (Cy (De 1 GQ) Ii)),Ca,Ck (r:=rM K) Ew (pv 0) (Cv (pv 1)) Dt⟩))
  (Ab (Bh (Ej (Bg (Zt rfl) rfl T.any Va (Bw (pv 6))))
   (Ag (nD rfl hc hbase hi hfn GI hr bI rfl mI (Bw (Ci GR hr rfl mR kR bR .nil Jd (Hh (pv 6) (pv 1)))))) Ar)
  (Ag (Ap (pv 4))))))))),?_⟩
 -- starts=[0 for row in rows]
 refine⟨_,rfl,ra,rfl,⟨_,Av.of R.lst⟩,Bq (K:=K) (a:=ra) (xs:=as.map V.ref) (λi ys H2=>H2=H/\ys=NC i (V.int 0)) ⟨rfl,rfl⟩ (λi ys H2 _ h=>by rw[h.1];exact Av.of R.lst) ?_ ?_⟩
 ·rintro i y ys H2 hi ⟨rfl,rfl⟩
  refine⟨?_,rfl,?_⟩
  ·have hi':=(LM.mp hi).1
   rw[LN,R.len] at hi'
   rw[OL,LR]
   omega
  ·exact TF.symm
 rintro ys H2 ⟨rfl,rfl⟩ sa hsa
 rw[LN,R.len,lD]
 have s1:Ak H2 (upd H2 sa (.lst (Rr (NC rows.length 0)))):=Ad hsa _
 -- behind=counts_behind(rows)
 refine⟨_,rfl,ra,as,rows,rfl,R.same s1,by omega,λba kvs H3 hba s2 eb B hl=>?_⟩
 -- joined=[]
 refine⟨(by show 0<=MG;decide),λja hja=>?_⟩
 have s3:Ak H3 (upd H3 ja (.lst [])):=Ad hja _
 have hsa3:H3 sa=some (.lst (Rr (NC rows.length 0))):=s2 _ _ Aa
 have n_sj:sa≠ja:=Ah hsa3 hja
 have n_bj:ba≠ja:=Ah eb hja
 have n_sb:sa≠ba:=Ei hsa3 eb (by intro z;cases z)
 have st0:Rz (upd H3 ja (.lst [])) rows sa ba (NC rows.length 0) kvs:=⟨s3 _ _ hsa3,OL,s3 _ _ eb⟩
 have sH:Ak H2 (upd H3 ja (.lst [])):=s1.trans (s2.trans s3)
 have hba2:H2 ba=none:=s1.free hba
 have hja2:H2 ja=none:=s1.free (s2.free hja)
 have nsr:sa≠ra:=NT (Ah R.lst hsa)
 have nsa:∀a∈as,a≠sa:=λa ha=>by
  obtain⟨i,hi⟩:=NX ha
  obtain⟨r,_,er⟩:=R.get hi
  exact Ah er hsa
 -- name=free_name(rows,starts,behind)
 refine⟨_,rfl,_,rfl,_,rfl,ra,sa,ba,as,rows,_,kvs,cnt rows,rfl,R.same sH,st0,B,λH4 s4=>?_⟩
 rw[Cs]
 have hb0:∀(i:Nat)(r:List Str)(m:Nat),rows[i]? = some r->(NC rows.length 0)[i]? = some m->m<=r.length:=λi r m _ h2=>by
  rw[RF] at h2
  split at h2
  ·cases h2;exact NI _
  ·cases h2
 -- while name is not None
 refine⟨λm σ H5=>∃(joined:List Str)(st:List Nat)(kvs:List (Key×V))(v6:Option V),σ=[some (.ref ra),some (.ref la),some (.ref sa),some (.ref ba),some (.ref ja),some (aD (pick (cnt (rests rows st)) (rests rows st))),v6] /\
  Ak H2 H5/\H5 ja=some (.lst (Ax joined))/\Rz H5 rows sa ba st kvs/\(∀(i:Nat)(r:List Str)(m:Nat),rows[i]? = some r->st[i]? = some m->m<=r.length)/\bJ kvs (cnt (rests rows st))/\kvs.length<=1000 /\
  (rests rows st=after rows joined/\Good rows joined)/\m=tot (rests rows st)/\joined.length+tot (rests rows st)<=tot rows,
  ⟨_,[],NC rows.length 0,kvs,none,by rw[Cs];rfl,sH.trans s4,s4 _ _ Aa,⟨s4 _ _ st0.lst,st0.len,s4 _ _ st0.dic⟩,hb0,by rw[Cs];exact B,by omega,by rw[Cs];exact⟨rfl,rN _⟩,rfl,by rw[Cs];simp⟩,?_⟩
 rintro m σ H5 ⟨joined,st,kvs,v6,rfl,s5,ej,S,hb,B,hl,⟨e1,e2⟩,rfl,hj⟩
 refine⟨_,rfl,_,rfl,?_⟩
 cases hp:pick (cnt (rests rows st)) (rests rows st) with
 | some x=>
  refine Dk ?_
  obtain⟨hx0,r0,hr0,t0,er0⟩:=Hz hp
  have hlt:tot ((rests rows st).map (Ct x)) < tot (rests rows st):=Jx (by rw[<- er0];exact hr0)
  refine⟨λσ' H'=>∃m',m' < tot (rests rows st)/\∃(joined:List Str)(st:List Nat)(kvs:List (Key×V))(v6:Option V),σ'=[some (.ref ra),some (.ref la),some (.ref sa),some (.ref ba),some (.ref ja),some (aD (pick (cnt (rests rows st)) (rests rows st))),v6] /\
   Ak H2 H'/\H' ja=some (.lst (Ax joined))/\Rz H' rows sa ba st kvs/\(∀(i:Nat)(r:List Str)(m:Nat),rows[i]? = some r->st[i]? = some m->m<=r.length)/\bJ kvs (cnt (rests rows st))/\kvs.length<=1000 /\
   (rests rows st=after rows joined/\Good rows joined)/\m'=tot (rests rows st)/\joined.length+tot (rests rows st)<=tot rows,λσ' H' h=>h,?_⟩
  -- joined.append(name)
  refine⟨_,rfl,.inl ⟨rfl,_,Av.of ej⟩,_,rfl,ja,_,_,rfl,rfl,ej,by rw[Au,LR];omega,?_⟩
  have ejx:Ax joined++[V.str x]=Ax (joined++[x]):=by unfold Ax;rw[LW];rfl
  have hup:∀b o,b≠ja->H5 b=some o->(upd H5 ja (.lst (Ax joined++[V.str x]))) b=some o:=λb o hne e=>by rw[Ai hne];exact e
  have s6:Ak H2 (upd H5 ja (.lst (Ax joined++[V.str x]))):=λb o e=>hup b o (Ah e hja2) (s5 b o e)
  -- take_out(name,rows,starts,behind)
  refine⟨_,rfl,_,rfl,_,rfl,_,rfl,x,ra,sa,ba,as,rows,st,kvs,rfl,R.same s6,⟨hup _ _ n_sj S.lst,S.len,hup _ _ n_bj S.dic⟩,hb,B,by omega,nsr,nsa,λst' kvs' H6 S6 h6 hb6 B6 hl6 k6=>?_⟩
  have s7:Ak H2 H6:=λb o e=>k6 b o (s6 b o e) (Ah e hsa) (Ah e hba2)
  -- name=free_name(rows,starts,behind)
  refine⟨_,rfl,_,rfl,_,rfl,ra,sa,ba,as,rows,st',kvs',_,rfl,R.same s7,S6,B6,λH7 s8=>?_⟩
  refine⟨_,?_,joined++[x],st',kvs',v6,rfl,s7.trans s8,s8 _ _ ?_,⟨s8 _ _ S6.lst,S6.len,s8 _ _ S6.dic⟩,hb6,B6,by omega,⟨?_,?_⟩,rfl,?_⟩
  ·rw[h6];exact hlt
  ·rw[<- ejx]
   exact k6 _ _ Aa (NT n_sj) (NT n_bj)
  ·rw[h6,e1,gO]
  ·rw[e1] at hp
   exact oF e2 hp
  ·rw[h6,LS,MR];omega
 | none=>
  refine Cd ?_
  -- rests=[row[start:] for row,start in zip(rows,starts)]
  have R5:=R.same s5
  have hrl2:(rests rows st).length=rows.length:=Jc S.len
  refine⟨_,rfl,_,rfl,ra,sa,rfl,⟨_,Av.of R5.lst⟩,⟨_,Av.of S.lst⟩,Rg (K:=K) (a:=ra) (b:=sa) (xs:=as.map V.ref) (zs:=Rr st) (by rw[LN,Ql,S.len,R.len])
   (λi ys H6=>Ak H5 H6/\∃ps:List LZ,ys=ps.map V.ref/\ps.length=i/\∀(j:Nat)(p:LZ)(r:List Str),ps[j]? = some p->(rests rows st)[j]? = some r->H6 p=some (.lst (Ax r))) ⟨Ak.refl _,[],rfl,rfl,λj p r h=>by simp at h⟩ (λi ys H6 _ h=>⟨Av.of (h.1 _ _ R5.lst),Av.of (h.1 _ _ S.lst)⟩) ?_ ?_⟩
  ·rintro i y z ys H6 Tp hy hz ⟨s6,ps,rfl,hps,hpl⟩ hT
   obtain⟨a,ha,rfl⟩:=Dj hy
   obtain⟨j,hj',rfl⟩:=Xh hz
   obtain⟨r,hr',er⟩:=R5.get ha
   have s9:Ak H5 (upd H6 Tp (.tup [.ref a,.int j])):=s6.trans (Ad hT _)
   refine⟨Tp,_,rfl,Dq.of Aa,rfl,_,_,rfl,_,_,rfl,rfl,?_⟩
   refine⟨_,rfl,_,rfl,_,rfl,a,_,rfl,Av.of (s9 _ _ er),λp hp'=>?_⟩
   have hc':Es (Ax r) (some (j:Int)) none=Ax (r.drop j):=by
    rw[Wb _ _ (by rw[Au];exact hb i r j hr' hj')]
    unfold Ax
    rw[<- List.map_drop]
   rw[hc']
   refine⟨?_,s9.trans (Ad hp' _),ps++[p],by rw[LW];rfl,by rw[LS,hps];rfl,λj' p' r' hp2 hr2=>?_⟩
   ·have:=(LM.mp hr').1
    rw[LN,hps,LR]
    omega
   ·by_cases hj2:j' < ps.length
    ·rw[MW hj2] at hp2
     have e:=Ad hT (.tup [.ref a,.int j]) _ _ (hpl j' p' r' hp2 hr2)
     exact Ad hp' _ _ _ e
    ·have hjl:j' < (ps++[p]).length:=(LM.mp hp2).1
     rw[LS,MR] at hjl
     obtain rfl:j'=ps.length:=by omega
     rw[NK] at hp2
     cases hp2
     rw[hps,Gg hr' hj'] at hr2
     cases hr2
     exact Aa
  ·rintro ys H6 ⟨s6,ps,rfl,hps,hpl⟩ qa hqa
   -- if any(rests)
   have s9:=Ad (H:=H6) hqa (.lst (ps.map V.ref))
   have Rq:Cw (upd H6 qa (.lst (ps.map V.ref))) qa ps (rests rows st):=⟨Aa,by rw[hps,LN,R.len,hrl2],λi a r h1 h2=>s9 _ _ (hpl i a r h1 h2)⟩
   refine⟨_,rfl,qa,_,_,rfl,Av.of Aa,nE Rq,_,rfl,?_⟩
   have sAll:Ak H2 (upd H6 qa (.lst (ps.map V.ref))):=s5.trans (s6.trans s9)
   refine Cr (λc=>?_) (λc=>?_)
   ·-- raise AtOdds(ring_of(rests,labels))
    obtain⟨k,hk,ek⟩:=TR.mp c
    obtain⟨r1,hr1',er1⟩:=ML.mp hk
    have hsuf:Ends rows (rests rows st):=⟨hrl2,λi r s h1 h2=>by
     have hil:i < st.length:=by rw[S.len];exact(LM.mp h1).1
     rw[Gg h1 (LU hil)] at h2
     cases h2
     exact⟨r.take st[i],(List.take_append_drop _ _).symm⟩⟩
    have hne1:r1≠[]:=λe=>by rw[e] at er1;rw[<- er1] at ek;cases ek
    refine⟨_,rfl,_,rfl,qa,la,ps,rests rows st,ls,rfl,Rq,sAll _ _ el,by rw[hll,hrl2],by omega,⟨r1,hr1',hne1⟩,λr hr'=>?_,λr hr' x t e=>Oo hp r hr' x t e,λp ts ring H7 s10 L hring=>?_⟩
    ·obtain⟨i,hi'⟩:=NX hr'
     have hil:i < rows.length:=by rw[<- hrl2];exact(LM.mp hi').1
     obtain⟨a,ea⟩:=hsuf.suf i _ _ (LU hil) hi'
     have:=hnd _ (OO hil)
     rw[ea,PQ] at this
     exact this.2.1
    ·refine⟨by show 1<=MG;decide,λx tt hx=>⟨x,C,bm,tt,.ref p,rfl,Aa,hc,hf,λdx hdx hne=>⟨rfl,some dx,by rw[Ai (NT hne),Aa],?_⟩⟩⟩
     rw[vW hx hne]
     have hdx':H7 dx=none:=by rw[Ai hne] at hdx;exact hdx
     have s11:=Ad hdx' (.xd [("ring", .ref p)])
     exact qE dx p ts ring (rests rows st) joined _ (sAll.trans (s10.trans s11)) Aa (L.same s11) hsuf hring e2 (by rw[<- e1];exact hp) ⟨r1,by rw[<- e1];exact hr1',hne1⟩
   ·-- return joined
    refine⟨_,rfl,q ja joined _ hja2 sAll (s9 _ _ (s6 _ _ ej)) e2 (λr hr'=>?_) (by omega)⟩
    rw[<- e1] at hr'
    cases r with
    | nil=>rfl
    | cons x t=>exact absurd (TR.mpr ⟨true,ML.mpr ⟨_,hr',rfl⟩,rfl⟩) c
end
end Bk
namespace Bk
open PySem L2 Mg Nm
def Wj(C:LZ):Sp:=λvs H Q E=>∃(x:Str)(ea oa:LZ)(as:List LZ)(el:List Str)(rows:List (List Str)),vs=[.str x,.ref ea,.ref oa]/\H ea=some (.lst (Ax el))/\Cw H oa as rows/\el.length=rows.length/\tot (rows++[el])<=900/\rows.length<=900/\(∀r∈rows++[el],r.Nodup) /\
 (∀(p:LZ)(found:List Str)(H':Hp),H p=none->Ak H H'->H' p=some (.lst (Ax (x::found)))->Good (rows++[el]) found->(∀r∈after (rows++[el]) found,r=[])->found.length<=1000->Q (.ref p) H') /\
 ∀(dx p:LZ)(ts:List LZ)(ring:List Ln)(rs:List (List Str))(joined:List Str)(H':Hp),Ak H H'->H' dx=some (.xd [("ring", .ref p)])->Fx H' p ts ring->Ends (rows++[el]) rs->Xb rs (el++[x]) ring->Good (rows++[el]) joined->pick (cnt (after (rows++[el]) joined)) (after (rows++[el]) joined)=none->(∃r∈after (rows++[el]) joined,r≠[])->E (.ref C) (some dx) H'
section
variable {P:MV} {w:NU} {K:LO} {mg:Str->Option LP} {base:OS} {f fM C:LZ} {fd dM:NP}
theorem xF:Al ["name","elders","orders"] ["name","elders","orders"] (Ac Yd):=Fm (by decide +kernel)
theorem rR(F:Dx K "made_order" "made_order" Yd f fd)(T:Txt mg)(GM:Aj P w K mg base (Pl P w) 3 fM dM ["rows","labels"] (Og C))(kM:MN K (.ref fM)=true)(bM:Binds K dM ["rows","labels"] [])(mM:mg "merged" = some (.ref fM)):
 Aj P w K mg base (Pl P w) 4 f fd ["name","elders","orders"] (Wj C):=by
 refine F.okX xF (λvs H Q E h=>?_) (λcdv A outer s H vs Q E hr h=>?_)
 ·obtain⟨x,ea,oa,as,el,rows,rfl,_⟩:=h
  rfl
 obtain⟨x,ea,oa,as,el,rows,rfl,eel,R,hle,ht,hrl,hnd,q,qE⟩:=h
 refine⟨_,Ag (Ap (Am Ic (Dn (Bw (pv 0))) (Zf GM hr rfl mM kM bM .nil (Hh (Am Ic (pv 2) (Dn (Bw (pv 1)))) (Am Ic (pv 1) (Dn (Bw (pv 0)))))))),?_⟩
 have hlR:as.length=rows.length:=R.len
 refine⟨_,rfl,by show 1<=MG;decide,λl1 hl1=>?_⟩
 have s1:=Ad hl1 (.lst [V.str x])
 refine⟨_,rfl,_,rfl,by show 1<=MG;decide,λl2 hl2=>?_⟩
 have s2:=Ad hl2 (.lst [V.ref ea])
 refine⟨oa,l2,_,_,rfl,rfl,s2 _ _ (s1 _ _ R.lst),Aa,by rw[LN,LR,MR];omega,λl3 hl3=>?_⟩
 have s3:=Ad hl3 (.lst (as.map V.ref++[V.ref ea]))
 refine⟨_,rfl,_,rfl,by show 1<=MG;decide,λl4 hl4=>?_⟩
 have s4:=Ad hl4 (.lst [V.str x])
 have sA:=s1.trans (s2.trans (s3.trans s4))
 refine⟨ea,l4,_,_,rfl,rfl,sA _ _ eel,Aa,by rw[Au,LR,MR];omega,λl5 hl5=>?_⟩
 have s5:=Ad hl5 (.lst (Ax el++[V.str x]))
 have sB:=sA.trans s5
 have e3:=s5 _ _ (s4 _ _ (Aa (H:=upd (upd H l1 (.lst [V.str x])) l2 (.lst [V.ref ea])) (a:=l3) (o:=.lst (as.map V.ref++[V.ref ea]))))
 have R5:=R.snoc sB (sB _ _ eel) (q:=l3) (by rw[LW];exact e3)
 have n1:=s5 _ _ (s4 _ _ (s3 _ _ (s2 _ _ (Aa (H:=H) (a:=l1) (o:=.lst [V.str x])))))
 refine⟨l3,l5,as++[ea],rows++[el],el++[x],rfl,R5,?_,by rw[LS,LS,hle];rfl,by omega,by rw[LS,MR];omega,hnd,λp found H6 hp s6 ep g1 g2 g3=>?_,λdx p ts ring rs joined H6 s6=>qE dx p ts ring rs joined H6 (sB.trans s6)⟩
 ·rw[Aa]
  unfold Ax
  rw[LW]
  rfl
 refine⟨l1,p,_,_,rfl,rfl,s6 _ _ n1,ep,by rw[Au,LR,MR];omega,λz hz=>?_⟩
 exact q z found _ (sB.free (s6.free hz)) (sB.trans (s6.trans (Ad hz _))) Aa g1 g2 g3
end
def orders(L:List Ent)(el:List Str):List (List Str):=el.map λy=>((Hm L y).map (·.od)).getD []
structure Yr(CB CH:LZ)(H:Hp)(p d:LZ)(L:List Ent)(el:List Str):Prop where
 bk:Bc CB CH H p d L
 ell:el.length<=100
 ll:L.length<=1000
 nd:∀e∈L,e.od.Nodup
 tot:tot (orders L el++[el])<=900
structure zO(H:Hp)(x:Str)(el found:List Str)(e:Ent):Prop where
 nm:e.nm=x
 el:e.el=el
 od:e.od=x::found
 bd:e.bd=[]
 f1:H e.at_=none
 f2:H e.ea=none
 f3:H e.oa=none
 f4:H e.ba=none
def Mv(CB CH CO:LZ):Sp:=λvs H Q E=>∃(p d a:LZ)(L:List Ent)(x:Str)(el:List Str),vs=[.ref p,.str x,.ref a]/\Yr CB CH H p d L el/\H a=some (.lst (Ax el))/\As x=true/\x.length<=1000/\Hm L x=none/\(∀y∈el,Hm L y≠none)/\el.Nodup /\
 (∀(e:Ent)(found:List Str)(H':Hp),zO H x el found e->Bc CB CH H' p d (L++[e])->(∀b o,H b=some o->b≠d->H' b=some o)->Good (orders L el++[el]) found->(∀r∈after (orders L el++[el]) found,r=[])->Q .non H') /\
 ∀(dx:LZ)(joined:List Str)(H':Hp),Ak H H'->(∃q:LZ,H' dx=some (.xd [("ring", .ref q)]))->(∃r∈after (orders L el++[el]) joined,r≠[])->E (.ref CO) (some dx) H'
section
variable {P:MV} {w:NU} {K:LO} {mg:Str->Option LP} {base:OS} {f fO fN fM fI CB CH CO T0:LZ} {fd dO dN dM dI:NP}
theorem Tr.okX{x qual:Str}{st:RL}{f T:LZ}{fd:NP}{N ps:List Str}{k:Nat}{sp:Sp}(F:Tr K x qual st f fd T)(S:Al N ps (Ac st))(len:∀vs H Q E,sp vs H Q E->vs.length=ps.length)(hbody:∀(cdv:LP)(A:NV)(outer:List Env)(s:LV)(H:Hp)(vs:List V)(Q:VK)(E:XK),Cq k (A.deeper (QE qual (Ac st) s.heap.objs.size f cdv))->sp vs H Q E ->
  ∃t,Ib ((Ft (Pl P w) P w K mg base N qual (Ac st) f cdv A outer s H E).thrown λ_=>E) (Bb st) t/\t { nx:=λ_ H'=>Q .non H',rt:=Q } (start N vs) H):
 Aj P w K mg base (Pl P w) (k+1) f fd ps sp:=by
 obtain⟨oc,od,kV,doc,pm,an,cdv,ct,osl,rfl,lk,hcd⟩:=F.ex
 refine Xw lk hcd S len λA outer s H vs Q E hr hsp=>?_
 obtain⟨t,h,q⟩:=hbody cdv A outer s H vs Q E hr hsp
 refine⟨t,λpins s' σ' H' D I hw=>?_,q⟩
 exact OR (h pins s' σ' H' D (I.wish _) hw) (λ_ _ z=>z.unwish) λe s2 z=>z.leaves
theorem lJ(F:Tr K "found" "Book.found" Ie f fd T0)(T:Gb K mg CB CH)(Tx:Txt mg)(GO:Aj P w K mg base Bj 2 fO dO ["self","name"] (Na CB CH))(bO:Binds K dO ["self","name"] [])(mO:Meth K CB "order" fO)(GN:Aj P w K mg base Bj 1 fN dN ["value"] Gj)(kN:MN K (.ref fN)=true)(bNm:Binds K dN ["value"] [])(mN:mg "is_name" = some (.ref fN))(GM:Aj P w K mg base (Pl P w) 4 fM dM ["name","elders","orders"] (Wj CO))(kM:MN K (.ref fM)=true)(bM:Binds K dM ["name","elders","orders"] [])(mM:mg "made_order" = some (.ref fM))(GI:Aj P w K mg base Bj 1 fI dI ["self","elder_row","order_row"] (Md CH))(bI:Binds K dI ["self","elder_row","order_row"] [])(MH:Mk K CH fI):Aj P w K mg base (Pl P w) 5 f fd ["self","name","elders"] (Mv CB CH CO):=by
 refine Tr.okX F Kt (λvs H Q E h=>?_) (λcdv A outer s H vs Q E hr h=>?_)
 ·obtain⟨p,d,a,L,x,el,rfl,_⟩:=h
  rfl
 obtain⟨p,d,a,L,x,el,rfl,⟨B,hell,hll,hodn,htot⟩,ea0,hok,hxl,hf,hin,hnd,q,qE⟩:=h
 have hu:=Hx hr
 have hr1:=hr.mono (j:=1) (by decide)
 have hr2:=hr.mono (j:=2) (by decide)
 obtain⟨dx,hp⟩:=B.ob
 refine⟨_,Ab (Bh (Fv (Ej (Ds GN hr1 mN kN bNm (Bw (pv 1))))) Br Ar)
  (Ab (Bh (Gq (pS hu (pv 1) (Fj (pv 0) rfl))) Br Ar)
  (Ab (Bx 3 Kt.nd (Hw (Gq (cP (pv 2))) (Dn Gr) (Bo (Rf (K:=K)) rfl Tx.list OD (Bw (pv 2)))))
  (Ab (Cc (i:=4) (Ac Ie) qM ["elder"] [("self", 0)] rfl Kt.nd rfl rfl (Bz (pv 3)) (Bd (i:=0) (by decide)) (λ_ _ _ _ _ _=>⟨De 0 EF,Ca,Cn (pv 1) T.clB mO GO hr2 bO .nil Cm (Bw (pv 0))⟩))
  (Ab (Bh (Ao Ph (Bg Ky rfl Tx.len PP (Bw (Bo (Jl rfl) rfl Tx.set Ve (Bw (pv 3))))) (Ep Tx.len (pv 3)) (Aw _)) Br Ar)
  (Ag (Ir hu (Fj (pv 0) rfl) (pv 1) (jE MH GI hr2 rfl T.mgH bI .nil Cm (Hh (pv 3) (Zf GM hr rfl mM kM bM .nil (Tc (pv 1) (pv 3) (pv 4))))) rfl)))))),?_⟩
 refine⟨_,rfl,.str x,rfl,.inr ⟨x,rfl,by rw[LR];omega⟩,λH1 s1=>?_⟩
 rw[show HI (.str x)=true from hok]
 refine⟨_,rfl,Cd ?_⟩
 have B1:=B.same s1
 refine⟨_,rfl,_,rfl,p,CB,dx,_,_,rfl,s1 _ _ hp,T.clB,T.nBy,Rl d,d,_,rfl,B1.no hf,_,rfl,Cd ?_⟩
 -- elder_row
 refine⟨_,rfl,_,rfl,Cd ⟨_,rfl,a,_,rfl,.inl (Av.of (s1 _ _ ea0)),λla hla=>?_⟩⟩
 have s2:=Ad hla (.lst (Ax el))
 have sA:=s1.trans s2
 have hla0:H la=none:=s1.free hla
 have ela:(upd H1 la (.lst (Ax el))) la=some (.lst (Ax el)):=Aa
 generalize upd H1 la (.lst (Ax el))=H2 at *
 -- orders
 refine⟨_,rfl,la,rfl,⟨_,Av.of ela⟩,Bq (K:=K) (a:=la) (xs:=Ax el) (λi ys H3=>Ak H2 H3/\∃ps:List LZ,ys=ps.map V.ref/\ps.length=i/\∀(j:Nat)(a:LZ)(r:List Str),ps[j]? = some a->(orders L el)[j]? = some r->H3 a=some (.lst (Ax r)))
  ⟨Ak.refl _,[],rfl,rfl,λj a r h=>by simp at h⟩ (λi ys H3 _ h=>Av.of (h.1 _ _ ela)) ?_ ?_⟩
 ·rintro i y ys H3 hi ⟨s3,ps,rfl,hps,hpl⟩
  obtain⟨z,hz,rfl⟩:=El hi
  have sB:=sA.trans s3
  have hil:i < el.length:=(LM.mp hz).1
  have hzm:=MK hz
  obtain⟨e,he⟩:=Option.ne_none_iff_exists'.mp (hin z hzm)
  refine⟨_,rfl,p,dx,_,rfl,sB _ _ hp,Dy d (by decide +kernel),_,rfl,p,d,L,z,e,rfl,B.same sB,he,λl hl=>?_⟩
  have s4:=Ad hl (.lst (Ax e.od))
  refine⟨by rw[LN,hps,LR];omega,s3.trans s4,ps++[l],by rw[LW];rfl,by rw[LS,hps];rfl,λj a r h1 h2=>?_⟩
  by_cases hj:j < ps.length
  ·rw[MW hj] at h1
   exact s4 _ _ (hpl j a r h1 h2)
  ·have hjl:j < (ps++[l]).length:=(LM.mp h1).1
   rw[LS,MR] at hjl
   obtain rfl:j=ps.length:=by omega
   rw[NK] at h1
   cases h1
   unfold orders at h2
   rw[MX,hps,hz] at h2
   have h2':((Hm L z).map (·.od)).getD []=r:=MZ h2
   rw[he] at h2'
   have h2'':e.od=r:=h2'
   rw[<- h2'']
   exact Aa
 rintro ys H3 ⟨s3,ps,rfl,hps,hpl⟩ qa hqa
 rw[Au] at hps
 have hol:(orders L el).length=el.length:=LN _
 have s4:=Ad hqa (.lst (ps.map V.ref))
 have R:Cw (upd H3 qa (.lst (ps.map V.ref))) qa ps (orders L el):=⟨Aa,by rw[hps,hol],λi a r h1 h2=>s4 _ _ (hpl i a r h1 h2)⟩
 have sB:=s3.trans s4
 have sC:=sA.trans sB
 generalize upd H3 qa (.lst (ps.map V.ref))=H4 at *
 -- len(set(elder_row)) < len(elder_row)
 refine⟨_,rfl,la,el,rfl,Av.of (sB _ _ ela),hnd,by show el.length+1 < 4096;omega,λsa hsa=>?_⟩
 have s5:=Ad hsa (Yi P w sa el.length)
 refine⟨sa,_,rfl,Aa,_,rfl,la,_,rfl,.inl (Av.of (s5 _ _ (sB _ _ ela))),_,_,rfl,rfl,_,rfl,Cr (λc=>?_) (λ_=>?_)⟩
 ·have:=of_decide_eq_true c
  rw[Au] at this
  omega
 have sD:=sC.trans s5
 have R5:=R.same s5
 have ela5:=s5 _ _ (sB _ _ ela)
 have hndr:∀r∈orders L el++[el],r.Nodup:=λr hr'=>by
  rcases MJ.mp hr' with h | h
  ·unfold orders at h
   obtain⟨y,hy,rfl⟩:=ML.mp h
   cases e:Hm L y with
   | none=>exact absurd e (hin y hy)
   | some e'=>exact hodn e' (Ey e).1
  ·rw[MA.mp h]
   exact hnd
 -- self.by_name[name]=House(elder_row,made_order(name,elder_row,orders))
 refine⟨_,rfl,_,rfl,_,rfl,_,rfl,x,la,qa,ps,el,orders L el,rfl,ela5,R5,hol.symm,htot,by omega,hndr,λoa found H6 hoa s6 eoa k1 k2 k3=>?_,λdx q ts ring rs joined H6 s6 e6 _ _ _ _ _ ne=>qE dx joined H6 (sD.trans s6) ⟨q,e6⟩ ne⟩
 intro hx' hdx nx ndx nex
 have sE:=sD.trans s6
 have s7:Ak H6 (upd (upd H6 hdx (.own hx')) hx' (.ins CH hdx [])):=λb o e=>by
  rw[Ai (Ah e nx),Ai (Ah e ndx)]
  exact e
 refine⟨hx',la,oa,hdx,rfl,Aa,λba H7 hba e1 e2 kp=>⟨rfl,?_⟩⟩
 have s8:Ak H6 H7:=λb o e=>kp b o (s7 b o e) (Ah e nx)
 have sF:=sE.trans s8
 have B7:=B.same sF
 refine⟨_,rfl,p,CB,dx,_,_,rfl,sF _ _ hp,T.clB,T.nBy,Rl d,_,rfl,d,_,rfl,Pp.k (k:=(MY x:Key)) B7.dc (by unfold kU;rw[LN,LR];omega),?_⟩
 have hla6:H6 la=some (.lst (Ax el)):=s6 _ _ ela5
 have hba6:H6 ba=none:=s7.free hba
 have N0:zO H x el found ⟨x,hx',hdx,la,oa,ba,el,x::found,[]⟩:=⟨rfl,rfl,rfl,rfl,sE.free nx,hla0,sD.free hoa,sE.free hba6⟩
 have k8:∀b o,H b=some o->b≠d->(upd H7 d (.dK (putK (kU L) (MY x:Key) (.ref hx')))) b=some o:=λb o e hb=>by rw[Ai hb];exact sF _ _ e
 have nd_of:∀b,H b=none->b≠d:=λb hb=>NT (Ah B.dc hb)
 refine q _ found _ N0 (B.add (e:=⟨x,hx',hdx,la,oa,ba,el,x::found,[]⟩) hf N0.f4 ⟨?_,?_,?_,?_⟩ Aa k8) k8 k1 k2
 ·rw[Ai (nd_of _ N0.f1)];exact e1
 ·rw[Ai (nd_of _ N0.f2)];exact s8 _ _ hla6
 ·rw[Ai (nd_of _ N0.f3)];exact s8 _ _ eoa
 ·rw[Ai (nd_of _ N0.f4)];exact e2
end
end Bk
namespace Mg
section
variable {α:Type} [DecidableEq α]
theorem Nl{rs:List (List α)}{x:α}{xs:List α}(h:Good rs (x::xs)):pick (cnt rs) rs=some x/\Good (rs.map (Ct x)) xs:=
 ⟨h 0 x rfl,λi y hy=>h (i+1) y (by rw[List.getElem?_cons_succ];exact hy)⟩
theorem oB{x y:α}{r:List α}(h:y∈Ct x r):y∈r:=by
 cases r with
 | nil=>exact h
 | cons z r=>
  rw[Fd] at h
  by_cases e:z=x
  ·rw[if_pos e] at h;exact ME _ h
  ·rw[if_neg e] at h;exact h
theorem Qw:∀ {xs:List α} {rs:List (List α)},Good rs xs->∀x∈xs,∃r∈rs,x∈r
 | [],_,_,x,hx=>nomatch hx
 | y::xs,rs,h,x,hx=>by
  obtain⟨h1,h2⟩:=Nl h
  rcases LX.mp hx with rfl | hx
  ·obtain⟨_,r,hr,t,rfl⟩:=Hz h1
   exact⟨_,hr,MD⟩
  ·obtain⟨r,hr,hm⟩:=Qw h2 x hx
   obtain⟨r0,hr0,rfl⟩:=ML.mp hr
   exact⟨r0,hr0,oB hm⟩
theorem Lr:∀ {xs:List α} {rs:List (List α)},Good rs xs->xs.Nodup
 | [],_,_=>QI
 | y::xs,rs,h=>by
  obtain⟨h1,h2⟩:=Nl h
  refine OP.mpr ⟨λhy=>?_,Lr h2⟩
  obtain⟨r,hr,hm⟩:=Qw h2 y hy
  obtain⟨r0,hr0,rfl⟩:=ML.mp hr
  have hz:=Jh.mp (Hz h1).1 r0 hr0
  cases r0 with
  | nil=>exact nomatch hm
  | cons z t=>
   rw[Fd] at hm
   by_cases e:z=y
   ·rw[if_pos e] at hm;exact hz hm
   ·rw[if_neg e] at hm
    rcases LX.mp hm with q | q
    ·exact e q.symm
    ·exact hz q
theorem len_sub:∀ {l m:List α},l.Nodup->(∀x∈l,x∈m)->l.length<=m.length
 | [],m,_,_=>NI _
 | x::l,m,nd,h=>by
  obtain⟨n1,n2⟩:=OP.mp nd
  have hx:=h x MD
  have:=len_sub (l:=l) (m:=m.erase x) n2 λy hy=>(List.mem_erase_of_ne (λz=>n1 (by rw[<- z];exact hy))).mpr (h y (ME _ hy))
  rw[List.length_erase_of_mem hx] at this
  have hp:0 < m.length:=List.length_pos_of_mem hx
  rw[MT]
  omega
end
end Mg
namespace L2
open PySem PySem.Spec PyProof.Rows
section
variable {Y:Cx} {pins:List (LZ×Obj)} {σ:St} {H:Hp} {s:LV}
open Classical in
theorem Inv.env0W(I:Inv Y pins σ H s){x:LZ}{oe:Obj}{vs:Array LP}(hx:(x,oe)∈Y.pn)(d:oe.data=.fields vs):
 ∃base':OS,Zg Y.prog Y.w Y.K Y.mg base' Y.A Y.stack s H/\base'.get? x=some oe:=by
 obtain⟨gx,hx0,_,_,_⟩:=I.pin (x,oe) (QA _ hx)
 let HX:Hp:=λb=>if (Y.base.get? b).isSome=true∨b=x then none else some (.own 0)
 have up:∀b o,Y.base.get? b=some o->(Nd s.heap HX).get? b=some o:=λb o e=>Rx (I.bk b o e) (if_pos (.inl (by rw[e];rfl)))
 have only:∀b o,(Nd s.heap HX).get? b=some o->s.heap.get? b=some o/\((∃u,Y.base.get? b=some u)∨b=x):=λb o e=>by
  obtain⟨e1,e2⟩:=iU e
  refine⟨e1,?_⟩
  by_cases z:(Y.base.get? b).isSome=true∨b=x
  ·rcases z with z | z
   ·exact .inl (Option.isSome_iff_exists.mp z)
   ·exact .inr z
  ·have:HX b=some (.own 0):=if_neg z
   rw[this] at e2
   cases e2
 refine⟨Nd s.heap HX,⟨I.ok.frames,⟨I.mod.kin.keeps up,I.mod.glob.keeps up,(let ⟨mb,h1,h2⟩:=I.mod.blt;⟨mb,h1.keeps up,h2⟩),I.mod.nolimit.keeps up⟩,λb o e=>?_,TB (Vc _ _),?_,I.stkFree,I.hok,I.bare⟩,Rx gx (if_pos (.inr rfl))⟩
 ·obtain⟨e1,z⟩:=only b o e
  rcases z with ⟨u,z⟩ | rfl
  ·exact⟨e1,(I.bs b u z).2⟩
  ·exact⟨e1,hx0⟩
 ·have all:∀l:List Env,s.heap.FunFrames Y.base l->s.heap.FunFrames (Nd s.heap HX) l:=by
   intro l
   induction l with
   | nil=>intro _;trivial
   | cons env r ih=>
    intro hl
    obtain⟨hk,⟨L,o,hf,hn,ho,hd⟩,hr⟩:=hl
    refine⟨hk,⟨L,o,hf,?_,ho,hd⟩,ih hr⟩
    cases q:(Nd s.heap HX).get? L with
    | none=>rfl
    | some u=>
     obtain⟨e1,z⟩:=only L u q
     rcases z with ⟨v,z⟩ | rfl
     ·rw[hn] at z
      cases z
     ·rw[gx] at ho
      cases ho
      exact absurd d (hd vs)
  exact all Y.stack I.stack
end
def Zi(P:MV)(w:NU)(K:LO)(mg:Str->Option LP)(k:Nat)(f:LZ)(fd:NP)(ps:List Str)(sp:Sp):Prop:=∀base:OS,K.In base->base.Ns NW mg->Aj P w K mg base Bj k f fd ps sp
section
variable {Y:Cx} {k:Nat} {f C x:LZ} {oe:Obj} {ws:Array LP} {fd:NP} {ps:List Str} {sp:Sp} {dvs:List V} {ds:List LP} {m:Str} {p pos apos:Pos} {e o:Expr} {es:List Expr} {ta:TE} {t:TA}
theorem xJ{pins:List (LZ×Obj)}{σ:St}{H:Hp}{s:LV}{Q:VK}{us:List LP}{vs:List V}(F:Zi Y.prog Y.w Y.K Y.mg k f fd ps sp)(hA:Y.A.handled=some (.ref x))(hx:(x,oe)∈Y.pn)(d:oe.data=.fields ws)(c:ws[2]? = some .none)(hr:Cq k Y.A)(hb:Binds Y.K fd ps ds)(hd:Vals dvs ds)(I:Inv Y pins σ H s)(r:Vals vs us)(h:sp (vs++dvs) H Q E0):ND (NJ Y.prog Y.w) Y.A (call (.ref f) us) (EP Y pins σ Q) Y.xe s:=by
 obtain⟨base',e0,gx⟩:=I.env0W hx d
 have G:=F base' e0.mod.kin e0.mod.glob
 have r2:Vals (vs++dvs) (us++ds):=r.append hd
 have hl:(us++ds).length=ps.length:=by rw[<- r2.length];exact G.len _ _ _ _ h
 refine wpAny_call (RM (G.run Y.A Y.stack s H ⟨us,[]⟩ (us++ds) (vs++dvs) Q E0 ⟨hr,(λz=>nomatch z),.inr ⟨x,oe,ws,hA,gx,d,c⟩⟩ e0 (hb s us I.kIn hl) r2 h) λr s' hq=>?_)
 cases r with
 | error e=>exact OT hq
 | ok fl=>
  cases fl with
  | ret u=>exact I.after hq
  | next=>exact OT hq
  | brk=>exact OT hq
  | cont=>exact OT hq
theorem oZ{pl:Sem Bool}(he:PE Y o ta)(cl:dY Y.K C)(hm:Meth Y.K C m f)(F:Zi Y.prog Y.w Y.K Y.mg k f fd ps sp)(hA:Y.A.handled=some (.ref x))(hx:(x,oe)∈Y.pn)(d:oe.data=.fields ws)(c:ws[2]? = some .none)(hr:Cq k Y.A)(hb:Binds Y.K fd ps ds)(hd:Vals dvs ds)(ha:PA Y (e::es) t)(hst:NH (e::es) Y.env=(false,RY e Y.env)::NH es Y.env:=by rfl)(hpl:(SR pos (NH es Y.env)).any (·.1)=false:=by rfl)(ht:RY (.Call (.Attribute o m apos) (e::es) [] pos) Y.env=(do
  let ov <- RY o Y.env
  standAt apos.atName
  let (f,first) <- holding [ov] (getMethod ov m pl)
  callWith pos f first (SR pos (NH (e::es) Y.env)) (backToKw pos (SS [] Y.env))):=by rfl):
 PE Y (.Call (.Attribute o m apos) (e::es) [] pos) (sX C m sp dvs E0 ta t):=by
 intro pins s σ H Q I h
 refine SX (pl:=pl) (Bv (he pins s σ H _ I h) λu s1 ⟨y,H1,I1,rx,a,dx,fs,ex,ea,l,q⟩=>?_) ht
 subst ex
 obtain rfl:u=MO a:=rx
 refine Gz I1 ea cl hm l ?_
 refine RU (first:=[.ref a]) (h₀:=Y.base) I.ok.mod.kin hm.kp (Bv (ha pos pins s1 σ H1 _ I1 q) λus s2 ⟨vs,H2,I2,r,q2⟩=>⟨I2.kIn,?_⟩) hst hpl
 exact xJ (us:=.ref a::us) (vs:=.ref a::vs) F hA hx d c hr hb hd I2 (.cons rfl r) q2
end
theorem tK{X:Cx}{K:LO}{EX:XS}{th:Ends->XS}{hs:List TY}{C:LZ}{c:Str}{np pos:Pos}{b₀:RL}{suite:List RL}{tsu:TS}(hcls:Gl X c)(hm:X.mg c=some (.ref C))(hsu:∀x oe ws,oe.data=.fields ws->ws[2]? = some .none->Ib (Kg X x oe) (b₀::suite) tsu)(hr:PH X hs EX th)(hK:X.K=K:=by rfl)(hdb:(c == ("__debug__" : Str))=false:=by decide):PH X (.ExceptHandler (some (.Name c np)) none (b₀::suite) pos::hs) EX (KW K C tsu th):=by
 subst hK
 intro σ H s x cls dx T oe oT vs ts D I fx fT a h
 refine yS (ts':=λ_ ye=>λD σ H=>(∃ws,ye.data=.fields ws/\ws[2]? = some .none)/\tsu D σ H) hcls hm (λy ye pn s' σ' H' D' I' ⟨⟨ws,d,c⟩,h'⟩=>hsu y ye ws d c pn s' σ' H' D' I' h') hr hdb σ H s x cls dx T oe oT vs ts D I fx fT a ?_
 obtain⟨b,hb,h⟩:=h
 refine⟨b,hb,?_⟩
 cases b with
 | true=>rw[if_pos rfl] at h ⊢;exact λ_ _ _ _ _ w=>⟨w,h⟩
 | false=>rw[if_neg LY] at h ⊢;exact h
theorem bV{lo:Int}{k n:Nat}{fr:List (Str×Nat)}{g:TG}{tc:TT}{te:TE}{σ:St}{H:Hp}{F:List V->Hp->Prop}(Pv:Nat->List V->Hp->Prop)(h0:Pv 0 [] H)(hs:∀i ys H,i < k->Pv i ys H->g (.int (lo-i)) (stC n fr σ) H λσ2 H2=>tc σ2 H2 λb H3=>if b=true then te σ2 H3 λy H4=>ys.length < MG/\Pv (i+1) (ys++[y]) H4 else Pv (i+1) ys H3)(hd:∀ys H,Pv k ys H->F ys H):Em n fr g tc te σ (vM lo k) H F:=by
 refine⟨λi m ys H=>m=k-i/\i<=k/\Pv i ys H,⟨k,by simp,NI _,h0⟩,?_⟩
 rintro i m ys H ⟨rfl,hi,p⟩
 by_cases hlt:i < k
 ·refine .inr ⟨hlt,Pv (i+1),λys' H' p'=>⟨k-(i+1),by omega,rfl,hlt,p'⟩,λx H' y=>?_⟩
  obtain⟨e,y⟩:=y
  subst e y
  exact hs i ys _ hlt p
 ·have e:i=k:=by omega
  subst e
  exact .inl ⟨MC _,hd ys H p⟩
end L2
namespace Bk
open PySem L2 Mg Nm Li PySem.SeqAt
def Zb(L:List Ent):Prop:=∀e∈L,e.od.Nodup/\(∃t,e.od=e.nm::t)/\∀y∈e.od,y∈L.map (·.nm)
theorem jK{L:List Ent}(h:Zb L){e:Ent}(he:e∈L):e.od.length<=L.length:=by
 have:=len_sub (h e he).1 (h e he).2.2
 rwa [LN] at this
theorem yH{L:List Ent}{e:Ent}{x:Str}{found:List Str}(h:Zb L)(nm:e.nm=x)(od:e.od=x::found)(nd:found.Nodup)(hin:∀y∈found,y∈L.map (·.nm))(hx:x∉L.map (·.nm)):Zb (L++[e]):=by
 intro e' he'
 rcases MJ.mp he' with h1 | h1
 ·obtain⟨a,b,c⟩:=h e' h1
  exact⟨a,b,λy hy=>by rw[LW];exact QA _ (c y hy)⟩
 ·rw[MA.mp h1,od,nm]
  refine⟨OP.mpr ⟨λz=>hx (hin x z),nd⟩,⟨found,rfl⟩,λy hy=>?_⟩
  rw[LW]
  rcases LX.mp hy with rfl | hy
  ·exact MP _ (by simp[nm])
  ·exact QA _ (hin y hy)
theorem Xl{L:List Ent}{y:Str}(h:y∈L.map (·.nm)):Hm L y≠none:=λz=>by
 obtain⟨e,he,rfl⟩:=ML.mp h
 have:=List.find?_eq_none.mp z e he
 exact this (by simp)
theorem Vf{L:List Ent}(h:Zb L){el:List Str}:∀r∈orders L el,r.length<=L.length/\∀y∈r,y∈L.map (·.nm):=by
 intro r hr
 obtain⟨y,_,rfl⟩:=ML.mp hr
 cases q:Hm L y with
 | none=>exact⟨NI _,λz hz=>nomatch hz⟩
 | some e=>
  have he:=(Ey q).1
  exact⟨jK h he,(h e he).2.2⟩
theorem tJ{n:Nat}:∀ {rs:List (List Str)},(∀r∈rs,r.length<=n)->tot rs<=n * rs.length:=by
 intro rs
 induction rs with
 | nil=>intro _;exact NI _
 | cons r rs ih=>
  intro h
  have h1:=h r MD
  have h2:=ih λr' hr'=>h r' (ME _ hr')
  have:tot (r::rs)=r.length+tot rs:=rfl
  rw[this,MT,Nat.mul_succ]
  omega
theorem qK{rs:List (List Str)}{r:List Str}:tot (rs++[r])=tot rs+r.length:=by
 induction rs with
 | nil=>show r.length+0=0+r.length;omega
 | cons q rs ih=>
  have e1:tot (q::rs++[r])=q.length+tot (rs++[r]):=rfl
  have e2:tot (q::rs)=q.length+tot rs:=rfl
  rw[e1,e2,ih]
  omega
theorem Vh:∀(xs:List Str){rs:List (List Str)},(∀r∈rs,r=[])->∀r∈after rs xs,r=[]
 | [],_,h=>h
 | x::xs,rs,h=>by
  show ∀r∈after (rs.map (Ct x)) xs,r=[]
  refine Vh xs λr hr=>?_
  obtain⟨r',hr',rfl⟩:=ML.mp hr
  rw[h r' hr']
  rfl
theorem Yj(xs:List V)(y:V):Es (xs++[y]) (some (-1)) none=[y]:=by
 have e:HT.sIx (xs++[y]).length 0 (some (-1))=xs.length:=by
  show (if (-1:Int) < 0 then ((-1:Int)+((xs++[y]).length:Int)).toNat else min (-1:Int).toNat (xs++[y]).length)=xs.length
  rw[if_pos (by decide),LS,MR]
  omega
 unfold Es
 rw[e,List.drop_left]
 show List.take ((xs++[y]).length-xs.length) [y]=[y]
 rw[LS,MR,Nat.add_sub_cancel_left]
 rfl
structure EI(ns el:List Str):Prop where
 nd:el.Nodup
 sub:∀y∈el,y∈ns
theorem AU{ns:List Str}(hn:ns.Nodup):∃el,Es (Ax ns) (some (-1)) none=Ax el/\EI ns el/\el.length<=1:=by
 by_cases h:ns=[]
 ·subst h
  exact⟨[],rfl,⟨QI,λy hy=>nomatch hy⟩,NI _⟩
 ·have e:ns=ns.dropLast++[ns.getLast h]:=(List.dropLast_concat_getLast h).symm
  refine⟨[ns.getLast h],?_,⟨by simp,λy hy=>?_⟩,MC _⟩
  ·generalize ns.getLast h=z at e
   generalize ns.dropLast=r at e
   subst e
   unfold Ax
   rw[LW]
   exact Yj _ _
  ·rw[MA.mp hy]
   exact List.getLast_mem h
theorem aY:∀ {xs:List Str} {rs:List (List Str)},Good rs xs->Di xs.length rs=(xs,after rs xs)
 | [],rs,_=>rfl
 | x::xs,rs,h=>by
  obtain⟨h1,h2⟩:=Nl h
  rw[MT,Ma h1,aY h2]
  rfl
theorem Kf(L:List Ent)(el:List Str):Ka (L.map sk) el=orders L el++[el]:=by
 rw[<- Ed]
 rfl
structure Mb(L:List Ent):Prop where
 od:Zb L
 re:zN (L.map sk)
 nm:∀e∈L,As e.nm=true
 ll:L.length<=20
theorem Kb(L:List Ent):(L.map sk).map (·.1)=L.map (·.nm):=by
 rw[List.map_map]
 rfl
theorem aG{L:List Ent}(F:Mb L){y:Str}(h:y∈L.map (·.nm)):As y=true:=by
 obtain⟨e,he,rfl⟩:=ML.mp h
 exact F.nm e he
theorem oY{L:List Ent}(F:Mb L){x:Str}{el found:List Str}(hx:As x=true)(hn:Hm L x=none)(nd:el.Nodup)(hin:∀y∈el,y∈L.map (·.nm))(hg:Good (orders L el++[el]) found)(ha:∀r∈after (orders L el++[el]) found,r=[])(ht:tot (orders L el++[el])<=900)(hf:∀y∈found,y∈L.map (·.nm)):Xs (L.map sk) (x,el,x::found) found.length:=by
 have ll:=F.ll
 have hell:el.length<=L.length:=by
  have:=len_sub nd hin
  rwa [LN] at this
 have hfl:found.length<=L.length:=by
  have:=len_sub (Lr hg) hf
  rwa [LN] at this
 have e:=aY hg
 refine⟨hx,λz=>Xl (by rw[Kb] at z;exact z) hn,λy hy=>by rw[Kb];exact hin y hy,λy hy=>aG F (hin y hy),nd,by show el.length<=60;omega,by rw[LN];omega,by rw[Kf];exact ht,?_,?_,?_⟩
 ·rw[Kf,e]
  exact ha
 ·rw[Kf,e]
  show found.length<=900
  omega
 ·rw[Kf,e]
theorem CW{CB CH:LZ}{H:Hp}{p d:LZ}{L:List Ent}(F:Mb L){x:Str}{el od:List Str}{n:Nat}(C:Fo CB CH H p d L x el n)(ho:od=x::(Di n (rowsOf L el)).1):Xs (L.map sk) (x,el,od) n:=by
 have ll:=F.ll
 have hin:∀y∈el,y∈L.map (·.nm):=λy hy=>by
  obtain⟨e,he⟩:=C.els y hy
  obtain⟨h1,rfl⟩:=Ey he
  exact List.mem_map_of_mem h1
 refine⟨C.nm,λz=>Xl (by rw[Kb] at z;exact z) C.new,λy hy=>by rw[Kb];exact hin y hy,λy hy=>aG F (hin y hy),C.nd,C.ell,by rw[LN];omega,?_,?_,?_,?_⟩
 ·show tot (Ka (L.map sk) el)<=900
  rw[<- Ed];exact C.tot
 ·show ∀r∈(Di n (Ka (L.map sk) el)).2,r=[]
  rw[<- Ed];exact C.run
 ·show (Di n (Ka (L.map sk) el)).1.length<=900
  rw[<- Ed];exact C.jl
 ·show od=x::(Di n (Ka (L.map sk) el)).1
  rw[<- Ed];exact ho
theorem Mb.add{L:List Ent}(F:Mb L){e:Ent}{x:Str}{el found:List Str}{n:Nat}(nm:e.nm=x)(hel:e.el=el)(od:e.od=x::found)(nd:found.Nodup)(hin:∀y∈found,y∈L.map (·.nm))(c:Xs (L.map sk) (x,el,x::found) n)(hl:L.length < 20):Mb (L++[e]):=by
 have hx:x∉L.map (·.nm):=by have:=c.new;rw[Kb] at this;exact this
 refine⟨yH F.od nm od nd hin hx,?_,λe' he'=>?_,by rw[LS,MR];omega⟩
 ·rw[LW]
  have es:List.map sk [e]=[(x,el,x::found)]:=by
   show [(e.nm,e.el,e.od)]=_
   rw[nm,hel,od]
  rw[es]
  exact F.re.snoc c
 ·rcases MJ.mp he' with z | z
  ·exact F.nm e' z
  ·rw[MA.mp z,nm]
   exact c.nm
theorem tE{W:List (Str×LZ)}{y:Str}{la:LZ}(h:y∉W.map (·.1)):putK (Gi W) (MY y:Key) (.ref la)=Gi (W++[(y,la)]):=by
 rw[Wc]
 unfold Ng
 rw[Hn,decide_eq_false h,if_neg LY]
 refine congrArg (λz=>Gi (z++_)) ?_
 conv=>rhs;rw[<- List.map_id W]
 refine List.map_congr_left λq hq=>?_
 show Iz y la q=q
 unfold Iz
 exact if_neg λz=>h (ML.mpr ⟨q,hq,z⟩)
theorem Ht.keys{H:Hp}{aa:LZ}{A:List (Str×LZ)}{L:List Ent}(h:Ht H aa A (L.map λe=>(e.nm,e.el))):A.map (·.1)=L.map (·.nm):=by
 have:=h.el
 clear h
 generalize eT:(L.map λe=>(e.nm,e.el))=TT at this
 have e2:L.map (·.nm)=TT.map (·.1):=by rw[<- eT,List.map_map];rfl
 rw[e2]
 clear eT e2
 induction this with
 | nil=>rfl
 | cons r t ih=>rw[MU,MU,ih,r.1]
def pF(CB CH:LZ)(H:Hp)(p d aa:LZ)(L:List Ent)(A:List (Str×LZ))(x:Str)(Q:VK):Prop:=∀(H':Hp)(e:Ent)(ea:LZ),Bc CB CH H' p d (L++[e])->e.nm=x->e.bd=[]->Mb (L++[e])->iZ H e->Ht H' aa (A++[(x,ea)]) ((L++[e]).map λe=>(e.nm,e.el))->(∀b o,H b=some o->b≠d->b≠aa->H' b=some o)->Q .non H'
def Ru(CB CH:LZ):Sp:=λvs H Q _=>∃(p d aa:LZ)(L:List Ent)(A:List (Str×LZ))(x:Str)(c:Int),vs=[.ref p,.ref aa,.str x,.int c]/\Bc CB CH H p d L/\Ht H aa A (L.map λe=>(e.nm,e.el))/\Mb L/\L.length < 7/\isNm x/\Hm L x=none/\aa≠d/\(∀e∈L,aa≠e.ba)/\pF CB CH H p d aa L A x Q
abbrev IA:List Str:=["_law_book","_law_above","_law_name","_law_cell","_law_mixed","_law_names","_law_elders"]
section
variable {P:MV} {w:NU} {K:LO} {mg:Str->Option LP} {base:OS} {f fF CB CH CO:LZ} {fd dF:NP}
theorem Ge:Al IA ["_law_book","_law_above","_law_name","_law_cell"] (Ac Fp):=Fm (by decide +kernel)
theorem Yz(T:Gb K mg CB CH)(mO:mg "AtOdds" = some (.ref CO))(eO:PySem.W.exmOne K (.ref CO) (.ref CO)=some true)(GX:Aj P w K mg base (Pl P w) 5 fF dF ["self","name","elders"] (Mv CB CH CO))(GF:Zi P w K mg 4 fF dF ["self","name","elders"] (Mz CB CH))(bF3:Binds K dF ["self","name","elders"] [])(mF:Meth K CB "found" fF)(cdv:LP)(A:NV)(outer:List Env)(s:LV)(H:Hp)(E:XK)(hr:Cq 5 (A.deeper (QE "_law_founded" (Ac Fp) s.heap.objs.size f cdv)))(Q:VK):
 ∃tt,Ib (Ft Ia P w K mg base IA "_law_founded" (Ac Fp) f cdv A outer s H E).nox ((Bb Fp).drop 4) tt /\
  ∀(H1:Hp)(p d aa na ea:LZ)(L:List Ent)(AA:List (Str×LZ))(x:Str)(el:List Str)(c m:V),Bc CB CH H1 p d L->H1 na=some (.lst (Ax (L.map (·.nm))))->Ht H1 aa AA (L.map λe=>(e.nm,e.el))->Mb L->L.length < 7->isNm x->Hm L x=none->aa≠d->(∀e∈L,aa≠e.ba)->H1 ea=some (.lst (Ax el))->el.Nodup->(∀y∈el,y∈L.map (·.nm))->pF CB CH H1 p d aa L AA x Q ->
   tt { nx:=λ_ H'=>Q .non H',rt:=Q } [some (.ref p),some (.ref aa),some (.str x),some c,some m,some (.ref na),some (.ref ea)] H1:=by
 have hr4:=hr.mono (j:=4) (by decide)
 have hu:=Hx hr
 refine⟨_,Ab (BQ (EX:=FO) eE (λ_ _ h=>JZ h) (λpn EX1=>Ag (Cu (rF (pv 0) T.clB mF GX hr bF3 .nil (Hh (pv 2) (pv 6)))))
  (λpn=>tK (K:=K) rfl mO (λy oe ws hd hc=>Ab (Bx 6 Ge.nd (Ck sV (pv 5) (Cv (Oz Jr Ae)) Dt)) (Ag (Cu (oZ (pv 0) T.clB mF GF rfl (MD) hd hc ⟨hr4.dp,hr4.un⟩ bF3 .nil (Hh (pv 2) (pv 6)))))) (BV ⟨rfl,rfl,rfl⟩)))
  (Ag (Ir hu (pv 1) (pv 2) (pv 6) rfl)),?_⟩
 intro H1 p d aa na ea L AA x el c m B ena HA O hL hx hn nad nae eea nd hin q
 obtain⟨dx,hp⟩:=B.ob
 have hkeys:=HA.keys
 have xin:x∉L.map (·.nm):=λz=>Xl z hn
 have hAl:AA.length=L.length:=by
  have:=congrArg List.length hkeys
  rwa [LN,LN] at this
 have hell:el.length<=L.length:=by
  have:=len_sub nd hin
  rwa [LN] at this
 have fin:∀(H2:Hp)(e:Ent)(ea':LZ)(el':List Str),Bc CB CH H2 p d (L++[e])->e.nm=x->e.el=el'->e.bd=[]->Mb (L++[e])->iZ H1 e->(∀b o,H1 b=some o->b≠d->H2 b=some o)->H2 ea'=some (.lst (Ax el'))->H2 aa=some (.dK (Gi AA))/\Q .non (upd H2 aa (.dK (putK (Gi AA) (MY x:Key) (.ref ea')))):=by
  intro H2 e ea' el' B2 en ee eb F2 fr k2 hea
  have dc2:=k2 _ _ HA.dc nad
  have kb:∀b o,H2 b=some o->b≠aa->(upd H2 aa (.dK (putK (Gi AA) (MY x:Key) (.ref ea')))) b=some o:=λb o h hne=>by rw[Ai hne];exact h
  refine⟨dc2,q _ e ea' (B2.but dc2 nad (λe' he'=>?_) kb) en eb F2 fr ⟨?_,?_,?_⟩ λb o h h1 h2=>kb _ _ (k2 _ _ h h1) h2⟩
  ·rcases MJ.mp he' with z | z
   ·exact nae e' z
   ·rw[MA.mp z]
    exact Ah HA.dc fr.ba
  ·rw[Aa,tE (by rw[hkeys];exact xin)]
  ·rw[LW]
   refine Gw (Paired.mapP HA.el λa b z=>⟨z.1,?_⟩) (.cons ⟨en.symm,?_⟩ .nil)
   ·have h1:=k2 _ _ z.2 (Ei z.2 B.dc (by intro y;cases y))
    exact kb _ _ h1 (Ei h1 dc2 (by intro y;cases y))
   ·show (upd H2 aa _) ea'=some (.lst (Ax e.el))
    rw[ee]
    exact kb _ _ hea (Ei hea dc2 (by intro y;cases y))
  ·rw[LW,hkeys,PQ]
   exact⟨B.nd,by simp,λa ha b hb=>by rw[show b=x by simpa using hb];exact λz=>xin (z ▸ ha)⟩
 have htot:tot (orders L el++[el])<=900:=by
  rw[qK]
  have h1:=tJ (n:=7) λr hr'=>NA (Vf O.od (el:=el) r hr').1 (by omega)
  have h2:(orders L el).length=el.length:=LN _
  rw[h2] at h1
  omega
 have M:Yr CB CH H1 p d L el:=⟨B,by omega,by omega,λe he=>(O.od e he).1,htot⟩
 have hput:(Gi AA).length < MG:=by rw[Ke,LR];omega
 refine⟨_,rfl,p,dx,_,rfl,hp,Dy d (by decide +kernel),_,rfl,_,rfl,p,d,ea,L,x,el,rfl,M,eea,Pu hx,(by have:=hx.2.1;omega),hn,(λy hy=>Xl (hin y hy)),nd,λe found H2 hnew B2 k2 hg hgn=>?_,λex joined H2 s2 edx hne=>?_⟩
 ·have hfin:∀y∈found,y∈L.map (·.nm):=λy hy=>by
   obtain⟨r,hr',hy'⟩:=Qw hg y hy
   rcases MJ.mp hr' with z | z
   ·exact(Vf O.od r z).2 y hy'
   ·rw[MA.mp z] at hy'
    exact hin y hy'
  have can:=oY O (Pu hx) hn nd hin hg hgn htot hfin
  have F2:=O.add hnew.nm hnew.el hnew.od (Lr hg) hfin can (by omega)
  obtain⟨dc2,fq⟩:=fin H2 e ea el B2 hnew.nm hnew.el hnew.bd F2 ⟨hnew.f1,hnew.f2,hnew.f3,hnew.f4⟩ k2 (k2 _ _ eea (Ei eea B.dc (by intro y;cases y)))
  exact⟨_,rfl,_,rfl,_,rfl,aa,_,rfl,Pp.k (k:=(MY x:Key)) dc2 hput,fq⟩
 ·-- the last one alone
  have hLn:L≠[]:=λz=>by
   subst z
   have hel0:el=[]:=List.eq_nil_iff_forall_not_mem.mpr λy hy=>absurd (hin y hy) (by simp)
   subst hel0
   obtain⟨r,hr',hne'⟩:=hne
   exact hne' (Vh joined (by intro r hr;simpa [orders] using hr) r hr')
  obtain⟨L0,eL,rfl⟩:∃L0 eL,L=L0++[eL]:=⟨L.dropLast,L.getLast hLn,(List.dropLast_concat_getLast hLn).symm⟩
  have B2:=B.same s2
  obtain⟨dx2,hp2⟩:=B2.ob
  have ena2:H2 na=some (.lst (Ax (L0.map (·.nm))++[V.str eL.nm])):=by
   rw[s2 _ _ ena,LW]
   unfold Ax
   rw[LW]
   rfl
  have meL:eL∈L0++[eL]:=MP _ (MA.mpr rfl)
  obtain⟨ndL,⟨tL,odL⟩,inL⟩:=O.od eL meL
  refine⟨true,eO,Dk ?_⟩
  refine⟨_,rfl,_,rfl,_,rfl,na,_,rfl,Av.of ena2,λc3 hc3=>?_⟩
  rw[Yj]
  obtain⟨H3,zz,s3,e3⟩:=lay hc3 (.lst [V.str eL.nm])
  rw[zz]
  have e3:H3 c3=some (.lst (Ax [eL.nm])):=e3
  have can:=vX (B2.same s3) hx hn (by omega) meL odL ndL (by have:=jK O.od meL;omega)
  refine⟨_,rfl,p,dx2,_,rfl,s3 _ _ hp2,Dy d (by decide +kernel),_,rfl,_,rfl,p,d,L0++[eL],x,.ref c3,[eL.nm],_,rfl,can.1,.inr ⟨c3,rfl,e3⟩,λe H4 hnew B4 k4=>?_⟩
  obtain⟨nm,hel,od,bd,fr⟩:=hnew
  have od':=od
  rw[can.2] at od'
  have sf:=s2.trans s3
  have ct:=CW O can.1 (od:=x::eL.od) (by rw[can.2])
  have F4:=O.add nm hel od' ndL inL ct (by omega)
  obtain⟨dc4,fq⟩:=fin H4 e c3 [eL.nm] B4 nm hel bd F4 ⟨sf.free fr.at_,sf.free fr.ea,sf.free fr.oa,sf.free fr.ba⟩ (λb o hb hne'=>k4 b o (sf _ _ hb) hne') (k4 _ _ e3 (Ei e3 (B2.same s3).dc (by intro y;cases y)))
  exact⟨_,rfl,_,rfl,_,rfl,aa,_,rfl,Pp.k (k:=(MY x:Key)) dc4 hput,fq⟩
end
theorem pF.same{CB CH:LZ}{H H':Hp}{p d aa:LZ}{L:List Ent}{A:List (Str×LZ)}{x:Str}{Q:VK}(h:pF CB CH H p d aa L A x Q)(s:Ak H H'):pF CB CH H' p d aa L A x Q:=λH2 e ea a b c o fr g k=>h H2 e ea a b c o ⟨s.free fr.at_,s.free fr.ea,s.free fr.oa,s.free fr.ba⟩ g λb' o' hb h1 h2=>k b' o' (s _ _ hb) h1 h2
section
variable {P:MV} {w:NU} {K:LO} {mg:Str->Option LP} {base:OS} {f fF CB CH CO:LZ} {fd dF:NP}
theorem ED:(["_law_k","_law_mixed","_law_names"]:List Str).Nodup:=by decide +kernel
theorem mD(F:Dx K "_law_founded" "_law_founded" Fp f fd)(T:Gb K mg CB CH)(Tx':Txt mg)(mO:mg "AtOdds" = some (.ref CO))(eO:PySem.W.exmOne K (.ref CO) (.ref CO)=some true)(GX:Aj P w K mg base (Pl P w) 5 fF dF ["self","name","elders"] (Mv CB CH CO))(GF:Zi P w K mg 4 fF dF ["self","name","elders"] (Mz CB CH))(bF3:Binds K dF ["self","name","elders"] [])(mF:Meth K CB "found" fF):
 Aj P w K mg base Ia 6 f fd ["_law_book","_law_above","_law_name","_law_cell"] (Ru CB CH):=by
 refine F.ok1 Ge (λvs H Q E h=>?_) (λcdv A outer s H vs Q E hr h=>?_)
 ·obtain⟨p,d,aa,L,A,x,c,rfl,_⟩:=h
  rfl
 obtain⟨p,d,aa,L,AA,x,c,rfl,B,HA,O,hL,hx,hn,nad,nae,q⟩:=h
 obtain⟨t4,h4,p4⟩:=Yz (f:=f) T mO eO GX GF bF3 mF cdv A outer s H E hr Q
 have nd:(L.map (·.nm)).Nodup:=B.nd
 have ln:(L.map (·.nm)).length=L.length:=LN _
 have hkeys:=HA.keys
 -- the last one alone
 refine Km (tail:=(Bb Fp).drop 3) (λtt=>∀(H1:Hp)(na ea:LZ)(el:List Str)(m:Int),Ak H H1->H1 na=some (.lst (Ax (L.map (·.nm))))->H1 ea=some (.lst (Ax el))->EI (L.map (·.nm)) el->tt { nx:=λ_ H'=>Q .non H',rt:=Q } [some (.ref p),some (.ref aa),some (.str x),some (.int c),some (.int m),some (.ref na),some (.ref ea)] H1) ?_ ?_
 ·refine⟨_,Ab (Bh (Ao Cf (Am Cb (pv 4) Ae) Ae (Aw _)) (Ag (Bx 6 Ge.nd (Ck Ew (pv 5) (Cv (Oz Jr Ae)) Dt))) Ar) h4,λH1 na ea el m s1 ena eea hel=>?_⟩
  refine⟨_,rfl,_,_,rfl,rfl,(by show (0:Int) < 5;decide),rfl,_,rfl,Cr (λc1=>?_) (λc1=>p4 H1 p d aa na ea L AA x el _ _ (B.same s1) ena (HA.same s1) O hL hx hn nad nae eea hel.nd hel.sub (q.same s1))⟩
  refine⟨_,rfl,_,rfl,_,rfl,na,_,rfl,Av.of ena,λc2 hc2=>?_⟩
  obtain⟨el2,e2,k2,l2⟩:=AU nd
  rw[e2]
  have s2:=s1.trans (Ad hc2 (.lst (Ax el2)))
  exact p4 _ p d aa na c2 L AA x el2 _ _ (B.same s2) ((Ad hc2 (.lst (Ax el2))) _ _ ena) (HA.same s2) O hL hx hn nad nae Aa k2.nd k2.sub (q.same s2)
 intro t3 h3 p3
 refine⟨_,Ab (Lk (i:=4) Ge.nd rfl (Or.inr rfl) (Am Cb (Am Lg (pv 3) Ae) Ae))
  (Ab (Lk (i:=5) Ge.nd rfl (Or.inr rfl) (Bo (Ec rfl) rfl Tx'.list OD (Bw (pv 1))))
  (Ab (Cc (i:=6) (Ac Fp) IA ["_law_k"] [("_law_mixed", 4),("_law_names", 5)] rfl Ge.nd rfl rfl (wA rfl Tx'.range (Tc (Am Ws (Bg Co rfl Tx'.len PP (Bw (pv 5))) Ae) (Oz Jr Ae) (Oz Jr Ae))) (Bd (i:=0) (by decide)) (λ_ _ _ _ _ _=>⟨De 0 ED,
   Mf (Ao GD (Am Cb (Am Eh (pv 1) (Am En (pv 0) Ae)) Ae) Ae (Aw _)),Az (pL (K:=K)) (pv 2) (pv 0) (λ_ _=>rfl)⟩)) h3)),?_⟩
 refine⟨_,rfl,_,_,rfl,rfl,.inr ⟨by decide,by decide⟩,_,_,rfl,rfl,(by show (0:Int) < 2147483647;decide),?_⟩
 dsimp only
 generalize c * 48271 % 2147483647=m
 refine⟨_,rfl,aa,_,rfl,Rd.of HA.dc,λna hna=>?_⟩
 rw[Mp,hkeys]
 have s0:=Ad hna (.lst (Ax (L.map (·.nm))))
 have ena:=Aa (H:=H) (a:=na) (o:=.lst (Ax (L.map (·.nm))))
 generalize upd H na (.lst (Ax (L.map (·.nm))))=H0 at *
 have lsv:(Ax (L.map (·.nm))).length=L.length:=by rw[Au,ln]
 refine⟨_,rfl,na,_,rfl,.inl (Av.of ena),_,_,rfl,rfl,_,rfl,_,rfl,_,_,rfl,⟨by omega,by omega,by decide,by decide⟩,?_⟩
 refine bV (λi ys H1=>H1=H0/\∃el,ys=Ax el/\el.Nodup/\el.length<=i/\∀y∈el,∃j:Nat,L.length<=j+i/\(L.map (·.nm))[j]? = some y) ⟨rfl,[],rfl,QI,NI _,λy hy=>nomatch hy⟩ ?_ ?_
 ·rintro i ys H1 hi ⟨rfl,el,rfl,nde,hle,hin⟩
  have hi':i < L.length:=by omega
  have hk:(((Ax (L.map (·.nm))).length:Int)-1-(i:Int))=((L.length-1-i:Nat):Int):=by omega
  rw[hk]
  have hlt:L.length-1-i < (L.map (·.nm)).length:=by omega
  obtain⟨y,hy⟩:∃y,(L.map (·.nm))[L.length-1-i]? = some y:=⟨_,LU hlt⟩
  refine⟨_,rfl,_,rfl,_,_,rfl,rfl,_,_,rfl,rfl,⟨by omega,by omega⟩,_,_,rfl,rfl,(by show (0:Int) < 3;decide),_,_,rfl,rfl,_,rfl,Cr (λc1=>?_) (λc1=>?_)⟩
  ·refine⟨_,rfl,_,rfl,na,_,_,_,rfl,rfl,Av.of ena,Cj (j:=L.length-1-i) (by unfold Ax;rw[MX,hy];rfl),by rw[Au,LR];omega,rfl,el++[y],by unfold Ax;rw[LW];rfl,?_,by rw[LS,MR];omega,λz hz=>?_⟩
   ·refine PQ.mpr ⟨nde,by simp,λa ha b hb=>?_⟩
    rw[MA.mp hb]
    intro e
    subst e
    obtain⟨j,hj,hjy⟩:=hin a ha
    have:=(List.getElem?_inj (LM.mp hjy).1 nd).mp (hjy.trans hy.symm)
    omega
   ·rcases MJ.mp hz with h | h
    ·obtain⟨j,hj,hjy⟩:=hin z h
     exact⟨j,by omega,hjy⟩
    ·rw[MA.mp h]
     exact⟨L.length-1-i,by omega,hy⟩
  ·exact⟨rfl,el,rfl,nde,by omega,λz hz=>let ⟨j,a,b⟩:=hin z hz;⟨j,by omega,b⟩⟩
 ·rintro ys H1 ⟨rfl,el,rfl,nde,hle,hin⟩ ea hea
  have s1:=Ad hea (.lst (Ax el))
  exact p3 _ na ea el m (s0.trans s1) (s1 _ _ ena) Aa ⟨nde,λy hy=>let ⟨j,_,b⟩:=hin y hy;MK b⟩
end
def Nf(k c:Int):Str:=if c % 8=5 then ownAt (k+c / 8) else if c % 9=2 then sign k else Ju k c
theorem xS{k:Int}(h0:0<=k)(h1:k < 26):As (sign k)=true:=by
 obtain⟨n,rfl⟩:=QM h0
 have hn:n < 26:=by omega
 unfold As sign
 show (decide (1<=1) && decide (1<=20) && [97+n].all _)=true
 rw[List.all_cons,List.all_nil,decide_eq_true (show 97<=97+n by omega),decide_eq_true (show 97+n<=122 by omega)]
 rfl
theorem iB{k:Int}(h0:0<=k)(h1:k < 11)(c:Int):As (Nf k c)=true:=by
 unfold Nf
 split
 ·exact BO _ (mZ _)
 ·split
  ·exact xS h0 (by omega)
  ·exact Pu (vY k c)
theorem rH{k j c:Int}(h0:0<=k)(h1:k < 11)(h2:0<=j)(h3:j < 11)(h:Nf k c=Nf j c):k=j:=by
 unfold Nf at h
 split at h
 ·have:=kD h
  omega
 ·split at h
  ·obtain⟨n,rfl⟩:=QM h0
   obtain⟨m,rfl⟩:=QM h2
   have e:(#[97+n]:Array Nat) = #[97+m]:=congrArg Str.cps h
   have e2:([97+n]:List Nat)=[97+m]:=congrArg Array.toList e
   have e3:=List.singleton_inj.mp e2
   omega
  ·exact pN h0 (by omega) h2 (by omega) h
def IZ:RL:=(Bb Uo).getD 0 (.Pass ⟨0,0,0,0⟩)
theorem DR{X:Cx}{tail:List RL}{t:TS}(_:Ib X tail t)(hN:X.N=(["_law_k","_law_cell","_law_own","_law_letters","_law_fill","_law_place"]:List Str))(hs:X.env.scope=Ac Uo):HQ X IZ (eM (wW (iR (Pm.map V.str))) (Ly 2)):=by
 refine iM (x := "_law_own") ?_ ?_ ?_ (Yv (xs:=Pm) (by rfl)) ?_
 ·rw[hN];decide +kernel
 ·rw[hN];rfl
 ·rw[hs];exact Or.inl rfl
 ·rw[hs];exact Or.inr rfl
def yK:Sp:=λvs H Q _=>∃k c:Int,vs=[.int k,.int c]/\0<=k/\k < 11/\∀H',Ak H H'->Q (.str (Nf k c)) H'
def Mh:Sp:=λvs H Q _=>∃m:Int,vs=[.int m]/\0<=m/\m < 2147483629/\∀a:Int,-big<=a->a<=big->Q (.int a) H
def Sb(ks:List (Str×LZ×List Str)):Sp:=λvs H Q _=>∃(wa:LZ)(ws:List Str)(c:Int),vs=[.ref wa,.int c]/\H wa=some (.lst (Ax ws))/\0 < ws.length/\ws.length<=1000/\(∀y∈ws,As y=true)/\∀(t:LZ)(H':Hp)(p:Str×List V),Ak H H'->H' t=some (.tup (.str p.1::p.2))->Pt ks p->Q (.ref t) H'
section
variable {P:MV} {w:NU} {K:LO} {mg:Str->Option LP} {base:OS} {f fA:LZ} {fd dA:NP} {ks:List (Str×LZ×List Str)}
theorem Vt:Al ["_law_k","_law_cell","_law_own","_law_letters","_law_fill","_law_place"] ["_law_k","_law_cell"] (Ac Uo):=Fm (by decide +kernel)
theorem EA(F:Dx K "_law_name_by" "_law_name_by" Uo f fd)(T:Txt mg):Aj P w K mg base Bj 1 f fd ["_law_k","_law_cell"] yK:=by
 refine F.ok Vt (λvs H Q E h=>?_) (λcdv A outer s H vs Q E hr h=>?_)
 ·obtain⟨k,c,rfl,_⟩:=h
  rfl
 obtain⟨k,c,rfl,k0,k1,q⟩:=h
 have ll:=Pc
 have l52:=sl52
 have fl:(fill c).length<=52:=NA (Zc c) (by decide)
 have lz:Eg.length<=MG:=by omega
 refine Km (tail:=(Bb Uo).drop 1) (λtt=>∀(D:L2.Ends)(H1:Hp)(lo:LZ),D.rt=Q->Ak H H1->H1 lo=some (.lst (Pm.map V.str))->tt D [some (.int k),some (.int c),some (.ref lo),none,none,none] H1) ?_ ?_
 ·refine⟨_,Ab (Bh (PW.pt (Fe (Ao Cf (Am Cb (pv 1) Ae) Ae (Aw _)) (Ez (Ao Ph (pv 0) Ae (Aw _))))) (Ag (Ap (Az Be (pv 2) (Am Cb (Am En (pv 0) (Am Eh (pv 1) Ae)) Ae) (λ_ _=>rfl)))) Ar)
  (Ab (Bx 3 Vt.nd Aq)
  (Ab (Bh (PW.pt (Fe (Ao Cf (Am Cb (pv 1) Ae) Ae (Aw _)) (Ez (Ao Ph (pv 0) Ae (Aw _))))) (Ag (Ap (Az Xm (pv 3) (pv 0) (λ_ _=>rfl)))) Ar)
  (Ab (Bx 4 Vt.nd (Ck Wk (Am Bf (pv 3) (pv 3)) (Cv (Am Cb (pv 1) Ae)) (Cv (Am En (Am Cb (pv 1) Ae) (Am Cb (Am Eh (pv 1) Ae) Ae)))))
  (Ab (Bx 5 Vt.nd (Am Cb (Am Eh (pv 1) Ae) (Am En (Bg Ih rfl T.len PP (Bw (pv 4))) Ae)))
  (Ag (Ap (Am Bf (Am Bf (Am Bf (Ck Wk (pv 4) Dt (Cv (pv 5))) (Az Xm (pv 3) (Am Cb (Am Eh (pv 0) Ae) Ae) (λ_ _=>rfl))) (Az Xm (pv 3) (Am Cb (pv 0) Ae) (λ_ _=>rfl))) (Ck Wk (pv 4) (Cv (pv 5)) Dt)))))))),λD H1 lo hD s1 e1=>?_⟩
  refine⟨_,rfl,_,_,rfl,rfl,(by show (0:Int) < 8;decide),rfl,_,rfl,Cr (λc1=>?_) (λc1=>?_)⟩
  ·have c1:c % 8=5:=V.int.inj (of_decide_eq_true c1)
   have en:Nf k c=ownAt (k+c / 8):=if_pos c1
   rw[en] at q
   refine⟨_,rfl,_,_,rfl,rfl,_,rfl,Cr (λc2=>?_) (λc2=>absurd (decide_eq_true k1) c2)⟩
   refine⟨_,rfl,_,rfl,_,rfl,_,_,rfl,rfl,⟨by decide,by decide⟩,_,_,rfl,rfl,_,_,rfl,rfl,(by show (0:Int) < 11;decide),lo,_,_,_,rfl,rfl,Av.of e1,tN _,?_⟩
   rw[hD]
   exact q _ s1
  have c1:¬ c % 8=5:=λz=>c1 (decide_eq_true (congrArg V.int z))
  refine Cd ⟨_,rfl,_,_,rfl,rfl,(by show (0:Int) < 9;decide),rfl,_,rfl,Cr (λc2=>?_) (λc2=>?_)⟩
  ·have c2:c % 9=2:=V.int.inj (of_decide_eq_true c2)
   have en:Nf k c=sign k:=by unfold Nf;rw[if_neg c1,if_pos c2]
   rw[en] at q
   refine⟨_,rfl,_,_,rfl,rfl,_,rfl,Cr (λc3=>?_) (λc3=>absurd (decide_eq_true (show k < 26 by omega)) c3)⟩
   refine⟨_,rfl,_,rfl,Eg,_,_,rfl,rfl,lz,Nr k0 (by omega),?_⟩
   rw[hD]
   exact q _ s1
  have c2:¬ c % 9=2:=λz=>c2 (decide_eq_true (congrArg V.int z))
  have en:Nf k c=Ju k c:=by unfold Nf;rw[if_neg c1,if_neg c2]
  rw[en] at q
  refine Cd ⟨_,rfl,_,rfl,Eg,Eg,rfl,rfl,by omega,?_⟩
  refine⟨_,rfl,_,_,rfl,rfl,(by show (0:Int) < 26;decide),_,rfl,?_⟩
  refine⟨_,rfl,_,_,rfl,rfl,(by show (0:Int) < 26;decide),_,rfl,_,_,rfl,rfl,⟨by decide,by decide⟩,_,_,rfl,rfl,(by show (0:Int) < 19;decide),_,_,rfl,rfl,_,rfl,?_⟩
  refine⟨_,rfl,by rw[len_app];omega,?_⟩
  refine⟨_,rfl,_,_,rfl,rfl,⟨by decide,by decide⟩,_,rfl,fill c,rfl,by omega,_,_,rfl,rfl,_,_,rfl,rfl,(by show (0:Int) < ((fill c).length:Int)+1;omega),?_⟩
  have z1:(UA (fill c) none (some (place c))).length<=52:=NA (Txt.slice_le _ _ _) fl
  have z2:(UA (fill c) (some (place c)) none).length<=52:=NA (Txt.slice_le _ _ _) fl
  have zs:∀i:Int,(sign i).length=1:=λi=>rfl
  have zl:(200:Nat)<=MG:=by rw[LR];decide
  refine⟨_,rfl,_,rfl,_,rfl,fill c,rfl,by omega,?_⟩
  refine⟨_,rfl,_,rfl,_,_,rfl,rfl,⟨by decide,by decide⟩,_,_,rfl,rfl,(by show (0:Int) < 26;decide),Eg,_,_,rfl,rfl,lz,Nr (OM _ (by decide)) (OH _ (by decide)),?_⟩
  refine⟨_,sign (k / 26 % 26),rfl,rfl,by rw[zs];exact NA (Nat.add_le_add_right z1 1) (by omega),?_⟩
  refine⟨_,rfl,_,rfl,_,_,rfl,rfl,(by show (0:Int) < 26;decide),Eg,_,_,rfl,rfl,lz,Nr (OM _ (by decide)) (OH _ (by decide)),?_⟩
  have z1':(UA (fill c) none (some (c / 494 % (((fill c).length:Int)+1)))).length<=52:=z1
  have z2':(UA (fill c) (some (c / 494 % (((fill c).length:Int)+1))) none).length<=52:=z2
  refine⟨_,sign (k % 26),rfl,rfl,by rw[len_app,zs,zs];omega,?_⟩
  refine⟨_,rfl,_,rfl,_,rfl,fill c,rfl,by omega,?_⟩
  refine⟨_,_,rfl,rfl,by rw[len_app,len_app,zs,zs];omega,?_⟩
  rw[hD]
  exact q _ s1
 intro t4 h4 p4
 refine jF (DR h4 rfl rfl) ⟨_,h4,?_⟩
 refine⟨by show 11<=MG;rw[LR];decide,λlo hlo=>?_⟩
 exact p4 _ _ lo rfl (Ad hlo _) Aa
theorem wI:Al ["_law_mixed"] ["_law_mixed"] (Ac dZ):=Fm (by decide +kernel)
theorem oW(F:Dx K "_law_amount_by" "_law_amount_by" dZ f fd):Aj P w K mg base Bj 1 f fd ["_law_mixed"] Mh:=by
 refine F.ok wI (λvs H Q E h=>?_) (λcdv A outer s H vs Q E hr h=>?_)
 ·obtain⟨m,rfl,_⟩:=h
  rfl
 obtain⟨m,rfl,m0,m1,q⟩:=h
 refine⟨_,Ab (Bh (Ao Cf (Am Cb (pv 0) Ae) Ae (Aw _)) (Ag (Ap (Am Ws (Am Cb (Am Lg (pv 0) (Am Rj Ae Ae)) (Am En (Am Lg Ae (Am Rj Ae Ae)) Ae)) (Am Rj Ae Ae)))) Ar)
  (Ag (Ap (Am Ws (Am Cb (Am Eh (pv 0) Ae) Ae) Ae))),?_⟩
 refine⟨_,rfl,_,_,rfl,rfl,(by show (0:Int) < 3;decide),rfl,_,rfl,Cr (λe=>?_) (λe=>?_)⟩
 ·refine⟨_,rfl,_,_,rfl,rfl,⟨by decide,by decide,by decide⟩,_,_,rfl,rfl,.inl ⟨by omega,by omega⟩,_,_,rfl,rfl,⟨by decide,by decide,by decide⟩,_,_,rfl,rfl,.inl ⟨by decide,by decide⟩,_,_,rfl,rfl,_,_,rfl,rfl,(by show (0:Int) < 2 * 10 ^ (30:Int).toNat+1;decide),_,_,rfl,rfl,⟨by decide,by decide,by decide⟩,_,_,rfl,rfl,?_⟩
  have e30:(10:Int) ^ (30:Int).toNat=1000000000000000000000000000000:=by decide
  refine q _ ?_ ?_<;>rw[e30,cI]<;>generalize m * 10 ^ (23:Int).toNat=z<;>omega
 ·refine⟨_,rfl,_,_,rfl,rfl,⟨by decide,by decide⟩,_,_,rfl,rfl,(by show (0:Int) < 19;decide),_,_,rfl,rfl,q _ ?_ ?_⟩<;>rw[cI]<;>omega
end
end Bk
set_option maxHeartbeats 400000
namespace Bk
open PySem L2 Mg Nm Li PySem.SeqAt
abbrev JO:List Str:=["_law_words","_law_cell","_law_mixed","_law_sorts","_law_sort","_law_amount","_law_word"]
def JY:RL:=(Bb Dl).getD 2 (.Pass ⟨0,0,0,0⟩)
theorem BJ{X:Cx}{tail:List RL}{t:TS}(_:Ib X tail t)(hN:X.N=(["_law_words","_law_cell","_law_mixed","_law_sorts","_law_sort","_law_amount","_law_word"]:List Str))(hs:X.env.scope=Ac Dl):HQ X JY (eM (wW (iR (Mx.map V.str))) (Ly 3)):=by
 refine iM (x := "_law_sorts") ?_ ?_ ?_ (Yv (xs:=Mx) (by rfl)) ?_
 ·rw[hN];decide +kernel
 ·rw[hN];rfl
 ·rw[hs];exact Or.inl rfl
 ·rw[hs];exact Or.inr rfl
section
variable {P:MV} {w:NU} {K:LO} {mg:Str->Option LP} {base:OS} {f fA:LZ} {fd dA:NP} {ks:List (Str×LZ×List Str)}
theorem lW:Al JO ["_law_words","_law_cell"] (Ac Dl):=Fm (by decide +kernel)
theorem wD(T:Txt mg)(Tb:aX ks)(GA:Aj P w K mg base Bj 1 fA dA ["_law_mixed"] Mh)(kA:MN K (.ref fA)=true)(bA:Binds K dA ["_law_mixed"] [])(mA:mg "_law_amount_by" = some (.ref fA))(cdv:LP)(A:NV)(outer:List Env)(s:LV)(H:Hp)(E:XK)(Q:VK)(hr:Cq 1 (A.deeper (QE "_law_step_by" (Ac Dl) s.heap.objs.size f cdv))){wa:LZ}{ws:List Str}{c:Int}(hwa:H wa=some (.lst (Ax ws)))(ha:0 < ws.length)(hws:∀y∈ws,As y=true)(q:∀(t:LZ)(H':Hp)(p:Str×List V),Ak H H'->H' t=some (.tup (.str p.1::p.2))->Pt ks p->Q (.ref t) H'):
 ∃tt,Ib (Ft Bj P w K mg base JO "_law_step_by" (Ac Dl) f cdv A outer s H E).nox ((Bb Dl).drop 3) tt/\∀(D:L2.Ends)(H1:Hp)(l:LZ)(m:Int),D.rt=Q->Ak H H1->H1 l=some (.lst (Mx.map V.str))->0<=m->m < 2147483629->tt D [some (.ref wa),some (.int c),some (.int m),some (.ref l),none,none,none] H1:=by
 refine⟨_,Ab (Bx 4 lW.nd (Az Be (pv 3) (Am Cb (pv 2) Ae) (λ_ _=>rfl)))
  (Ab (Bx 5 lW.nd (Ds GA hr mA kA bA (Bw (Am Eh (pv 2) Ae))))
  (Ab (Bx 6 lW.nd (Az Be (pv 0) (Am Cb (Am Eh (pv 2) Ae) (Ep T.len (pv 0))) (λ_ _=>rfl)))
  (Ab (Bh (Ao Kr (pv 4) (Eu (Lw (xs:=["say","onwards"]) (by rfl))) rfl) (Ag (Ap (Eu (Bw (pv 4))))) Ar)
  (Ab (Bh (Ao Cf (pv 4) Aq (Aw _)) (Ag (Ap (Eu (Hh (pv 4) (pv 6))))) Ar)
  (Ab (Bh (Ao Cf (pv 4) Aq (Aw _)) (Ag (Ap (Eu (Tc (pv 4) (pv 6) (Az Be (pv 0) (Am Cb (Am Eh (pv 2) Ae) (Ep T.len (pv 0))) (λ_ _=>rfl)))))) Ar)
  (Ab (Bh (PW.pt (Fe (Ao Kr (pv 4) (Eu (Lw (xs:=["over","part"]) (by rfl))) rfl) (Ez (Ao Cf (pv 5) Ae (Aw _))))) (Ag (Ap (Eu (Hh (pv 4) Ae)))) Ar)
  (Ab (Bh (Ao Kr (pv 4) (Eu (Lw (xs:=["up","down"]) (by rfl))) rfl) (Ag (Ap (Eu (Hh (pv 4) (Am Cb (pv 5) Ae))))) Ar)
  (Ag (Ap (Eu (Hh (pv 4) (pv 5)))))))))))),λD H1 l m hD s1 el m0 m1=>?_⟩
 refine⟨_,rfl,_,rfl,_,_,rfl,rfl,(by show (0:Int) < 14;decide),l,_,_,_,rfl,rfl,Av.of el,vL m,?_⟩
 have kop:=vB _ (pA m)
 generalize kd14 m=kd at *
 refine⟨_,rfl,_,_,rfl,rfl,⟨by decide,by decide⟩,m / 14,rfl,by omega,by omega,λam a0 a1=>?_⟩
 have pick:∀x:Int,∃y,Sz (Ax ws) (x % ((Ax ws).length:Int))=some (.str y)/\y∈ws:=λx=>by
  rw[Au]
  obtain⟨k,hk,hk2⟩:=jS (x:=x) ha
  rw[hk]
  exact⟨ws[k],Cj (gA (LU hk2)),OO hk2⟩
 obtain⟨y1,hy1,hy1m⟩:=pick (m / 14)
 obtain⟨y2,hy2,hy2m⟩:=pick (m / 98)
 have hln:(0:Int) < ((Ax ws).length:Int):=by rw[Au];omega
 have hw1:=s1 _ _ hwa
 refine⟨_,rfl,_,rfl,_,_,rfl,rfl,⟨by decide,by decide⟩,_,rfl,wa,_,rfl,.inl (Av.of hw1),_,_,rfl,rfl,hln,wa,_,_,_,rfl,rfl,Av.of hw1,hy1,?_⟩
 have z2:2<=MG:=by rw[LR];decide
 have z1:1<=MG:=by rw[LR];decide
 refine⟨_,rfl,by show 2<=MG;exact z2,λtp htp=>⟨tp,_,rfl,.inr (Dq.of Aa),rfl,rfl,_,rfl,?_⟩⟩
 have s3:=Ad htp (.tup ((["say","onwards"]:List Str).map V.str))
 have sB':=s1.trans s3
 generalize upd H1 tp (.tup ((["say","onwards"]:List Str).map V.str))=H3 at *
 have hw3:=s3 _ _ hw1
 refine Cr (λc=>?_) (λc=>?_)
 ·refine⟨_,rfl,by show 1<=MG;exact z1,λt ht=>?_⟩
  rw[hD]
  exact q t _ (kd,[]) (sB'.trans (Ad ht _)) Aa (xQ Tb (Za.mp c))
 have c1:¬ kd = "say" := λz=>c (Za.mpr (.inl z))
 have c2:¬ kd = "onwards" := λz=>c (Za.mpr (.inr z))
 refine⟨_,rfl,rfl,_,rfl,Cr (λc3=>?_) (λc3=>?_)⟩
 ·refine⟨_,rfl,_,rfl,by show 2<=MG;exact z2,λt ht=>?_⟩
  rw[hD]
  obtain rfl:=Vp c3
  exact q t _ ("ask", [.str y1]) (sB'.trans (Ad ht _)) Aa (BD Tb (hws y1 hy1m))
 refine⟨_,rfl,rfl,_,rfl,Cr (λc4=>?_) (λc4=>?_)⟩
 ·refine⟨_,rfl,_,rfl,_,rfl,_,rfl,_,_,rfl,rfl,⟨by decide,by decide⟩,_,rfl,wa,_,rfl,.inl (Av.of hw3),_,_,rfl,rfl,hln,wa,_,_,_,rfl,rfl,Av.of hw3,hy2,by rw[LR];show 3<=_;decide,λt ht=>?_⟩
  rw[hD]
  obtain rfl:=Vp c4
  exact q t _ ("try", [.str y1,.str y2]) (sB'.trans (Ad ht _)) Aa (AK Tb (hws y1 hy1m) (hws y2 hy2m))
 have hm:=kop c1 c2 (Vl c3) (Vl c4)
 have eb:=cI
 have fin:∀(b:Int)(t:LZ)(H4:Hp),Ak H3 H4->H4 t=none -> -big<=b->b<=big->(kd = "over" ∨ kd = "part" -> b≠0)->(kd = "up" ∨ kd = "down" -> 0<=b/\b<=64)->Q (.ref t) (upd H4 t (.tup [.str kd,.int b])):=λb t H4 s4 ht b0 b1 b2 b3=>
  q t _ (kd,[.int b]) (sB'.trans (s4.trans (Ad ht _))) Aa (BR Tb hm b0 b1 b2 b3)
 refine⟨_,rfl,by show 2<=MG;exact z2,λtp2 htp2=>⟨tp2,_,rfl,.inr (Dq.of Aa),rfl,rfl,_,rfl,?_⟩⟩
 have s4:=Ad htp2 (.tup ((["over","part"]:List Str).map V.str))
 generalize upd H3 tp2 (.tup ((["over","part"]:List Str).map V.str))=H4 at *
 refine Cr (λc5=>?_) (λc5=>Cd ?_)
 ·have k5:=Za.mp c5
  refine⟨_,rfl,rfl,_,rfl,Cr (λc6=>?_) (λc6=>?_)⟩
  ·refine⟨_,rfl,by show 2<=MG;exact z2,λt ht=>?_⟩
   rw[hD]
   refine fin 6 t H4 s4 ht (by rw[eb];decide) (by rw[eb];decide) (λ_=>by decide) (λz=>?_)
   rcases k5 with h | h<;>rcases z with z | z<;>rw[h] at z<;>revert z<;>decide +kernel
  ·have c7:am≠0:=λh=>c6 (decide_eq_true (congrArg V.int h))
   refine⟨_,rfl,by show 2<=MG;exact z2,λtp3 htp3=>⟨tp3,_,rfl,.inr (Dq.of Aa),rfl,rfl,_,rfl,?_⟩⟩
   have s5:=s4.trans (Ad htp3 (.tup ((["up","down"]:List Str).map V.str)))
   refine Cr (λc8=>?_) (λc8=>?_)
   ·exfalso
    rcases Za.mp c8 with z | z<;>rcases k5 with h | h<;>rw[h] at z<;>revert z<;>decide +kernel
   ·refine⟨_,rfl,_,rfl,by show 2<=MG;exact z2,λt ht=>?_⟩
    rw[hD]
    exact fin _ t _ s5 ht a0 a1 (λ_=>c7) (λz=>absurd (Za.mpr z) c8)
 ·have k5:¬ (kd = "over" ∨ kd = "part"):=λz=>c5 (Za.mpr z)
  refine⟨_,rfl,by show 2<=MG;exact z2,λtp3 htp3=>⟨tp3,_,rfl,.inr (Dq.of Aa),rfl,rfl,_,rfl,?_⟩⟩
  have s5:=s4.trans (Ad htp3 (.tup ((["up","down"]:List Str).map V.str)))
  refine Cr (λc8=>?_) (λc8=>?_)
  ·refine⟨_,rfl,_,rfl,_,_,rfl,rfl,(by show (0:Int) < 65;decide),by show 2<=MG;exact z2,λt ht=>?_⟩
   rw[hD]
   exact fin _ t _ s5 ht (by rw[eb];omega) (by rw[eb];omega) (λz=>absurd z k5) (λ_=>by omega)
  ·refine⟨_,rfl,_,rfl,by show 2<=MG;exact z2,λt ht=>?_⟩
   rw[hD]
   exact fin _ t _ s5 ht a0 a1 (λz=>absurd z k5) (λz=>absurd (Za.mpr z) c8)
theorem qF(T:Txt mg)(Tb:aX ks)(GA:Aj P w K mg base Bj 1 fA dA ["_law_mixed"] Mh)(kA:MN K (.ref fA)=true)(bA:Binds K dA ["_law_mixed"] [])(mA:mg "_law_amount_by" = some (.ref fA))(cdv:LP)(A:NV)(outer:List Env)(s:LV)(H:Hp)(E:XK)(Q:VK)(hr:Cq 1 (A.deeper (QE "_law_step_by" (Ac Dl) s.heap.objs.size f cdv))){wa:LZ}{ws:List Str}{c:Int}(hwa:H wa=some (.lst (Ax ws)))(ha:0 < ws.length)(hws:∀y∈ws,As y=true)(q:∀(t:LZ)(H':Hp)(p:Str×List V),Ak H H'->H' t=some (.tup (.str p.1::p.2))->Pt ks p->Q (.ref t) H'):
 ∃tt,Ib (Ft Bj P w K mg base JO "_law_step_by" (Ac Dl) f cdv A outer s H E).nox ((Bb Dl).drop 2) tt/\∀(D:L2.Ends)(H1:Hp)(m:Int),D.rt=Q->Ak H H1->0<=m->m < 2147483629->tt D [some (.ref wa),some (.int c),some (.int m),none,none,none,none] H1:=by
 obtain⟨t4,h4,p4⟩:=wD (f:=f) T Tb GA kA bA mA cdv A outer s H E Q hr hwa ha hws q
 refine jF (BJ h4 rfl rfl) ⟨_,h4,λD H1 m hD s1 m0 m1=>?_⟩
 refine⟨by show 14<=MG;rw[LR];decide,λl hl=>?_⟩
 exact p4 _ _ l m hD (s1.trans (Ad hl _)) Aa m0 m1
theorem DZ(F:Dx K "_law_step_by" "_law_step_by" Dl f fd)(T:Txt mg)(Tb:aX ks)(GA:Aj P w K mg base Bj 1 fA dA ["_law_mixed"] Mh)(kA:MN K (.ref fA)=true)(bA:Binds K dA ["_law_mixed"] [])(mA:mg "_law_amount_by" = some (.ref fA)):Aj P w K mg base Bj 2 f fd ["_law_words","_law_cell"] (Sb ks):=by
 refine F.ok lW (λvs H Q E h=>?_) (λcdv A outer s H vs Q E hr h=>?_)
 ·obtain⟨wa,ws,c,rfl,_⟩:=h
  rfl
 obtain⟨wa,ws,c,rfl,hwa,ha,hwl,hws,q⟩:=h
 obtain⟨t3,h3,p3⟩:=qF (f:=f) T Tb GA kA bA mA cdv A outer s H E Q hr hwa ha hws q
 generalize hb:(Bb Dl).drop 2=rest at h3
 have e0:Bb Dl=(Bb Dl).getD 0 (.Pass ⟨0,0,0,0⟩)::(Bb Dl).getD 1 (.Pass ⟨0,0,0,0⟩)::rest:=by
  rw[<- hb]
  rfl
 rw[e0]
 refine⟨_,Ab (Bx 2 lW.nd (Am Cb (Am Lg (pv 1) Ae) Ae)) (Ab (Bx 2 lW.nd (Am Cb (Am Lg (pv 2) (pv 2)) Ae)) h3),?_⟩
 refine⟨_,rfl,_,_,rfl,rfl,.inr ⟨by decide,by decide⟩,_,_,rfl,rfl,(by show (0:Int) < 2147483647;decide),?_⟩
 have b0:0<=c * 69621 % 2147483647:=OM _ (by decide)
 have b1:c * 69621 % 2147483647 < 2147483647:=OH _ (by decide)
 refine⟨_,rfl,_,rfl,_,_,rfl,rfl,.inl ⟨by omega,by omega⟩,_,_,rfl,rfl,(by show (0:Int) < 2147483629;decide),?_⟩
 exact p3 _ _ _ rfl (Ak.refl _) (OM _ (by decide)) (OH _ (by decide))
end
section
variable {α:Type}
theorem Qy(M N:List ((Str×Str)×Bdy))(x:Str):An (M++N) x=An M x++An N x:=by
 unfold An
 rw[List.filter_append,LW]
theorem Bu(n:(Str×Str)×Bdy)(N:List ((Str×Str)×Bdy))(x:Str):An (n::N) x=(if n.1.1=x then [(n.1.2,n.2)] else [])++An N x:=by
 unfold An
 by_cases e:n.1.1=x
 ·rw[if_pos e,OU (by rw[decide_eq_true e])]
  rfl
 ·rw[if_neg e,PR (by rw[decide_eq_false e];exact LY)]
  rfl
theorem Sn(k:Str×Str)(b:α)(p:(Str×Str)×α):(Jg k b p).1=p.1:=by
 unfold Jg
 split
 ·next h=>exact h.symm
 ·rfl
theorem Sl(x y:Str)(b:Bdy):∀N:List ((Str×Str)×Bdy),An (N.map (Jg (x,y) b)) x=(An N x).map (Iz y b)
 | []=>rfl
 | n::N=>by
  rw[MU,Bu,Bu,Sl x y b N,LW]
  refine congrArg (· ++ _) ?_
  rw[Sn]
  by_cases e:n.1.1=x
  ·rw[if_pos e,if_pos e]
   show [(n.1.2,(Jg (x,y) b n).2)]=[Iz y b (n.1.2,n.2)]
   unfold Jg Iz
   by_cases e2:n.1.2=y
   ·rw[if_pos (Prod.ext e e2),if_pos e2,e2]
   ·rw[if_neg (λz=>e2 (by rw[z])),if_neg e2]
  ·rw[if_neg e,if_neg e]
   rfl
theorem Kz{x x' y:Str}(b:Bdy)(h:x'≠x):∀N:List ((Str×Str)×Bdy),An (N.map (Jg (x,y) b)) x'=An N x'
 | []=>rfl
 | n::N=>by
  rw[MU,Bu,Bu,Kz b h N]
  refine congrArg (· ++ _) ?_
  rw[Sn]
  by_cases e:n.1.1=x'
  ·rw[if_pos e,if_pos e]
   unfold Jg
   rw[if_neg (λz=>h (by rw[<- e,z]))]
  ·rw[if_neg e,if_neg e]
theorem Yt(x y:Str):∀N:List ((Str×Str)×Bdy),Lo (x,y) N=Xv y (An N x)
 | []=>rfl
 | n::N=>by
  have ih:=Yt x y N
  unfold Lo Xv at ih ⊢
  rw[UD,Bu,List.any_append,ih]
  refine congrArg (· || _) ?_
  by_cases e:n.1.1=x
  ·rw[if_pos e]
   show _=(decide (n.1.2=y) || false)
   rw[Bool.or_false]
   by_cases e2:n.1.2=y
   ·rw[decide_eq_true e2,decide_eq_true (Prod.ext e e2)]
   ·rw[decide_eq_false e2,decide_eq_false (λz=>e2 (by rw[z]))]
  ·rw[if_neg e,decide_eq_false (λz=>e (by rw[z]))]
   rfl
theorem fQ(N:List ((Str×Str)×Bdy))(x y:Str)(b:Bdy):An (putN N (x,y) b) x=Ng (An N x) y b:=by
 unfold putN Ng
 rw[Qy,Sl,Yt]
 refine congrArg (λz:List (Str×Bdy)=>(An N x).map (Iz y b)++z) ?_
 split
 ·rfl
 ·rw[Bu,if_pos rfl]
  rfl
theorem Tf(N:List ((Str×Str)×Bdy)){x x':Str}(y:Str)(b:Bdy)(h:x'≠x):An (putN N (x,y) b) x'=An N x':=by
 unfold putN
 rw[Qy,Kz b h]
 split
 ·exact NL _
 ·rw[Bu,if_neg (λz=>h (Eq.symm z))]
  exact NL _
def Nh(N:List ((Str×Str)×α))(k:Str×Str):List ((Str×Str)×α):=N.filter λn=>!decide (n.1=k)
theorem Ra(x y:Str):∀N:List ((Str×Str)×Bdy),An (Nh N (x,y)) x=(An N x).filter λr=>!decide (r.1=y)
 | []=>rfl
 | n::N=>by
  have ih:=Ra x y N
  unfold Nh at ih ⊢
  rw[Bu,List.filter_append,<- ih]
  by_cases e:n.1.1=x
  ·rw[if_pos e]
   by_cases e2:n.1.2=y
   ·rw[PR (by rw[decide_eq_true (Prod.ext e e2)];exact LY),PR (by rw[decide_eq_true e2];exact LY)]
    rfl
   ·rw[OU (by rw[decide_eq_false (λz=>e2 (by rw[z]))];rfl),OU (by rw[decide_eq_false e2];rfl),Bu,if_pos e]
    rfl
  ·rw[if_neg e,OU (by rw[decide_eq_false (λz=>e (by rw[z]))];rfl),Bu,if_neg e]
   rfl
theorem La{x x':Str}(y:Str)(h:x'≠x):∀N:List ((Str×Str)×Bdy),An (Nh N (x,y)) x'=An N x'
 | []=>rfl
 | n::N=>by
  have ih:=La y h N
  unfold Nh at ih ⊢
  by_cases e:n.1=(x,y)
  ·rw[PR (by rw[decide_eq_true e];exact LY),Bu,if_neg (λz=>h (by rw[<- z,e])),ih]
   rfl
  ·rw[OU (by rw[decide_eq_false e];rfl),Bu,Bu,ih]
theorem Oc(k:Str×Str)(W:List ((Str×Str)×α)):Lo k W=decide (k∈W.map (·.1)):=by
 unfold Lo
 by_cases h:k∈W.map (·.1)
 ·rw[decide_eq_true h,TR]
  obtain⟨p,hp,e⟩:=ML.mp h
  exact⟨p,hp,decide_eq_true e⟩
 ·rw[decide_eq_false h,UK]
  exact λp hp z=>h (ML.mpr ⟨p,hp,of_decide_eq_true z⟩)
theorem nK(W:List ((Str×Str)×α))(k:Str×Str)(b:α):(putN W k b).map (·.1)=W.map (·.1)++if k∈W.map (·.1) then [] else [k]:=by
 unfold putN
 rw[LW,List.map_map,Oc]
 have e:((λp:(Str×Str)×α=>p.1) ∘ Jg k b)=λp=>p.1:=funext λp=>Sn k b p
 rw[e]
 by_cases h:k∈W.map (·.1)
 ·rw[decide_eq_true h,if_pos rfl,if_pos h]
  rfl
 ·rw[decide_eq_false h,if_neg LY,if_neg h]
  rfl
theorem Xr(W:List ((Str×Str)×α))(k:Str×Str)(b:α):(putN W k b).length<=W.length+1:=by
 unfold putN
 rw[LS,LN]
 split<;>simp
theorem Xx{W:List ((Str×Str)×α)}{k:Str×Str}{b:α}{q:(Str×Str)×α}(h:q∈putN W k b):q∈W∨q=(k,b):=by
 unfold putN at h
 rcases MJ.mp h with h | h
 ·obtain⟨p,hp,e⟩:=ML.mp h
  unfold Jg at e
  split at e
  ·exact .inr e.symm
  ·exact .inl (e ▸ hp)
 ·split at h
  ·cases h
  ·exact .inr (MA.mp h)
theorem gU{W:List ((Str×Str)×α)}(k:Str×Str)(b:α)(h:(W.map (·.1)).Nodup):((putN W k b).map (·.1)).Nodup:=by
 rw[nK]
 split
 ·rw[NL];exact h
 ·next hy=>
  rw[PQ]
  exact⟨h,by simp,λa ha c hc=>by rw[MA] at hc;subst hc;exact λz=>hy (z ▸ ha)⟩
end
theorem cS.keys{H:Hp}{W:List ((Str×Str)×LZ)}{N:List ((Str×Str)×Bdy)}(h:OJ (cS H) W N):W.map (·.1)=N.map (·.1):=by
 induction h with
 | nil=>rfl
 | cons r t ih=>rw[MU,MU,ih,r.1]
theorem nI{H:Hp}{k:Str×Str}{lb:LZ}{b:Bdy}{W:List ((Str×Str)×LZ)}{N:List ((Str×Str)×Bdy)}(h:OJ (cS H) W N)(hb:cS H (k,lb) (k,b)):OJ (cS H) (putN W k lb) (putN N k b):=by
 have hk:=cS.keys h
 unfold putN
 rw[Oc,Oc,hk]
 refine Gw (Yb h λp q r=>?_) ?_
 ·unfold Jg
  by_cases hy:p.1=k
  ·rw[if_pos hy,if_pos (r.1 ▸ hy)]
   exact hb
  ·rw[if_neg hy,if_neg (r.1 ▸ hy)]
   exact r
 ·split
  ·exact .nil
  ·exact .cons hb .nil
structure Iw(ks:List (Str×LZ×List Str))(CB CH:LZ)(H0 H:Hp)(p d aa ka:LZ)(ns:List Str)(m:Nat)(L:List Ent)(A:List (Str×LZ))(rs:List LZ)(W:List ((Str×Str)×LZ))(N:List ((Str×Str)×Bdy)):Prop where
 lk:Tn CB CH H p d aa ka L A rs W N
 fo:Mb L
 so:∀n∈N,∀s∈n.2,Pt ks s
 nm:L.map (·.nm)=ns
 nl:N.length<=m
 sm:Ak H0 H
 fd:H0 d=none
 fa:H0 aa=none
 fb:∀e∈L,H0 e.ba=none
section
variable {ks:List (Str×LZ×List Str)} {CB CH:LZ} {H0 H H1 H2:Hp} {p d aa ka:LZ} {ns:List Str} {m:Nat} {L:List Ent} {A:List (Str×LZ)} {rs:List LZ} {W:List ((Str×Str)×LZ)} {N:List ((Str×Str)×Bdy)}
theorem Tn.same(S:Tn CB CH H p d aa ka L A rs W N)(s:Ak H H1):Tn CB CH H1 p d aa ka L A rs W N:=
 ⟨S.bk.same s,λe he=>(S.en e he).same s,S.ab.same s,S.ro.same s,Paired.mapP S.pn λ_ _ z=>z.keep (Gm.of_same s),S.nm,S.nd,S.ad,S.ae,S.ll,S.nl⟩
theorem Iw.same(S:Iw ks CB CH H0 H p d aa ka ns m L A rs W N)(s:Ak H H1):Iw ks CB CH H0 H1 p d aa ka ns m L A rs W N:=⟨S.lk.same s,S.fo,S.so,S.nm,S.nl,S.sm.trans s,S.fd,S.fa,S.fb⟩
theorem Iw.step(S:Iw ks CB CH H0 H p d aa ka ns m L A rs W N){i:Nat}{e:Ent}{bd:List (Key×V)}{l:LZ}{rs':List LZ}{W':List ((Str×Str)×LZ)}{N':List ((Str×Str)×Bdy)}{m':Nat}(he:L[i]? = some e)(hb:H1 e.ba=some (.dK bd))(k:∀b o,H b=some o->b≠e.ba->H1 b=some o)(s:Ak H1 H2)(en:bZ H1 { e with bd:=bd } (An N' e.nm))(ot:∀x,x≠e.nm->An N' x=An N x)(ro:Dz H2 l rs' W')(pn:OJ (cS H2) W' N')(nm:∀n∈N',n.1.1∈ns)(nd:(N'.map (·.1)).Nodup)(so:∀n∈N',∀s∈n.2,Pt ks s)(nl:N'.length<=m')(ml:m'<=60):
 Iw ks CB CH H0 H2 p d aa l ns m' (L.set i { e with bd:=bd }) A rs' W' N':=by
 have hem:=MK he
 have hal:i < L.length:=(LM.mp he).1
 have E:=S.lk.bk.en e hem
 have kp:Gm H H1:=Gm.of_keep k E.bd
 have mnm:(L.set i { e with bd:=bd }).map (·.nm)=L.map (·.nm):=Ee (f:=λx:Ent=>x.nm) he rfl
 have mel:((L.set i { e with bd:=bd }).map λe=>(e.nm,e.el))=L.map λe=>(e.nm,e.el):=Ee (f:=λx:Ent=>(x.nm,x.el)) he rfl
 have msk:(L.set i { e with bd:=bd }).map sk=L.map sk:=Ee (f:=sk) he rfl
 have mem:∀e'∈L.set i { e with bd:=bd },e'∈L∨e'={ e with bd:=bd }:=λe' h=>List.mem_or_eq_of_mem_set h
 have bas:∀e'∈L.set i { e with bd:=bd },∃e''∈L,e''.ba=e'.ba/\e''.nm=e'.nm/\e''.od=e'.od:=λe' h=>by
  rcases mem e' h with z | z
  ·exact⟨e',z,rfl,rfl,rfl⟩
  ·rw[z]
   exact⟨e,hem,rfl,rfl,rfl⟩
 refine⟨⟨(S.lk.bk.putBd he k hb).same s,λe' he'=>?_,?_,ro,pn,λn hn=>by rw[mnm,S.nm];exact nm n hn,nd,S.lk.ad,λe' he'=>?_,?_,NA nl ml⟩,⟨?_,by rw[msk];exact S.fo.re,λe' he'=>?_,?_⟩,so,by rw[mnm];exact S.nm,nl,?_,S.fd,S.fa,λe' he'=>?_⟩
 ·obtain⟨j,hj⟩:=NX he'
  rcases Vm hal hj with ⟨rfl,rfl⟩ | ⟨hne,hj'⟩
  ·exact en.same s
  ·rw[ot _ (FA S.lk.bk.nd he hj' hne)]
   exact((S.lk.en e' (MK hj')).keep kp).same s
 ·rw[mel]
  refine⟨s _ _ (k _ _ S.lk.ab.dc (S.lk.ae e hem)),Paired.mapP S.lk.ab.el λ_ _ z=>⟨z.1,s _ _ (kp.lst z.2)⟩,S.lk.ab.nd⟩
 ·obtain⟨e'',h1,h2,_⟩:=bas e' he'
  rw[<- h2]
  exact S.lk.ae e'' h1
 ·rw[List.length_set]
  exact S.lk.ll
 ·intro e' he'
  rw[mnm]
  rcases mem e' he' with z | z
  ·exact S.fo.od e' z
  ·rw[z]
   exact S.fo.od e hem
 ·obtain⟨e'',h1,_,h3,_⟩:=bas e' he'
  rw[<- h3]
  exact S.fo.nm e'' h1
 ·rw[List.length_set]
  exact S.fo.ll
 ·exact λb o h=>s _ _ (k _ _ (S.sm _ _ h) (Ah h (S.fb e hem)))
 ·obtain⟨e'',h1,h2,_⟩:=bas e' he'
  rw[<- h2]
  exact S.fb e'' h1
theorem Iw.teach(S:Iw ks CB CH H0 H p d aa ka ns m L A rs W N){i:Nat}{e:Ent}{y:Str}{la lb l:LZ}{ts:List LZ}{ss:Bdy}{rs':List LZ}(he:L[i]? = some e)(oy:As y=true)(hl:H1 la=some (.lst (ts.map V.ref)))(hlb:H lb=some (.lst (ts.map V.ref)))(hst:Ce H ts ss)(hss:∀p∈ss,Pt ks p)(hsl:ss.length<=30)(hb:H1 e.ba=some (.dK (putK e.bd (MY y:Key) (.ref la))))(k:∀b o,H b=some o->b≠e.ba->H1 b=some o)(s:Ak H1 H2)(ro:Dz H2 l rs' (putN W (e.nm,y) lb))(ml:m < 60):
 Iw ks CB CH H0 H2 p d aa l ns (m+1) (L.set i { e with bd:=putK e.bd (MY y:Key) (.ref la) }) A rs' (putN W (e.nm,y) lb) (putN N (e.nm,y) ss):=by
 have hem:=MK he
 have E:=S.lk.bk.en e hem
 have kp:Gm H H1:=Gm.of_keep k E.bd
 have hnl:=Xr N (e.nm,y) ss
 have hn:=S.nl
 have hst1:Ce H1 ts ss:=⟨hst.1,λi t p a b=>kp.tup (hst.2 i t p a b)⟩
 obtain⟨W0,eW,PW,ndW,hW⟩:=(S.lk.en e hem).w
 have PW':OJ (Pq H1) (Ng W0 y la) (An (putN N (e.nm,y) ss) e.nm):=by
  rw[fQ]
  exact sU (Paired.mapP PW λ_ _ z=>z.keep kp) ⟨rfl,oy,ts,hl,hst1,λp hp=>(hss p hp).wf,hsl⟩
 refine S.step he hb k s ⟨⟨Ng W0 y la,?_,PW',mV y la ndW,?_⟩,(S.lk.en e hem).nm,(S.lk.en e hem).el,(S.lk.en e hem).le⟩ (λx hx=>Tf N y ss hx) ro (nI (Paired.mapP S.lk.pn λ_ _ z=>z.keep (kp.trans (Gm.of_same s))) ⟨rfl,oy,ts,s _ _ (kp.lst hlb),hst1.same s,λp hp=>⟨(hss p hp).wf,(hss p hp).l1⟩,hsl⟩) (λn hn'=>?_) (gU _ _ S.lk.nd) (λn hn'=>?_) (by omega) (by omega)
 ·show putK e.bd (MY y:Key) (.ref la)=_
  rw[eW,Wc]
 ·rw[OF PW']
  have:=Gy (putN N (e.nm,y) ss) e.nm
  omega
 ·rw[<- S.nm]
  rcases Xx hn' with z | z
  ·exact S.lk.nm n z
  ·rw[z]
   exact List.mem_map_of_mem hem
 ·rcases Xx hn' with z | z
  ·exact S.so n z
  ·rw[z]
   exact hss
theorem Iw.drop(S:Iw ks CB CH H0 H p d aa ka ns m L A rs W N){i:Nat}{e:Ent}{y:Str}{l:LZ}{rs':List LZ}(he:L[i]? = some e)(hb:H1 e.ba=some (.dK (Hc e.bd (MY y:Key))))(k:∀b o,H b=some o->b≠e.ba->H1 b=some o)(s:Ak H1 H2)(ro:Dz H2 l rs' (Nh W (e.nm,y)))(ml:m<=60):
 Iw ks CB CH H0 H2 p d aa l ns m (L.set i { e with bd:=Hc e.bd (MY y:Key) }) A rs' (Nh W (e.nm,y)) (Nh N (e.nm,y)):=by
 have hem:=MK he
 have E:=S.lk.bk.en e hem
 have kp:Gm H H1:=Gm.of_keep k E.bd
 have hn:=S.nl
 have hnl:(Nh N (e.nm,y)).length<=N.length:=UP _ _
 obtain⟨W0,eW,PW,ndW,hW⟩:=(S.lk.en e hem).w
 have sub:∀n∈Nh N (e.nm,y),n∈N:=λn h=>(List.mem_filter.mp h).1
 refine S.step he hb k s ⟨⟨W0.filter λq=>!decide (q.1=y),?_,?_,?_,?_⟩,(S.lk.en e hem).nm,(S.lk.en e hem).el,(S.lk.en e hem).le⟩ (λx hx=>La y hx N) ro (Oy (Paired.mapP S.lk.pn λ_ _ z=>z.keep (kp.trans (Gm.of_same s))) λa b z=>by rw[z.1]) (λn hn'=>?_) ?_ (λn hn'=>S.so n (sub n hn')) (by omega) ml
 ·show Hc e.bd (MY y:Key)=_
  rw[eW,qU]
 ·rw[Ra]
  exact Oy (Paired.mapP PW λ_ _ z=>z.keep kp) λa b z=>by rw[z.1]
 ·exact(List.Sublist.map _ List.filter_sublist).nodup ndW
 ·exact NA (UP _ _) hW
 ·rw[<- S.nm]
  exact S.lk.nm n (sub n hn')
 ·exact(List.Sublist.map _ List.filter_sublist).nodup S.lk.nd
end
abbrev Te:List Str:=["_law_script","_law_book","_law_above","_law_k","_law_names","_law_words","_law_known","_law_cell","_law_name","_law_word","_law_body","_law_due","_law_text_here","_law_other"]
theorem Fz:Al Te ["_law_script"] (Ac Fy):=Fm (by decide +kernel)
def oA(L:List Ent):List (Str×List Str):=L.map λe=>(e.nm,e.el)
def fX(L:List Ent)(N:List ((Str×Str)×Bdy)):List cL:=L.map λe=>(sk e,An N e.nm)
theorem aZ(L:List Ent)(N:List ((Str×Str)×Bdy)):Str.join Str.empty (L.map λe=>ends (Jn e.nm e.el (An N e.nm)))=Jo (oA L) N:=by
 have e:(L.map λe=>ends (Jn e.nm e.el (An N e.nm)))=(L.map λe=>Jn e.nm e.el (An N e.nm)).map ends:=by rw[List.map_map];rfl
 rw[e,Um]
 unfold Jo jY oA
 rw[List.flatMap_map]
 rfl
theorem tM(L:List Ent)(N:List ((Str×Str)×Bdy)):Str.join Str.empty ((L.zip (L.map λe=>An N e.nm)).map λeb=>ends (Jn eb.1.nm eb.1.el eb.2))=Jo (oA L) N:=by
 rw[<- aZ]
 refine congrArg (Str.join Str.empty) ?_
 induction L with
 | nil=>rfl
 | cons e L ih=>
  rw[MU,List.zip_cons_cons,MU,MU,ih]
theorem BI(L:List Ent)(N:List ((Str×Str)×Bdy)):Jo (oA L) N=Str.join Str.empty ((fX L N).map λh=>ends (hLn h)):=by
 rw[<- aZ]
 unfold fX
 rw[List.map_map]
 rfl
theorem uO{T:List (Str×List Str)}{N:List ((Str×Str)×Bdy)}(ok:CU T N)(hr:∀x,∀r∈An N x,As r.1=true/\(∀p∈r.2,Od p)/\r.2.length<=30):(Jo T N).length<=8000000:=by
 have h1:(jY T N).length<=T.length * 61:=by
  unfold jY
  have nl:=ok.nl
  clear ok
  induction T with
  | nil=>exact NI _
  | cons t T ih=>
   rw[List.flatMap_cons,LS,MT]
   have e:(Jn t.1 t.2 (An N t.1)).length=(An N t.1).length+1:=by
    show (_::List.map _ _:List Str).length=_
    rw[MT,LN]
   have:=Gy N t.1
   omega
 have h2:=Rc (k:=4500) (ls:=jY T N) λl hl=>by
  obtain⟨t,ht,hl⟩:=List.mem_flatMap.mp hl
  obtain⟨o1,o2,o3⟩:=ok.hs t ht
  rcases LX.mp hl with rfl | hl
  ·exact Kd o1 o2 o3
  ·obtain⟨r,hr',rfl⟩:=ML.mp hl
   obtain⟨a,b,c⟩:=hr _ r hr'
   exact Lm o1 a b c
 have:=ok.tl
 unfold Jo
 omega
section
variable {ks:List (Str×LZ×List Str)} {CB CH:LZ} {H0 H H1:Hp} {p d aa ka:LZ} {ns:List Str} {m:Nat} {L:List Ent} {A:List (Str×LZ)} {rs:List LZ} {W:List ((Str×Str)×LZ)} {N:List ((Str×Str)×Bdy)}
theorem Tn.tx(S:Tn CB CH H p d aa ka L A rs W N):CU (oA L) N:=by
 refine⟨λt ht=>?_,by unfold oA;rw[LN];exact S.ll,S.nl⟩
 obtain⟨e,he,rfl⟩:=ML.mp ht
 exact⟨(S.en e he).nm,(S.en e he).el,(S.en e he).le⟩
theorem Uc(h:∀e∈L,bZ H e (An N e.nm)):OJ (bZ H) L (L.map λe=>An N e.nm):=by
 induction L with
 | nil=>exact .nil
 | cons e L ih=>exact .cons (h e MD) (ih λx hx=>h x (ME _ hx))
theorem Iw.hss(S:Iw ks CB CH H0 H p d aa ka ns m L A rs W N):iT ks (fX L N):=by
 refine⟨?_,λh hh=>?_⟩
 ·unfold fX
  rw[List.map_map]
  exact S.fo.re
 ·obtain⟨e,he,rfl⟩:=ML.mp hh
  obtain⟨W0,eW,PW,ndW,hW⟩:=(S.lk.en e he).w
  refine⟨λr hr=>?_,?_,?_⟩
  ·obtain⟨o1,o2,o3⟩:=Mm S.lk.pn e.nm r hr
   refine⟨o1,o2,jV (λp hp=>?_) o3⟩
   unfold An at hr
   obtain⟨n,hn,rfl⟩:=ML.mp hr
   exact S.so n (List.mem_filter.mp hn).1 p hp
  ·show ((An N e.nm).map (·.1)).Nodup
   rw[<- Qa PW]
   exact ndW
  ·show (An N e.nm).length<=60
   rw[<- OF PW]
   exact hW
theorem CG{L L':List Ent}(h:L'.map sk=L.map sk):oA L'=oA L/\L'.map (·.nm)=L.map (·.nm)/\L'.length=L.length:=by
 have e1:∀M:List Ent,oA M=(M.map sk).map λt=>(t.1,t.2.1):=λM=>by unfold oA;rw[List.map_map];rfl
 have e2:∀M:List Ent,M.map (·.nm)=(M.map sk).map (·.1):=λM=>by rw[List.map_map];rfl
 refine⟨by rw[e1,e1,h],by rw[e2,e2,h],?_⟩
 have:=congrArg List.length h
 rwa [LN,LN] at this
theorem Tn.read(S:Tn CB CH H p d aa ka L A rs W N){p2 d2:LZ}{L2:List Ent}(R:DB CB CH H H1 p2 d2 (fX L N) L2):Tn CB CH H1 p2 d2 aa ka L2 A rs W N/\oA L2=oA L:=by
 have hsk:L2.map sk=L.map sk:=by
  have:=R.rd.sk
  unfold fX at this
  rw[List.map_map] at this
  exact this
 obtain⟨t1,t2,t3⟩:=CG hsk
 have en:∀e∈L2,bZ H1 e (An N e.nm):=λe he=>by
  obtain⟨j,hj⟩:=NX he
  obtain⟨bs,hbs,hE⟩:=Du R.rd.en hj
  have hjn:(L2.map (·.nm))[j]? = some e.nm:=by rw[MX,hj];rfl
  rw[t2] at hjn
  unfold fX at hbs
  rw[List.map_map,MX] at hbs
  rw[MX] at hjn
  cases hl:L[j]? with
  | none=>rw[hl] at hjn;cases hjn
  | some e'=>
   rw[hl] at hjn hbs
   have a1:e'.nm=e.nm:=MZ hjn
   have a2:An N e'.nm=bs:=MZ hbs
   rw[<- a1,a2]
   exact hE
 have s:=R.sm
 refine⟨⟨R.rd.bk,en,?_,S.ro.same s,Paired.mapP S.pn λ_ _ z=>z.keep (Gm.of_same s),λn hn=>by rw[t2];exact S.nm n hn,S.nd,Ah S.ab.dc R.fd,λe he=>Ah S.ab.dc (R.fb e he),by rw[t3];exact S.ll,S.nl⟩,t1⟩
 have:=S.ab.same s
 rw[show (L2.map λe=>(e.nm,e.el))=L.map λe=>(e.nm,e.el) from t1]
 exact this
end
section
variable {P:MV} {w:NU} {K:LO} {mg:Str->Option LP} {base:OS} {f fT fW fA fR CB CH:LZ} {fd dT dW dA dR:NP} {ks:List (Str×LZ×List Str)}
theorem xH(Tx':Txt mg)(GT:Aj P w K mg base Ia 2 fT dT ["_law_above","_law_known"] cK)(kT:MN K (.ref fT)=true)(bT':Binds K dT ["_law_above","_law_known"] [])(mT:mg "_law_text" = some (.ref fT))(GW:Aj P w K mg base Ia 4 fW dW ["book"] (Np CB CH))(kW:MN K (.ref fW)=true)(bW:Binds K dW ["book"] [])(mW:mg "written" = some (.ref fW))(GA:Aj P w K mg base Ia 3 fA dA ["_law_book","_law_above","_law_known"] (Xi CB CH))(kA:MN K (.ref fA)=true)(bA:Binds K dA ["_law_book","_law_above","_law_known"] [])(mA:mg "_law_alike" = some (.ref fA))(GR:Aj P w K mg base Bj 10 fR dR ["text"] (Vw CB CH ks))(kR:MN K (.ref fR)=true)(bR:Binds K dR ["text"] [])(mR:mg "read" = some (.ref fR))(cdv:LP)(A:NV)(outer:List Env)(s:LV)(H:Hp)(E:XK)(hr:Cq 10 (A.deeper (QE "law" (Ac Fy) s.heap.objs.size f cdv)))(Q:VK):
 ∃tt,Ib (Ft Ia P w K mg base Te "law" (Ac Fy) f cdv A outer s H E).nox ((Bb Fy).drop 7) tt /\
  ∀(H1:Hp)(a p d aa ka:LZ)(ns:List Str)(m:Nat)(L:List Ent)(AA:List (Str×LZ))(rs:List LZ)(W:List ((Str×Str)×LZ))(N:List ((Str×Str)×Bdy))(v3 v4 v5 v7 v8 v9 v10:Option V),Iw ks CB CH H H1 p d aa ka ns m L AA rs W N->(∀H',Q (.bl true) H') ->
   tt { nx:=λ_ H'=>Q .non H',rt:=Q } [some (.ref a),some (.ref p),some (.ref aa),v3,v4,v5,some (.ref ka),v7,v8,v9,v10,none,none,none] H1:=by
 have hr2:=hr.mono (j:=2) (by decide)
 have hr3:=hr.mono (j:=3) (by decide)
 have hr4:=hr.mono (j:=4) (by decide)
 refine⟨_,Ab (Bx 11 Fz.nd (Ci GT hr2 rfl mT kT bT' .nil Jd (Hh (pv 2) (pv 6))))
  (Ab (Bx 12 Fz.nd (Ci GW hr4 rfl mW kW bW .nil Jd (Bw (pv 1))))
  (Ab (Bh (PW.pt (Nj (Fv (Ej (Bg Ea rfl Tx'.isi PD (Hh (pv 12) (Ij (v:=.ty "str") rfl Tx'.str PyProof.Rows.boot_str rfl))))) (Nj (Ao Kx (pv 12) (pv 11) (Aw _)) (Lq (Fv (Ej (Ci GA hr3 rfl mA kA bA .nil Jd (Tc (pv 1) (pv 2) (pv 6))))))))) Br Ar)
  (Ab (Bx 13 Fz.nd (Ds GR hr mR kR bR (Bw (pv 12))))
  (Ag (Ap (Jq (Ci GA hr3 rfl mA kA bA .nil Jd (Tc (pv 13) (pv 2) (pv 6))) (Oi (Ko Cf (Ci GW hr4 rfl mW kW bW .nil Jd (Bw (pv 13))) (pv 11) (Aw _))))))))),?_⟩
 intro H1 a p d aa ka ns m L AA rs W N v3 v4 v5 v7 v8 v9 v10 S q
 refine⟨_,rfl,_,rfl,aa,ka,AA,oA L,rs,W,N,rfl,S.lk.ab,S.lk.ro,S.lk.pn,S.lk.tx,λH2 s2=>?_⟩
 have S2:=S.same s2
 refine⟨_,rfl,p,d,L,L.map (λe=>An N e.nm),rfl,S2.lk.bk,Uc S2.lk.en,S2.lk.ll,λH3 s3=>?_⟩
 rw[tM]
 have S3:=S2.same s3
 refine⟨_,rfl,_,_,_,_,rfl,.str _,Hr K "str", _,rfl,Cd ?_⟩
 refine⟨_,rfl,_,rfl,rfl,_,rfl,?_⟩
 rw[decide_eq_true rfl]
 refine Cd ⟨_,rfl,_,rfl,_,rfl,p,d,aa,ka,L,AA,rs,W,N,rfl,S3.lk,λH4 s4=>⟨_,rfl,Cd ?_⟩⟩
 have S4:=S3.same s4
 refine⟨_,rfl,?_⟩
 dsimp only[Wf,NL]
 refine xA S4.hss (BI L N) (uO S4.lk.tx (Mm S4.lk.pn)) λp2 d2 L2 H5 R=>?_
 obtain⟨S5,e5⟩:=S4.lk.read R
 refine⟨_,rfl,_,rfl,_,rfl,p2,d2,aa,ka,L2,AA,rs,W,N,rfl,S5,λH6 s6=>?_⟩
 have S6:=S5.same s6
 refine⟨_,rfl,Dk ⟨_,rfl,p2,d2,L2,L2.map (λe=>An N e.nm),rfl,S6.bk,Uc S6.en,S6.ll,λH7 s7=>?_⟩⟩
 rw[tM,e5]
 refine⟨_,rfl,rfl,?_⟩
 rw[decide_eq_true rfl]
 exact q _
end
end Bk
namespace Bk
open PySem L2 Mg Nm
section
variable {P:MV} {w:NU} {K:LO} {mg:Str->Option LP} {base:OS} {f fH fN fB CB CH:LZ} {fd dH dN dB:NP} {ks:List (Str×LZ×List Str)}
theorem Zv:Al ["self","name","word","bodies"] ["self","name","word"] (Ac Vk):=Fm (by decide +kernel)
theorem oM(F:Dx K "forget" "Book.forget" Vk f fd)(T:Gb K mg CB CH)(Tx:Txt mg)(GH:Aj P w K mg base Bj 1 fH dH ["self","name"] (Gd CB CH))(bH:Binds K dH ["self","name"] [])(mH:Meth K CB "house" fH):Aj P w K mg base Bj 2 f fd ["self","name","word"] (Rw CB CH):=by
 refine F.ok Zv (λvs H Q E h=>?_) (λcdv A outer s H vs Q E hr h=>?_)
 ·obtain⟨p,d,L,x,y,e,rfl,_⟩:=h
  rfl
 obtain⟨p,d,L,x,y,e,rfl,B,he,q⟩:=h
 obtain⟨dx,hp⟩:=B.ob
 have hu:=Hx hr
 have E:=B.en e (Ey he).1
 refine⟨_,Ab (Bx 3 Zv.nd (Fj (Cn (pv 0) T.clB mH GH hr bH .nil Cm (Bw (pv 1))) rfl))
  (Ab (Bh (Gq (Kq hu (pv 2) (pv 3))) (Ag (Ap Ms)) Ar)
  (Ab (Cu (pE (pv 3) (pv 2) ⟨rfl,rfl,rfl,rfl⟩))
  (Ag (Ap Ms)))),?_⟩
 refine⟨_,rfl,p,dx,_,rfl,hp,Dy d (by decide +kernel),_,rfl,p,d,L,x,e,rfl,B,he,e.at_,CH,e.dx,_,_,rfl,E.ob,T.clH,T.nBd,iI _ _ _,?_⟩
 refine⟨_,rfl,_,rfl,e.ba,_,rfl,Fu.k (k:=MY y) E.bd,_,rfl,?_⟩
 cases hv:valV e.bd (MY y:Key) with
 | none=>
  refine Dk ?_
  rw[hv] at q
  exact q H (by rw[nZ hv];exact E.bd) λb o hb _=>hb
 | some v=>
  refine Cd ?_
  refine⟨_,rfl,e.ba,rfl,.inl ⟨_,.inl E.bd⟩,_,rfl,e.bd,MY y,v,E.bd,rfl,hv,?_⟩
  rw[hv] at q
  exact q _ Aa λb o hb hne=>by rw[Ai hne];exact hb
end
end Bk
namespace Bk
open PySem L2 Mg Nm Li PySem.SeqAt
theorem qO(ns:List Int)(lo hi:Nat):∃ms:List Int,Es (ns.map V.int) (some (lo:Int)) (some (hi:Int))=ms.map V.int/\ms.length<=hi-lo:=by
 refine⟨(ns.drop (HT.sIx (ns.map V.int).length 0 (some (lo:Int)))).take (HT.sIx (ns.map V.int).length (ns.map V.int).length (some (hi:Int))-HT.sIx (ns.map V.int).length 0 (some (lo:Int))),?_,?_⟩
 ·unfold Es
  rw[List.map_take,List.map_drop]
 ·rw[NM,OW,HT.sIx_nat,HT.sIx_nat,LN]
  omega
theorem sM{ms:List Int}{i:Nat}{v:V}(h:(ms.map V.int)[i]? = some v):∃c,ms[i]? = some c/\v=V.int c:=by
 rw[MX] at h
 cases e:ms[i]? with
 | none=>rw[e] at h;cases h
 | some c=>rw[e] at h;exact⟨c,rfl,(MZ h).symm⟩
theorem jJ{ws:List Str}(h:0 < ws.length)(x:Int):∃(k:Nat)(y:Str),Sz (Ax ws) (x % ((Ax ws).length:Int))=some (.str y)/\ws[k]? = some y:=by
 rw[Au]
 obtain⟨k,hk,hk2⟩:=jS (x:=x) h
 rw[hk]
 exact⟨k,ws[k],Cj (gA (LU hk2)),LU hk2⟩
theorem Dz.of_pair{H:Hp}{h:LZ}{rs:List LZ}{W:List ((Str×Str)×LZ)}(hl:H h=some (.lst (rs.map V.ref)))(hp:OJ (λ(r:LZ) (p:(Str×Str)×LZ)=>H r=some (.tup [.str p.1.1,.str p.1.2,.ref p.2])) rs W):Dz H h rs W:=
 ⟨hl,OF hp,λi r p h1 h2=>by
  obtain⟨p',h3,h4⟩:=Du hp h1
  rw[h2] at h3
  cases h3
  exact h4⟩
theorem Ce.snoc{H H':Hp}{ts:List LZ}{ss:Bdy}{t:LZ}{p:Str×List V}(h:Ce H ts ss)(s:Ak H H')(et:H' t=some (.tup (.str p.1::p.2))):Ce H' (ts++[t]) (ss++[p]):=by
 refine⟨by rw[LS,LS,h.1];rfl,λj t' p' h1 h2=>?_⟩
 rcases Ou h1 with h1 | ⟨rfl,rfl⟩
 ·have hj:j < ss.length:=by rw[<- h.1];exact(LM.mp h1).1
  rw[MW hj] at h2
  exact s _ _ (h.2 j t' p' h1 h2)
 ·rw[h.1,NK] at h2
  cases h2
  exact et
theorem Uz{W:List ((Str×Str)×LZ)}{j:Nat}{p:(Str×Str)×LZ}(h:W[j]? = some p)(k:Str×Str):Nh (W.take (j+1)) k=Nh (W.take j) k++if p.1=k then [] else [p]:=by
 unfold Nh
 rw[NR,h]
 show List.filter _ (List.take j W++[p])=_
 rw[List.filter_append]
 refine congrArg (λz:List ((Str×Str)×LZ)=>List.filter (λn=>!decide (n.1=k)) (List.take j W)++z) ?_
 by_cases e:p.1=k
 ·rw[if_pos e,PR (by rw[decide_eq_true e];exact LY)]
  rfl
 ·rw[if_neg e,OU (by rw[decide_eq_false e];rfl)]
  rfl
section
variable {P:MV} {w:NU} {K:LO} {mg:Str->Option LP} {base:OS} {f fS fE fG fN CB CH:LZ} {fd dS dE dG dN:NP} {ks:List (Str×LZ×List Str)}
theorem HD:(["_law_k","_law_cell","_law_words"]:List Str).Nodup:=by decide +kernel
theorem HK:(["_law_row","_law_name","_law_word"]:List Str).Nodup:=by decide +kernel
theorem eZ(T:Gb K mg CB CH)(Tx':Txt mg)(GS:Aj P w K mg base Bj 2 fS dS ["_law_words","_law_cell"] (Sb ks))(kS:MN K (.ref fS)=true)(bS:Binds K dS ["_law_words","_law_cell"] [])(mS:mg "_law_step_by" = some (.ref fS))(GE:Aj P w K mg base Bj 6 fE dE ["self","name","word","body"] (Pz CB CH ks))(bE:Binds K dE ["self","name","word","body"] [])(mE:Meth K CB "teach" fE)(GG:Aj P w K mg base Bj 2 fG dG ["self","name","word"] (Rw CB CH))(bG:Binds K dG ["self","name","word"] [])(mG:Meth K CB "forget" fG)(GN:Aj P w K mg base Bj 1 fN dN ["_law_known","_law_name","_law_word","_law_body"] Nk)(kN:MN K (.ref fN)=true)(bN:Binds K dN ["_law_known","_law_name","_law_word","_law_body"] [])(mN:mg "_law_taught" = some (.ref fN))(cdv:LP)(A:NV)(outer:List Env)(s:LV)(H:Hp)(E:XK)(hr:Cq 10 (A.deeper (QE "law" (Ac Fy) s.heap.objs.size f cdv)))(Q:VK)(h7:∃tt,Ib (Ft Ia P w K mg base Te "law" (Ac Fy) f cdv A outer s H E).nox ((Bb Fy).drop 7) tt /\
  ∀(H1:Hp)(a p d aa ka:LZ)(ns:List Str)(m:Nat)(L:List Ent)(AA:List (Str×LZ))(rs:List LZ)(W:List ((Str×Str)×LZ))(N:List ((Str×Str)×Bdy))(v3 v4 v5 v7 v8 v9 v10:Option V),Iw ks CB CH H H1 p d aa ka ns m L AA rs W N->(∀H',Q (.bl true) H') ->
   tt { nx:=λ_ H'=>Q .non H',rt:=Q } [some (.ref a),some (.ref p),some (.ref aa),v3,v4,v5,some (.ref ka),v7,v8,v9,v10,none,none,none] H1):
 ∃tt,Ib (Ft Ia P w K mg base Te "law" (Ac Fy) f cdv A outer s H E).nox ((Bb Fy).drop 6) tt /\
  ∀(H1:Hp)(a p d aa ka na wa:LZ)(ns ws:List Str)(L:List Ent)(AA:List (Str×LZ))(zs:List Int)(v3:Option V),Iw ks CB CH H H1 p d aa ka ns 0 L AA [] [] []->Av K H a (zs.map V.int)->H1 na=some (.lst (Ax ns))->H1 wa=some (.lst (Ax ws))->0 < ns.length->0 < ws.length->ws.length<=100->(∀y∈ws,As y=true)->(∀H',Q (.bl true) H') ->
   tt { nx:=λ_ H'=>Q .non H',rt:=Q } [some (.ref a),some (.ref p),some (.ref aa),v3,some (.ref na),some (.ref wa),some (.ref ka),none,none,none,none,none,none,none] H1:=by
 have hr1:=hr.mono (j:=1) (by decide)
 have hr2:=hr.mono (j:=2) (by decide)
 have hr6:=hr.mono (j:=6) (by decide)
 obtain⟨t7,h7,p7⟩:=h7
 refine⟨_,Ab (Gp PX rfl (Bz (Ck Ew (pv 0) (Cv Ae) (Cv Ae))) (Xf (i:=7) Fz.nd rfl (Or.inr rfl))
  (Ab (Lk (i:=8) Fz.nd rfl (Or.inr rfl) (Az Be (pv 4) (Am Cb (pv 7) (Bg Co rfl Tx'.len PP (Bw (pv 4)))) (λ_ _=>rfl)))
  (Ab (Lk (i:=9) Fz.nd rfl (Or.inr rfl) (Az Be (pv 5) (Am Cb (Am Eh (pv 7) Ae) (Bg Co rfl Tx'.len PP (Bw (pv 5)))) (λ_ _=>rfl)))
  (Ab (Cc (i:=10) (Ac Fy) Te ["_law_k"] [("_law_cell", 7),("_law_words", 5)] rfl Fz.nd rfl rfl (Ol rfl Tx'.range (Bw (Am Cb (Am Eh (pv 7) Ae) Ae))) (Bd (i:=0) (by decide)) (λ_ _ _ _ _ _=>⟨De 0 HD,Ca,
   Ds GS hr2 mS kS bS (Hh (pv 2) (Am En (Am Eh (pv 1) Ae) (Am Lg Ae (pv 0))))⟩))
  (Ab (Cu (Cn (pv 1) T.clB mE GE hr6 bE .nil Cm (Tc (pv 8) (pv 9) (pv 10))))
  (Ab (Bx 6 Fz.nd (Ds GN hr1 mN kN bN (FZ (pv 6) (pv 8) (pv 9) (pv 10))))
  (Ag (Bh (Ao Cf (Am Cb (pv 7) Ae) Ae (Aw _))
   (Ab (Cu (Cn (pv 1) T.clB mG GG hr2 bG .nil Cm (Hh (pv 8) (pv 9))))
   (Ag (Cc (i:=6) (Ac Fy) Te ["_law_row"] [("_law_name", 8),("_law_word", 9)] rfl Fz.nd rfl rfl (Bz (pv 6)) (Bd (i:=0) (by decide)) (λ_ _ _ _ _ _=>⟨De 0 HK,
    Mf (PW.pt (Nj (Ao Kx (Az (Iy (K:=K)) (pv 0) Ae (λ_ _=>rfl)) (pv 1) (Aw _)) (Lq (Ao Kx (Az (Iy (K:=K)) (pv 0) Ae (λ_ _=>rfl)) (pv 2) (Aw _))))),pv 0⟩)))) Ar)))))))) h7,?_⟩
 intro H1 a p d aa ka na wa ns ws L AA zs v3 S hsq hna hwa n0 w0 wl hws q
 refine⟨_,rfl,_,rfl,_,rfl,a,_,rfl,S.sm.seq hsq,λsc hsc=>?_⟩
 obtain⟨ms,ems,hml⟩:=qO zs 4 63
 rw[show Es (zs.map V.int) (some 4) (some 63)=ms.map V.int from ems]
 have s2:=Ad hsc (.lst (ms.map V.int))
 have esc:=Aa (H:=H1) (a:=sc) (o:=.lst (ms.map V.int))
 generalize upd H1 sc (.lst (ms.map V.int))=H2 at *
 have hml:ms.length<=59:=hml
 refine⟨sc,rfl,⟨_,Av.of esc⟩,Jk (K:=K) (a:=sc) (xs:=ms.map V.int) (λi σ H3=>∃(kb:LZ)(L':List Ent)(rs:List LZ)(W:List ((Str×Str)×LZ))(N:List ((Str×Str)×Bdy))(v7 v8 v9 v10:Option V),σ=[some (.ref a),some (.ref p),some (.ref aa),v3,some (.ref na),some (.ref wa),some (.ref kb),v7,v8,v9,v10,none,none,none] /\
  Iw ks CB CH H H3 p d aa kb ns i L' AA rs W N/\H3 na=some (.lst (Ax ns))/\H3 wa=some (.lst (Ax ws))/\H3 sc=some (.lst (ms.map V.int)))
  ⟨ka,L,[],[],[],none,none,none,none,rfl,S.same s2,s2 _ _ hna,s2 _ _ hwa,esc⟩ (λi σ H3 _ ⟨_,_,_,_,_,_,_,_,_,_,_,_,_,h⟩=>Av.of h) ?_ ?_⟩
 ·rintro i v σ H3 hi ⟨kb,L',rs,W,N,v7,v8,v9,v10,rfl,S3,hna3,hwa3,hsc3⟩
  obtain⟨c,hc,rfl⟩:=sM hi
  have hil:i < ms.length:=(LM.mp hc).1
  obtain⟨k1,x,hx1,hx2⟩:=jJ n0 c
  obtain⟨k2,y,hy1,hy2⟩:=jJ w0 (c / 7)
  have oy:=hws y (MK hy2)
  have hln:(0:Int) < ((Ax ns).length:Int):=by rw[Au];omega
  have hlw:(0:Int) < ((Ax ws).length:Int):=by rw[Au];omega
  refine⟨_,rfl,_,rfl,_,rfl,na,_,rfl,.inl (Av.of hna3),_,_,rfl,rfl,hln,na,_,_,_,rfl,rfl,Av.of hna3,hx1,?_⟩
  refine⟨_,rfl,_,rfl,_,_,rfl,rfl,⟨by decide,by decide⟩,_,rfl,wa,_,rfl,.inl (Av.of hwa3),_,_,rfl,rfl,hlw,wa,_,_,_,rfl,rfl,Av.of hwa3,hy1,?_⟩
  have b0:0<=c / 42 % 6:=OM _ (by decide)
  have b1:c / 42 % 6 < 6:=OH _ (by decide)
  refine⟨_,rfl,_,_,rfl,rfl,⟨by decide,by decide⟩,_,_,rfl,rfl,(by show (0:Int) < 6;decide),_,rfl,by omega,by omega,Me (k:=(c / 42 % 6).toNat) (λj ys H4=>Ak H3 H4/\∃(ts:List LZ)(ss:Bdy),ys=ts.map V.ref/\ts.length=j/\Ce H4 ts ss/\∀s∈ss,Pt ks s) ⟨Ak.refl _,[],[],rfl,rfl,⟨rfl,λi t p h=>by simp at h⟩,λs hs=>nomatch hs⟩ ?_ ?_⟩
  ·rintro j ys H4 hj ⟨s4,ts,ss,rfl,htl,hst,hok⟩
   refine⟨_,rfl,_,rfl,_,_,rfl,rfl,⟨by decide,by decide⟩,_,rfl,_,_,rfl,rfl,.inl ⟨by decide,by decide⟩,_,_,rfl,rfl,wa,ws,_,rfl,s4 _ _ hwa3,w0,by omega,hws,λt H5 pp s5 et hpp=>?_⟩
   refine⟨by rw[LN,htl,LR];omega,s4.trans s5,ts++[t],ss++[pp],by rw[LW];rfl,by rw[LS,htl];rfl,hst.snoc s5 et,λz hz=>?_⟩
   rcases MJ.mp hz with h | h
   ·exact hok z h
   ·rw[MA.mp h]
    exact hpp
  rintro ys H4 ⟨s4,ts,ss,rfl,htl,hst,hok⟩ lb hlb
  have s5:=Ad hlb (.lst (ts.map V.ref))
  have elb:=Aa (H:=H4) (a:=lb) (o:=.lst (ts.map V.ref))
  generalize upd H4 lb (.lst (ts.map V.ref))=H5 at *
  have s35:=s4.trans s5
  have S5:=S3.same s35
  have hst5:=hst.same s5
  have hsl:ss.length<=30:=by rw[<- hst.1];omega
  -- the house
  have hxn:=hx2
  rw[<- S5.nm,MX] at hxn
  cases hL:L'[k1]? with
  | none=>rw[hL] at hxn;cases hxn
  | some e=>
  rw[hL] at hxn
  obtain rfl:e.nm=x:=MZ hxn
  have hem:=MK hL
  have fe:Hm L' e.nm=some e:=Lc S5.lk.bk.nd hem
  obtain⟨dx5,hp5⟩:=S5.lk.bk.ob
  have hbl:e.bd.length<=1000:=by
   obtain⟨W0,eW,_,_,hW0⟩:=(S5.lk.en e hem).w
   rw[eW,Ke]
   omega
  refine⟨_,rfl,p,dx5,_,rfl,hp5,Dy d (by decide +kernel),_,rfl,_,rfl,_,rfl,p,d,lb,L',e.nm,y,e,ts,ss,rfl,S5.lk.bk,fe,oy,by rw[LR];have:=(Ay oy).2;omega,elb,hst5,jV hok hsl,hbl,λla H6 hla e6 eb6 k6=>?_⟩
  have E5:=S5.lk.bk.en e hem
  have kp6:Gm H5 H6:=Gm.of_keep k6 E5.bd
  have R6:=S5.lk.ro.keep kp6
  have hWN:=OF S5.lk.pn
  have hnl:=S5.nl
  refine⟨_,rfl,_,rfl,_,rfl,_,rfl,kb,lb,(e.nm,y),rs,W,rfl,R6,by omega,λl rs' H7 hl7 _ s7 R7=>?_⟩
  have S7:=S5.teach hL oy e6 elb hst5 hok hsl eb6 k6 s7 R7 (by omega)
  have ku:Gm H3 H7:=(Gm.of_same s35).trans (kp6.trans (Gm.of_same s7))
  refine⟨_,rfl,_,_,rfl,rfl,(by show (0:Int) < 9;decide),rfl,_,rfl,Cr (λc1=>?_) (λc1=>?_)⟩
  ·have hL7:(L'.set k1 { e with bd:=putK e.bd (MY y:Key) (.ref la) })[k1]? = some { e with bd:=putK e.bd (MY y:Key) (.ref la) }:=QC (LM.mp hL).1
   have hem7:=MK hL7
   have fe7:=Lc S7.lk.bk.nd hem7
   obtain⟨dx7,hp7⟩:=S7.lk.bk.ob
   have E7:=S7.lk.bk.en _ hem7
   refine⟨_,rfl,p,dx7,_,rfl,hp7,Dy d (by decide +kernel),_,rfl,_,rfl,p,d,_,e.nm,y,_,rfl,S7.lk.bk,fe7,λH8 e8 k8=>?_⟩
   have kp8:Gm H7 H8:=Gm.of_keep k8 E7.bd
   have R8:=S7.lk.ro.keep kp8
   refine⟨_,rfl,l,rfl,⟨_,Av.of R8.lst⟩,Ig (K:=K) (a:=l) (xs:=rs'.map V.ref) (λj ys H9=>H9=H8/\∃rt:List LZ,ys=rt.map V.ref/\rt.length<=j/\OJ (λ(r:LZ) (p:(Str×Str)×LZ)=>H8 r=some (.tup [.str p.1.1,.str p.1.2,.ref p.2])) rt (Nh ((putN W (e.nm,y) lb).take j) (e.nm,y))) ⟨rfl,[],rfl,MC _,.nil⟩ (λj ys H9 _ h=>by rw[h.1];exact Av.of R8.lst) ?_ ?_⟩
   ·rintro j v ys H9 hj ⟨rfl,rt,rfl,hrl,hrt⟩
    obtain⟨r,hr',rfl⟩:=Dj hj
    obtain⟨pr,hpr,er⟩:=R8.get hr'
    have hjl:j < (putN W (e.nm,y) lb).length:=(LM.mp hpr).1
    have hpl:=Xr W (e.nm,y) lb
    have hpush:pr.1≠(e.nm,y)->(rt.map V.ref).length < MG/\H9=H9/\∃rt':List LZ,rt.map V.ref++[V.ref r]=rt'.map V.ref/\rt'.length<=j+1/\OJ (λ(r:LZ) (p:(Str×Str)×LZ)=>H9 r=some (.tup [.str p.1.1,.str p.1.2,.ref p.2])) rt' (Nh ((putN W (e.nm,y) lb).take (j+1)) (e.nm,y)):=λhne=>by
     refine⟨by rw[LN,LR];omega,rfl,rt++[r],by rw[LW];rfl,by rw[LS,MR];omega,?_⟩
     rw[Uz hpr,if_neg hne]
     exact Gw hrt (.cons er .nil)
    refine⟨_,rfl,r,_,_,_,rfl,rfl,Dq.of er,at0 _ _,_,rfl,rfl,_,rfl,Cr (λd1=>?_) (λd1=>?_)⟩
    ·have d1:pr.1.1≠e.nm:=λz=>by rw[z,decide_eq_true rfl] at d1;exact absurd d1 LY
     refine Dk ⟨_,rfl,hpush λz=>d1 (by rw[z])⟩
    ·have d1:pr.1.1=e.nm:=by
      by_cases z:pr.1.1=e.nm
      ·exact z
      ·exact absurd (by rw[decide_eq_false (λy=>z (V.str.inj y))];rfl) d1
     refine⟨_,rfl,r,_,_,_,rfl,rfl,Dq.of er,oP _ _ _,_,rfl,rfl,_,rfl,Cr (λd2=>?_) (λd2=>?_)⟩
     ·have d2:pr.1.2≠y:=λz=>by rw[z,decide_eq_true rfl] at d2;exact absurd d2 LY
      exact⟨_,rfl,hpush λz=>d2 (by rw[z])⟩
     ·have d2:pr.1.2=y:=by
       by_cases z:pr.1.2=y
       ·exact z
       ·exact absurd (by rw[decide_eq_false (λy=>z (V.str.inj y))];rfl) d2
      refine⟨rfl,rt,rfl,by omega,?_⟩
      rw[Uz hpr,if_pos (Prod.ext d1 d2),NL]
      exact hrt
   ·rintro ys H9 ⟨rfl,rt,rfl,hrl,hrt⟩ lc hlc
    rw[LN,R8.len,List.take_length] at hrt
    have s9:=Ad hlc (.lst (rt.map V.ref))
    have S9:=S7.drop hL7 e8 k8 s9 (Dz.of_pair (h:=lc) Aa (Paired.mapP hrt λ_ _ z=>s9 _ _ z)) (by omega)
    have kw:Gm H3 _:=ku.trans (kp8.trans (Gm.of_same s9))
    exact⟨_,_,_,_,_,_,_,_,_,rfl,S9,kw.lst hna3,kw.lst hwa3,kw.lst hsc3⟩
  ·exact⟨_,_,_,_,_,_,_,_,_,rfl,S7,ku.lst hna3,ku.lst hwa3,ku.lst hsc3⟩
 ·rintro σ H3 ⟨kb,L',rs,W,N,v7,v8,v9,v10,rfl,S3,hna3,hwa3,hsc3⟩
  exact p7 H3 a p d aa kb ns _ L' AA rs W N _ _ _ _ _ _ _ S3 q
end
def iJ(K:LO):Sp:=λvs H Q _=>∃(a:LZ)(ns:List Int),vs=[.ref a]/\Av K H a (ns.map V.int)/\ns.length<=63/\∀H',Q (.bl true) H'
section
variable {P:MV} {w:NU} {K:LO} {mg:Str->Option LP} {base:OS} {f fC fN fF fI CB CH:LZ} {fd dC dN dF dI:NP} {ks:List (Str×LZ×List Str)}
theorem IP:(["_law_k","_law_script"]:List Str).Nodup:=by decide +kernel
theorem mX(T:Gb K mg CB CH)(Tx':Txt mg)(GC:Aj P w K mg base Bj 1 fC dC ["_law_script","_law_k"] (Wy K))(kC:MN K (.ref fC)=true)(bC:Binds K dC ["_law_script","_law_k"] [])(mC:mg "_law_cell_at" = some (.ref fC))(GN:Aj P w K mg base Bj 1 fN dN ["_law_k","_law_cell"] yK)(kN:MN K (.ref fN)=true)(bN:Binds K dN ["_law_k","_law_cell"] [])(mN:mg "_law_name_by" = some (.ref fN))(cdv:LP)(A:NV)(outer:List Env)(s:LV)(H:Hp)(E:XK)(hr:Cq 10 (A.deeper (QE "law" (Ac Fy) s.heap.objs.size f cdv)))(Q:VK)(h6:∃tt,Ib (Ft Ia P w K mg base Te "law" (Ac Fy) f cdv A outer s H E).nox ((Bb Fy).drop 6) tt /\
  ∀(H1:Hp)(a p d aa ka na wa:LZ)(ns ws:List Str)(L:List Ent)(AA:List (Str×LZ))(zs:List Int)(v3:Option V),Iw ks CB CH H H1 p d aa ka ns 0 L AA [] [] []->Av K H a (zs.map V.int)->H1 na=some (.lst (Ax ns))->H1 wa=some (.lst (Ax ws))->0 < ns.length->0 < ws.length->ws.length<=100->(∀y∈ws,As y=true)->(∀H',Q (.bl true) H') ->
   tt { nx:=λ_ H'=>Q .non H',rt:=Q } [some (.ref a),some (.ref p),some (.ref aa),v3,some (.ref na),some (.ref wa),some (.ref ka),none,none,none,none,none,none,none] H1):
 ∃tt,Ib (Ft Ia P w K mg base Te "law" (Ac Fy) f cdv A outer s H E).nox ((Bb Fy).drop 3) tt /\
  ∀(H1:Hp)(a p d aa:LZ)(L:List Ent)(AA:List (Str×LZ))(zs:List Int)(v3:Option V),Bc CB CH H1 p d L->Ht H1 aa AA (L.map λe=>(e.nm,e.el))->Mb L->(∀e∈L,e.bd=[])->aa≠d->(∀e∈L,aa≠e.ba)->Ak H H1->H d=none->H aa=none->(∀e∈L,H e.ba=none)->0 < L.length->Av K H a (zs.map V.int)->(∀H',Q (.bl true) H') ->
   tt { nx:=λ_ H'=>Q .non H',rt:=Q } [some (.ref a),some (.ref p),some (.ref aa),v3,none,none,none,none,none,none,none,none,none,none] H1:=by
 have hr1:=hr.mono (j:=1) (by decide)
 obtain⟨t6,h6,p6⟩:=h6
 refine⟨_,Ab (Bx 4 Fz.nd (Bo (Ec rfl) rfl Tx'.list OD (Bw (pv 2))))
  (Ab (Lk (i:=5) Fz.nd rfl (Or.inr rfl) (Dw (Ac Fy) Te ["_law_k"] [("_law_script", 0)] rfl (Ol rfl Tx'.range (Bw (Am En Ae (Am Cb (Am Eh (Ds GC hr1 mC kC bC (Hh (pv 0) Ae)) Ae) Ae)))) (Bd (i:=0) (by decide))
   (λ_ _ _ _ _ _=>⟨De 0 IP,Ca,Ds GN hr1 mN kN bN (Hh (pv 0) (Ds GC hr1 mC kC bC (Hh (pv 1) Ae)))⟩)))
  (Ab (Bx 6 Fz.nd (Dn Gr)) h6)),?_⟩
 intro H1 a p d aa L AA zs v3 B HA O hbd nad nae sH fd fa fb hL hsq q
 have hkeys:=HA.keys
 have S1:=sH.seq hsq
 refine⟨_,rfl,aa,_,rfl,Rd.of HA.dc,λna hna=>?_⟩
 rw[Mp,hkeys]
 have s2:=Ad hna (.lst (Ax (L.map (·.nm))))
 have ena:=Aa (H:=H1) (a:=na) (o:=.lst (Ax (L.map (·.nm))))
 generalize upd H1 na (.lst (Ax (L.map (·.nm))))=H2 at *
 have S2:=s2.seq S1
 have m0:0<=zs.getD 0 0 / 7 % 6:=OM _ (by decide)
 have m1:zs.getD 0 0 / 7 % 6 < 6:=OH _ (by decide)
 refine⟨_,rfl,a,zs,0,rfl,S2,_,_,rfl,rfl,⟨by decide,by decide⟩,_,_,rfl,rfl,(by show (0:Int) < 6;decide),_,_,rfl,rfl,?_⟩
 refine⟨_,rfl,by omega,by omega,Me (k:=(1+zs.getD 0 0 / 7 % 6).toNat) (λi ys H3=>Ak H2 H3/\∃ws:List Str,ys=Ax ws/\ws.length=i/\∀y∈ws,As y=true) ⟨Ak.refl _,[],rfl,rfl,λy hy=>nomatch hy⟩ ?_ ?_⟩
 ·rintro i ys H3 hi ⟨s3,ws,rfl,hwl,hws⟩
  have e0:(0:Int)+(i:Int)=(i:Int):=by omega
  rw[e0]
  refine⟨_,rfl,_,rfl,a,zs,3,rfl,s3.seq S2,_,_,rfl,by omega,by omega,λH4 s4=>⟨by rw[Au,LR];omega,s3.trans s4,ws++[Nf (i:Int) (zs.getD 3 0)],by rw[<- Fq],by rw[LS,hwl];rfl,λy hy=>?_⟩⟩
  rcases MJ.mp hy with h | h
  ·exact hws y h
  ·rw[MA.mp h]
   exact iB (by omega) (by omega) _
 ·rintro ys H3 ⟨s3,ws,rfl,hwl,hws⟩ wa hwa
  have s4:=Ad hwa (.lst (Ax ws))
  have ewa:=Aa (H:=H3) (a:=wa) (o:=.lst (Ax ws))
  generalize upd H3 wa (.lst (Ax ws))=H4 at *
  refine⟨by show 0<=MG;decide,λka hka=>?_⟩
  have s5:=Ad hka (.lst [])
  have eka:=Aa (H:=H4) (a:=ka) (o:=.lst [])
  generalize upd H4 ka (.lst [])=H5 at *
  have s15:=((s2.trans s3).trans s4).trans s5
  have s25:=(s3.trans s4).trans s5
  refine p6 H5 a p d aa ka na wa (L.map (·.nm)) ws L AA zs _ ⟨⟨B.same s15,λe he=>?_,HA.same s15,⟨eka,rfl,λi r p h=>by simp at h⟩,.nil,(λn hn=>nomatch hn),QI,nad,nae,O.ll,NI _⟩,O,(λn hn=>nomatch hn),rfl,MC _,sH.trans s15,fd,fa,fb⟩ hsq (s25 _ _ ena) (s5 _ _ ewa) (by rw[LN];exact hL) (by omega) (by omega) hws q
  have hel:∀y∈e.el,As y=true/\e.el.length<=60:=λy hy=>by
   obtain⟨l1,l2,hl⟩:=List.append_of_mem he
   obtain⟨n,c⟩:=O.re (l1.map sk) (sk e) (l2.map sk) (by rw[hl,LW];rfl)
   exact⟨c.oe y hy,c.ell⟩
  refine⟨⟨[],hbd e he,.nil,QI,NI _⟩,O.nm e he,λy hy=>(hel y hy).1,?_⟩
  cases hl:e.el with
  | nil=>exact NI _
  | cons y r=>
   have:=(hel y (by rw[hl];exact MD)).2
   rw[hl] at this
   omega
theorem eX(T:Gb K mg CB CH)(Tx':Txt mg)(GC:Aj P w K mg base Bj 1 fC dC ["_law_script","_law_k"] (Wy K))(kC:MN K (.ref fC)=true)(bC:Binds K dC ["_law_script","_law_k"] [])(mC:mg "_law_cell_at" = some (.ref fC))(GN:Aj P w K mg base Bj 1 fN dN ["_law_k","_law_cell"] yK)(kN:MN K (.ref fN)=true)(bN:Binds K dN ["_law_k","_law_cell"] [])(mN:mg "_law_name_by" = some (.ref fN))(GF:Aj P w K mg base Ia 6 fF dF ["_law_book","_law_above","_law_name","_law_cell"] (Ru CB CH))(kF:MN K (.ref fF)=true)(bF4:Binds K dF ["_law_book","_law_above","_law_name","_law_cell"] [])(mF:mg "_law_founded" = some (.ref fF))(GI:Aj P w K mg base Bj 1 fI dI ["self"] (Qj CB))(bI:Binds K dI ["self"] [])(MB:Mk K CB fI)(F:Dx K "law" "law" Fy f fd)(h3:∀(cdv:LP)(A:NV)(outer:List Env)(s:LV)(H:Hp)(E:XK)(hr:Cq 10 (A.deeper (QE "law" (Ac Fy) s.heap.objs.size f cdv)))(Q:VK),∃tt,Ib (Ft Ia P w K mg base Te "law" (Ac Fy) f cdv A outer s H E).nox ((Bb Fy).drop 3) tt /\
  ∀(H1:Hp)(a p d aa:LZ)(L:List Ent)(AA:List (Str×LZ))(zs:List Int)(v3:Option V),Bc CB CH H1 p d L->Ht H1 aa AA (L.map λe=>(e.nm,e.el))->Mb L->(∀e∈L,e.bd=[])->aa≠d->(∀e∈L,aa≠e.ba)->Ak H H1->H d=none->H aa=none->(∀e∈L,H e.ba=none)->0 < L.length->Av K H a (zs.map V.int)->(∀H',Q (.bl true) H') ->
   tt { nx:=λ_ H'=>Q .non H',rt:=Q } [some (.ref a),some (.ref p),some (.ref aa),v3,none,none,none,none,none,none,none,none,none,none] H1):
 Aj P w K mg base Ia 11 f fd ["_law_script"] (iJ K):=by
 refine F.ok1 Fz (λvs H Q E h=>?_) (λcdv A outer s H vs Q E hr h=>?_)
 ·obtain⟨a,zs,rfl,_⟩:=h
  rfl
 obtain⟨a,zs,rfl,S,h63,q⟩:=h
 have hr1:=hr.mono (j:=1) (by decide)
 have hr2:=hr.mono (j:=2) (by decide)
 have hr6:=hr.mono (j:=6) (by decide)
 obtain⟨t3,h3,p3⟩:=h3 cdv A outer s H E hr Q
 refine⟨_,Ab (Bx 1 Fz.nd (Ya MB GI hr2 rfl T.mgB bI .nil Cm))
  (Ab (Bx 2 Fz.nd Jt)
  (Ab (Gp PX rfl (Ol rfl Tx'.range (Bw (Am En Ae (Am Cb (Ds GC hr1 mC kC bC (Hh (pv 0) Ae)) Ae)))) (De 3 Fz.nd)
   (Ag (Cu (Ci GF hr6 rfl mF kF bF4 .nil Jd (FZ (pv 1) (pv 2) (Ds GN hr1 mN kN bN (Hh (pv 3) (Ds GC hr1 mC kC bC (Hh (pv 0) Ae)))) (Am En (Ds GC hr1 mC kC bC (Hh (pv 0) Ae)) (Am Lg Ae (pv 3)))))))) h3)),?_⟩
 intro p dx np ndx nex
 refine⟨p,dx,rfl,Aa,λd hd=>⟨rfl,?_⟩⟩
 have hd1:d≠p:=λz=>by rw[z,Aa] at hd;cases hd
 have fd0:H d=none:=He (He hd)
 have sb:Ak H (upd (upd (upd (upd H dx (.own p)) p (.ins CB dx [])) d (.dK [])) p (.ins CB dx (bF d))):=λb o e=>by
  rw[Ai (Ah e np),Ai (Ah e fd0),Ai (Ah e np),Ai (Ah e ndx)]
  exact e
 have ep:(upd (upd (upd (upd H dx (.own p)) p (.ins CB dx [])) d (.dK [])) p (.ins CB dx (bF d))) p=some (.ins CB dx (bF d)):=Aa
 have ed:(upd (upd (upd (upd H dx (.own p)) p (.ins CB dx [])) d (.dK [])) p (.ins CB dx (bF d))) d=some (.dK []):=by rw[Ai hd1];exact Aa
 generalize upd (upd (upd (upd H dx (.own p)) p (.ins CB dx [])) d (.dK [])) p (.ins CB dx (bF d))=H1 at *
 have B0:Bc CB CH H1 p d []:=⟨⟨dx,ep⟩,ed,(λe he=>nomatch he),(λe he=>nomatch he),QI,QI⟩
 intro aa haa
 have s2:=Ad haa (.dK [])
 have eaa:=Aa (H:=H1) (a:=aa) (o:=.dK [])
 generalize upd H1 aa (.dK [])=H2 at *
 have sA:=sb.trans s2
 have nad:aa≠d:=λz=>by rw[z,ed] at haa;cases haa
 have m0:0<=zs.getD 0 0 % 7:=OM _ (by decide)
 have m1:zs.getD 0 0 % 7 < 7:=OH _ (by decide)
 refine⟨_,rfl,a,zs,0,rfl,sA.seq S,_,_,rfl,rfl,(by show (0:Int) < 7;decide),_,_,rfl,rfl,?_⟩
 refine⟨_,rfl,by omega,by omega,nN (n:=(1+zs.getD 0 0 % 7).toNat) (λi σ H3=>∃(L:List Ent)(AA:List (Str×LZ))(v3:Option V),σ=[some (.ref a),some (.ref p),some (.ref aa),v3,none,none,none,none,none,none,none,none,none,none]/\Bc CB CH H3 p d L/\Ht H3 aa AA (L.map λe=>(e.nm,e.el))/\Mb L/\L.length=i/\(∀(j:Nat)(e:Ent),L[j]? = some e->e.nm=Nf (j:Int) (zs.getD 1 0)/\e.bd=[])/\(∀e∈L,aa≠e.ba)/\(∀e∈L,H e.ba=none)/\Ak H H3)
  ⟨[],[],none,rfl,B0.same s2,⟨eaa,.nil,QI⟩,⟨(λe he=>nomatch he),zN.nil,(λe he=>nomatch he),NI _⟩,rfl,(λj e h=>by simp at h),(λe he=>nomatch he),(λe he=>nomatch he),sA⟩ ?_ ?_⟩
 ·rintro i σ H3 hi ⟨L,AA,v3,rfl,B,HA,O,hLl,hL,nae,fb,s3⟩
  have e0:(0:Int)+(i:Int)=(i:Int):=by omega
  rw[e0]
  have S3:=s3.seq S
  have hi7:i < 7:=by omega
  have hnew:Hm L (Nf (i:Int) (zs.getD 1 0))=none:=Yg λe he z=>by
   obtain⟨j,hj⟩:=NX he
   have hjl:j < L.length:=(LM.mp hj).1
   rw[(hL j e hj).1] at z
   have:=rH (by omega) (by omega) (by omega) (by omega) z
   omega
  have ok:=iB (k:=(i:Int)) (by omega) (by omega) (zs.getD 1 0)
  refine⟨_,rfl,_,rfl,_,rfl,_,rfl,a,zs,1,rfl,S3,_,_,rfl,by omega,by omega,λH4 s4=>?_⟩
  refine⟨_,rfl,a,zs,2,rfl,s4.seq S3,_,rfl,_,_,rfl,rfl,.inl ⟨by decide,by decide⟩,_,_,rfl,rfl,p,d,aa,L,AA,_,_,rfl,B.same s4,HA.same s4,O,by omega,EU ok,hnew,nad,nae,λH5 e ea B5 hnm hbd O5 fr HA5 k5=>?_⟩
  have sf:=s3.trans s4
  refine⟨L++[e],_,_,rfl,B5,HA5,O5,by rw[LS,hLl];rfl,λj e' he'=>?_,λe' he'=>?_,λe' he'=>?_,λb o hb=>k5 b o (sf _ _ hb) (Ah hb fd0) (Ah hb (sb.free haa))⟩
  ·rcases Ou he' with h | ⟨rfl,rfl⟩
   ·exact hL j e' h
   ·exact⟨by rw[hnm,hLl],hbd⟩
  ·rcases MJ.mp he' with h | h
   ·exact nae e' h
   ·rw[MA.mp h]
    exact Ah (s4 _ _ HA.dc) fr.ba
  ·rcases MJ.mp he' with h | h
   ·exact fb e' h
   ·rw[MA.mp h]
    exact sf.free fr.ba
 ·rintro σ H3 ⟨L,AA,v3,rfl,B,HA,O,hLl,hL,nae,fb,s3⟩
  refine p3 H3 a p d aa L AA zs _ B HA O (λe he=>?_) nad nae s3 fd0 (sb.free haa) fb (by omega) S q
  obtain⟨j,hj⟩:=NX he
  exact(hL j e hj).2
end
end Bk
namespace Bk
open PySem L2 Mg Nm
def zL(w:NU)(p:Str×Tok×LZ):UR:=⟨PL w.params p.1,.str p.1 p.2.1,.ref p.2.2⟩
theorem pZ{P:MV}{w:NU}:∀ents:List (Str×Tok×LZ),Pairs (Bp P w) (ents.map (zL w)) (ents.map λp=>((MY p.1:Key),MO p.2.2)):=by
 intro ents
 induction ents with
 | nil=>exact .nil
 | cons p ents ih=>exact .cons (Ov p.1 p.2.1) rfl ih
theorem yB{P:MV}{w:NU}{K:LO}{aP:LZ}{es:Array UR}{ep:Nat}(ents:List (Str×Tok×LZ))(l:K.lookup aP=some ⟨.type "dict", none,.dict es ep,#[]⟩)(hes:es.toList=ents.map (zL w))(nd:(ents.map (·.1)).Nodup)(sm:(aP == RH)=false):bY P w K aP (ents.map λp=>((MY p.1:Key),V.ref p.2.2)):=by
 refine⟨_,es,ep,ents.map λp=>((MY p.1:Key),MO p.2.2),l,⟨rfl,rfl,rfl⟩,rfl,λe he=>?_,by rw[hes];exact pZ ents,?_,?_,sm⟩
 ·have he':e∈es.toList:=by simpa using he
  rw[hes] at he'
  obtain⟨p,hp,rfl⟩:=ML.mp he'
  exact⟨MY p.1,Ov p.1 p.2.1,rfl⟩
 ·rw[List.map_map]
  have:((λq:Key×LP=>q.1) ∘ λp:Str×Tok×LZ=>((MY p.1:Key),MO p.2.2))=λp=>(MY p.1:Key):=rfl
  rw[this]
  have h2:(ents.map λp=>(MY p.1:Key))=(ents.map (·.1)).map MY:=by rw[List.map_map];rfl
  rw[h2]
  exact List.pairwise_map.mpr (nd.imp λh z=>h (MY.inj z))
 ·clear l hes nd
  induction ents with
  | nil=>exact .nil
  | cons p ents ih=>exact .cons ⟨rfl,rfl⟩ ih
theorem Fb{K:LO}{H:Hp}{a:LZ}{od:Option LZ}{its:Array LP}{n:Nat}{sl:Array (Option LP)}{r:List Str}(l:K.lookup a=some ⟨.type "tuple", od,.seq its n,sl⟩)(v:Vals (Ax r) its.toList)(hl:its.size<=MG):Dq K H a (Ax r):=.inr ⟨_,its,n,l,rfl,rfl,hl,v⟩
end Bk
namespace Bk
open PySem L2 Mg PySem.W
theorem DD{K:Frag}{cls:LP}{C:LZ}(h1:isClsIn K C=true)(h2:typeIn K (.ref C)=some (.type "type"))(h3:subIn K (.ref C) (.type "BaseException")=some true){b:Bool}(h4:subIn K cls (.ref C)=some b):exmOne K cls (.ref C)=some b:=by
 have e1:(clsIn K C).isSome=true:=h1
 unfold exmOne kitCls
 simp only[h2,h3,h4,e1]
 rfl
end Bk
namespace Bk
open PySem L2 Mg Nm Li PySem.W
abbrev rK(p0 p1 p2 p3 p4 p5 p6 p7 p8 p9 p10 p11 p12 p13:LZ):List (Str×LZ×List Str):=[(("say" : Str),p0,([]:List Str)),(("put" : Str),p1,([("amount" : Str)]:List Str)),(("plus" : Str),p2,([("amount" : Str)]:List Str)),(("times" : Str),p3,([("amount" : Str)]:List Str)),(("both" : Str),p4,([("amount" : Str)]:List Str)),(("any" : Str),p5,([("amount" : Str)]:List Str)),(("odd" : Str),p6,([("amount" : Str)]:List Str)),(("over" : Str),p7,([("divisor" : Str)]:List Str)),(("part" : Str),p8,([("divisor" : Str)]:List Str)),(("up" : Str),p9,([("shift" : Str)]:List Str)),(("down" : Str),p10,([("shift" : Str)]:List Str)),(("onwards" : Str),p11,([]:List Str)),(("ask" : Str),p12,([("word" : Str)]:List Str)),(("try" : Str),p13,([("word" : Str),("word" : Str)]:List Str))]
theorem Vo{us:List LP}(h:us.length=1):∃a,us=[a]:=match us,h with | [a],_=>⟨a,rfl⟩
theorem ln2{us:List LP}(h:us.length=2):∃a b,us=[a,b]:=match us,h with | [a,b],_=>⟨a,b,rfl⟩
theorem tR{us:List LP}(h:us.length=3):∃a b c,us=[a,b,c]:=match us,h with | [a,b,c],_=>⟨a,b,c,rfl⟩
theorem HW{us:List LP}(h:us.length=4):∃a b c d,us=[a,b,c,d]:=match us,h with | [a,b,c,d],_=>⟨a,b,c,d,rfl⟩
abbrev aU(K:Frag)(f:LZ)(oc:LP)(od:Option LZ)(x q:Str)(st:RL)(kV dc pm:LP)(an:Option LZ)(cd ct:LP)(sl:Array (Option LP)):Prop:=K.lookup f=some ⟨oc,od,.func (fnOf x q (Ef st) (Bb st) (Ac st) .none kV dc pm an cd ct),sl⟩/\codeIn K cd q=true/\keepIn K (.ref f)=true
abbrev aN(K:Frag)(x:Str)(f:LZ):Prop:=nsIn K NW x=some (some (.ref f))
abbrev aM(K:Frag)(C:LZ)(x:Str)(f:LZ):Prop:=findIn K (.ref C) x=some (some (.ref f))/\isFn K (.ref f)=true
abbrev aK(K:Frag)(C:LZ):Prop:=plainGet K C Str.empty=true/\hasDictIn K C=true/\plainOver K C=true/\findIn K (.ref C) "__setattr__" = some (some (.builtin "object.__setattr__"))/\makesIn K C=true/\keepIn K (.ref C)=true
theorem Bl{K:Frag}{f:LZ}{oc:LP}{od:Option LZ}{x q:Str}{st:RL}{kV dc pm:LP}{an:Option LZ}{cd ct:LP}{sl:Array (Option LP)}(h:aU K f oc od x q st kV dc pm an cd ct sl):Dx K x q st f (fnOf x q (Ef st) (Bb st) (Ac st) .none kV dc pm an cd ct):=sS h.1 h.2.1 h.2.2
theorem BN{l:PySem.W.OpenLaw}{w:NU}{K:LO}{h:OS}{mg:Str->Option LP}{fa f1 f2 f3 f4 f5 f6 f7 f8 f11 f12 f13 f14 f15 f16 f17 f18 f19 f20 f21 f22 f23 f26 f27 f29 f28 f30 f31 f32 f40 f41 f42 f43 f44 f45 f46 f47 f48 f49 f50 f51 f52 f53 f54 f55 f60 f61 f62 f63 f64 f65 f66 CB CH T14:LZ}(X:K.In h)(G:h.Ns NW mg)(hfa:mg "law" = some (.ref fa)){od1 an1 od2 an2 od3 an3 od4 an4 od5 an5 od6 an6 od7 an7 od8 an8 od11 an11 od12 an12 od13 an13 od14 an14 od15 an15 od16 an16 od17 an17 od18 an18 od19 an19 od20 an20 od21 an21 od22 an22 od23 an23 od26 an26 od27 an27 od29 an29 od28 an28 od30 an30 od31 an31 od32 an32 od40 an40 od41 an41 od42 an42 od43 an43 od44 an44 od45 an45 od46 an46 od47 an47 od48 an48 od49 an49 od50 an50 od51 an51 od52 an52 od53 an53 od54 an54 od55 an55 od60 an60 od61 an61 od62 an62 od63 an63 od64 an64 od65 an65 od66 an66:Option LZ}{sl1 sl2 sl3 sl4 sl5 sl6 sl7 sl8 sl11 sl12 sl13 sl14 sl15 sl16 sl17 sl18 sl19 sl20 sl21 sl22 sl23 sl26 sl27 sl29 sl28 sl30 sl31 sl32 sl40 sl41 sl42 sl43 sl44 sl45 sl46 sl47 sl48 sl49 sl50 sl51 sl52 sl53 sl54 sl55 sl60 sl61 sl62 sl63 sl64 sl65 sl66:Array (Option LP)}{oc1 kV1 dc1 pm1 cd1 ct1 oc2 kV2 dc2 pm2 cd2 ct2 oc3 kV3 dc3 pm3 cd3 ct3 oc4 kV4 dc4 pm4 cd4 ct4 oc5 kV5 dc5 pm5 cd5 ct5 oc6 kV6 dc6 pm6 cd6 ct6 oc7 kV7 dc7 pm7 cd7 ct7 oc8 kV8 dc8 pm8 cd8 ct8 oc11 kV11 dc11 pm11 cd11 ct11 oc12 kV12 dc12 pm12 cd12 ct12 oc13 kV13 dc13 pm13 cd13 ct13 oc14 kV14 dc14 pm14 cd14 ct14 oc15 kV15 dc15 pm15 cd15 ct15 oc16 kV16 dc16 pm16 cd16 ct16 oc17 kV17 dc17 pm17 cd17 ct17 oc18 kV18 dc18 pm18 cd18 ct18 oc19 kV19 dc19 pm19 cd19 ct19 oc20 kV20 dc20 pm20 cd20 ct20 oc21 kV21 dc21 pm21 cd21 ct21 oc22 kV22 dc22 pm22 cd22 ct22 oc23 kV23 dc23 pm23 cd23 ct23 oc26 kV26 dc26 pm26 cd26 ct26 oc27 kV27 dc27 pm27 cd27 ct27 oc29 kV29 dc29 pm29 cd29 ct29 oc28 kV28 dc28 pm28 cd28 ct28 oc30 kV30 dc30 pm30 cd30 ct30 oc31 kV31 dc31 pm31 cd31 ct31 oc32 kV32 dc32 pm32 cd32 ct32 oc40 kV40 dc40 pm40 cd40 ct40 oc41 kV41 dc41 pm41 cd41 ct41 oc42 kV42 dc42 pm42 cd42 ct42 oc43 kV43 dc43 pm43 cd43 ct43 oc44 kV44 dc44 pm44 cd44 ct44 oc45 kV45 dc45 pm45 cd45 ct45 oc46 kV46 dc46 pm46 cd46 ct46 oc47 kV47 dc47 pm47 cd47 ct47 oc48 kV48 dc48 pm48 cd48 ct48 oc49 kV49 dc49 pm49 cd49 ct49 oc50 kV50 dc50 pm50 cd50 ct50 oc51 kV51 dc51 pm51 cd51 ct51 oc52 kV52 dc52 pm52 cd52 ct52 oc53 kV53 dc53 pm53 cd53 ct53 oc54 kV54 dc54 pm54 cd54 ct54 oc55 kV55 dc55 pm55 cd55 ct55 oc60 kV60 dc60 pm60 cd60 ct60 oc61 kV61 dc61 pm61 cd61 ct61 oc62 kV62 dc62 pm62 cd62 ct62 oc63 kV63 dc63 pm63 cd63 ct63 oc64 kV64 dc64 pm64 cd64 ct64 oc65 kV65 dc65 pm65 cd65 ct65 oc66 kV66 dc66 pm66 cd66 ct66:LP}{ocT14:LP}{odT14:Option LZ}{slT14:Array (Option LP)}{nT14:Nat}{aP:LZ}{esP:Array UR}{epP:Nat}{t0 t1 t2 t3 t4 t5 t6 t7 t8 t9 t10 t11 t12 t13:Tok}{p0 p1 p2 p3 p4 p5 p6 p7 p8 p9 p10 p11 p12 p13:LZ}{oq0 oq1 oq2 oq3 oq4 oq5 oq6 oq7 oq8 oq9 oq10 oq11 oq12 oq13:Option LZ}{nq0 nq1 nq2 nq3 nq4 nq5 nq6 nq7 nq8 nq9 nq10 nq11 nq12 nq13:Nat}{sq0 sq1 sq2 sq3 sq4 sq5 sq6 sq7 sq8 sq9 sq10 sq11 sq12 sq13:Array (Option LP)}{u1_0 u2_0 u3_0 u4_0 u5_0 u6_0 u7_0 u8_0 u9_0 u10_0 u12_0 u13_0 u13_1:Tok}{tkM:Tok}{CO CE f99 NB:LZ}{ocB ocN oc99 kV99 dc99 pm99 cd99 ct99:LP}{odB odN od99 an99:Option LZ}{cdB:ClassData}{slB slN sl99:Array (Option LP)}{esN:Array UR}{epN:Nat}{NO:LZ}{bmO bsO subO:List LP}{nmO qnO:Str}{hdctO abO:Bool}{snO:List Str}{colO:Option Bool}{ddO:Option LZ}{y0O y1O y2O y3O y5O:Option LP}(aCB:nsIn K NW "Book" = some (some (.ref CB)))(pkB:aK K CB)(nB_by_name:findIn K (.ref CB) "by_name" = some none)(aCH:nsIn K NW "House" = some (some (.ref CH)))(pkH:aK K CH)(nH_elder_row:findIn K (.ref CH) "elder_row" = some none)(nH_order_row:findIn K (.ref CH) "order_row" = some none)(nH_bodies:findIn K (.ref CH) "bodies" = some none)(a1:aN K "merged" f1)(u1:aU K f1 oc1 od1 "merged" "merged" Ga kV1 dc1 pm1 an1 cd1 ct1 sl1)(a2:aN K "counts_behind" f2)(u2:aU K f2 oc2 od2 "counts_behind" "counts_behind" Lx kV2 dc2 pm2 an2 cd2 ct2 sl2)(a3:aN K "free_name" f3)(u3:aU K f3 oc3 od3 "free_name" "free_name" Zw kV3 dc3 pm3 an3 cd3 ct3 sl3)(a4:aN K "take_out" f4)(u4:aU K f4 oc4 od4 "take_out" "take_out" aR kV4 dc4 pm4 an4 cd4 ct4 sl4)(a5:aN K "made_order" f5)(u5:aU K f5 oc5 od5 "made_order" "made_order" Yd kV5 dc5 pm5 an5 cd5 ct5 sl5)(a6:aN K "is_name" f6)(u6:aU K f6 oc6 od6 "is_name" "is_name" Qe kV6 dc6 pm6 an6 cd6 ct6 sl6)(a7:aN K "_law_cell_at" f7)(u7:aU K f7 oc7 od7 "_law_cell_at" "_law_cell_at" qA kV7 dc7 pm7 an7 cd7 ct7 sl7)(a8:aN K "_law_name_by" f8)(u8:aU K f8 oc8 od8 "_law_name_by" "_law_name_by" Uo kV8 dc8 pm8 an8 cd8 ct8 sl8)(a11:aN K "law" f11)(u11:aU K f11 oc11 od11 "law" "law" Fy kV11 dc11 pm11 an11 cd11 ct11 sl11)(m12:aM K CH "__init__" f12)(u12:aU K f12 oc12 od12 "__init__" "House.__init__" bU kV12 dc12 pm12 an12 cd12 ct12 sl12)(m13:aM K CB "__init__" f13)(u13:aU K f13 oc13 od13 "__init__" "Book.__init__" eR kV13 dc13 pm13 an13 cd13 ct13 sl13)(m14:aM K CB "found" f14)(l14:K.lookup f14=some ⟨oc14,od14,.func (fnOf "found" "Book.found" (Ef Ie) (Bb Ie) (Ac Ie) (.ref T14) kV14 dc14 pm14 an14 cd14 ct14),sl14⟩)(c14:codeIn K cd14 "Book.found" = true)(k14:keepIn K (.ref f14)=true)(lT14:K.lookup T14=some ⟨ocT14,odT14,.seq #[.none] nT14,slT14⟩)(m15:aM K CB "houses" f15)(u15:aU K f15 oc15 od15 "houses" "Book.houses" Vv kV15 dc15 pm15 an15 cd15 ct15 sl15)(m16:aM K CB "order" f16)(u16:aU K f16 oc16 od16 "order" "Book.order" cA kV16 dc16 pm16 an16 cd16 ct16 sl16)(m17:aM K CB "elders" f17)(u17:aU K f17 oc17 od17 "elders" "Book.elders" Wi kV17 dc17 pm17 an17 cd17 ct17 sl17)(m18:aM K CB "house" f18)(u18:aU K f18 oc18 od18 "house" "Book.house" gL kV18 dc18 pm18 an18 cd18 ct18 sl18)(a19:aN K "is_whole" f19)(u19:aU K f19 oc19 od19 "is_whole" "is_whole" fJ kV19 dc19 pm19 an19 cd19 ct19 sl19)(a20:aN K "is_amount" f20)(u20:aU K f20 oc20 od20 "is_amount" "is_amount" Wa kV20 dc20 pm20 an20 cd20 ct20 sl20)(a21:aN K "is_body" f21)(u21:aU K f21 oc21 od21 "is_body" "is_body" Qg kV21 dc21 pm21 an21 cd21 ct21 sl21)(a22:aN K "is_step" f22)(u22:aU K f22 oc22 od22 "is_step" "is_step" Qi kV22 dc22 pm22 an22 cd22 ct22 sl22)(a23:aN K "is_part" f23)(u23:aU K f23 oc23 od23 "is_part" "is_part" Vj kV23 dc23 pm23 an23 cd23 ct23 sl23)(m26:aM K CB "teach" f26)(u26:aU K f26 oc26 od26 "teach" "Book.teach" gD kV26 dc26 pm26 an26 cd26 ct26 sl26)(m27:aM K CB "forget" f27)(u27:aU K f27 oc27 od27 "forget" "Book.forget" Vk kV27 dc27 pm27 an27 cd27 ct27 sl27)(m29:aM K CB "own_words" f29)(u29:aU K f29 oc29 od29 "own_words" "Book.own_words" BX kV29 dc29 pm29 an29 cd29 ct29 sl29)(m28:aM K CB "body" f28)(u28:aU K f28 oc28 od28 "body" "Book.body" uE kV28 dc28 pm28 an28 cd28 ct28 sl28)(a30:aN K "ring_of" f30)(u30:aU K f30 oc30 od30 "ring_of" "ring_of" sO kV30 dc30 pm30 an30 cd30 ct30 sl30)(a31:aN K "first_name" f31)(u31:aU K f31 oc31 od31 "first_name" "first_name" So kV31 dc31 pm31 an31 cd31 ct31 sl31)(a32:aN K "leaning_against" f32)(u32:aU K f32 oc32 od32 "leaning_against" "leaning_against" Yq kV32 dc32 pm32 an32 cd32 ct32 sl32)(a40:aN K "read" f40)(u40:aU K f40 oc40 od40 "read" "read" pI kV40 dc40 pm40 an40 cd40 ct40 sl40)(a41:aN K "written" f41)(u41:aU K f41 oc41 od41 "written" "written" Ni kV41 dc41 pm41 an41 cd41 ct41 sl41)(a42:aN K "lines_of" f42)(u42:aU K f42 oc42 od42 "lines_of" "lines_of" eA kV42 dc42 pm42 an42 cd42 ct42 sl42)(a43:aN K "ended" f43)(u43:aU K f43 oc43 od43 "ended" "ended" Xk kV43 dc43 pm43 an43 cd43 ct43 sl43)(a44:aN K "do_numbered" f44)(u44:aU K f44 oc44 od44 "do_numbered" "do_numbered" eI kV44 dc44 pm44 an44 cd44 ct44 sl44)(a45:aN K "do_line" f45)(u45:aU K f45 oc45 od45 "do_line" "do_line" Wm kV45 dc45 pm45 an45 cd45 ct45 sl45)(a46:aN K "do_knows" f46)(u46:aU K f46 oc46 od46 "do_knows" "do_knows" Rv kV46 dc46 pm46 an46 cd46 ct46 sl46)(a47:aN K "do_house" f47)(u47:aU K f47 oc47 od47 "do_house" "do_house" Mq kV47 dc47 pm47 an47 cd47 ct47 sl47)(a48:aN K "read_body" f48)(u48:aU K f48 oc48 od48 "read_body" "read_body" Kn kV48 dc48 pm48 an48 cd48 ct48 sl48)(a49:aN K "read_step" f49)(u49:aU K f49 oc49 od49 "read_step" "read_step" Kj kV49 dc49 pm49 an49 cd49 ct49 sl49)(a50:aN K "read_part" f50)(u50:aU K f50 oc50 od50 "read_part" "read_part" Nq kV50 dc50 pm50 an50 cd50 ct50 sl50)(a51:aN K "is_written_amount" f51)(u51:aU K f51 oc51 od51 "is_written_amount" "is_written_amount" Zl kV51 dc51 pm51 an51 cd51 ct51 sl51)(a52:aN K "written_house" f52)(u52:aU K f52 oc52 od52 "written_house" "written_house" Mw kV52 dc52 pm52 an52 cd52 ct52 sl52)(a53:aN K "written_founding" f53)(u53:aU K f53 oc53 od53 "written_founding" "written_founding" Sj kV53 dc53 pm53 an53 cd53 ct53 sl53)(a54:aN K "written_knows" f54)(u54:aU K f54 oc54 od54 "written_knows" "written_knows" My kV54 dc54 pm54 an54 cd54 ct54 sl54)(a55:aN K "written_step" f55)(u55:aU K f55 oc55 od55 "written_step" "written_step" Qn kV55 dc55 pm55 an55 cd55 ct55 sl55)(a60:aN K "_law_founded" f60)(u60:aU K f60 oc60 od60 "_law_founded" "_law_founded" Fp kV60 dc60 pm60 an60 cd60 ct60 sl60)(a61:aN K "_law_amount_by" f61)(u61:aU K f61 oc61 od61 "_law_amount_by" "_law_amount_by" dZ kV61 dc61 pm61 an61 cd61 ct61 sl61)(a62:aN K "_law_step_by" f62)(u62:aU K f62 oc62 od62 "_law_step_by" "_law_step_by" Dl kV62 dc62 pm62 an62 cd62 ct62 sl62)(a63:aN K "_law_taught" f63)(u63:aU K f63 oc63 od63 "_law_taught" "_law_taught" Wq kV63 dc63 pm63 an63 cd63 ct63 sl63)(a64:aN K "_law_step_text" f64)(u64:aU K f64 oc64 od64 "_law_step_text" "_law_step_text" Om kV64 dc64 pm64 an64 cd64 ct64 sl64)(a65:aN K "_law_text" f65)(u65:aU K f65 oc65 od65 "_law_text" "_law_text" Xt kV65 dc65 pm65 an65 cd65 ct65 sl65)(a66:aN K "_law_alike" f66)(u66:aU K f66 oc66 od66 "_law_alike" "_law_alike" Nu kV66 dc66 pm66 an66 cd66 ct66 sl66)(z1:nsIn K NW "len" = some none)(z2:nsIn K NW "zip" = some none)(z3:nsIn K NW "enumerate" = some none)(z4:nsIn K NW "any" = some none)(z5:nsIn K NW "range" = some none)(z6:nsIn K NW "isinstance" = some none)(z7:nsIn K NW "list" = some none)(z8:nsIn K NW "str" = some none)(z9:nsIn K NW "all" = some none)(z10:nsIn K NW "reversed" = some none)(z11:nsIn K NW "set" = some none)(z12:nsIn K NW "tuple" = some none)(z13:nsIn K NW "int" = some none)(z14:nsIn K NW "bool" = some none)(z15:nsIn K NW "ValueError" = some none)(gP:nsIn K NW "PARTS" = some (some (.ref aP)))(aXO:nsIn K NW "AtOdds" = some (some (.ref CO)))(gM:nsIn K NW "MOST_FIGURES" = some (some (.int 31 tkM)))(aE:nsIn K NW "BookError" = some (some (.ref CE)))(lP:K.lookup aP=some ⟨.type "dict", none,.dict esP epP,#[]⟩)(hes:esP.toList=[⟨PL w.params "say", .str "say" t0,.ref p0⟩,⟨PL w.params "put", .str "put" t1,.ref p1⟩,⟨PL w.params "plus", .str "plus" t2,.ref p2⟩,⟨PL w.params "times", .str "times" t3,.ref p3⟩,⟨PL w.params "both", .str "both" t4,.ref p4⟩,⟨PL w.params "any", .str "any" t5,.ref p5⟩,⟨PL w.params "odd", .str "odd" t6,.ref p6⟩,⟨PL w.params "over", .str "over" t7,.ref p7⟩,⟨PL w.params "part", .str "part" t8,.ref p8⟩,⟨PL w.params "up", .str "up" t9,.ref p9⟩,⟨PL w.params "down", .str "down" t10,.ref p10⟩,⟨PL w.params "onwards", .str "onwards" t11,.ref p11⟩,⟨PL w.params "ask", .str "ask" t12,.ref p12⟩,⟨PL w.params "try", .str "try" t13,.ref p13⟩])(smP:(aP == RH)=false)(q0:K.lookup p0=some ⟨.type "tuple", oq0,.seq #[] nq0,sq0⟩)(q1:K.lookup p1=some ⟨.type "tuple", oq1,.seq #[.str "amount" u1_0] nq1,sq1⟩)(q2:K.lookup p2=some ⟨.type "tuple", oq2,.seq #[.str "amount" u2_0] nq2,sq2⟩)(q3:K.lookup p3=some ⟨.type "tuple", oq3,.seq #[.str "amount" u3_0] nq3,sq3⟩)(q4:K.lookup p4=some ⟨.type "tuple", oq4,.seq #[.str "amount" u4_0] nq4,sq4⟩)(q5:K.lookup p5=some ⟨.type "tuple", oq5,.seq #[.str "amount" u5_0] nq5,sq5⟩)(q6:K.lookup p6=some ⟨.type "tuple", oq6,.seq #[.str "amount" u6_0] nq6,sq6⟩)(q7:K.lookup p7=some ⟨.type "tuple", oq7,.seq #[.str "divisor" u7_0] nq7,sq7⟩)(q8:K.lookup p8=some ⟨.type "tuple", oq8,.seq #[.str "divisor" u8_0] nq8,sq8⟩)(q9:K.lookup p9=some ⟨.type "tuple", oq9,.seq #[.str "shift" u9_0] nq9,sq9⟩)(q10:K.lookup p10=some ⟨.type "tuple", oq10,.seq #[.str "shift" u10_0] nq10,sq10⟩)(q11:K.lookup p11=some ⟨.type "tuple", oq11,.seq #[] nq11,sq11⟩)(q12:K.lookup p12=some ⟨.type "tuple", oq12,.seq #[.str "word" u12_0] nq12,sq12⟩)(q13:K.lookup p13=some ⟨.type "tuple", oq13,.seq #[.str "word" u13_0,.str "word" u13_1] nq13,sq13⟩)(lXO:K.lookup CO=some (excClassObj nmO qnO CO NO bsO bmO hdctO snO subO abO colO ddO y0O y1O y2O y3O y5O "ValueError.__new__"))(kXO:keepIn K (.ref CO)=true)(hbmO:bmO=.ref CE::oO)(csO:isClsIn K CO=true)(tyO:typeIn K (.ref CO)=some (.type "type"))(beO:subIn K (.ref CO) (.type "BaseException")=some true)(sOO:subIn K (.ref CO) (.ref CO)=some true)(lB:K.lookup CE=some ⟨ocB,odB,.cls cdB,slB⟩)(hB:cdB.ns=NB)(lN:K.lookup NB=some ⟨ocN,odN,.dict esN epN,slN⟩)(uN:Wh esN.toList=true)(iN:nsIn K NB "__init__" = some none)(iC:findIn K (.ref CO) "__init__" = some (some (.ref f99)))(nC:isFn K (.ref f99)=true)(l99:K.lookup f99=some ⟨oc99,od99,.func (fnOf "__init__" "AtOdds.__init__" (Ef Ss) (Bb Ss) (Ac Ss) .none kV99 dc99 pm99 an99 cd99 ct99),sl99⟩)(c99:codeIn K cd99 "AtOdds.__init__" = true)(k99:keepIn K (.ref f99)=true)(x1:findIn K (.ref CO) "__setattr__" = some (some (.builtin "object.__setattr__")))(x2:findIn K (.ref CO) "ring" = some none)(x3:hasDictIn K CO=true)(g1O:findIn K (.ref CO) "__getattribute__" = some (some (.builtin "BaseException.__getattribute__")))(g2O:findIn K (.ref CO) "__getattr__" = some none)(g3O:mroIn K CO (.type "BaseException")=some true):
 ∃fd:NP,(∀(s:LV)(v:LP),BindsTo s fd ⟨[v],[]⟩ [("_law_script", v)])/\∀base:OS,K.In base->base.Ns NW mg->Aj l.prog w K mg base Ia 11 fa fd ["_law_script"] (iJ K):=by
 have e:=hfa.symm.trans (RB X G a11)
 cases e
 have Tx:Txt mg:=⟨RQ X G z1,RQ X G z2,RQ X G z3,RQ X G z4,RQ X G z5,RQ X G z6,RQ X G z7,RQ X G z8,RQ X G z9,RQ X G z10,RQ X G z11,RQ X G z12,RQ X G z13,RQ X G z14,RQ X G z15⟩
 have F1:=Bl u1
 have b1:=F1.binds (ps:=["rows","labels"]) λ_ _ _ _ _ _ us hl=>by obtain⟨_,_,rfl⟩:=ln2 hl;rfl
 have F2:=Bl u2
 have b2:=F2.binds (ps:=["rows"]) λ_ _ _ _ _ _ us hl=>by obtain⟨_,rfl⟩:=Vo hl;rfl
 have F3:=Bl u3
 have b3:=F3.binds (ps:=["rows","starts","behind"]) λ_ _ _ _ _ _ us hl=>by obtain⟨_,_,_,rfl⟩:=tR hl;rfl
 have F4:=Bl u4
 have b4:=F4.binds (ps:=["name","rows","starts","behind"]) λ_ _ _ _ _ _ us hl=>by obtain⟨_,_,_,_,rfl⟩:=HW hl;rfl
 have F5:=Bl u5
 have b5:=F5.binds (ps:=["name","elders","orders"]) λ_ _ _ _ _ _ us hl=>by obtain⟨_,_,_,rfl⟩:=tR hl;rfl
 have F6:=Bl u6
 have b6:=F6.binds (ps:=["value"]) λ_ _ _ _ _ _ us hl=>by obtain⟨_,rfl⟩:=Vo hl;rfl
 have F7:=Bl u7
 have b7:=F7.binds (ps:=["_law_script","_law_k"]) λ_ _ _ _ _ _ us hl=>by obtain⟨_,_,rfl⟩:=ln2 hl;rfl
 have F8:=Bl u8
 have b8:=F8.binds (ps:=["_law_k","_law_cell"]) λ_ _ _ _ _ _ us hl=>by obtain⟨_,_,rfl⟩:=ln2 hl;rfl
 have F11:=Bl u11
 have F12:=Bl u12
 have b12:=F12.binds (ps:=["self","elder_row","order_row"]) λ_ _ _ _ _ _ us hl=>by obtain⟨_,_,_,rfl⟩:=tR hl;rfl
 have F13:=Bl u13
 have b13:=F13.binds (ps:=["self"]) λ_ _ _ _ _ _ us hl=>by obtain⟨_,rfl⟩:=Vo hl;rfl
 have F14:=yJ (st:=Ie) l14 c14 k14
 have b14_2:=F14.binds (ps:=["self","name","elders"]) (ds:=[.none]) lT14 rfl 2 rfl λ_ _ _ _ _ _ us hl=>by obtain⟨_,_,rfl⟩:=ln2 hl;exact⟨_,rfl,rfl⟩
 have b14_3:=F14.binds (ps:=["self","name","elders"]) (ds:=[]) lT14 rfl 3 rfl λ_ _ _ _ _ _ us hl=>by obtain⟨_,_,_,rfl⟩:=tR hl;exact⟨_,rfl,rfl⟩
 have F15:=Bl u15
 have b15:=F15.binds (ps:=["self"]) λ_ _ _ _ _ _ us hl=>by obtain⟨_,rfl⟩:=Vo hl;rfl
 have F16:=Bl u16
 have b16:=F16.binds (ps:=["self","name"]) λ_ _ _ _ _ _ us hl=>by obtain⟨_,_,rfl⟩:=ln2 hl;rfl
 have F17:=Bl u17
 have b17:=F17.binds (ps:=["self","name"]) λ_ _ _ _ _ _ us hl=>by obtain⟨_,_,rfl⟩:=ln2 hl;rfl
 have F18:=Bl u18
 have b18:=F18.binds (ps:=["self","name"]) λ_ _ _ _ _ _ us hl=>by obtain⟨_,_,rfl⟩:=ln2 hl;rfl
 have F19:=Bl u19
 have b19:=F19.binds (ps:=["value","least","most"]) λ_ _ _ _ _ _ us hl=>by obtain⟨_,_,_,rfl⟩:=tR hl;rfl
 have F20:=Bl u20
 have b20:=F20.binds (ps:=["value"]) λ_ _ _ _ _ _ us hl=>by obtain⟨_,rfl⟩:=Vo hl;rfl
 have F21:=Bl u21
 have b21:=F21.binds (ps:=["value"]) λ_ _ _ _ _ _ us hl=>by obtain⟨_,rfl⟩:=Vo hl;rfl
 have F22:=Bl u22
 have b22:=F22.binds (ps:=["value"]) λ_ _ _ _ _ _ us hl=>by obtain⟨_,rfl⟩:=Vo hl;rfl
 have F23:=Bl u23
 have b23:=F23.binds (ps:=["part","kind"]) λ_ _ _ _ _ _ us hl=>by obtain⟨_,_,rfl⟩:=ln2 hl;rfl
 have F26:=Bl u26
 have b26:=F26.binds (ps:=["self","name","word","body"]) λ_ _ _ _ _ _ us hl=>by obtain⟨_,_,_,_,rfl⟩:=HW hl;rfl
 have F27:=Bl u27
 have b27:=F27.binds (ps:=["self","name","word"]) λ_ _ _ _ _ _ us hl=>by obtain⟨_,_,_,rfl⟩:=tR hl;rfl
 have F29:=Bl u29
 have b29:=F29.binds (ps:=["self","name"]) λ_ _ _ _ _ _ us hl=>by obtain⟨_,_,rfl⟩:=ln2 hl;rfl
 have F28:=Bl u28
 have b28:=F28.binds (ps:=["self","name","word"]) λ_ _ _ _ _ _ us hl=>by obtain⟨_,_,_,rfl⟩:=tR hl;rfl
 have F30:=Bl u30
 have b30:=F30.binds (ps:=["rests","labels"]) λ_ _ _ _ _ _ us hl=>by obtain⟨_,_,rfl⟩:=ln2 hl;rfl
 have F31:=Bl u31
 have b31:=F31.binds (ps:=["rests"]) λ_ _ _ _ _ _ us hl=>by obtain⟨_,rfl⟩:=Vo hl;rfl
 have F32:=Bl u32
 have b32:=F32.binds (ps:=["name","rests","labels"]) λ_ _ _ _ _ _ us hl=>by obtain⟨_,_,_,rfl⟩:=tR hl;rfl
 have F40:=Bl u40
 have b40:=F40.binds (ps:=["text"]) λ_ _ _ _ _ _ us hl=>by obtain⟨_,rfl⟩:=Vo hl;rfl
 have F41:=Bl u41
 have b41:=F41.binds (ps:=["book"]) λ_ _ _ _ _ _ us hl=>by obtain⟨_,rfl⟩:=Vo hl;rfl
 have F42:=Bl u42
 have b42:=F42.binds (ps:=["text"]) λ_ _ _ _ _ _ us hl=>by obtain⟨_,rfl⟩:=Vo hl;rfl
 have F43:=Bl u43
 have b43:=F43.binds (ps:=["lines"]) λ_ _ _ _ _ _ us hl=>by obtain⟨_,rfl⟩:=Vo hl;rfl
 have F44:=Bl u44
 have b44:=F44.binds (ps:=["book","line","number"]) λ_ _ _ _ _ _ us hl=>by obtain⟨_,_,_,rfl⟩:=tR hl;rfl
 have F45:=Bl u45
 have b45:=F45.binds (ps:=["book","line"]) λ_ _ _ _ _ _ us hl=>by obtain⟨_,_,rfl⟩:=ln2 hl;rfl
 have F46:=Bl u46
 have b46:=F46.binds (ps:=["book","line"]) λ_ _ _ _ _ _ us hl=>by obtain⟨_,_,rfl⟩:=ln2 hl;rfl
 have F47:=Bl u47
 have b47:=F47.binds (ps:=["book","line"]) λ_ _ _ _ _ _ us hl=>by obtain⟨_,_,rfl⟩:=ln2 hl;rfl
 have F48:=Bl u48
 have b48:=F48.binds (ps:=["text"]) λ_ _ _ _ _ _ us hl=>by obtain⟨_,rfl⟩:=Vo hl;rfl
 have F49:=Bl u49
 have b49:=F49.binds (ps:=["text"]) λ_ _ _ _ _ _ us hl=>by obtain⟨_,rfl⟩:=Vo hl;rfl
 have F50:=Bl u50
 have b50:=F50.binds (ps:=["text"]) λ_ _ _ _ _ _ us hl=>by obtain⟨_,rfl⟩:=Vo hl;rfl
 have F51:=Bl u51
 have b51:=F51.binds (ps:=["text"]) λ_ _ _ _ _ _ us hl=>by obtain⟨_,rfl⟩:=Vo hl;rfl
 have F52:=Bl u52
 have b52:=F52.binds (ps:=["book","name"]) λ_ _ _ _ _ _ us hl=>by obtain⟨_,_,rfl⟩:=ln2 hl;rfl
 have F53:=Bl u53
 have b53:=F53.binds (ps:=["name","elders"]) λ_ _ _ _ _ _ us hl=>by obtain⟨_,_,rfl⟩:=ln2 hl;rfl
 have F54:=Bl u54
 have b54:=F54.binds (ps:=["name","word","body"]) λ_ _ _ _ _ _ us hl=>by obtain⟨_,_,_,rfl⟩:=tR hl;rfl
 have F55:=Bl u55
 have b55:=F55.binds (ps:=["step"]) λ_ _ _ _ _ _ us hl=>by obtain⟨_,rfl⟩:=Vo hl;rfl
 have F60:=Bl u60
 have b60:=F60.binds (ps:=["_law_book","_law_above","_law_name","_law_cell"]) λ_ _ _ _ _ _ us hl=>by obtain⟨_,_,_,_,rfl⟩:=HW hl;rfl
 have F61:=Bl u61
 have b61:=F61.binds (ps:=["_law_mixed"]) λ_ _ _ _ _ _ us hl=>by obtain⟨_,rfl⟩:=Vo hl;rfl
 have F62:=Bl u62
 have b62:=F62.binds (ps:=["_law_words","_law_cell"]) λ_ _ _ _ _ _ us hl=>by obtain⟨_,_,rfl⟩:=ln2 hl;rfl
 have F63:=Bl u63
 have b63:=F63.binds (ps:=["_law_known","_law_name","_law_word","_law_body"]) λ_ _ _ _ _ _ us hl=>by obtain⟨_,_,_,_,rfl⟩:=HW hl;rfl
 have F64:=Bl u64
 have b64:=F64.binds (ps:=["_law_step"]) λ_ _ _ _ _ _ us hl=>by obtain⟨_,rfl⟩:=Vo hl;rfl
 have F65:=Bl u65
 have b65:=F65.binds (ps:=["_law_above","_law_known"]) λ_ _ _ _ _ _ us hl=>by obtain⟨_,_,rfl⟩:=ln2 hl;rfl
 have F66:=Bl u66
 have b66:=F66.binds (ps:=["_law_book","_law_above","_law_known"]) λ_ _ _ _ _ _ us hl=>by obtain⟨_,_,_,rfl⟩:=tR hl;rfl
 have T:Gb K mg CB CH:=⟨⟨pkB.1,pkB.2.1,pkB.2.2.1,pkB.2.2.2.1⟩,⟨pkH.1,pkH.2.1,pkH.2.2.1,pkH.2.2.2.1⟩,nB_by_name,nH_elder_row,nH_order_row,nH_bodies,RB X G aCB,RB X G aCH⟩
 have F99:=sS (st:=Ss) l99 c99 k99
 have b99:=F99.binds (ps:=["self","ring"]) λ_ _ _ _ _ _ us hl=>by obtain⟨_,_,rfl⟩:=ln2 hl;rfl
 have Tb:Tab l.prog w K aP (rK p0 p1 p2 p3 p4 p5 p6 p7 p8 p9 p10 p11 p12 p13):=by
  refine⟨yB [(("say" : Str),t0,p0),(("put" : Str),t1,p1),(("plus" : Str),t2,p2),(("times" : Str),t3,p3),(("both" : Str),t4,p4),(("any" : Str),t5,p5),(("odd" : Str),t6,p6),(("over" : Str),t7,p7),(("part" : Str),t8,p8),(("up" : Str),t9,p9),(("down" : Str),t10,p10),(("onwards" : Str),t11,p11),(("ask" : Str),t12,p12),(("try" : Str),t13,p13)] lP hes (show ([("say" : Str),("put" : Str),("plus" : Str),("times" : Str),("both" : Str),("any" : Str),("odd" : Str),("over" : Str),("part" : Str),("up" : Str),("down" : Str),("onwards" : Str),("ask" : Str),("try" : Str)]:List Str).Nodup by decide +kernel) smP,λp hp H=>?_⟩
  simp only[rK,LX,MM,or_false] at hp
  rcases hp with rfl | rfl | rfl | rfl | rfl | rfl | rfl | rfl | rfl | rfl | rfl | rfl | rfl | rfl
  ·exact Fb q0 .nil (by show 0<=MG;decide)
  ·exact Fb q1 (.cons ⟨_,rfl⟩ .nil) (by show 1<=MG;decide)
  ·exact Fb q2 (.cons ⟨_,rfl⟩ .nil) (by show 1<=MG;decide)
  ·exact Fb q3 (.cons ⟨_,rfl⟩ .nil) (by show 1<=MG;decide)
  ·exact Fb q4 (.cons ⟨_,rfl⟩ .nil) (by show 1<=MG;decide)
  ·exact Fb q5 (.cons ⟨_,rfl⟩ .nil) (by show 1<=MG;decide)
  ·exact Fb q6 (.cons ⟨_,rfl⟩ .nil) (by show 1<=MG;decide)
  ·exact Fb q7 (.cons ⟨_,rfl⟩ .nil) (by show 1<=MG;decide)
  ·exact Fb q8 (.cons ⟨_,rfl⟩ .nil) (by show 1<=MG;decide)
  ·exact Fb q9 (.cons ⟨_,rfl⟩ .nil) (by show 1<=MG;decide)
  ·exact Fb q10 (.cons ⟨_,rfl⟩ .nil) (by show 1<=MG;decide)
  ·exact Fb q11 .nil (by show 0<=MG;decide)
  ·exact Fb q12 (.cons ⟨_,rfl⟩ .nil) (by show 1<=MG;decide)
  ·exact Fb q13 (.cons ⟨_,rfl⟩ (.cons ⟨_,rfl⟩ .nil)) (by show 2<=MG;decide)
 have Tp:aX (rK p0 p1 p2 p3 p4 p5 p6 p7 p8 p9 p10 p11 p12 p13):=⟨λkd h=>by
  simp only[LX,MM,or_false] at h
  rcases h with rfl | rfl
  ·exact⟨p0,rfl⟩
  ·exact⟨p11,rfl⟩,λkd h=>by
  simp only[LX,MM,or_false] at h
  rcases h with rfl | rfl | rfl | rfl | rfl | rfl
  ·exact⟨p1,rfl⟩
  ·exact⟨p2,rfl⟩
  ·exact⟨p3,rfl⟩
  ·exact⟨p4,rfl⟩
  ·exact⟨p5,rfl⟩
  ·exact⟨p6,rfl⟩,λkd h=>by
  simp only[LX,MM,or_false] at h
  rcases h with rfl | rfl
  ·exact⟨p7,rfl⟩
  ·exact⟨p8,rfl⟩,λkd h=>by
  simp only[LX,MM,or_false] at h
  rcases h with rfl | rfl
  ·exact⟨p9,rfl⟩
  ·exact⟨p10,rfl⟩,⟨p12,rfl⟩,⟨p13,rfl⟩⟩
 subst hB
 have bE:(MO CE::oO).contains (.type "BaseException")=true:=by rw[List.contains_cons,show oO.contains (.type "BaseException")=true by decide +kernel,Bool.or_true]
 subst hbmO
 have exO:Yx K CO (.ref CE::oO):=by
  refine⟨⟨nmO,qnO,NO,bsO,hdctO,snO,subO,abO,colO,ddO,y0O,y1O,y2O,y3O,y5O,lXO⟩,λh' X'=>?_,kXO⟩
  exact .own (X' CE _ lB) (zG X' lN uN) (ns_none_of X' (zG X' lN uN) iN) .base
 have hf:vK K CO "ring" := ⟨x1,x2,x3,g1O,g2O,g3O⟩
 have GF4:Zi l.prog w K mg 4 f14 _ ["self","name","elders"] (Mz CB CH):=λbase _ _=>by
  have GM:Aj l.prog w K mg base Bj 2 f1 _ ["rows","labels"] Sx:=lX F1 Tx F2 b2 (RB X G a2) F3 b3 (RB X G a3) F4 b4 (RB X G a4)
  have G5:Aj l.prog w K mg base Bj 3 f5 _ ["name","elders","orders"] eQ:=vQ F5 Tx GM u1.2.2 b1 (RB X G a1)
  have G6:Aj l.prog w K mg base Bj 1 f6 _ ["value"] Gj:=Ut F6 Tx
  have G12:Aj l.prog w K mg base Bj 1 f12 _ ["self","elder_row","order_row"] (Md CH):=aJ F12 T
  have G18:Aj l.prog w K mg base Bj 1 f18 _ ["self","name"] (Gd CB CH):=Zr F18 T
  have G16:Aj l.prog w K mg base Bj 2 f16 _ ["self","name"] (Na CB CH):=Xq F16 T Tx G18 b18 ⟨m18.1,m18.2,u18.2.2⟩
  exact pC F14 T Tx G16 b16 ⟨m16.1,m16.2,u16.2.2⟩ G6 u6.2.2 b6 (RB X G a6) G5 u5.2.2 b5 (RB X G a5) G12 b12 ⟨pkH.2.2.2.2.1,m12.1,m12.2,pkH.2.2.2.2.2⟩
 refine⟨fnOf "law" "law" (Ef Fy) (Bb Fy) (Ac Fy) .none kV11 dc11 pm11 an11 cd11 ct11,λs v=>.of_eq rfl,λbase hKb hGb=>?_⟩
 have G30:Aj l.prog w K mg base Ia 2 f30 _ ["rests","labels"] eC:=xD F30 Tx F31 b31 (RB X G a31) F32 b32 (RB X G a32)
 have GM:Aj l.prog w K mg base (Pl l.prog w) 3 f1 _ ["rows","labels"] (Og CO):=eN F1 Tx F2 b2 (RB X G a2) F3 b3 (RB X G a3) F4 b4 (RB X G a4) G30 u30.2.2 b30 (RB X G a30) F99 b99 (RB X G aXO) exO hf bE iC nC
 have G5:Aj l.prog w K mg base (Pl l.prog w) 4 f5 _ ["name","elders","orders"] (Wj CO):=rR F5 Tx GM u1.2.2 b1 (RB X G a1)
 have G6:Aj l.prog w K mg base Bj 1 f6 _ ["value"] Gj:=Ut F6 Tx
 have G12:Aj l.prog w K mg base Bj 1 f12 _ ["self","elder_row","order_row"] (Md CH):=aJ F12 T
 have G13:Aj l.prog w K mg base Bj 1 f13 _ ["self"] (Qj CB):=qH F13 T
 have G18:Aj l.prog w K mg base Bj 1 f18 _ ["self","name"] (Gd CB CH):=Zr F18 T
 have G16:Aj l.prog w K mg base Bj 2 f16 _ ["self","name"] (Na CB CH):=Xq F16 T Tx G18 b18 ⟨m18.1,m18.2,u18.2.2⟩
 have G14:Aj l.prog w K mg base (Pl l.prog w) 5 f14 _ ["self","name","elders"] (Mv CB CH CO):=lJ F14 T Tx G16 b16 ⟨m16.1,m16.2,u16.2.2⟩ G6 u6.2.2 b6 (RB X G a6) G5 u5.2.2 b5 (RB X G a5) G12 b12 ⟨pkH.2.2.2.2.1,m12.1,m12.2,pkH.2.2.2.2.2⟩
 have G7:Aj l.prog w K mg base Bj 1 f7 _ ["_law_script","_law_k"] (Wy K):=xT F7 Tx
 have G8:Aj l.prog w K mg base Bj 1 f8 _ ["_law_k","_law_cell"] yK:=EA F8 Tx
 have G19:Aj l.prog w K mg base Bj 1 f19 _ ["value","least","most"] Qk:=qB F19 Tx
 have G20:Aj l.prog w K mg base Bj 2 f20 _ ["value"] Sa:=oI F20 Tx G19 u19.2.2 b19 (RB X G a19)
 have G23:Aj l.prog w K mg base Bj 3 f23 _ ["part","kind"] gQ:=vD F23 Tx G19 u19.2.2 b19 (RB X G a19) G20 u20.2.2 b20 (RB X G a20) G6 u6.2.2 b6 (RB X G a6)
 have G22:Aj l.prog w K mg base Bj 4 f22 _ ["value"] (fV K (rK p0 p1 p2 p3 p4 p5 p6 p7 p8 p9 p10 p11 p12 p13)):=xG F22 Tx Tb (RB X G gP) G23 u23.2.2 b23 (RB X G a23)
 have G21:Aj l.prog w K mg base Bj 5 f21 _ ["value"] (Rm (rK p0 p1 p2 p3 p4 p5 p6 p7 p8 p9 p10 p11 p12 p13)):=lS F21 Tx G22 u22.2.2 b22 (RB X G a22)
 have G26:Aj l.prog w K mg base Bj 6 f26 _ ["self","name","word","body"] (Pz CB CH (rK p0 p1 p2 p3 p4 p5 p6 p7 p8 p9 p10 p11 p12 p13)):=qQ F26 T Tx G18 b18 ⟨m18.1,m18.2,u18.2.2⟩ G6 u6.2.2 b6 (RB X G a6) G21 u21.2.2 b21 (RB X G a21)
 have G27:Aj l.prog w K mg base Bj 2 f27 _ ["self","name","word"] (Rw CB CH):=oM F27 T Tx G18 b18 ⟨m18.1,m18.2,u18.2.2⟩
 have G29:Aj l.prog w K mg base Ia 2 f29 _ ["self","name"] (jG CB CH):=BL F29 T Tx G18 b18 ⟨m18.1,m18.2,u18.2.2⟩
 have G28:Aj l.prog w K mg base Bj 2 f28 _ ["self","name","word"] (Vz CB CH):=wO F28 T Tx G18 b18 ⟨m18.1,m18.2,u18.2.2⟩
 have G17:Aj l.prog w K mg base Bj 2 f17 _ ["self","name"] (Mu CB CH):=nP F17 T Tx G18 b18 ⟨m18.1,m18.2,u18.2.2⟩
 have G15:Aj l.prog w K mg base Ia 1 f15 _ ["self"] (Mc CB CH):=nB F15 T Tx
 have G55:Aj l.prog w K mg base Bj 1 f55 _ ["step"] Ri:=lZ F55 Tx
 have G54:Aj l.prog w K mg base Bj 2 f54 _ ["name","word","body"] Oe:=bX F54 G55 u55.2.2 b55 (RB X G a55)
 have G53:Aj l.prog w K mg base Bj 1 f53 _ ["name","elders"] Oa:=cZ F53
 have G43:Aj l.prog w K mg base Bj 1 f43 _ ["lines"] (Xj K):=sN F43
 have G42:Aj l.prog w K mg base Bj 1 f42 _ ["text"] (Wl K):=sL F42
 have G52:Aj l.prog w K mg base Ia 3 f52 _ ["book","name"] (Ot CB CH):=cW F52 T G29 b29 ⟨m29.1,m29.2,u29.2.2⟩ G28 b28 ⟨m28.1,m28.2,u28.2.2⟩ G17 b17 ⟨m17.1,m17.2,u17.2.2⟩ G54 u54.2.2 b54 (RB X G a54) G53 u53.2.2 b53 (RB X G a53) G43 u43.2.2 b43 (RB X G a43)
 have G41:Aj l.prog w K mg base Ia 4 f41 _ ["book"] (Np CB CH):=cT F41 T G15 b15 ⟨m15.1,m15.2,u15.2.2⟩ G52 u52.2.2 b52 (RB X G a52)
 have G51:Aj l.prog w K mg base Bj 1 f51 _ ["text"] eG:=xX F51 Tx (RB X G gM)
 have G50:Aj l.prog w K mg base Bj 2 f50 _ ["text"] Lu:=Yf F50 Tx G51 u51.2.2 b51 (RB X G a51)
 have G49:Aj l.prog w K mg base Bj 3 f49 _ ["text"] Le:=Yn F49 Tx G50 u50.2.2 b50 (RB X G a50)
 have G48:Aj l.prog w K mg base Bj 4 f48 _ ["text"] Ld:=Zj F48 G49 u49.2.2 b49 (RB X G a49)
 have G46:Aj l.prog w K mg base Bj 7 f46 _ ["book","line"] (Ku CB CH (rK p0 p1 p2 p3 p4 p5 p6 p7 p8 p9 p10 p11 p12 p13)):=eV F46 T Tx G26 b26 ⟨m26.1,m26.2,u26.2.2⟩ G48 u48.2.2 b48 (RB X G a48)
 have G47:Aj l.prog w K mg base Bj 5 f47 _ ["book","line"] (Kl CB CH):=gF F47 T Tx (GF4 base hKb hGb) b14_2 b14_3 ⟨m14.1,m14.2,k14⟩
 have G45:Aj l.prog w K mg base Bj 8 f45 _ ["book","line"] (Dh CB CH (rK p0 p1 p2 p3 p4 p5 p6 p7 p8 p9 p10 p11 p12 p13)):=oH F45 Tx G46 u46.2.2 b46 (RB X G a46) G47 u47.2.2 b47 (RB X G a47)
 have G44:Aj l.prog w K mg base Bj 9 f44 _ ["book","line","number"] (Vs CB CH (rK p0 p1 p2 p3 p4 p5 p6 p7 p8 p9 p10 p11 p12 p13)):=pJ F44 G45 u45.2.2 b45 (RB X G a45)
 have G40:Aj l.prog w K mg base Bj 10 f40 _ ["text"] (Vw CB CH (rK p0 p1 p2 p3 p4 p5 p6 p7 p8 p9 p10 p11 p12 p13)):=vV F40 T Tx G13 b13 ⟨pkB.2.2.2.2.1,m13.1,m13.2,pkB.2.2.2.2.2⟩ G42 u42.2.2 b42 (RB X G a42) G44 u44.2.2 b44 (RB X G a44)
 have G60:Aj l.prog w K mg base Ia 6 f60 _ ["_law_book","_law_above","_law_name","_law_cell"] (Ru CB CH):=mD F60 T Tx (RB X G aXO) (DD csO tyO beO sOO) G14 GF4 b14_3 ⟨m14.1,m14.2,k14⟩
 have G61:Aj l.prog w K mg base Bj 1 f61 _ ["_law_mixed"] Mh:=oW F61
 have G62:Aj l.prog w K mg base Bj 2 f62 _ ["_law_words","_law_cell"] (Sb (rK p0 p1 p2 p3 p4 p5 p6 p7 p8 p9 p10 p11 p12 p13)):=DZ F62 Tx Tp G61 u61.2.2 b61 (RB X G a61)
 have G63:Aj l.prog w K mg base Bj 1 f63 _ ["_law_known","_law_name","_law_word","_law_body"] Nk:=gC F63 Tx
 have G64:Aj l.prog w K mg base Bj 1 f64 _ ["_law_step"] Ll:=aT F64 Tx
 have G65:Aj l.prog w K mg base Ia 2 f65 _ ["_law_above","_law_known"] cK:=vN F65 Tx G64 u64.2.2 b64 (RB X G a64)
 have G66:Aj l.prog w K mg base Ia 3 f66 _ ["_law_book","_law_above","_law_known"] (Xi CB CH):=tU F66 T Tx G15 b15 ⟨m15.1,m15.2,u15.2.2⟩ G17 b17 ⟨m17.1,m17.2,u17.2.2⟩ G29 b29 ⟨m29.1,m29.2,u29.2.2⟩ G28 b28 ⟨m28.1,m28.2,u28.2.2⟩
 exact eX T Tx G7 u7.2.2 b7 (RB X G a7) G8 u8.2.2 b8 (RB X G a8) G60 u60.2.2 b60 (RB X G a60) G13 b13 ⟨pkB.2.2.2.2.1,m13.1,m13.2,pkB.2.2.2.2.2⟩ F11 λcdv A outer s H E hr Q=>
  mX (f:=fa) T Tx G7 u7.2.2 b7 (RB X G a7) G8 u8.2.2 b8 (RB X G a8) cdv A outer s H E hr Q
   (eZ (f:=fa) T Tx G62 u62.2.2 b62 (RB X G a62) G26 b26 ⟨m26.1,m26.2,u26.2.2⟩ G27 b27 ⟨m27.1,m27.2,u27.2.2⟩ G63 u63.2.2 b63 (RB X G a63) cdv A outer s H E hr Q
    (xH (f:=fa) Tx G65 u65.2.2 b65 (RB X G a65) G41 u41.2.2 b41 (RB X G a41) G66 u66.2.2 b66 (RB X G a66) G40 u40.2.2 b40 (RB X G a40) cdv A outer s H E hr Q))
theorem walk{l:PySem.W.OpenLaw}{q:MV}{loose:List Str}{XP:(Str->Option LP)->OS->Prop}{YP:NU->OS->Prop}{d:DefRec}{K:Params->LO}(hn:l.most=some 63)(hdf:d.params.defaults=[])(hY:∀(w:NU)(h:OS),YP w h->(K w.params).In h)(F:∀(w:NU)(mg:Str->Option LP)(fa:LZ)(h:OS),(K w.params).In h->h.Ns NW mg->mg d.name=some (.ref fa) ->
  ∃fd:NP,(∀(s:LV)(u:LP),BindsTo s fd ⟨[u],[]⟩ [("_law_script", u)])/\∀base:OS,(K w.params).In base->base.Ns NW mg->Aj l.prog w (K w.params) mg base Ia 11 fa fd ["_law_script"] (iJ (K w.params))):
 PySem.W.WalkO q loose XP YP l.row.toRowW d [] (λf vs=>PySem.call f vs):=
 L2.wL (n:=63) (k:=11) (x := "_law_script") (CX:=λ_=>Ia) (sp:=λw=>iJ (K w.params)) hn (by decide) hdf ⟨by decide,by decide⟩ hY F (λ_ _ a ns hl _ hS=>⟨a,ns,rfl,hS,hl,λ_=>rfl⟩) λ_ _ _ _ _ z=>z
end Bk
end
set_option Elab.async false
set_option linter.all false
namespace PySem.W.Fast
theorem tw4374663906725651936:True:=⟨⟩
theorem tw15351644099043193070:True:=⟨⟩
theorem tw5236929270905842479:True:=⟨⟩
theorem tw12091527583214768750:True:=⟨⟩
theorem tw16532277058673306317:True:=⟨⟩
theorem tw12419212760271016559:True:=⟨⟩
theorem tw6352613374257399241:True:=⟨⟩
theorem tw18213587759401846312:True:=⟨⟩
theorem tw1933518163447381933:True:=⟨⟩
theorem tw17486992157925756942:True:=⟨⟩
theorem tw18413131702704950687:True:=⟨⟩
theorem tw16976325764738014334:True:=⟨⟩
theorem tw9237355330252766192:True:=⟨⟩
theorem tw7459274912310743762:True:=⟨⟩
theorem tw12779950740602440592:True:=⟨⟩
theorem tw16772297270136599494:True:=⟨⟩
theorem tw6593888022451770388:True:=⟨⟩
theorem tw5957956817682516715:True:=⟨⟩
theorem tw14531496915350038926:True:=⟨⟩
theorem tw15698580780457932151:True:=⟨⟩
theorem tw4773575626484042507:True:=⟨⟩
theorem tw14128926709716002128:True:=⟨⟩
theorem tw12843656510255264757:True:=⟨⟩
theorem tw11758340271239379811:True:=⟨⟩
theorem tw14623461432420958609:True:=⟨⟩
theorem tw2810523886365543278:True:=⟨⟩
theorem tw11679542215737962627:True:=⟨⟩
theorem tw15592182847869634159:True:=⟨⟩
theorem tw12066545422038047352:True:=⟨⟩
theorem tw15116818178259721020:True:=⟨⟩
theorem tw7533636612295809570:True:=⟨⟩
theorem tw5492626566295798903:True:=⟨⟩
theorem tw3955977862834229975:True:=⟨⟩
theorem tw9273386923894810358:True:=⟨⟩
theorem tw6443962051650699141:True:=⟨⟩
theorem tw12143818497170710851:True:=⟨⟩
theorem tw13155519311352079435:True:=⟨⟩
theorem tw100710112437661333:True:=⟨⟩
theorem tw6972019590970551261:True:=⟨⟩
theorem tw14584244773666617994:True:=⟨⟩
theorem tw14922245028083561583:True:=⟨⟩
theorem tw10800856685798315836:True:=⟨⟩
theorem tw13993050438678758014:True:=⟨⟩
theorem tw10053573941780128199:True:=⟨⟩
theorem tw323520323901675262:True:=⟨⟩
theorem tw4282778619408178594:True:=⟨⟩
theorem tw14013790413409689772:True:=⟨⟩
theorem tw17846152953412307138:True:=⟨⟩
theorem tw15513059605293108142:True:=⟨⟩
theorem tw4216659304344641140:True:=⟨⟩
theorem tw1696649937869378389:True:=⟨⟩
theorem tw12898968927537504352:True:=⟨⟩
theorem tw7454082882765957880:True:=⟨⟩
theorem tw17381609155512384513:True:=⟨⟩
theorem tw9914460125434376581:True:=⟨⟩
theorem tw784227739462521280:True:=⟨⟩
theorem tw6290849335008631875:True:=⟨⟩
theorem tw16475321552171368591:True:=⟨⟩
theorem tw14053460665467307845:True:=⟨⟩
theorem tw8819906253511940741:True:=⟨⟩
theorem tw12012047190108198572:True:=⟨⟩
theorem tw16898144881667640371:True:=⟨⟩
theorem tw18215797978664469392:True:=⟨⟩
theorem tw18123029783704269093:True:=⟨⟩
theorem tw6454921020460703497:True:=⟨⟩
theorem tw12210179216220644355:True:=⟨⟩
theorem tw3154840574511470054:True:=⟨⟩
theorem tw10100318763763699955:True:=⟨⟩
theorem tw1181556937576475533:True:=⟨⟩
theorem tw9269709432860844801:True:=⟨⟩
theorem tw16675239437207068670:True:=⟨⟩
theorem tw9524894748792989316:True:=⟨⟩
theorem tw17303794457861248168:True:=⟨⟩
theorem tw11148747037185321951:True:=⟨⟩
theorem tw10628692375058443498:True:=⟨⟩
theorem tw12078582010067598718:True:=⟨⟩
theorem tw2488010014780652412:True:=⟨⟩
theorem tw6077630595483153335:True:=⟨⟩
theorem tw5252147806187676463:True:=⟨⟩
theorem tw4387448074541154527:True:=⟨⟩
theorem tw3260802657019453531:True:=⟨⟩
theorem tw2812013478612359155:True:=⟨⟩
theorem tw95156152146570874:True:=⟨⟩
theorem tw11842512079780042680:True:=⟨⟩
theorem tw10956136602111988741:True:=⟨⟩
theorem tw5638872886266192285:True:=⟨⟩
theorem tw1019892335046018870:True:=⟨⟩
theorem tw2192258361793062052:True:=⟨⟩
theorem tw16190196980055470246:True:=⟨⟩
theorem tw3223120970327994737:True:=⟨⟩
theorem tw13099068707560308696:True:=⟨⟩
theorem tw491820733344742866:True:=⟨⟩
theorem tw11762699817591043228:True:=⟨⟩
theorem tw9438734337329001011:True:=⟨⟩
theorem tw17932985914979185647:True:=⟨⟩
theorem tw8164170241997711499:True:=⟨⟩
theorem tw12316800827851170086:True:=⟨⟩
theorem tw13450561803361960411:True:=⟨⟩
theorem tw7439797122742167834:True:=⟨⟩
theorem tw9156429659189308036:True:=⟨⟩
theorem tw8010276773738924402:True:=⟨⟩
theorem tw1120998945303548625:True:=⟨⟩
theorem tw4367412544049890180:True:=⟨⟩
theorem tw14525930243311179168:True:=⟨⟩
theorem tw1114560460940698137:True:=⟨⟩
theorem tw9388667772426624735:True:=⟨⟩
theorem tw4487431833927589034:True:=⟨⟩
theorem tw2176325081436912470:True:=⟨⟩
theorem tw17769074942321078320:True:=⟨⟩
theorem tw6242260901313622999:True:=⟨⟩
theorem tw14198473064573916245:True:=⟨⟩
theorem tw9124706017201652476:True:=⟨⟩
theorem tw18411501050869390186:True:=⟨⟩
theorem tw3787766748834321096:True:=⟨⟩
theorem tw142232488121699757:True:=⟨⟩
theorem tw2930206569091192187:True:=⟨⟩
theorem tw709322142377296926:True:=⟨⟩
theorem tw1466489590055942260:True:=⟨⟩
theorem tw14847244329881879798:True:=⟨⟩
theorem tw16367574755762296520:True:=⟨⟩
theorem tw18397630234311951417:True:=⟨⟩
theorem tw2420832503424633039:True:=⟨⟩
theorem tw3275342769963162433:True:=⟨⟩
theorem tw14652417087015353312:True:=⟨⟩
theorem tw12039573498634212141:True:=⟨⟩
theorem tw15875720396995590947:True:=⟨⟩
theorem tw13482932476678857249:True:=⟨⟩
theorem tw8028340079616987871:True:=⟨⟩
theorem tw15702725051656098812:True:=⟨⟩
theorem tw15479039979207297048:True:=⟨⟩
theorem tw5095790562707311540:True:=⟨⟩
theorem tw7652102825243297876:True:=⟨⟩
theorem tw10181334810268024882:True:=⟨⟩
theorem tw13692341733349088725:True:=⟨⟩
theorem tw4241194742532025166:True:=⟨⟩
theorem tw4258405988785520898:True:=⟨⟩
theorem tw11690275357243392202:True:=⟨⟩
theorem tw121827148808896496:True:=⟨⟩
theorem tw11212326954336800031:True:=⟨⟩
theorem tw5862145587657984735:True:=⟨⟩
theorem tw3943117251610229110:True:=⟨⟩
theorem tw17419708881619118933:True:=⟨⟩
theorem tw13249708107686042545:True:=⟨⟩
theorem tw18121646090929720402:True:=⟨⟩
theorem tw12420392060367226234:True:=⟨⟩
theorem tw7521477788336880142:True:=⟨⟩
theorem tw12434025425596794105:True:=⟨⟩
theorem tw10884739328444724825:True:=⟨⟩
theorem tw17379638457726966970:True:=⟨⟩
theorem tw8773828854250031759:True:=⟨⟩
theorem tw4186020989480038291:True:=⟨⟩
theorem tw2541057741647368022:True:=⟨⟩
theorem tw12111620628371976345:True:=⟨⟩
theorem tw8030159206584987471:True:=⟨⟩
theorem tw2805718900671773909:True:=⟨⟩
theorem tw12583852795356528379:True:=⟨⟩
theorem tw17234556064858790448:True:=⟨⟩
theorem tw3771166853526037487:True:=⟨⟩
theorem tw7753984956292280120:True:=⟨⟩
theorem tw83571674405210578:True:=⟨⟩
theorem tw11333847108269708685:True:=⟨⟩
theorem tw16968512550849052273:True:=⟨⟩
theorem tw16662889962963496565:True:=⟨⟩
theorem tw3792136768735045311:True:=⟨⟩
theorem tw4672623256564055066:True:=⟨⟩
theorem tw3877885824136765282:True:=⟨⟩
theorem tw4483762608005101043:True:=⟨⟩
theorem tw9485432237310775779:True:=⟨⟩
theorem tw17616329132167356968:True:=⟨⟩
theorem tw8132205298641474305:True:=⟨⟩
theorem tw10956323024095236435:True:=⟨⟩
theorem tw2448155127602217740:True:=⟨⟩
theorem tw4630957406704487453:True:=⟨⟩
theorem tw2857075594254878476:True:=⟨⟩
theorem tw4554322039688178211:True:=⟨⟩
theorem tw9438309002964461794:True:=⟨⟩
theorem tw13409367110619604812:True:=⟨⟩
theorem tw16016318215366822443:True:=⟨⟩
theorem tw6596673124182863705:True:=⟨⟩
theorem tw6504938729577853770:True:=⟨⟩
theorem tw18007676640975124232:True:=⟨⟩
theorem tw15397789971508268482:True:=⟨⟩
theorem tw3212835777135314485:True:=⟨⟩
theorem tw17819128716116795637:True:=⟨⟩
theorem tw3352754101322305138:True:=⟨⟩
theorem tw15296488603180596738:True:=⟨⟩
theorem tw11428644079421420835:True:=⟨⟩
theorem tw10053741155845382537:True:=⟨⟩
theorem tw2571656252931690764:True:=⟨⟩
theorem tw11850341266773111754:True:=⟨⟩
theorem tw18136772426568866635:True:=⟨⟩
theorem tw783475219387307739:True:=⟨⟩
theorem tw5751574630639550726:True:=⟨⟩
theorem tw7770754303107404014:True:=⟨⟩
theorem tw8022120857297685865:True:=⟨⟩
theorem tw5160613860541778859:True:=⟨⟩
theorem tw8871203707700854947:True:=⟨⟩
theorem tw16630820101156185501:True:=⟨⟩
theorem tw6547980032019893226:True:=⟨⟩
theorem tw11100793721012591884:True:=⟨⟩
theorem tw17058141049913322814:True:=⟨⟩
theorem tw14107640354504832158:True:=⟨⟩
theorem tw1673471421586650991:True:=⟨⟩
theorem tw19445593111371011:True:=⟨⟩
theorem tw16483561614644452962:True:=⟨⟩
theorem tw1447976129133687810:True:=⟨⟩
theorem tw7989058849006470469:True:=⟨⟩
theorem tw9396696377855853250:True:=⟨⟩
theorem tw17250434499664548130:True:=⟨⟩
theorem tw8750549946500289739:True:=⟨⟩
theorem tw17656092848710090129:True:=⟨⟩
theorem tw6049270657706719280:True:=⟨⟩
theorem tw17467153579357382889:True:=⟨⟩
theorem tw4115865453759174005:True:=⟨⟩
theorem tw10463286150126232138:True:=⟨⟩
theorem tw3818284994836802898:True:=⟨⟩
theorem tw5166885257364976850:True:=⟨⟩
theorem tw7721691536651422247:True:=⟨⟩
theorem tw4412523773837464411:True:=⟨⟩
theorem tw11059577731062113841:True:=⟨⟩
theorem tw9203900106458688970:True:=⟨⟩
theorem tw2740266415328719763:True:=⟨⟩
theorem tw10001033541062878203:True:=⟨⟩
theorem tw14337634420100269225:True:=⟨⟩
theorem tw7743232657888051212:True:=⟨⟩
theorem tw11529161310994944698:True:=⟨⟩
theorem tw17879986539026309198:True:=⟨⟩
theorem tw6383073377545673419:True:=⟨⟩
theorem tw15257757370573068058:True:=⟨⟩
theorem tw2323013252343005615:True:=⟨⟩
theorem tw6906753639260647157:True:=⟨⟩
theorem tw11316147646002306815:True:=⟨⟩
theorem tw7747759598209768685:True:=⟨⟩
theorem tw17088315528090806432:True:=⟨⟩
theorem tw13588136329737002427:True:=⟨⟩
theorem tw6307495439668131569:True:=⟨⟩
theorem tw14737929908440323841:True:=⟨⟩
theorem tw12621367960552526064:True:=⟨⟩
theorem tw8030795507286141382:True:=⟨⟩
theorem tw3400102589587436444:True:=⟨⟩
theorem tw11956109613360488833:True:=⟨⟩
theorem tw2601054141374533699:True:=⟨⟩
theorem tw3197052155677772013:True:=⟨⟩
theorem tw7067683780372693489:True:=⟨⟩
theorem tw17604979296638157063:True:=⟨⟩
theorem tw8461251797060053302:True:=⟨⟩
theorem tw12414396390879258569:True:=⟨⟩
theorem tw13376311353056713216:True:=⟨⟩
theorem tw9747631957646244587:True:=⟨⟩
theorem tw14215606087504296846:True:=⟨⟩
theorem tw4542442524987265973:True:=⟨⟩
theorem tw7880666649129197393:True:=⟨⟩
theorem tw2469545147051568818:True:=⟨⟩
theorem tw11689491320674951483:True:=⟨⟩
theorem tw17007863134169093813:True:=⟨⟩
theorem tw4306176873036991568:True:=⟨⟩
theorem tw3087145995056528588:True:=⟨⟩
theorem tw8028790548166558058:True:=⟨⟩
theorem tw3493148537908009559:True:=⟨⟩
theorem tw16564009221247755394:True:=⟨⟩
theorem tw7577762693953745850:True:=⟨⟩
theorem tw5556912741893421509:True:=⟨⟩
theorem tw5460287917360953711:True:=⟨⟩
theorem tw3182387200917432587:True:=⟨⟩
theorem tw5097353712930943283:True:=⟨⟩
theorem tw13711041850883195536:True:=⟨⟩
theorem tw1941350078178288496:True:=⟨⟩
theorem tw8688912703711253702:True:=⟨⟩
theorem tw9790521535727625311:True:=⟨⟩
theorem tw3135680435421407841:True:=⟨⟩
theorem tw4695441701431509227:True:=⟨⟩
end PySem.W.Fast
open PySem PySem.W PyProof.Rows
set_option maxHeartbeats 0 in
theorem PySem.Challenge.cw_elderline_k12_written_holds : PySem.Challenge.rw_elderline_k12_written.Holds := by
  w_on; o_law; k_head; (case hw => w_witness2)
  k_fill
  refine Bk.walk (l := PySem.Challenge.rw_elderline_k12_written) rfl rfl (fun w h Y => PySem.W.kIn_of Y) ?F
  case F =>
    intro w mg fa h KX G hmg
    refine' Bk.BN KX G hmg ?aCB ?pkB ?nB_by_name ?aCH ?pkH ?nH_elder_row ?nH_order_row ?nH_bodies ?a1 ?u1 ?a2 ?u2 ?a3 ?u3 ?a4 ?u4 ?a5 ?u5 ?a6 ?u6 ?a7 ?u7 ?a8 ?u8 ?a11 ?u11 ?m12 ?u12 ?m13 ?u13 ?m14 ?l14 ?c14 ?k14 ?lT14 ?m15 ?u15 ?m16 ?u16 ?m17 ?u17 ?m18 ?u18 ?a19 ?u19 ?a20 ?u20 ?a21 ?u21 ?a22 ?u22 ?a23 ?u23 ?m26 ?u26 ?m27 ?u27 ?m29 ?u29 ?m28 ?u28 ?a30 ?u30 ?a31 ?u31 ?a32 ?u32 ?a40 ?u40 ?a41 ?u41 ?a42 ?u42 ?a43 ?u43 ?a44 ?u44 ?a45 ?u45 ?a46 ?u46 ?a47 ?u47 ?a48 ?u48 ?a49 ?u49 ?a50 ?u50 ?a51 ?u51 ?a52 ?u52 ?a53 ?u53 ?a54 ?u54 ?a55 ?u55 ?a60 ?u60 ?a61 ?u61 ?a62 ?u62 ?a63 ?u63 ?a64 ?u64 ?a65 ?u65 ?a66 ?u66 ?z1 ?z2 ?z3 ?z4 ?z5 ?z6 ?z7 ?z8 ?z9 ?z10 ?z11 ?z12 ?z13 ?z14 ?z15 ?gP ?aXO ?gM ?aE ?lP ?hes ?smP ?q0 ?q1 ?q2 ?q3 ?q4 ?q5 ?q6 ?q7 ?q8 ?q9 ?q10 ?q11 ?q12 ?q13 ?lXO ?kXO ?hbmO ?csO ?tyO ?beO ?sOO ?lB ?hB ?lN ?uN ?iN ?iC ?nC ?l99 ?c99 ?k99 ?x1 ?x2 ?x3 ?g1O ?g2O ?g3O
    (case aCB => k_is)
    (case pkB => exact ⟨by k_is, by k_is, by k_is, by k_is, by k_is, by k_is⟩)
    (case nB_by_name | aCH => k_is)
    (case pkH => exact ⟨by k_is, by k_is, by k_is, by k_is, by k_is, by k_is⟩)
    (case nH_elder_row | nH_order_row | nH_bodies => k_is)
    (case a1 => show _ = _; k_is)
    (case u1 => exact ⟨by k_is, by k_is, by k_is⟩)
    (case a2 => show _ = _; k_is)
    (case u2 => exact ⟨by k_is, by k_is, by k_is⟩)
    (case a3 => show _ = _; k_is)
    (case u3 => exact ⟨by k_is, by k_is, by k_is⟩)
    (case a4 => show _ = _; k_is)
    (case u4 => exact ⟨by k_is, by k_is, by k_is⟩)
    (case a5 => show _ = _; k_is)
    (case u5 => exact ⟨by k_is, by k_is, by k_is⟩)
    (case a6 => show _ = _; k_is)
    (case u6 => exact ⟨by k_is, by k_is, by k_is⟩)
    (case a7 => show _ = _; k_is)
    (case u7 => exact ⟨by k_is, by k_is, by k_is⟩)
    (case a8 => show _ = _; k_is)
    (case u8 => exact ⟨by k_is, by k_is, by k_is⟩)
    (case a11 => show _ = _; k_is)
    (case u11 => exact ⟨by k_is, by k_is, by k_is⟩)
    (case m12 => exact ⟨by k_is, by k_is⟩)
    (case u12 => exact ⟨by k_is, by k_is, by k_is⟩)
    (case m13 => exact ⟨by k_is, by k_is⟩)
    (case u13 => exact ⟨by k_is, by k_is, by k_is⟩)
    (case m14 => exact ⟨by k_is, by k_is⟩)
    (case l14 | c14 | k14 | lT14 => k_is)
    (case m15 => exact ⟨by k_is, by k_is⟩)
    (case u15 => exact ⟨by k_is, by k_is, by k_is⟩)
    (case m16 => exact ⟨by k_is, by k_is⟩)
    (case u16 => exact ⟨by k_is, by k_is, by k_is⟩)
    (case m17 => exact ⟨by k_is, by k_is⟩)
    (case u17 => exact ⟨by k_is, by k_is, by k_is⟩)
    (case m18 => exact ⟨by k_is, by k_is⟩)
    (case u18 => exact ⟨by k_is, by k_is, by k_is⟩)
    (case a19 => show _ = _; k_is)
    (case u19 => exact ⟨by k_is, by k_is, by k_is⟩)
    (case a20 => show _ = _; k_is)
    (case u20 => exact ⟨by k_is, by k_is, by k_is⟩)
    (case a21 => show _ = _; k_is)
    (case u21 => exact ⟨by k_is, by k_is, by k_is⟩)
    (case a22 => show _ = _; k_is)
    (case u22 => exact ⟨by k_is, by k_is, by k_is⟩)
    (case a23 => show _ = _; k_is)
    (case u23 => exact ⟨by k_is, by k_is, by k_is⟩)
    (case m26 => exact ⟨by k_is, by k_is⟩)
    (case u26 => exact ⟨by k_is, by k_is, by k_is⟩)
    (case m27 => exact ⟨by k_is, by k_is⟩)
    (case u27 => exact ⟨by k_is, by k_is, by k_is⟩)
    (case m29 => exact ⟨by k_is, by k_is⟩)
    (case u29 => exact ⟨by k_is, by k_is, by k_is⟩)
    (case m28 => exact ⟨by k_is, by k_is⟩)
    (case u28 => exact ⟨by k_is, by k_is, by k_is⟩)
    (case a30 => show _ = _; k_is)
    (case u30 => exact ⟨by k_is, by k_is, by k_is⟩)
    (case a31 => show _ = _; k_is)
    (case u31 => exact ⟨by k_is, by k_is, by k_is⟩)
    (case a32 => show _ = _; k_is)
    (case u32 => exact ⟨by k_is, by k_is, by k_is⟩)
    (case a40 => show _ = _; k_is)
    (case u40 => exact ⟨by k_is, by k_is, by k_is⟩)
    (case a41 => show _ = _; k_is)
    (case u41 => exact ⟨by k_is, by k_is, by k_is⟩)
    (case a42 => show _ = _; k_is)
    (case u42 => exact ⟨by k_is, by k_is, by k_is⟩)
    (case a43 => show _ = _; k_is)
    (case u43 => exact ⟨by k_is, by k_is, by k_is⟩)
    (case a44 => show _ = _; k_is)
    (case u44 => exact ⟨by k_is, by k_is, by k_is⟩)
    (case a45 => show _ = _; k_is)
    (case u45 => exact ⟨by k_is, by k_is, by k_is⟩)
    (case a46 => show _ = _; k_is)
    (case u46 => exact ⟨by k_is, by k_is, by k_is⟩)
    (case a47 => show _ = _; k_is)
    (case u47 => exact ⟨by k_is, by k_is, by k_is⟩)
    (case a48 => show _ = _; k_is)
    (case u48 => exact ⟨by k_is, by k_is, by k_is⟩)
    (case a49 => show _ = _; k_is)
    (case u49 => exact ⟨by k_is, by k_is, by k_is⟩)
    (case a50 => show _ = _; k_is)
    (case u50 => exact ⟨by k_is, by k_is, by k_is⟩)
    (case a51 => show _ = _; k_is)
    (case u51 => exact ⟨by k_is, by k_is, by k_is⟩)
    (case a52 => show _ = _; k_is)
    (case u52 => exact ⟨by k_is, by k_is, by k_is⟩)
    (case a53 => show _ = _; k_is)
    (case u53 => exact ⟨by k_is, by k_is, by k_is⟩)
    (case a54 => show _ = _; k_is)
    (case u54 => exact ⟨by k_is, by k_is, by k_is⟩)
    (case a55 => show _ = _; k_is)
    (case u55 => exact ⟨by k_is, by k_is, by k_is⟩)
    (case a60 => show _ = _; k_is)
    (case u60 => exact ⟨by k_is, by k_is, by k_is⟩)
    (case a61 => show _ = _; k_is)
    (case u61 => exact ⟨by k_is, by k_is, by k_is⟩)
    (case a62 => show _ = _; k_is)
    (case u62 => exact ⟨by k_is, by k_is, by k_is⟩)
    (case a63 => show _ = _; k_is)
    (case u63 => exact ⟨by k_is, by k_is, by k_is⟩)
    (case a64 => show _ = _; k_is)
    (case u64 => exact ⟨by k_is, by k_is, by k_is⟩)
    (case a65 => show _ = _; k_is)
    (case u65 => exact ⟨by k_is, by k_is, by k_is⟩)
    (case a66 => show _ = _; k_is)
    (case u66 => exact ⟨by k_is, by k_is, by k_is⟩)
    (case z1 | z2 | z3 | z4 | z5 | z6 | z7 | z8 | z9 | z10 | z11 | z12 | z13 | z14 | z15 | gP | aXO | gM | aE | lP => k_is)
    (case hes => rfl)
    (case smP => rfl)
    (case q0 | q1 | q2 | q3 | q4 | q5 | q6 | q7 | q8 | q9 | q10 | q11 | q12 | q13 | lXO | kXO => k_is)
    (case hbmO => rfl)
    (case csO | tyO | beO | sOO | lB => k_is)
    (case hB => rfl)
    (case lN => k_is)
    (case uN => rfl)
    (case iN | iC | nC | l99 | c99 | k99 | x1 | x2 | x3 | g1O | g2O | g3O => k_is)

