import PyProof.Rows.All
import Wide.All
import OpenK.AllK
import Wide.FinOn
import PyProof.EqAt
import PyProof.EqKinds
import PyProof.TupleCall
import PyProof.DictIter
import PyProof.FitsBits
import PyProof.NoPylong
import PyProof.DictItems
import KE.KDictOf
import PyProof.AttrMissHeap
import Lean
import PySem.Challenge.RW_elderline_k16_whole_house_ahead
open PySem renaming wpAny_bind -> JA, Value -> JD, Shared -> JH, Addr -> JK, sizeLine -> JM, wpAny_pure -> JO, Program -> KC, sizeLine_eq -> KO, starEach -> KQ, wpAny -> KR, model -> KU, wpAny_field -> KY, FuncData -> LB, mainGlobals -> LC, Around -> LI, wpAny_callSpecial?_slot -> LK, World -> LL, wpAny_call_entry -> MC, wpAny_setField -> MM, Heap -> MQ, wpAny_seqItems -> MX, wpAny_mono -> MY, Builtin -> NA, wpAny_holding -> NC, wpAny_setField_rec -> NV, wpAny_truthy_bool -> OD, sysModules -> OE, codeAny_builtin -> ON, wpAny_Call_Name_kw -> OO, Stmt -> OQ, compareOp -> OS, wpAny_attempt -> OV, pyNext -> OW, eval -> OX, wpAny_rule -> OY, wpAny_newObj_type -> OZ, strKind -> PD, codeAny_mono -> PQ, bootBuiltins -> PR, IsPair -> QF, rawInt -> QJ, backTo -> QK, binaryOp -> QM, wpAny_passesOwn -> QT, keywordEach -> QU, wpAny_standAt -> RA, wpAny_loadPart_at -> RB, plainId_quiet -> RC, attributeBase -> RD, mem_of_lookup -> RE, Paired -> RK, DictEntry -> RO, wpAny_isInstance -> RS, wpAny_letGo -> RT, codeAny -> RV, wpAny_call -> RW, tupleKind_room_in1 -> SE, behindInMarks -> SG, ExceptHandler -> SK, wpAny_pyNext_list_item -> SQ
open List renaming getElem?_eq_some_iff -> JB, length_map -> JF, getElem?_eq_getElem -> JG, length_append -> JJ, mem_singleton -> JL, mem_cons -> JP, mem_cons_of_mem -> JQ, mem_cons_self -> JS, map_append -> JT, length_singleton -> JU, mem_append_right -> JX, mem_of_getElem? -> JY, getElem?_concat_length -> KA, not_mem_nil -> KG, getElem?_append_left -> KH, mem_append -> KI, getElem?_map -> KJ, lookup_cons -> KN, size_toArray -> KP, replicate -> KZ, getD_eq_getElem?_getD -> LF, take_of_length_le -> LJ, mem_map -> LM, length_cons -> LN, nodup_cons -> LQ, map_cons -> LU, append_nil -> LX, take_add_one -> MD, mem_append_left -> MG, getElem?_of_mem -> MI, drop_eq_getElem_cons -> ML, length_drop -> MR, getElem?_set_ne -> NJ, length_take -> NN, length_replicate -> NQ, getElem?_set_self -> NW, drop_eq_nil_of_le -> NX, nodup_append -> OA, append_assoc -> OB, getElem_mem -> OJ, nodup_nil -> OR, length_reverse -> OU, mem_of_mem_drop -> PP, getElem?_replicate -> QA, all_eq_true -> QE, find?_cons_of_pos -> QH, find?_cons_of_neg -> QI, mem_or_eq_of_mem_set -> QY, lookup -> RF, map_drop -> RL, getElem?_drop -> RM, find?_cons -> RN, range -> SD, cons_lt_cons_iff -> SI, replicate_succ' -> SR
open PySem.W renaming Frag -> JC, keepIn -> JR, findIn -> MF, kia_one -> NM, callWith_K -> NR, mg_of -> NT, emptyDict -> NZ, mg_none_of -> OH, methodCall_KW -> PF, Looks -> PJ, instObj -> PU, fnOf -> PY, kitOne -> QG, exmOne -> QV, findIn -> RU
open PySem.Heap renaming get?_push_of_some -> JE, lt_size -> JW, get?_push_size -> JZ, get?_update_other -> LP, get?_update_self -> MS, ExtBut -> OF, size_push -> OL
open Nat renaming le_refl -> JI, ne_of_lt -> KL, le_trans -> KS, lt_of_lt_of_le -> LD, zero_le -> LG, ne_of_gt -> OC, le_succ -> OI, lt_irrefl -> PK, lt_succ_self -> QC, le_add_right -> QD, lt_of_le_of_lt -> QL, le_of_eq -> QP, lt_succ_of_lt -> SA
open Bool renaming false_ne_true -> JN, and_eq_true -> ME, eq_false_iff -> NG, false_eq_true -> PM, false_and -> QZ, true_and -> RQ
open PySem.Value renaming ref -> JV, none -> MU, type -> OP
open Sum renaming inr -> KD, inl -> NE
open Option.some renaming inj -> KW
open Ne renaming symm -> LH
open Int renaming toNat_natCast -> LR, emod_lt_of_pos -> LV, emod_nonneg -> LY, eq_ofNat_of_zero_le -> NF
open PySem.Builtin.SmallTypes renaming nextOf -> LW, ownedTupleIsFree -> MV
open False renaming elim -> LZ
open PySem.PassesOwn renaming never -> MJ
open PySem.F renaming plainAttrs_list -> MK, type_list_append -> MN, slot_list_append -> MO, called_set -> OG, slot_dict_get -> QO, excBase_ValueError -> QQ, slot_tuple_iterator_next -> RI, plainAttrs_dict -> RJ, slot_zip_next -> SJ
open PySem.NameKind renaming free -> MP
open PyProof.Rows renaming boot_isinstance -> MW, callWith_type1 -> ND, boot_list -> NL, envOfC -> PZ, slot_tuple_getitem -> RZ
open PySem.PyData renaming keyHash -> MZ
open PySem.Str renaming ofString -> NH
open Array renaming getElem?_eq_some_iff -> NI, length_toList -> RG, getElem?_toList -> SO
open PySem.Paired renaming length -> NK
open PySem.SeqAt renaming EqAt -> NP
open PySem.Around renaming under_plainId -> NY
open PySem.Builtin renaming bitNot -> OM
open Sum.inr renaming inj -> OT
open True renaming intro -> PB
open PySem.Calls renaming callWith_builtin -> PN, spliced_cons -> QS
open PySem.Obj renaming mapFields -> PX, data_mapFields -> QR, isFreed_of_fields -> QX, mapSeq -> RX
open PySem.Heap.SameBut renaming update -> QN
open PyProof.Rows.F renaming plain_set_update_loop -> QW
open Option renaming isSome_iff_exists -> RH
open PySem.Builtin.Slice renaming slicePlaces -> RP
open PySem.Builtin.Tuple renaming tupleExact -> RY
open PySem.Txt renaming slice -> SH
open PySem.Code renaming quiet_builtin -> SL
open PySem.Builtin.Range renaming rangeSize -> SN
noncomputable section
set_option Elab.async false
set_option linter.all false
set_option maxRecDepth 100000
set_option maxHeartbeats 4000000
namespace L2
open PySem PySem.Spec PyProof.Rows
def Bp(A:LI)(h:MQ):Prop:=A.handled=none ∨ ∃(x:JK)(o:Obj)(vs:Array JD),A.handled=some (.ref x)/\h.get? x=some o/\o.data=.fields vs/\vs[2]? = some .none
theorem Rp:entryFor table "proto.unchain" = some Builtin.«proto.unchain» := entryFor_of_fast (by kernel_rfl)
section
variable {prog:KC} {w:LL} {A:LI} {s:JH} {E:JD->JH->Prop}
theorem Wf{e:JD}{x:JK}{o:Obj}{vs:Array JD}{Q:JD->JH->Prop}(g:s.heap.get? x=some o)(d:o.data=.fields vs)(c:vs[2]? = some .none)(h:Q .none s):
 KR (KU prog w) A (runValue (.builtin "proto.unchain" ⟨[e,.ref x,.ref x,.bool false],[]⟩)) Q E s:=by
 refine wpAny_runValue (ON Rp ?_)
 show KR _ _ (field (.ref x) 2 >>= _) _ _ s
 refine JA (KY g d c ?_)
 dsimp only
 rw[if_pos (show (MU == MU)=true from rfl)]
 exact JO h
theorem Zj{α:Type}{a x:JK}{oa o:Obj}{us vs:Array JD}{Q:α->JH->Prop}(hh:A.handled=some (.ref x))(ne:x≠a)(g:s.heap.get? x=some o)(d:o.data=.fields vs)(c:vs[2]? = some .none)(ga:s.heap.get? a=some oa)(da:oa.data=.fields us)(h2:2 < us.size)(h:E (.ref a) { s with heap:=s.heap.update a (PX (·.setIfInBounds 2 (.ref x))) }):KR (KU prog w) A (raiseNew (.ref a):Sem α) Q E s:=by
 unfold raiseNew
 refine JA (wpAny_handled ?_)
 rw[hh]
 dsimp only
 rw[if_pos (show ((JV x != JV a)=true) by simp[ne])]
 refine JA ?_
 refine NC (Wf g d c ?_)
 exact JA (MM (i:=2) ga da h2 (wpAny_throw h))
theorem Dr{α:Type}{Q:α->JH->Prop}(hh:Bp A s.heap)(h:∀(h':MQ)(e:JK),(∀b o,s.heap.get? b=some o->h'.get? b=some o)->Shared.TypeIs { s with heap:=h' } (.ref e) "StopIteration" -> E (.ref e) { s with heap:=h' }):
 KR (KU prog w) A (newExc (.type "StopIteration") [] >>= λe=>(raiseNew e:Sem α)) Q E s:=by
 have z6:∀ {x:JD},(#[x,.none,.none,.none,.bool false,.none]++ownMembersOf (.type "StopIteration") []:Array JD).size=6:=λ{x}=>rfl
 refine JA ?_
 unfold newExc newTuple
 refine JA (OZ ?_ (by size_fits))
 refine JA (wpAny_of_eq (a:=MU) (by first | rfl | (unfold firstArgMember;rfl)) (OZ ?_ (by size_fits)))
 have kp:∀(T X:Obj)(b:JK)(o:Obj),s.heap.get? b=some o->((s.heap.push T).push X).get? b=some o:=λT X b o e=>JE _ (JE _ e)
 rcases hh with hn | ⟨x,o,vs,hx,g,d,c⟩
 ·unfold raiseNew
  refine JA (wpAny_handled ?_)
  rw[hn]
  exact wpAny_throw (h _ _ (kp _ _) ⟨_,JZ _ rfl,rfl⟩)
 ·have lt:x≠(s.heap.push { cls:=.type "tuple", data:=.seq #[] }).objs.size:=λz=>by
   have e1:=JE { cls:=.type "tuple", data:=.seq #[] } g
   rw[z] at e1
   exact absurd e1 (by simp[Heap.get?])
  have ne:∀(b:JK)(o:Obj),s.heap.get? b=some o->(s.heap.push { cls:=.type "tuple", data:=.seq #[] }).objs.size≠b:=λb o e z=>by
   have e1:=JE { cls:=.type "tuple", data:=.seq #[] } e
   rw[<- z] at e1
   exact absurd e1 (by simp[Heap.get?])
  refine Zj hx lt (kp _ _ _ _ g) d c (JZ _ rfl) rfl (by show 2 < 6;decide) (h _ _ (λb o e=>?_) ?_)
  ·rw[LP _ _ (ne b o e)]
   exact kp _ _ b o e
  ·exact⟨_,MS _ (JZ _ rfl) rfl,rfl⟩
end
section
variable {prog:KC} {w:LL} {A:LI} {s:JH} {E:JD->JH->Prop}
theorem Bp.upd{h:MQ}{it:JK}{f:Obj->Obj}(hh:Bp A h)(hn:∀o vs,h.get? it=some o->o.data=.fields vs->¬ vs[2]? = some .none):Bp A (h.update it f):=by
 rcases hh with z | ⟨x,o,vs,a,g,d,c⟩
 ·exact .inl z
 ·have:it≠x:=λe=>hn o vs (by rw[e];exact g) d c
  exact .inr ⟨x,o,vs,a,(LP _ _ this).trans g,d,c⟩
theorem Bp.ext{h h':MQ}(hh:Bp A h)(k:∀b o,h.get? b=some o->h'.get? b=some o):Bp A h':=by
 rcases hh with z | ⟨x,o,vs,a,g,d,c⟩
 ·exact .inl z
 ·exact .inr ⟨x,o,vs,a,k _ _ g,d,c⟩
theorem Bp.in1{h:MQ}(hh:Bp A h):Bp A.in1 h:=hh
theorem Jl{h:MQ}{it:JK}{oi:Obj}{u v:JD}(gi:h.get? it=some oi)(di:oi.data=.fields #[u,v]):∀o vs,h.get? it=some o->o.data=.fields vs->¬ vs[2]? = some .none:=λo vs g d c=>by
 obtain rfl:oi=o:=KW (gi.symm.trans g)
 rw[di] at d
 cases d
 simp at c
theorem Hu{α:Type}{it:JK}{f:Obj->Obj}{Q:Option α->JH->Prop}{k:Sem (Option α)}{E':JD->JH->Prop}(hQ:∀h',OF it s.heap h'->Q none { s with heap:=h' }){h':MQ}{e:JK}(kp:∀b o,(s.heap.update it f).get? b=some o->h'.get? b=some o)(ty:Shared.TypeIs { s with heap:=h' } (.ref e) "StopIteration"):
 KR (KU prog w) A (do if (<- isInstance (.ref e) (.type "StopIteration"))=true then pure none else k) Q E' { s with heap:=h' }:=by
 refine JA (RS (T := "StopIteration") (b:=true) ty isSubtype_stop ?_)
 rw[if_pos rfl]
 exact JO (hQ _ λb o hb g=>kp _ _ ((LP _ _ (LH hb)).trans g))
theorem eM{it l:JK}{i:Nat}{items:Array JD}{Q:Option JD->JH->Prop}(hh:Bp A s.heap)(hit:s.heap.IsListIter it l i)(hl:s.heap.IsList l items)(hnil:items[i]? = none)(hQ:∀h',OF it s.heap h'->Q none { s with heap:=h' }):KR (KU prog w) A (OW (.ref it)) Q E s:=by
 obtain⟨oi,gi,ci,di⟩:=id hit
 obtain⟨oz,gz,_,nz,dz⟩:=hl
 unfold OW
 refine JA (OV (LK (name:=NH "__next__") hit.typeIs slot_listiter_next (MC slot_listiter_next hit.typeIs entry_listiter_next ?_ (args_listiter_next _))))
 refine JA (m:=field (.ref it) 0) (KY gi di (x:=.ref l) rfl ?_)
 show KR _ _ (if (JV l == .none)=true then _ else _) _ _ s
 rw[if_neg (show ¬ ((JV l == .none)=true) from JN)]
 refine JA (m:=field (.ref it) 1) (KY gi di (x:=.int i 0) rfl ?_)
 refine JA (m:=seqItems? (.ref l)) (MX gz dz ?_)
 simp only[LR,hnil]
 refine JA (OY (JA (MM gi di (by simp) ?_)))
 exact Dr (hh.in1.upd (Jl gi di)) λh' e kp ty=>Hu hQ kp ty
theorem zK{it t:JK}{i:Nat}{items:Array JD}{Q:Option JD->JH->Prop}(hh:Bp A s.heap)(hit:IsTupIter s.heap it t i)(hl:IsTup s.heap t items)(hnil:items[i]? = none)(hQ:∀h',OF it s.heap h'->Q none { s with heap:=h' }):KR (KU prog w) A (OW (.ref it)) Q E s:=by
 obtain⟨oi,gi,ci,di⟩:=id hit
 obtain⟨oz,gz,_,nz,dz⟩:=hl
 unfold OW
 refine JA (OV (LK (name:=NH "__next__") hit.typeIs slot_tupleiter_next (MC slot_tupleiter_next hit.typeIs entry_tupleiter_next ?_ (args_tupleiter_next _))))
 refine JA (m:=field (.ref it) 0) (KY gi di (x:=.ref t) rfl ?_)
 show KR _ _ (if (JV t == .none)=true then _ else _) _ _ s
 rw[if_neg (show ¬ ((JV t == .none)=true) from JN)]
 refine JA (m:=field (.ref it) 1) (KY gi di (x:=.int i 0) rfl ?_)
 refine JA (m:=seqItems? (.ref t)) (MX gz dz ?_)
 simp only[LR,hnil]
 refine JA (OY (JA (MM gi di (by simp) ?_)))
 exact Dr (hh.in1.upd (Jl gi di)) λh' e kp ty=>Hu hQ kp ty
theorem Xx{it:JK}{x left step:Int}{Q:Option JD->JH->Prop}(hh:Bp A s.heap)(hit:IsRangeIter s.heap it x left step)(hl:left<=0)(hQ:∀h',OF it s.heap h'->Q none { s with heap:=h' }):KR (KU prog w) A (OW (.ref it)) Q E s:=by
 have ty0:s.TypeIs (.ref it) "range_iterator" := ⟨_,hit,rfl⟩
 unfold OW
 refine JA (OV (LK (name:=NH "__next__") ty0 F.slot_range_iterator_next (MC F.slot_range_iterator_next ty0 F.entry_range_iterator_next ?_ (F.args_range_iterator_next_1 _))))
 refine JA (m:=field (.ref it) 0) (KY hit rfl (x:=QJ x) rfl ?_)
 refine JA (m:=field (.ref it) 1) (KY hit rfl (x:=QJ left) rfl ?_)
 refine JA (m:=field (.ref it) 2) (KY hit rfl (x:=QJ step) rfl ?_)
 show KR _ _ (if left<=0 then _ else _) _ _ s
 rw[if_pos hl]
 refine JA (OY (JA ?_))
 refine Dr hh.in1 λh' e kp ty=>?_
 refine JA (RS (T := "StopIteration") (b:=true) ty isSubtype_stop (JO (hQ _ λb o hb g=>kp _ _ g)))
theorem pU{it:JK}{x:Str}{t:Tok}{i:Nat}{Q:Option JD->JH->Prop}(hh:Bp A s.heap)(hit:s.heap.IsStrIter it "str_ascii_iterator" x t i)(hnil:x.cps[i]? = none)(hQ:∀h',OF it s.heap h'->Q none { s with heap:=h' }):KR (KU prog w) A (OW (.ref it)) Q E s:=by
 obtain⟨oi,gi,ci,di⟩:=id hit
 unfold OW
 refine JA (OV (LK (name:=NH "__next__") hit.typeIs F.slot_str_ascii_iterator_next (MC F.slot_str_ascii_iterator_next hit.typeIs F.entry_str_ascii_iterator_next ?_ (F.args_str_ascii_iterator_next_1 _))))
 refine JA (m:=field (.ref it) 0) (KY gi di (x:=.str x t) rfl ?_)
 refine JA (m:=field (.ref it) 1) (KY gi di (x:=.int i 0) rfl ?_)
 simp only[LR,hnil]
 refine JA (OY (JA (MM gi di (by simp) (JA (RT ?_)))))
 exact Dr (hh.in1.upd (Jl gi di)) λh' e kp ty=>Hu hQ kp ty
theorem vG{it:JK}{x:Str}{t:Tok}{i:Nat}{Q:Option JD->JH->Prop}(hh:Bp A s.heap)(hit:s.heap.IsStrIter it "str_iterator" x t i)(hnil:x.cps[i]? = none)(hQ:∀h',OF it s.heap h'->Q none { s with heap:=h' }):KR (KU prog w) A (OW (.ref it)) Q E s:=by
 obtain⟨oi,gi,ci,di⟩:=id hit
 unfold OW
 refine JA (OV (LK (name:=NH "__next__") hit.typeIs F.slot_str_iterator_next (MC F.slot_str_iterator_next hit.typeIs F.entry_str_iterator_next ?_ (F.args_str_iterator_next_1 _))))
 refine JA (m:=field (.ref it) 0) (KY gi di (x:=.str x t) rfl ?_)
 refine JA (m:=field (.ref it) 1) (KY gi di (x:=.int i 0) rfl ?_)
 simp only[LR,hnil]
 refine JA (OY (JA (MM gi di (by simp) (JA (RT ?_)))))
 exact Dr (hh.in1.upd (Jl gi di)) λh' e kp ty=>Hu hQ kp ty
end
section
variable {prog:KC} {w:LL} {A:LI} {s:JH} {E:JD->JH->Prop}
theorem Mu{it l:JK}{i:Nat}{items:Array JD}{Q:JD->JH->Prop}(hh:Bp A s.heap)(hit:s.heap.IsListIter it l i)(hl:s.heap.IsList l items)(hnil:items[i]? = none)(hE:∀h' e,OF it s.heap h'->(∃o,h'.get? e=some o/\o.cls=.type "StopIteration")->E (.ref e) { s with heap:=h' }):KR (KU prog w) A (LW (.ref it)) Q E s:=by
 obtain⟨oi,gi,ci,di⟩:=id hit
 obtain⟨oz,gz,_,nz,dz⟩:=hl
 unfold LW
 refine JA (LK (name:=NH "__next__") hit.typeIs slot_listiter_next (MC slot_listiter_next hit.typeIs entry_listiter_next ?_ (args_listiter_next _)))
 refine JA (m:=field (.ref it) 0) (KY gi di (x:=.ref l) rfl ?_)
 show KR _ _ (if (JV l == .none)=true then _ else _) _ _ s
 rw[if_neg (show ¬ ((JV l == .none)=true) from JN)]
 refine JA (m:=field (.ref it) 1) (KY gi di (x:=.int i 0) rfl ?_)
 refine JA (m:=seqItems? (.ref l)) (MX gz dz ?_)
 simp only[LR,hnil]
 refine JA (OY (JA (MM gi di (by simp) ?_)))
 exact Dr (hh.in1.upd (Jl gi di)) λh' e kp ty=>hE h' e (λb o hb g=>kp _ _ ((LP _ _ (LH hb)).trans g)) ty
theorem sP{e it l:JK}{i:Int}{k:Nat}{old:JD}{items:Array JD}{Q:Option JD->JH->Prop}(hh:Bp A s.heap)(he:IsEnum s.heap e it i old)(h1:s.heap.IsListIter it l k)(hl:s.heap.IsList l items)(hnil:items[k]? = none)(hQ:∀h',OF it s.heap h'->Q none { s with heap:=h' }):KR (KU prog w) A (OW (.ref e)) Q E s:=by
 have ty0:s.TypeIs (.ref e) "enumerate" := ⟨_,he,rfl⟩
 unfold OW
 refine JA (OV (LK (name:=NH "__next__") ty0 F.slot_enumerate_next (MC F.slot_enumerate_next ty0 F.entry_enumerate_next ?_ (F.args_enumerate_next_1 _))))
 refine JA (m:=field (.ref e) 2) (KY he rfl (x:=.ref it) rfl (JA (Mu hh.in1 h1 hl hnil λh' x kp ty=>?_)))
 exact JA (RS (T := "StopIteration") (b:=true) ty isSubtype_stop (JO (hQ _ kp)))
theorem kJ{t:JK}{items:Array JD}{Q:List JD->JH->Prop}(hh:Bp A s.heap)(ht:IsTup s.heap t items)(hQ:∀h',OF s.heap.objs.size s.heap h'->Q items.toList { s with heap:=h' }):KR (KU prog w) A (unpackItems (.ref t) items.size none) Q E s:=by
 have ne0:t≠s.heap.objs.size:=by
  obtain⟨o,g,_⟩:=ht
  exact KL (JW g)
 unfold unpackItems notIterableAtAll
 refine JA (JA (wpAny_specialOf ht.typeIs slot_tuple_iter.lookup (JO ?_)))
 simp only[PM,if_false]
 refine JA (NC (iter_tuple ht (JA (NC (draw_tuple ne0 items.size 0 _ _ ⟨_,JZ _ rfl,rfl,rfl⟩ (ht.push _) (by omega) λh1 i1 s1=>?_)))))
 rw[show List.take items.size (List.drop 0 items.toList)=items.toList by rw[List.drop_zero];exact LJ (by simp),if_neg (by simp)]
 have ht1:IsTup h1 t items:=(ht.push _).extBut s1.extBut ne0
 have kp:OF s.heap.objs.size s.heap h1:=λb o hb g=>s1.extBut b o hb (JE _ g)
 have hh1:Bp A h1:=by
  rcases hh with z | ⟨x,o,vs,a,g,d,c⟩
  ·exact .inl z
  ·exact .inr ⟨x,o,vs,a,kp _ _ (KL (JW g)) g,d,c⟩
 refine JA (NC (zK hh1 i1 ht1 (by simp) λh2 e2=>?_))
 simp only[Option.isSome_none,PM,if_false]
 exact JO (hQ h2 (kp.trans e2))
theorem sV{env:Env}{elts:List Expr}{x1}{pos:Pos}{t:JK}{items:Array JD}{Q:Unit->JH->Prop}(hh:Bp A s.heap)(ht:IsTup s.heap t items)(hn:(assignEach elts env).length=items.size)(hst:(assignEach elts env).findIdx? (·.1)=none)(h:∀h',OF s.heap.objs.size s.heap h'->KR (KU prog w) A (assignInOrder ((assignEach elts env).map (·.2)) items.toList) Q E { s with heap:=h' }):KR (KU prog w) A (assign (.Tuple elts x1 pos) env (.ref t)) Q E s:=by
 rw[assign_Tuple]
 refine JA (RA ?_)
 unfold unpack
 rw[hn,hst]
 exact JA (NC (kJ hh ht h))
theorem Yr{it:JK}{lo step:Int}{n:Nat}(i:Nat)(s:JH)(Q:Option JD->JH->Prop)(E:JD->JH->Prop)(hi:i < n)(st:IsRangeIter s.heap it (lo+(i:Int) * step) ((n:Int)-(i:Int)) step)(hQ:∀(v:JD)(h':MQ)(tk:Tok),(∃t,v=.int (lo+(i:Int) * step) t)->IsRangeIter h' it (lo+((i+1:Nat):Int) * step) ((n:Int)-((i+1:Nat):Int)) step->(∀b o,b∉[it]->s.heap.get? b=some o->h'.get? b=some o)->Q (some v) { s with heap:=h',toks:=tk }):
 KR (KU prog w) A (OW (.ref it)) Q E s:=by
 refine wpAny_pyNext_range_item st (by omega) λh' st' sb=>hQ _ h' _ ⟨_,rfl⟩ ?_ λb o hb e=>sb.extBut b o (by simpa using hb) e
 have e1:lo+((i+1:Nat):Int) * step=lo+(i:Int) * step+step:=by rw[Int.natCast_add,Int.add_mul,<- Int.add_assoc];simp
 have e2:(n:Int)-((i+1:Nat):Int)=(n:Int)-(i:Int)-1:=by omega
 rw[e1,e2]
 exact st'
end
def Ms(A:LI):List JK:=match A.handled with
 | some (.ref x)=>[x]
 | _=>[]
theorem Bp.keep{A:LI}{h h':MQ}(hh:Bp A h)(k:∀b∈Ms A,∀o,h.get? b=some o->h'.get? b=some o):Bp A h':=by
 rcases hh with z | ⟨x,o,vs,a,g,d,c⟩
 ·exact .inl z
 ·exact .inr ⟨x,o,vs,a,k x (by unfold Ms;rw[a];exact JS) o g,d,c⟩
theorem Bp.but{A:LI}{h h':MQ}{it:JK}(hh:Bp A h)(hn:∀o vs,h.get? it=some o->o.data=.fields vs->¬ vs[2]? = some .none)(k:OF it h h'):Bp A h':=by
 rcases hh with z | ⟨x,o,vs,a,g,d,c⟩
 ·exact .inl z
 ·exact .inr ⟨x,o,vs,a,k x o (λe=>hn o vs (by rw[<- e];exact g) d c) g,d,c⟩
theorem Bp.lt{A:LI}{h:MQ}(hh:Bp A h):∀b∈Ms A,b < h.objs.size:=λb hb=>by
 rcases hh with z | ⟨x,o,vs,a,g,d,c⟩
 ·unfold Ms at hb
  rw[z] at hb
  cases hb
 ·unfold Ms at hb
  rw[a] at hb
  rw[JL.mp hb]
  exact JW g
theorem gJ{h:MQ}{it l:JK}{i:Nat}(hit:h.IsListIter it l i):∀o vs,h.get? it=some o->o.data=.fields vs->¬ vs[2]? = some .none:=
 let ⟨_,g,_,d⟩:=id hit
 Jl g d
theorem Pg{prog:KC}{w:LL}{A:LI}(I ax:JK)(hne:ax≠I)(items:Array JD):
 Walks prog w A I (I::ax::Ms A) [I] items.size (λi v=>items[i]? = some v) (λi h=>h.IsListIter I ax i/\h.IsList ax items/\Bp A h) where
 sub:=λb hb=>by rw[JL.mp hb];exact JS
 frame:=λ_ _ _ st hk=>⟨st.1.at λo e=>hk I JS o e,st.2.1.at λo e=>hk ax (JQ _ JS) o e,st.2.2.keep λb hb o e=>hk b (JQ _ (JQ _ hb)) o e⟩
 item:=λi s Q E hi st hQ=>by
  refine SQ st.1 st.2.1 (x:=items[i]) (by simp[hi]) λh' it' sb=>hQ _ h' s.toks (by simp[hi]) ⟨it',st.2.1.extBut sb.extBut hne,st.2.2.but (gJ st.1) sb.extBut⟩ λb o hb e=>?_
  exact sb.extBut b o (λz=>hb (by simp[z])) e
 done:=λs Q E st hQ=>eM st.2.2 st.1 st.2.1 (by simp) λh' eb=>hQ h' s.toks λb o hb e=>eb b o (λz=>hb (by simp[z])) e
 self:=λ_ _ _ _ st hQ=>wpAny_pyIter_listiter st.1 hQ
section
variable {prog:KC} {w:LL} {A:LI} {s:JH} {E:JD->JH->Prop}
theorem cF{h:MQ}{z TI TO:JK}{f0:JD}(hz:IsZip h z TI TO f0):∀o vs,h.get? z=some o->o.data=.fields vs->¬ vs[2]? = some .none:=λo vs g d c=>by
 have e:=hz.symm.trans g
 cases e
 cases d
 simp at c
theorem yY{z TI TO i1 i2 l1 l2:JK}{k1 k2:Nat}{xs ys:Array JD}{a b:JD}{Q:Option JD->JH->Prop}(hh:Bp A s.heap)(D:ZipApart z TI TO i1 i2 l1 l2)(hz:IsZip s.heap z TI TO .none)(hTI:QF s.heap TI (.ref i1) (.ref i2))(hTO:QF s.heap TO a b)(h1:s.heap.IsListIter i1 l1 k1)(h2:s.heap.IsListIter i2 l2 k2)(hl1:s.heap.IsList l1 xs)(hl2:s.heap.IsList l2 ys)(hend:xs[k1]? = none∨ys[k2]? = none)(hQ:∀h',(∀c o,c≠z->c≠TO->c≠i1->c≠i2->s.heap.get? c=some o->h'.get? c=some o)->Q none { s with heap:=h' }):KR (KU prog w) A (OW (.ref z)) Q E s:=by
 have ty0:s.TypeIs (.ref z) "zip" := ⟨_,hz,rfl⟩
 unfold OW
 refine JA (OV (LK (name:=NH "__next__") ty0 SJ (MC SJ ty0 F.entry_zip_next ?_ (F.args_zip_next_1 _))))
 have fin:∀(h':MQ)(e:JK),(∀c o,c≠z->c≠TO->c≠i1->c≠i2->s.heap.get? c=some o->h'.get? c=some o)->(∃o,h'.get? e=some o/\o.cls=.type "StopIteration")->KR (KU prog w) A (do if (<- isInstance (.ref e) (.type "StopIteration"))=true then pure none else throw (.ref e)) Q E { s with heap:=h' }:=λh' e kp ty=>
  JA (RS (T := "StopIteration") (b:=true) ty isSubtype_stop (JO (hQ _ kp)))
 refine JA (m:=field (.ref z) 2) (KY hz rfl (x:=.bool false) rfl ?_)
 refine JA (m:=field (.ref z) 3) (KY hz rfl (x:=.ref TI) rfl (JA (MX hTI rfl ?_)))
 refine JA (m:=MV (.ref z)) ?_
 unfold MV
 refine JA (KY hz rfl (x:=.none) rfl (JO ?_))
 simp only[if_true]
 refine JA (OY (JA (KY hz rfl (x:=.ref TO) rfl (JA (NV hz (by simp) λha za sa=>?_)))))
 have za':IsZip ha z TI TO .ellipsis:=za
 have hha:Bp A ha:=hh.but (cF hz) sa.extBut
 refine JA ?_
 simp only[List.zipIdx_cons,List.zipIdx_nil,List.forIn_cons,List.forIn_nil]
 refine JA (JA (wpAny_onRaise ?_))
 refine JA (m:=LW (.ref i1)) ?_
 cases ex:xs[k1]? with
 | none=>
  refine Mu hha.in1 (h1.extBut sa.extBut D.i1z) (hl1.extBut sa.extBut D.l1z) ex λhb e sb ty=>?_
  obtain⟨oe,ge,ce⟩:=ty
  have zb:IsZip hb z TI TO .ellipsis:=sb _ _ D.i1z.symm za'
  have nez:e≠z:=λy=>by subst y;rw[zb] at ge;cases ge;simp at ce
  exact NV zb (by simp) λhc _ sc=>fin hc e (λc o c1 _ c3 _ g=>sc.extBut _ _ c1 (sb _ _ c3 (sa.extBut _ _ c1 g))) ⟨oe,sc.extBut _ _ nez ge,ce⟩
 | some x=>
  have ey:ys[k2]? = none:=hend.resolve_left (by rw[ex];exact λy=>nomatch y)
  refine wpAny_nextOf_list_item (h1.extBut sa.extBut D.i1z) (hl1.extBut sa.extBut D.l1z) ex λhb _ sb=>JO ?_
  have hhb:Bp A hb:=hha.but (gJ (h1.extBut sa.extBut D.i1z)) sb.extBut
  have TOb:QF hb TO a b:=sb.extBut _ _ D.TOi1 (sa.extBut _ _ D.TOz hTO)
  refine JA (MX TOb rfl (JA (wpAny_updateSeq_pair TOb λhc TOc sc=>JA (RT (JO ?_)))))
  have hhc:Bp A hc:=hhb.but (λo vs g d _=>by rw[TOb] at g;cases g;cases d) sc.extBut
  refine JA (JA (wpAny_onRaise (JA (m:=LW (.ref i2)) ?_)))
  refine Mu hhc.in1 (((h2.extBut sa.extBut D.i2z).extBut sb.extBut D.i12.symm).extBut sc.extBut D.TOi2.symm) (((hl2.extBut sa.extBut D.l2z).extBut sb.extBut D.l2i1).extBut sc.extBut D.l2TO) ey λhd e sd ty=>?_
  obtain⟨oe,ge,ce⟩:=ty
  have zd:IsZip hd z TI TO .ellipsis:=sd _ _ D.i2z.symm (sc.extBut _ _ D.TOz.symm (sb.extBut _ _ D.i1z.symm za'))
  have nez:e≠z:=λy=>by subst y;rw[zd] at ge;cases ge;simp at ce
  exact NV zd (by simp) λhe _ se=>fin he e (λc o c1 c2 c3 c4 g=>se.extBut _ _ c1 (sd _ _ c4 (sc.extBut _ _ c2 (sb.extBut _ _ c3 (sa.extBut _ _ c1 g))))) ⟨oe,se.extBut _ _ nez ge,ce⟩
end
section
variable {prog:KC} {w:LL} {A:LI} {s:JH} {E:JD->JH->Prop} {KK:Type} [DecidableEq KK] {knd:KeyKind prog w KK}
theorem vC{it d:JK}{i ep:Nat}{kvs:List (KK×JD)}{Q:Option JD->JH->Prop}(hh:Bp A s.heap)(hit:s.heap.IsKeyIter it d i kvs.length ep)(hm:s.heap.DictAt knd d kvs ep)(hnil:kvs[i]? = none)(hQ:∀h',OF it s.heap h'->Q none { s with heap:=h' }):KR (KU prog w) A (OW (.ref it)) Q E s:=by
 obtain⟨oi,gi,ci,di⟩:=id hit
 obtain⟨od,es,god,cod,dod,hk,hp,hn⟩:=id hm
 have sz:es.size=kvs.length:=by rw[<- hp.length];simp
 have ge:es.size<=i:=by rw[sz];simpa using hnil
 unfold OW
 refine JA (OV (LK (name:=NH "__next__") hit.typeIs F.slot_dict_keyiterator_next (MC F.slot_dict_keyiterator_next hit.typeIs F.entry_dict_keyiterator_next ?_ (F.args_dict_keyiterator_next_1 _))))
 refine JA (JO (JA (JA ?_)))
 first | refine JA (wpAny_typeNameOfWhole_keyiter hit.typeIs (JO (JA (wpAny_fieldsOf gi di ?_)))) | refine JA (wpAny_typeNameOf_keyiter hit.typeIs (JO (JA (wpAny_fieldsOf gi di ?_))))
 simp only[show Builtin.Dict_items.ownsTuple "dict_keyiterator" = false by decide,PM,if_false]
 show KR _ _ (if (JV d == .none)=true then _ else _) _ _ s
 rw[if_neg (show ¬ ((JV d == .none)=true) from JN)]
 refine JA (JO (JA (wpAny_dictEntries god dod ?_)))
 rw[if_neg (by rw[sz];simp)]
 refine JA (JO (JA (wpAny_dictEpoch god dod ?_)))
 rw[if_neg (by simp)]
 refine JO ?_
 simp only[show ¬ ((i:Int) < 0) from by omega,if_false,LR,Array.getElem?_eq_none ge]
 refine JA ?_
 first | refine JA (wpAny_typeNameOfWhole_keyiter hit.typeIs (JO (JA (m:=setField (.ref it) 0 .none) (MM gi di (by simp) ?_)))) | refine JA (wpAny_typeNameOf_keyiter hit.typeIs (JO (JA (m:=setField (.ref it) 0 .none) (MM gi di (by simp) ?_))))
 exact Dr (hh.in1.upd λo vs g dt c=>by
  obtain rfl:oi=o:=KW (gi.symm.trans g)
  rw[di] at dt
  cases dt
  simp at c) λh' e kp ty=>Hu hQ kp ty
end
abbrev Key:=Sum Int Str
def Ti:Key->JD->Bool
 | .inl k,v=>Value.isInt k v
 | .inr x,v=>Value.isStrOf x v
def HW(w:LL):Key->Int
 | .inl k=>hashInt k
 | .inr x=>hashStr w x
theorem Cr:∀ {k:Key} {v:JD},Ti k v=true->(∃i t,k=NE i/\v=Value.int i t)∨(∃x t,k=KD x/\v=Value.str x t)
 | .inl i,v,h=>by
  obtain⟨t,e⟩:=Value.isInt_shape (k:=i) (v:=v) h
  exact .inl ⟨i,t,rfl,e⟩
 | .inr x,v,h=>by
  obtain⟨t,e⟩:=Value.isStrOf_shape (x:=x) (v:=v) h
  exact .inr ⟨x,t,rfl,e⟩
theorem jY(i:Int)(t:Tok):Ti (.inl i) (.int i t)=true:=by simp[Ti,Value.isInt]
theorem My(x:Str)(t:Tok):Ti (.inr x) (.str x t)=true:=by simp[Ti,Value.isStrOf]
theorem xT(a b:Int):decide ((NE a:Key)=NE b)=(a == b):=by
 by_cases e:a=b
 ·subst e;simp
 ·have h:¬ (NE a:Key)=NE b:=λq=>e (NE.inj q)
  rw[decide_eq_false h]
  exact(beq_eq_false_iff_ne.mpr e).symm
theorem xK(a b:Str):decide ((KD a:Key)=KD b)=decide (a=b):=by
 by_cases e:a=b
 ·subst e;simp
 ·have h:¬ (KD a:Key)=KD b:=λq=>e (KD.inj q)
  rw[decide_eq_false h,decide_eq_false e]
theorem yP(a:Int)(b:Str):decide ((NE a:Key)=KD b)=false:=decide_eq_false (λq=>nomatch q)
theorem xN(a:Str)(b:Int):decide ((KD a:Key)=NE b)=false:=decide_eq_false (λq=>nomatch q)
def Bo(prog:KC)(w:LL):PySem.KeyKind prog w Key where
 is:=Ti
 hash:=HW w
 inj:=λv a b ha hb=>by
  rcases Cr ha with ⟨i,t,rfl,rfl⟩ | ⟨x,t,rfl,rfl⟩
  ·rcases Cr hb with ⟨j,u,rfl,e⟩ | ⟨y,u,rfl,e⟩
   ·injection e with e1 _;rw[e1]
   ·exact nomatch e
  ·rcases Cr hb with ⟨j,u,rfl,e⟩ | ⟨y,u,rfl,e⟩
   ·exact nomatch e
   ·injection e with e1 _;rw[e1]
 byValue:=λk v h=>by
  rcases Cr h with ⟨i,t,rfl,rfl⟩ | ⟨x,t,rfl,rfl⟩<;>rfl
 pyHash:=λhv h=>by
  rcases Cr hv with ⟨i,t,rfl,rfl⟩ | ⟨x,t,rfl,rfl⟩
  ·exact wpAny_pyHash_int h
  ·exact wpAny_pyHash_str h
 eqBool:=λhu hv h=>by
  rcases Cr hu with ⟨i,t,rfl,rfl⟩ | ⟨x,t,rfl,rfl⟩
  ·rcases Cr hv with ⟨j,u,rfl,rfl⟩ | ⟨y,u,rfl,rfl⟩
   ·rw[xT] at h;exact wpAny_eqBool_int h
   ·rw[yP] at h;exact SeqAt.EqAt.int_str i t y u _ _ _ _ h
  ·rcases Cr hv with ⟨j,u,rfl,rfl⟩ | ⟨y,u,rfl,rfl⟩
   ·rw[xN] at h;exact SeqAt.EqAt.str_int x t j u _ _ _ _ h
   ·rw[xK] at h;exact wpAny_eqBool_str h
 «strs» := λk x t v h=>by
  rcases Cr h with ⟨i,u,rfl,e⟩ | ⟨y,u,rfl,e⟩
  ·exact nomatch e
  ·injection e with e1 _
   subst e1
   cases v<;>rfl
theorem Wi(prog:KC)(w:LL)(i:Int)(t:Tok):(Bo prog w).is (.inl i) (.int i t)=true:=jY i t
theorem Wj(prog:KC)(w:LL)(x:Str)(t:Tok):(Bo prog w).is (.inr x) (.str x t)=true:=My x t
inductive V where
 | non | bl (b:Bool) | int (i:Int) | str (x:Str) | byt (b:Array UInt8) | flt (b:UInt64) | ref (a:JK) | ty (n:String)
 deriving DecidableEq
def RelV:V->JD->Prop
 | .non,u=>u=MU
 | .bl b,u=>u=Value.bool b
 | .int i,u=>∃t,u=Value.int i t
 | .str x,u=>∃t,u=Value.str x t
 | .byt b,u=>∃t,u=Value.bytes b t
 | .flt b,u=>∃t,u=Value.float b t
 | .ref a,u=>u=JV a
 | .ty n,u=>u=OP n
abbrev Bb:List V->List JD->Prop:=RK RelV
theorem Bb.length{xs:List V}{us:List JD}(r:Bb xs us):xs.length=us.length:=NK r
theorem Bb.get:∀ {xs:List V} {us:List JD} {i:Nat} {x:V},Bb xs us->xs[i]? = some x->∃u,us[i]? = some u/\RelV x u
 | _,_,_,_,.nil,e=>by simp at e
 | _,_,0,_,.cons r _,e=>by simp at e;subst e;exact⟨_,rfl,r⟩
 | _,_,i+1,x,.cons _ t,e=>by
  obtain⟨u,h1,h2⟩:=Bb.get (i:=i) (x:=x) t (by simpa using e)
  exact⟨u,by simpa using h1,h2⟩
theorem Bb.set{x:V}{u:JD}(r:RelV x u):∀ {xs:List V} {us:List JD} (i:Nat),Bb xs us->Bb (xs.set i x) (us.set i u)
 | _,_,_,.nil=>.nil
 | _,_,0,.cons _ t=>.cons r t
 | _,_,i+1,.cons q t=>.cons q (Bb.set r i t)
theorem Bb.append:∀ {xs ys:List V} {us ws:List JD},Bb xs us->Bb ys ws->Bb (xs++ys) (us++ws)
 | _,_,_,_,.nil,s=>s
 | _,_,_,_,.cons r t,s=>.cons r (Bb.append t s)
theorem Bb.take:∀ {xs:List V} {us:List JD} (n:Nat),Bb xs us->Bb (xs.take n) (us.take n)
 | _,_,0,_=>.nil
 | _,_,_+1,.nil=>.nil
 | _,_,n+1,.cons r t=>.cons r (Bb.take n t)
theorem Bb.drop:∀ {xs:List V} {us:List JD} (n:Nat),Bb xs us->Bb (xs.drop n) (us.drop n)
 | _,_,0,r=>r
 | _,_,_+1,.nil=>.nil
 | _,_,n+1,.cons _ t=>Bb.drop n t
def Ho:Option V->Option JD->Prop
 | some v,some u=>RelV v u
 | none,none=>True
 | _,_=>False
def KV{κ:Type}:List (κ×V)->List (κ×JD)->Prop:=RK λ(p:κ×V) (q:κ×JD)=>p.1=q.1/\RelV p.2 q.2
def kV:Key->V
 | .inl i=>.int i
 | .inr x=>.str x
inductive HO where
 /-- a list -/
 | lst (xs:List V)
 /-- a tuple (never changes) -/
 | tup (xs:List V)
 /-- a dict whose keys are ints and texts;one whose keys are tuples of ints and texts (the empty one is both) -/
 | dK (kvs:List (Key×V)) | dT (kvs:List (List Key×V))
 /-- a set of ints: its members,its size -/
 | set (S:Int->Bool) (n:Nat)
 /-- an instance of the class at C,its dict at dx,its attributes -/
 | ins (C dx:JK) (fs:List (Str×V))
 /-- the dict of the instance at x -/
 | own (x:JK)
 /-- the dict of an exception -/
 | xd (fs:List (Str×V))
 /-- a bound method,f of x -/
 | met (f x:JK)
 /-- a range object lo,lo+1,.. below hi -/
 | rng (lo hi:Int)
 /-- a thing that is known to the object (the script;a dict while a loop walks it): read,never written while it is so -/
 | frz (o:Obj) (u:HO)
 /-- a code object's table -/
 | tbl (ps:Array JD)
 /-- any other thing,by what is true of its one object (a def of one's own: SetO a S n:=HO.ext λh=>..) -/
 | ext (φ:MQ->Prop)
abbrev Hp:=JK->Option HO
def upd(H:Hp)(a:JK)(o:HO):Hp:=λb=>if b=a then some o else H b
theorem Aa{H:Hp}{a:JK}{o:HO}:upd H a o a=some o:=by unfold upd;rw[if_pos rfl]
theorem Aj{H:Hp}{a b:JK}{o:HO}(h:b≠a):upd H a o b=H b:=by unfold upd;rw[if_neg h]
theorem Cd{H:Hp}{a b:JK}{o u:HO}(h:H a=some o)(h':H b=some u)(d:o≠u):a≠b:=by
 intro e;subst e;rw[h] at h';exact d (KW h')
theorem Ai{H:Hp}{a b:JK}{o:HO}(h:H a=some o)(h':H b=none):a≠b:=by
 intro e;subst e;rw[h] at h';cases h'
section
variable (P:KC) (w:LL)
def Cg(H:Hp)(h:MQ)(a:JK):HO->Prop
 | .lst xs=>xs.length<=JM/\∃(its:List JD)(n:Nat),Bb xs its/\h.get? a=some { cls:=.type "list", data:=.seq its.toArray n }
 | .tup xs=>xs.length<=JM/\∃its:List JD,Bb xs its/\IsTup h a its.toArray
 | .dK kvs=>kvs.length<=JM/\(a == OE)=false/\∃vs,KV kvs vs/\h.DictOf (Bo P w) a vs
 | .dT kvs=>kvs.length<=JM/\(a == OE)=false/\∃xs:List (List Key×JK×JD),
  RK (λ(p:List Key×V) (q:List Key×JK×JD)=>p.1=q.1/\H q.2.1=some (.tup (p.1.map kV))/\RelV p.2 q.2.2) kvs xs /\
  ∃o es ep,h.get? a=some o/\o.ExactDict/\o.data=.dict es ep/\es.toList=xs.map (entryOfKey (tupleKind (Bo P w)))/\(xs.map (·.1)).Nodup
 | .set S n=>h.SetOf (intKind P w) a S n
 | .ins C dx fs=>H dx=some (.own a)/\fs.length<=1000/\dx≠a/\h.get? a=some (PU C dx) /\
  ∃mA,h.Ns1 dx mA/\(∀f,Ho (fs.lookup f) (mA f))/\PySem.Within mA (fs.map (·.1))
 | .own _=>∃o,h.get? a=some o
 | .xd fs=>∃mA,h.Ns1 a mA/\∀f,Ho (fs.lookup f) (mA f)
 | .rng lo hi=>∃t u v,h.get? a=some { cls:=.type "range", data:=.fields #[.int lo t,.int hi u,.int 1 v] }
 | .frz o u=>h.get? a=some o/\Cg H h a u
 | .tbl ps=>h.get? a=some { cls:=.none,data:=.fields ps }
 | .met f x=>h.get? a=some (PySem.W.methodObj (.ref f) (.ref x))
 | .ext φ=>φ h/\(∃o,h.get? a=some o)/\∀h1 h2:MQ,φ h1->(∀o,h1.get? a=some o->h2.get? a=some o)->φ h2
def Kg(H:Hp)(h:MQ):Prop:=∀a o,H a=some o->Cg P w H h a o
end
section
variable {P:KC} {w:LL} {H H':Hp} {h h':MQ} {a:JK} {o:HO}
theorem Cg.lt(x:Cg P w H h a o):a < h.objs.size:=by
 cases o with
 | lst xs=>obtain⟨_,_,_,_,e⟩:=x;exact JW e
 | tup xs=>obtain⟨_,_,_,p⟩:=x;exact p.lt
 | dK kvs=>obtain⟨_,_,_,_,o,_,_,e,_⟩:=x;exact JW e
 | dT kvs=>obtain⟨_,_,_,_,o,_,_,e,_⟩:=x;exact JW e
 | set S n=>obtain⟨o,_,_,_,e,_⟩:=x;exact JW e
 | ins C dx fs=>obtain⟨_,_,_,e,_⟩:=x;exact JW e
 | own y=>obtain⟨_,e⟩:=x;exact JW e
 | xd fs=>obtain⟨_,⟨_,_,_,e,_⟩,_⟩:=x;exact JW e
 | rng lo hi=>obtain⟨_,_,_,e⟩:=x;exact JW e
 | frz ob u=>obtain⟨e,_⟩:=x;exact JW e
 | tbl ps=>exact JW (show h.get? a=some _ from x)
 | met f y=>exact JW (show h.get? a=some _ from x)
 | ext φ=>obtain⟨_,⟨_,e⟩,_⟩:=x;exact JW e
theorem Paired.mapP{α β:Type}{F G:α->β->Prop}:∀ {l₁:List α} {l₂:List β},RK F l₁ l₂->(∀a b,F a b->G a b)->RK G l₁ l₂
 | _,_,.nil,_=>.nil
 | _,_,.cons r t,f=>.cons (f _ _ r) (Paired.mapP t f)
theorem Cg.stay(x:Cg P w H h a o)(k:∀b u,(b=a∨H b=some (.own a))->h.get? b=some u->h'.get? b=some u)(ho:∀b,H b=some (.own a)->H' b=some (.own a))(ht:∀b xs,H b=some (.tup xs)->H' b=some (.tup xs)):Cg P w H' h' a o:=by
 induction o with
 | lst xs=>obtain⟨z,its,n,r,e⟩:=x;exact⟨z,its,n,r,k _ _ (.inl rfl) e⟩
 | tup xs=>obtain⟨z,its,r,ob,e,c⟩:=x;exact⟨z,its,r,ob,k _ _ (.inl rfl) e,c⟩
 | dK kvs=>obtain⟨z,y,vs,r,ob,es,ep,e,c⟩:=x;exact⟨z,y,vs,r,ob,es,ep,k _ _ (.inl rfl) e,c⟩
 | dT kvs=>
  obtain⟨z,y,xs,r,ob,es,ep,e,c⟩:=x
  exact⟨z,y,xs,Paired.mapP r λp q z=>⟨z.1,ht _ _ z.2.1,z.2.2⟩,ob,es,ep,k _ _ (.inl rfl) e,c⟩
 | set S n=>obtain⟨ob,es,ep,t,e,c⟩:=x;exact⟨ob,es,ep,t,k _ _ (.inl rfl) e,c⟩
 | ins C dx fs=>
  obtain⟨d,z,ne,e,mA,⟨od,es,ep,e2,c⟩,r⟩:=x
  exact⟨ho _ d,z,ne,k _ _ (.inl rfl) e,mA,⟨od,es,ep,k _ _ (.inr d) e2,c⟩,r⟩
 | own y=>obtain⟨ob,e⟩:=x;exact⟨ob,k _ _ (.inl rfl) e⟩
 | xd fs=>obtain⟨mA,⟨od,es,ep,e,c⟩,r⟩:=x;exact⟨mA,⟨od,es,ep,k _ _ (.inl rfl) e,c⟩,r⟩
 | rng lo hi=>obtain⟨t,u,v,e⟩:=x;exact⟨t,u,v,k _ _ (.inl rfl) e⟩
 | frz ob u ih=>obtain⟨e,q⟩:=x;exact⟨k _ _ (.inl rfl) e,ih q⟩
 | tbl ps=>
  have e:h.get? a=some { cls:=.none,data:=.fields ps }:=x
  show h'.get? a=some { cls:=.none,data:=.fields ps }
  exact k a _ (.inl rfl) e
 | met f y=>
  have e:h.get? a=some (PySem.W.methodObj (.ref f) (.ref y)):=x
  show h'.get? a=some (PySem.W.methodObj (.ref f) (.ref y))
  exact k a _ (.inl rfl) e
 | ext φ=>obtain⟨p,⟨o,e⟩,st⟩:=x;exact⟨st _ _ p λo q=>k _ _ (.inl rfl) q,⟨o,k _ _ (.inl rfl) e⟩,st⟩
theorem Kg.lt(x:Kg P w H h)(e:H a=some o):a < h.objs.size:=(x a o e).lt
theorem Kg.fresh(x:Kg P w H h)(e:h.objs.size<=a):H a=none:=by
 cases q:H a with
 | none=>rfl
 | some u=>exact absurd (LD (x.lt q) e) (PK _)
theorem Kg.kept(x:Kg P w H h)(k:∀b u,h.get? b=some u->h'.get? b=some u):Kg P w H h':=λa o e=>
 (x a o e).stay (λb u _ q=>k b u q) (λ_ q=>q) λ_ _ q=>q
theorem Kg.laid(x:Kg P w H h)(k:∀b u,h.get? b=some u->h'.get? b=some u)(hp:h.objs.size<=a)(new:Cg P w (upd H a o) h' a o):Kg P w (upd H a o) h':=λb u e=>by
 have hn:=x.fresh hp
 by_cases hb:b=a
 ·subst hb;rw[Aa] at e;cases e;exact new
 ·rw[Aj hb] at e
  exact(x b u e).stay (λc v _ q=>k c v q) (λc q=>by rw[Aj (Ai q hn)];exact q) λc xs q=>by rw[Aj (Ai q hn)];exact q
end
def Rd(H:Hp)(a:JK)(u:HO):Prop:=H a=some u ∨ ∃o,H a=some (.frz o u)
theorem Rd.of{H:Hp}{a:JK}{u:HO}(h:H a=some u):Rd H a u:=.inl h
theorem Rd.ok{P:KC}{w:LL}{H:Hp}{h:MQ}{a:JK}{u:HO}(r:Rd H a u)(x:Kg P w H h):Cg P w H h a u:=by
 rcases r with r | ⟨o,r⟩
 ·exact x a u r
 ·obtain⟨_,q⟩:=x a _ r
  exact q
def BU:Option HO->Prop
 | some (.lst _)=>True
 | some (.dK _)=>True
 | some (.dT _)=>True
 | some (.set _ _)=>True
 | some (.ins _ _ _)=>True
 | some (.ext _)=>True
 | _=>False
section
variable {P:KC} {w:LL} {H:Hp} {h h':MQ} {x e:JK} {o':HO}
theorem Kg.write(ok:Kg P w H h)(mu:BU (H x))(he:e=x∨H e=some (.own x))(k:∀b u,b≠e->h.get? b=some u->h'.get? b=some u)(heo:∃u,h'.get? e=some u)(new:Cg P w (upd H x o') h' x o'):Kg P w (upd H x o') h':=λb u q=>by
 have nown:∀c y,H c=some (.own y)->c≠x:=λc y r z=>by subst z;rw[r] at mu;exact mu
 have ntup:∀c xs,H c=some (.tup xs)->c≠x:=λc xs r z=>by subst z;rw[r] at mu;exact mu
 by_cases hb:b=x
 ·subst hb;rw[Aa] at q;cases q;exact new
 ·rw[Aj hb] at q
  by_cases hbe:b=e
  ·have q':H b=some (.own x):=by
    rcases he with z | z
    ·exact absurd (hbe.trans z) hb
    ·rw[hbe];exact z
   rw[q] at q';cases q'
   obtain⟨v,hv⟩:=heo
   exact⟨v,by rw[hbe];exact hv⟩
  ·refine(ok b u q).stay (λc v hc r=>k c v ?_ r) (λc r=>by rw[Aj (nown c b r)];exact r) λc xs r=>by rw[Aj (ntup c xs r)];exact r
   rcases hc with rfl | hc
   ·exact hbe
   ·rintro rfl
    rcases he with z | z
    ·exact nown c b hc z
    ·rw[hc] at z;cases z;exact hb rfl
end
structure Un(fs ex:List JK)(H H':Hp)(h h':MQ):Prop where
 keep:∀b o,h.get? b=some o->H b=none->b∉fs->b∉ex->h'.get? b=some o
 slot:∀b o,h.get? b=some o->H b=none->b∈fs->b∉ex->∃sl,h'.get? b=some { o with slots:=sl }
 free:∀b o,h.get? b=some o->H b=none->b∉ex->H' b=none
 there:∀b o,h.get? b=some o->b∉ex->∃o',h'.get? b=some o'
 tups:∀b xs,H b=some (.tup xs)->H' b=some (.tup xs)
 frzs:∀b o u,H b=some (.frz o u)->H' b=some (.frz o u)
 tbls:∀b ps,H b=some (.tbl ps)->∃more,H' b=some (.tbl (ps++more))
section
variable {fs fs' ex ex':List JK} {H H1 H2:Hp} {h h1 h2 h':MQ} {a x e:JK} {o:HO}
theorem Un.any(u:Un fs ex H H1 h h1){b:JK}{ob:Obj}(q:h.get? b=some ob)(n:H b=none)(hx:b∉ex):∃sl,h1.get? b=some { ob with slots:=sl }:=by
 by_cases hb:b∈fs
 ·exact u.slot b ob q n hb hx
 ·exact⟨ob.slots,u.keep b ob q n hb hx⟩
theorem Un.kept(k:∀b u,h.get? b=some u->h'.get? b=some u):Un fs ex H H h h':=
 ⟨λb ob q _ _ _=>k b ob q,λb ob q _ _ _=>⟨ob.slots,k b ob q⟩,λ_ _ _ n _=>n,λb ob q _=>⟨ob,k b ob q⟩,λ_ _ q=>q,λ_ _ _ q=>q,λ_ ps q=>⟨#[],by rw[q];simp⟩⟩
theorem Un.refl:Un fs ex H H h h:=Un.kept λ_ _ q=>q
theorem Un.laid(k:∀b u,h.get? b=some u->h'.get? b=some u)(hp:h.objs.size<=a)(hn:H a=none):Un fs ex H (upd H a o) h h' where
 keep:=λb u q _ _ _=>k b u q
 slot:=λb u q _ _ _=>⟨u.slots,k b u q⟩
 free:=λb u q n _=>by rw[Aj (KL (LD (JW q) hp))];exact n
 there:=λb u q _=>⟨u,k b u q⟩
 tups:=λb xs q=>by rw[Aj (Ai q hn)];exact q
 frzs:=λb u xs q=>by rw[Aj (Ai q hn)];exact q
 tbls:=λb ps q=>⟨#[],by rw[Aj (Ai q hn),q];simp⟩
theorem Un.write(mu:BU (H x))(he:e=x∨H e=some (.own x))(k:∀b u,b≠e->h.get? b=some u->h'.get? b=some u)(heo:∃u,h'.get? e=some u):Un fs ex H (upd H x o) h h':=by
 have hx:∀b,H b=none->b≠x:=λb n z=>by subst z;rw[n] at mu;exact mu
 have hb:∀b,H b=none->b≠e:=λb n z=>by
  subst z
  rcases he with r | r
  ·exact hx b n r
  ·rw[n] at r;cases r
 have hm:∀b u,H b=some u->¬ BU (some u)->b≠x:=λb u q nm z=>by subst z;rw[q] at mu;exact nm mu
 refine⟨λb u q n _ _=>k b u (hb b n) q,λb u q n _ _=>⟨u.slots,k b u (hb b n) q⟩,λb u q n _=>by rw[Aj (hx b n)];exact n,λb u q _=>?_,
  λb xs q=>by rw[Aj (hm b _ q λz=>z)];exact q,λb u xs q=>by rw[Aj (hm b _ q λz=>z)];exact q,λb ps q=>⟨#[],by rw[Aj (hm b _ q λz=>z),q];simp⟩⟩
 by_cases hbe:b=e
 ·subst hbe;exact heo
 ·exact⟨u,k b u hbe q⟩
end
def ES(h:MQ)(H:Hp):List JK:=(SD h.objs.size).filter λa=>(H a).isSome
def Lv(h:MQ)(H:Hp):MQ:=PySem.W.hideAll h (ES h H)
theorem Rx(h:MQ)(H:Hp):(Lv h H).objs.size=h.objs.size:=PySem.W.hideAll_size _ _
theorem Py{h:MQ}{H:Hp}{b:JK}{o:Obj}(e:h.get? b=some o)(n:H b=none):(Lv h H).get? b=some o:=
 PySem.W.hideAll_get _ e λhm=>by
  have q:(H b).isSome=true:=(List.mem_filter.mp hm).2
  rw[n] at q;simp at q
theorem gQ{h:MQ}{H:Hp}{b:JK}{o:Obj}(e:(Lv h H).get? b=some o):h.get? b=some o/\H b=none:=by
 have e':h.get? b=some o:=PySem.W.of_hideAll (ES h H) e
 refine⟨e',?_⟩
 cases q:H b with
 | none=>rfl
 | some x=>
  have hm:b∈ES h H:=List.mem_filter.mpr ⟨List.mem_range.mpr (JW e'),by simp[q]⟩
  have z:(Lv h H).get? b=none:=PySem.W.hideAll_none (ES h H) hm
  rw[z] at e;cases e
structure Mod(K:JC)(mg:Str->Option JD)(base:MQ):Prop where
 kin:K.In base
 glob:base.Ns LC mg
 blt:∃mb,base.Ns builtinsNs mb/\∀x:Str,x ≠ "__name__" -> mb x=PR x
 nolimit:base.NoLimit
structure Cx where
 prog:KC
 w:LL
 K:JC
 mg:Str->Option JD
 base:MQ
 A:LI
 N:List Str
 s₀:JH
 H₀:Hp
 env:Env
 outer:List Env
 stack:List Env
 ex:List JK
 fn:Str->Bool
 calm:Bool
 sx:Bool
 pn:List (JK×Obj)
 xe:JD->JH->Prop
def Rc(l:List Env):List JK:=l.filterMap (·.frame)
abbrev Cx.fs(X:Cx):List JK:=Rc X.outer
def HB(sc:Scope)(x:Str):Prop:=sc.names.lookup x=some .local∨sc.names.lookup x=some .cell∨sc.names.lookup x=some .free
def Loc(sc:Scope)(x:Str):Prop:=sc.names.lookup x=some .local∨sc.names.lookup x=some .cell
def Look(env:Env)(h:MQ)(m:Str->Option JD)(x:Str)(u:JD):Prop:=
 (env.kindOf x=some .local/\m x=some u)∨((env.kindOf x=some .cell∨env.kindOf x=some .free)/\∃c,env.cells.lookup x=some c/\h.IsCell c (some u))
structure Cx.Ok(X:Cx):Prop where
 mod:Mod X.K X.mg X.base
 kind:X.env.scope.kind=.function
 glob:X.env.globals=LC
 blt:X.env.builtins=builtinsNs
 above:X.s₀.heap.objs.size<=X.env.locals
 inj:∀x y c,X.env.cells.lookup x=some c->X.env.cells.lookup y=some c->x=y
 has:∀x,(X.env.kindOf x=some .cell∨X.env.kindOf x=some .free)->∃c,X.env.cells.lookup x=some c
 cab:∀x c,X.fn x=true->X.env.cells.lookup x=some c->X.s₀.heap.objs.size<=c
 hd:X.calm=true->Bp X.A X.base
 st:X.sx=true->X.A.handled=none
 frames:X.A.frames=some X.stack
 stk:X.stack=X.outer∨(X.stack=X.env::X.outer/\X.env.frame=some X.env.locals)
 exf:∀b∈X.ex,b≠X.env.locals/\∀x c,X.env.cells.lookup x=some c->c≠b
 bs:∀b o,X.base.get? b=some o->X.s₀.heap.get? b=some o/\X.H₀ b=none
 bsz:X.base.objs.size<=X.s₀.heap.objs.size
 noex:∀b o,X.base.get? b=some o->b∉X.ex
 exfs:∀b∈X.ex,b∉X.fs
 funs:X.s₀.heap.FunFrames X.base X.outer
 frf:∀b∈X.fs,X.H₀ b=none
structure Inv(X:Cx)(pins:List (JK×Obj))(σ:List (Option V))(H:Hp)(s:JH):Prop where
 ok:X.Ok
 os:s.os=X.s₀.os
 bare:AllBare s.gens
 base:Un X.fs X.ex X.H₀ H X.s₀.heap s.heap
 loc:∃m,s.heap.Ns X.env.locals m/\∀(i:Nat)(x:Str)(v:V),X.N[i]? = some x->σ[i]? = some (some v)->HB X.env.scope x->∃u,RelV v u/\Look X.env s.heap m x u
 cell:∀x c,X.env.cells.lookup x=some c->∃v,s.heap.IsCell c v
 free:H X.env.locals=none
 freeC:∀x c,X.env.cells.lookup x=some c->H c=none
 pin:∀p∈X.pn++pins,s.heap.get? p.1=some p.2/\H p.1=none/\p.1≠X.env.locals/\p.1∉X.fs/\∀v,p.2.data ≠ .cell v
 hok:Kg X.prog X.w H s.heap
 len:σ.length=X.N.length
section
variable {X:Cx} {pins:List (JK×Obj)} {σ:List (Option V)} {H H':Hp} {s:JH} {h':MQ}
theorem Cx.Ok.nofr(ok:X.Ok){b:JK}{o:Obj}(e:X.base.get? b=some o):b∉X.fs:=λhb=>by
 have:=(ok.funs.mem hb).1
 rw[e] at this;cases this
theorem Inv.bs(I:Inv X pins σ H s):∀b o,X.base.get? b=some o->s.heap.get? b=some o/\H b=none:=λb o e=>
 ⟨I.base.keep b o (I.ok.bs b o e).1 (I.ok.bs b o e).2 (I.ok.nofr e) (I.ok.noex b o e),I.base.free b o (I.ok.bs b o e).1 (I.ok.bs b o e).2 (I.ok.noex b o e)⟩
theorem Inv.bk(I:Inv X pins σ H s):∀b o,X.base.get? b=some o->s.heap.get? b=some o:=λb o e=>(I.bs b o e).1
theorem Inv.calmS(I:Inv X pins σ H s)(hc:X.calm=true):Bp X.A s.heap:=(I.ok.hd hc).ext I.bk
theorem Inv.mod(I:Inv X pins σ H s):Mod X.K X.mg X.base:=I.ok.mod
theorem Inv.kIn(I:Inv X pins σ H s):X.K.In s.heap:=I.ok.mod.kin.keeps I.bk
theorem Inv.fr(I:Inv X pins σ H s):∃m,Fr X.base X.env.locals s.heap m:=
 let ⟨m,hn,_⟩:=I.loc
 ⟨m,hn,I.bk,KS I.ok.bsz I.ok.above⟩
theorem Inv.lt(I:Inv X pins σ H s):X.env.locals < s.heap.objs.size:=let ⟨_,hn,_⟩:=I.loc;hn.lt
theorem Inv.sz(I:Inv X pins σ H s):X.s₀.heap.objs.size<=s.heap.objs.size:=KS I.ok.above (Nat.le_of_lt I.lt)
theorem Inv.nofs(I:Inv X pins σ H s){a:JK}(h:s.heap.objs.size<=a):a∉X.fs:=λhb=>by
 obtain⟨_,o,ho,_⟩:=I.ok.funs.mem hb
 exact absurd (LD (JW ho) (KS I.sz h)) (PK _)
theorem Inv.cne(I:Inv X pins σ H s):∀x c,X.env.cells.lookup x=some c->c≠X.env.locals:=λx c e z=>by
 obtain⟨v,o,ho,hd⟩:=I.cell x c e
 obtain⟨m,⟨o',es,ep,ho',hd',_⟩,_⟩:=I.loc
 rw[z,ho'] at ho;cases ho;rw[hd'] at hd;cases hd
theorem Inv.funs(I:Inv X pins σ H s):s.heap.FunFrames X.base X.outer:=by
 have all:∀(l:List Env),(∀b∈Rc l,b∈X.fs)->X.s₀.heap.FunFrames X.base l->s.heap.FunFrames X.base l:=by
  intro l
  induction l with
  | nil=>intro _ _;trivial
  | cons env r ih=>
   intro hs hl
   obtain⟨hk,⟨L,o,hf,hn,ho,hd⟩,hr⟩:=hl
   have hL:L∈X.fs:=hs L (by unfold Rc;rw[List.filterMap_cons,hf];exact JS)
   obtain⟨sl,e⟩:=I.base.slot L o ho (I.ok.frf L hL) hL λz=>I.ok.exfs L z hL
   exact⟨hk,⟨L,_,hf,hn,e,hd⟩,ih (λb hb=>hs b (by unfold Rc;rw[List.filterMap_cons,hf];exact JQ _ hb)) hr⟩
 exact all X.outer (λ_ hb=>hb) I.ok.funs
theorem Inv.stack(I:Inv X pins σ H s):s.heap.FunFrames X.base X.stack:=by
 rcases I.ok.stk with e | ⟨e,hf⟩
 ·rw[e];exact I.funs
 ·rw[e]
  obtain⟨m,hn,_⟩:=I.loc
  refine .cons (by rw[I.ok.kind];decide) hf hn ?_ I.funs
  exact Heap.get?_none_of_le (KS I.ok.bsz I.ok.above)
theorem Inv.stkSub(I:Inv X pins σ H s):∀b∈Rc X.stack,b∈X.env.locals::X.fs:=λb hb=>by
 rcases I.ok.stk with e | ⟨e,hf⟩
 ·rw[e] at hb;exact JQ _ hb
 ·rw[e] at hb
  unfold Rc at hb
  rw[List.filterMap_cons,hf] at hb
  exact hb
theorem Inv.stkFree(I:Inv X pins σ H s):∀b∈Rc X.stack,H b=none:=λb hb=>by
 rcases JP.mp (I.stkSub b hb) with e | hb
 ·rw[e];exact I.free
 ·obtain⟨_,o,ho,_⟩:=I.ok.funs.mem hb
  exact I.base.free b o ho (I.ok.frf b hb) λz=>I.ok.exfs b z hb
theorem Inv.step{g':Array GenState}{t':Nat}{d':Drawn}{ch:List JK}(I:Inv X pins σ H s)(hch:∀b∈ch,(b∈X.ex∨X.s₀.heap.objs.size<=b)/\b≠X.env.locals/\(∀x c,X.env.cells.lookup x=some c->c≠b)/\∀p∈X.pn++pins,p.1≠b)(keep:∀b o,b≠X.env.locals->b∉X.fs->b∉ch->s.heap.get? b=some o->H b=none->h'.get? b=some o)(slot:∀b o,b≠X.env.locals->b∈X.fs->b∉ch->s.heap.get? b=some o->H b=none->∃sl,h'.get? b=some { o with slots:=sl })(free:∀b o,b∉ch->s.heap.get? b=some o->H b=none->H' b=none)(there:∀b o,b∉ch->s.heap.get? b=some o->∃o',h'.get? b=some o')(tups:∀b xs,H b=some (.tup xs)->H' b=some (.tup xs))(frzs:∀b o u,H b=some (.frz o u)->H' b=some (.frz o u))(tbls:∀b ps,H b=some (.tbl ps)->∃more,H' b=some (.tbl (ps++more)))(ns:∀m,s.heap.Ns X.env.locals m->h'.Ns X.env.locals m)(hok:Kg X.prog X.w H' h')(hg:AllBare g'):
 Inv X pins σ H' { s with heap:=h',gens:=g',drawn:=d',toks:=t' }:=by
 have neL:∀b o,X.s₀.heap.get? b=some o->b≠X.env.locals:=λb o e=>KL (LD (JW e) I.ok.above)
 have neC:∀b o,X.s₀.heap.get? b=some o->b∉X.ex->b∉ch:=λb o e hx hb=>by
  rcases (hch b hb).1 with z | z
  ·exact hx z
  ·exact absurd (LD (JW e) z) (PK _)
 have cellK:∀x c,X.env.cells.lookup x=some c->∀v,s.heap.IsCell c v->h'.IsCell c v:=λx c e v ⟨o,ho,hd⟩=>by
  have nch:c∉ch:=λz=>(hch c z).2.2.1 x c e rfl
  by_cases hc:c∈X.fs
  ·obtain⟨sl,q⟩:=slot c o (I.cne x c e) hc nch ho (I.freeC x c e)
   exact⟨_,q,hd⟩
  ·exact⟨o,keep c o (I.cne x c e) hc nch ho (I.freeC x c e),hd⟩
 refine⟨I.ok,I.os,hg,⟨λb o e n hb hx=>?_,λb o e n hb hx=>?_,λb o e n hx=>?_,λb o e hx=>?_,λb xs e=>tups b xs (I.base.tups b xs e),λb o xs e=>frzs b o xs (I.base.frzs b o xs e),λb ps e=>?_⟩,?_,λx c e=>?_,?_,λx c e=>?_,λp hp=>?_,hok,I.len⟩
 ·exact keep b o (neL b o e) hb (neC b o e hx) (I.base.keep b o e n hb hx) (I.base.free b o e n hx)
 ·obtain⟨sl,e1⟩:=I.base.slot b o e n hb hx
  obtain⟨sl',e2⟩:=slot b _ (neL b o e) hb (neC b o e hx) e1 (I.base.free b o e n hx)
  exact⟨sl',e2⟩
 ·obtain⟨o',e1⟩:=I.base.there b o e hx
  exact free b o' (neC b o e hx) e1 (I.base.free b o e n hx)
 ·obtain⟨o',e1⟩:=I.base.there b o e hx
  exact there b o' (neC b o e hx) e1
 ·obtain⟨m1,e1⟩:=I.base.tbls b ps e
  obtain⟨m2,e2⟩:=tbls b _ e1
  exact⟨m1++m2,by rw[e2,Array.append_assoc]⟩
 ·obtain⟨m,hn,hl⟩:=I.loc
  refine⟨m,ns m hn,λi x v e1 e2 e3=>?_⟩
  obtain⟨u,r,l⟩:=hl i x v e1 e2 e3
  refine⟨u,r,?_⟩
  rcases l with l | ⟨k,c,e,z⟩
  ·exact .inl l
  ·exact .inr ⟨k,c,e,cellK x c e _ z⟩
 ·obtain⟨v,z⟩:=I.cell x c e
  exact⟨v,cellK x c e v z⟩
 ·obtain⟨m,⟨o,_,_,ho,_⟩,_⟩:=I.loc
  exact free _ o (λz=>(hch _ z).2.1 rfl) ho I.free
 ·obtain⟨v,o,ho,hd⟩:=I.cell x c e
  exact free c o (λz=>(hch c z).2.2.1 x c e rfl) ho (I.freeC x c e)
 ·obtain⟨e,n,ne,nf,d⟩:=I.pin p hp
  have nch:p.1∉ch:=λz=>(hch p.1 z).2.2.2 p hp rfl
  exact⟨keep p.1 p.2 ne nf nch e n,free p.1 p.2 nch e n,ne,nf,d⟩
theorem Inv.un{t':Nat}(I:Inv X pins σ H s)(u:Un X.fs [] H H' s.heap h')(hok:Kg X.prog X.w H' h'):Inv X pins σ H' { s with heap:=h',toks:=t' }:=by
 obtain⟨m,⟨o,es,ep,ho,r⟩,_⟩:=id I.loc
 obtain⟨sl,hL⟩:=u.any ho I.free (by simp)
 exact I.step (g':=s.gens) (d':=s.drawn) (ch:=[]) (λ_ z=>nomatch z) (λb o _ hb _ e n=>u.keep b o e n hb (by simp)) (λb o _ hb _ e n=>u.slot b o e n hb (by simp)) (λb o _ e n=>u.free b o e n (by simp)) (λb o _ e=>u.there b o e (by simp)) u.tups u.frzs u.tbls (λm' hm=>by
  obtain⟨o',es',ep',ho',r'⟩:=hm
  rw[ho] at ho';cases ho'
  exact⟨_,es',ep',hL,r'⟩) hok I.bare
theorem Inv.call{g':Array GenState}{t':Nat}{d':Drawn}{ch:List JK}(I:Inv X pins σ H s)(u:Un (Rc X.stack) ch H H' s.heap h')(hok:Kg X.prog X.w H' h')(hg:AllBare g')(hch:∀b∈ch,(b∈X.ex∨X.s₀.heap.objs.size<=b)/\b≠X.env.locals/\(∀x c,X.env.cells.lookup x=some c->c≠b)/\∀p∈X.pn++pins,p.1≠b):
 Inv X pins σ H' { s with heap:=h',gens:=g',drawn:=d',toks:=t' }:=by
 obtain⟨m,⟨o,es,ep,ho,r⟩,_⟩:=id I.loc
 obtain⟨sl,hL⟩:=u.any ho I.free λz=>(hch _ z).2.1 rfl
 exact I.step (ch:=ch) hch (λb o hL hb hc e n=>u.keep b o e n (λz=>(JP.mp (I.stkSub b z)).elim hL hb) hc) (λb o _ _ hc e n=>u.any e n hc) (λb o hc e n=>u.free b o e n hc) (λb o hc e=>u.there b o e hc) u.tups u.frzs u.tbls (λm' hm=>by
  obtain⟨o',es',ep',ho',r'⟩:=hm
  rw[ho] at ho';cases ho'
  exact⟨_,es',ep',hL,r'⟩) hok hg
theorem Inv.turned{t':Nat}{it:JK}(I:Inv X pins σ H s)(k:∀b o,b≠it->s.heap.get? b=some o->h'.get? b=some o)(hn:H it=none)(hL:it≠X.env.locals)(h1:it∈X.ex∨X.s₀.heap.objs.size<=it)(h2:∀x c,X.env.cells.lookup x=some c->c≠it)(h3:∀p∈X.pn++pins,p.1≠it):Inv X pins σ H { s with heap:=h',toks:=t' }:=by
 have nit:∀b u,H b=some u->b≠it:=λb u e z=>by rw[z,hn] at e;cases e
 refine I.step (g':=s.gens) (d':=s.drawn) (ch:=[it]) (λb hb=>?_) (λb o _ _ hc e _=>k b o (λz=>hc (by simp[z])) e) (λb o _ _ hc e _=>⟨o.slots,k b o (λz=>hc (by simp[z])) e⟩) (λ_ _ _ _ n=>n)
  (λb o hc e=>⟨o,k b o (λz=>hc (by simp[z])) e⟩) (λ_ _ e=>e) (λ_ _ _ e=>e) (λb ps e=>⟨#[],by rw[e];simp⟩) (λm hm=>?_) (λb u e=>?_) I.bare
 ·have e:b=it:=by simpa using hb
  subst e
  exact⟨h1,hL,h2,h3⟩
 ·obtain⟨o,es,ep,ho,r⟩:=hm
  exact⟨o,es,ep,k _ o (LH hL) ho,r⟩
 ·refine(I.hok b u e).stay (λc v hc q=>k c v ?_ q) (λ_ q=>q) λ_ _ q=>q
  rcases hc with z | z
  ·rw[z];exact nit b u e
  ·exact nit c _ z
theorem Inv.tok(I:Inv X pins σ H s)(t:Nat):Inv X pins σ H { s with toks:=t }:=I.un (h':=s.heap) (t':=t) Un.refl I.hok
theorem Inv.kept{t':Nat}(I:Inv X pins σ H s)(k:∀b u,s.heap.get? b=some u->h'.get? b=some u):Inv X pins σ H { s with heap:=h',toks:=t' }:=I.un (Un.kept k) (I.hok.kept k)
theorem Inv.laid{a:JK}{o:HO}{t':Nat}(I:Inv X pins σ H s)(k:∀b u,s.heap.get? b=some u->h'.get? b=some u)(hp:s.heap.objs.size<=a)(new:Cg X.prog X.w (upd H a o) h' a o):
 Inv X pins σ (upd H a o) { s with heap:=h',toks:=t' }:=I.un (Un.laid k hp (I.hok.fresh hp)) (I.hok.laid k hp new)
theorem Inv.write{x e:JK}{o:HO}{t':Nat}(I:Inv X pins σ H s)(mu:BU (H x))(he:e=x∨H e=some (.own x))(k:∀b u,b≠e->s.heap.get? b=some u->h'.get? b=some u)(heo:∃u,h'.get? e=some u)(new:Cg X.prog X.w (upd H x o) h' x o):Inv X pins σ (upd H x o) { s with heap:=h',toks:=t' }:=I.un (Un.write mu he k heo) (I.hok.write mu he k heo new)
theorem Inv.weak{σ':List (Option V)}(I:Inv X pins σ H s)(hl:σ'.length=σ.length)(w:∀(i:Nat) v,σ'[i]? = some (some v)->σ[i]? = some (some v)):Inv X pins σ' H s:=
 ⟨I.ok,I.os,I.bare,I.base,let ⟨m,hn,hl'⟩:=I.loc;⟨m,hn,λi x v e1 e2 e3=>hl' i x v e1 (w i v e2) e3⟩,I.cell,I.free,I.freeC,I.pin,I.hok,hl.trans I.len⟩
theorem Inv.pins_of{pins':List (JK×Obj)}(I:Inv X pins σ H s)(h:∀p∈pins',s.heap.get? p.1=some p.2/\H p.1=none/\p.1≠X.env.locals/\p.1∉X.fs/\∀v,p.2.data ≠ .cell v):Inv X pins' σ H s:=
 ⟨I.ok,I.os,I.bare,I.base,I.loc,I.cell,I.free,I.freeC,λp hp=>(KI.mp hp).elim (λz=>I.pin p (MG _ z)) (h p),I.hok,I.len⟩
theorem Yd{N:List Str}(hN:N.Nodup){i j:Nat}{x:Str}(a:N[i]? = some x)(b:N[j]? = some x):i=j:=by
 obtain⟨h1,e1⟩:=JB.mp a
 obtain⟨h2,e2⟩:=JB.mp b
 exact(List.getElem_inj hN).mp (e1.trans e2.symm)
theorem iI{M:Model}{A:LI}{E:JD->JH->Prop}{i:Nat}{x:Str}{v:V}{u:JD}{Q:Unit->JH->Prop}(I:Inv X pins σ H s)(hN:X.N.Nodup)(hi:X.N[i]? = some x)(hx:Loc X.env.scope x)(r:RelV v u)(h:∀s',Inv X pins (σ.set i (some v)) H s'->(∃a,Heap.SameBut a s.heap s'.heap/\(a=X.env.locals∨X.env.cells.lookup x=some a))->Q () s')(hf:X.fn x=true∨X.env.scope.names.lookup x=some .local:=by first | exact .inl rfl | exact .inr rfl | assumption):KR M A (storeName X.env x u) Q E s:=by
 obtain⟨m,hn,hl⟩:=id I.loc
 have hcls:(X.env.scope.kind == .class || (X.env.scope.kind == .module && X.env.locals != X.env.globals))=false:=by rw[I.ok.kind];rfl
 have hiσ:i < σ.length:=by rw[I.len];exact(JB.mp hi).1
 have cne:=I.cne
 have tracked:∀ {a:JK} {h':MQ},(∃o,s.heap.get? a=some o/\H a=none)->Heap.SameBut a s.heap h'->Kg X.prog X.w H h':=λ{a h'} ha hs b ob e=>by
  obtain⟨_,_,hfree⟩:=ha
  refine(I.hok b ob e).stay (λc w' hc q=>(hs.2 c ?_).trans q) (λ_ q=>q) λ_ _ q=>q
  rintro rfl
  rcases hc with rfl | hc
  ·rw[hfree] at e;cases e
  ·rw[hfree] at hc;cases hc
 rcases hx with hk | hk
 ·refine wpAny_storeName_local hk hn (λh' hn' hs=>?_) hcls
  obtain⟨oL,_,_,hoL,_⟩:=id hn
  refine h _ ⟨I.ok,I.os,I.bare,⟨λb o e n hb hx=>?_,λb o e n hb hx=>?_,I.base.free,λb o e hx=>?_,I.base.tups,I.base.frzs,I.base.tbls⟩,⟨_,hn',λj y v' e1 e2 e3=>?_⟩,λy c e=>?_,I.free,I.freeC,λp hp=>?_,tracked ⟨oL,hoL,I.free⟩ hs,by simpa using I.len⟩ ⟨_,hs,.inl rfl⟩
  ·exact(hs.2 b (KL (LD (JW e) I.ok.above))).trans (I.base.keep b o e n hb hx)
  ·obtain⟨sl,e1⟩:=I.base.slot b o e n hb hx
   exact⟨sl,(hs.2 b (KL (LD (JW e) I.ok.above))).trans e1⟩
  ·obtain⟨o',e1⟩:=I.base.there b o e hx
   exact⟨o',(hs.2 b (KL (LD (JW e) I.ok.above))).trans e1⟩
  ·by_cases hj:j=i
   ·subst hj
    rw[hi] at e1;cases e1
    rw[NW hiσ] at e2
    cases e2
    exact⟨u,r,.inl ⟨hk,by simp⟩⟩
   ·rw[NJ (LH hj)] at e2
    obtain⟨u',r',q⟩:=hl j y v' e1 e2 e3
    refine⟨u',r',?_⟩
    rcases q with ⟨k,e⟩ | ⟨k,c,e,z⟩
    ·refine .inl ⟨k,?_⟩
     have:y≠x:=λe=>hj (Yd hN e1 (e ▸ hi))
     simp[this,e]
    ·exact .inr ⟨k,c,e,z.sameBut hs (cne y c e)⟩
  ·obtain⟨w',z⟩:=I.cell y c e
   exact⟨w',z.sameBut hs (cne y c e)⟩
  ·obtain⟨e,n,ne,nf,d⟩:=I.pin p hp
   exact⟨(hs.2 p.1 ne).trans e,n,ne,nf,d⟩
 ·have hfn:X.fn x=true:=by
   rcases hf with z | z
   ·exact z
   ·rw[z] at hk;cases hk
  obtain⟨c,hc⟩:=I.ok.has x (.inl hk)
  obtain⟨w',z⟩:=I.cell x c hc
  refine wpAny_storeName_cell I.ok.kind hk hc z (λh' hc' hs=>?_)
  obtain⟨oc,hoc,hocd⟩:=id z
  refine h { s with heap:=h' } ⟨I.ok,I.os,I.bare,⟨λb o e n hb hx=>?_,λb o e n hb hx=>?_,I.base.free,λb o e hx=>?_,I.base.tups,I.base.frzs,I.base.tbls⟩,⟨m,hn.sameBut hs (LH (cne x c hc)),λj y v' e1 e2 e3=>?_⟩,λy c' e=>?_,I.free,I.freeC,λp hp=>?_,tracked ⟨oc,hoc,I.freeC x c hc⟩ hs,by simpa using I.len⟩ ⟨c,hs,.inr hc⟩
  ·exact(hs.2 b (KL (LD (JW e) (I.ok.cab x c hfn hc)))).trans (I.base.keep b o e n hb hx)
  ·obtain⟨sl,e1⟩:=I.base.slot b o e n hb hx
   exact⟨sl,(hs.2 b (KL (LD (JW e) (I.ok.cab x c hfn hc)))).trans e1⟩
  ·obtain⟨o',e1⟩:=I.base.there b o e hx
   exact⟨o',(hs.2 b (KL (LD (JW e) (I.ok.cab x c hfn hc)))).trans e1⟩
  ·by_cases hj:j=i
   ·subst hj
    rw[hi] at e1;cases e1
    rw[NW hiσ] at e2
    cases e2
    exact⟨u,r,.inr ⟨.inl hk,c,hc,hc'⟩⟩
   ·rw[NJ (LH hj)] at e2
    obtain⟨u',r',q⟩:=hl j y v' e1 e2 e3
    refine⟨u',r',?_⟩
    rcases q with q | ⟨k,c',e,z'⟩
    ·exact .inl q
    ·refine .inr ⟨k,c',e,z'.sameBut hs ?_⟩
     rintro rfl
     exact hj (Yd hN e1 (I.ok.inj _ _ _ e hc ▸ hi))
  ·by_cases hcc:c'=c
   ·subst hcc;exact⟨_,hc'⟩
   ·obtain⟨w2,z2⟩:=I.cell y c' e
    exact⟨w2,z2.sameBut hs hcc⟩
  ·obtain⟨e,n,ne,nf,d⟩:=I.pin p hp
   refine⟨(hs.2 p.1 ?_).trans e,n,ne,nf,d⟩
   intro q
   rw[q,hoc] at e
   have q':oc=p.2:=KW e
   exact d w' (by rw[<- q'];exact hocd)
theorem Qc{M:Model}{A:LI}{E:JD->JH->Prop}{i:Nat}{x:Str}{v:V}{u:JD}{Q:Unit->JH->Prop}(I:Inv X pins σ H s)(hN:X.N.Nodup)(hi:X.N[i]? = some x)(hx:Loc X.env.scope x)(r:RelV v u)(h:∀s',Inv X pins (σ.set i (some v)) H s'->Q () s')(hf:X.fn x=true∨X.env.scope.names.lookup x=some .local:=by first | exact .inl rfl | exact .inr rfl | assumption):KR M A (storeName X.env x u) Q E s:=
 iI I hN hi hx r (λs' I' _=>h s' I') hf
theorem Inv.call'{s':JH}{ch:List JK}(I:Inv X pins σ H s)(ho:s'.os=s.os)(u:Un (Rc X.stack) ch H H' s.heap s'.heap)(hok:Kg X.prog X.w H' s'.heap)(hg:AllBare s'.gens)(hch:∀b∈ch,(b∈X.ex∨X.s₀.heap.objs.size<=b)/\b≠X.env.locals/\(∀x c,X.env.cells.lookup x=some c->c≠b)/\∀p∈X.pn++pins,p.1≠b):Inv X pins σ H' s':=by
 obtain⟨h',g',d',t',o'⟩:=s'
 have e:o'=s.os:=ho
 subst e
 exact I.call (g':=g') (t':=t') (d':=d') u hok hg hch
end
abbrev XK:=JD->Option JK->Hp->Prop
abbrev St:=List (Option V)
abbrev VK:=V->Hp->Prop
abbrev TE:=St->Hp->VK->Prop
abbrev TT:=St->Hp->(Bool->Hp->Prop)->Prop
abbrev TA:=St->Hp->(List V->Hp->Prop)->Prop
structure Ends where
 nx:St->Hp->Prop
 rt:VK
 bk:St->Hp->Prop:=λ_ _=>False
 ct:St->Hp->Prop:=λ_ _=>False
abbrev TS:=Ends->St->Hp->Prop
def EP(X:Cx)(pins:List (JK×Obj))(σ:St)(Q:VK)(u:JD)(s':JH):Prop:=∃v H',Inv X pins σ H' s'/\RelV v u/\Q v H'
def TP(X:Cx)(pins:List (JK×Obj))(σ:St)(Q:Bool->Hp->Prop)(b:Bool)(s':JH):Prop:=∃H',Inv X pins σ H' s'/\Q b H'
def AP(X:Cx)(pins:List (JK×Obj))(σ:St)(Q:List V->Hp->Prop)(us:List JD)(s':JH):Prop:=∃vs H',Inv X pins σ H' s'/\Bb vs us/\Q vs H'
def SP(X:Cx)(pins:List (JK×Obj))(D:Ends)(f:Flow)(s':JH):Prop:=
 match f with
 | .next=>∃σ' H',Inv X pins σ' H' s'/\D.nx σ' H'
 | .brk=>∃σ' H',Inv X pins σ' H' s'/\D.bk σ' H'
 | .cont=>∃σ' H',Inv X pins σ' H' s'/\D.ct σ' H'
 | .ret u=>∃v σ' H',Inv X pins σ' H' s'/\RelV v u/\D.rt v H'
def PE(X:Cx)(e:Expr)(t:TE):Prop:=
 ∀(pins:List (JK×Obj))(s:JH)(σ:St)(H:Hp)(Q:VK),Inv X pins σ H s->t σ H Q->KR (KU X.prog X.w) X.A (OX e X.env) (EP X pins σ Q) X.xe s
def PT(X:Cx)(e:Expr)(t:TT):Prop:=
 ∀(pins:List (JK×Obj))(s:JH)(σ:St)(H:Hp)(Q:Bool->Hp->Prop),Inv X pins σ H s->t σ H Q->KR (KU X.prog X.w) X.A (isTrue e X.env (OX e X.env)) (TP X pins σ Q) X.xe s
def PW(X:Cx)(e:Expr)(t:TT):Prop:=
 ∀(whole:Sem JD)(pins:List (JK×Obj))(s:JH)(σ:St)(H:Hp)(Q:Bool->Hp->Prop),Inv X pins σ H s->t σ H Q->KR (KU X.prog X.w) X.A (isTrue e X.env whole) (TP X pins σ Q) X.xe s
theorem PW.pt{X:Cx}{e:Expr}{t:TT}(h:PW X e t):PT X e t:=h _
def PA(X:Cx)(es:List Expr)(t:TA):Prop:=
 ∀(pos:Pos)(pins:List (JK×Obj))(s:JH)(σ:St)(H:Hp)(Q:List V->Hp->Prop),Inv X pins σ H s->t σ H Q->KR (KU X.prog X.w) X.A (spliced (QK pos (KQ es X.env))) (AP X pins σ Q) X.xe s
def PS(X:Cx)(st:OQ)(t:TS):Prop:=
 ∀(pins:List (JK×Obj))(s:JH)(σ:St)(H:Hp)(D:Ends),Inv X pins σ H s->t D σ H->KR (KU X.prog X.w) X.A (exec st X.env) (SP X pins D) X.xe s
def Hy(X:Cx)(st:List OQ)(t:TS):Prop:=
 ∀(pins:List (JK×Obj))(s:JH)(σ:St)(H:Hp)(D:Ends),Inv X pins σ H s->t D σ H->KR (KU X.prog X.w) X.A (execs st X.env) (SP X pins D) X.xe s
theorem Bu{α:Type}{t:Sem α}{Q Q':α->JH->Prop}{M:Model}{A:LI}{E:JD->JH->Prop}{s:JH}(h:KR M A t Q E s)(hQ:∀a s,Q a s->Q' a s):KR M A t Q' E s:=MY h hQ λ_ _ x=>x
section
variable {X:Cx}
theorem IZ{a b:Expr}{ta tb:TE}(ha:PE X a ta)(hb:PE X b tb){pins:List (JK×Obj)}{s:JH}{σ:St}{H:Hp}{R:V->V->Hp->Prop}(I:Inv X pins σ H s)(h:ta σ H λx H1=>tb σ H1 λy H2=>R x y H2){α:Type}{Q:α->JH->Prop}{f:JD->JD->Sem α}(hf:∀v u s2 x y H2,Inv X pins σ H2 s2->RelV x v->RelV y u->R x y H2->KR (KU X.prog X.w) X.A (f v u) Q X.xe s2):
 KR (KU X.prog X.w) X.A (OX a X.env) (λv s₁=>KR (KU X.prog X.w) X.A (OX b X.env) (λu s₂=>KR (KU X.prog X.w) X.A (f v u) Q X.xe s₂) X.xe s₁) X.xe s:=by
 refine Bu (ha pins s σ H _ I h) λv s1 ⟨x,H1,I1,r1,q1⟩=>?_
 refine Bu (hb pins s1 σ H1 _ I1 q1) λu s2 ⟨y,H2,I2,r2,q2⟩=>?_
 exact hf v u s2 x y H2 I2 r1 r2 q2
def CK(i:Nat):TE:=λσ H Q=>∃v,σ[i]? = some (some v)/\Q v H
def tC(v:V):TE:=λ_ H Q=>Q v H
theorem xS{i:Nat}{x:Str}{pos:Pos}(hN:X.N[i]? = some x)(hv:HB X.env.scope x)(hd:(x == ("__debug__" : Str))=false:=by decide)(hcd:(x == ("__classdict__" : Str))=false:=by decide):PE X (.Name x pos) (CK i):=by
 intro pins s σ H Q I h
 obtain⟨v,e,h⟩:=h
 obtain⟨m,hn,hl⟩:=I.loc
 obtain⟨u,r,l⟩:=hl i x v hN e hv
 have fin:EP X pins σ Q u s:=⟨v,H,I,r,h⟩
 rcases l with ⟨hk,hm⟩ | ⟨hk,c,hc,hcell⟩
 ·exact wpAny_Name (wpAny_loadName_local I.ok.kind hk hn hm fin) hd
 ·rcases hk with hk | hk
  ·exact wpAny_Name (wpAny_loadName_cell I.ok.kind hk hc hcell fin) hd
  ·exact wpAny_Name (wpAny_loadName_free I.ok.kind hk hc hcell fin hcd) hd
theorem Ae{i j pos}:PE X (.Constant (.int i) j pos) (tC (.int i)):=λ_ _ _ H _ I h=>wpAny_Constant_int ⟨.int i,H,I.tok _,⟨_,rfl⟩,h⟩
theorem xA{b j pos}:PE X (.Constant (.bool b) j pos) (tC (.bl b)):=λ_ _ _ H _ I h=>Constant_bool ⟨.bl b,H,I,rfl,h⟩
theorem lM{j pos}:PE X (.Constant .none j pos) (tC .non):=λ_ _ _ H _ I h=>Constant_none ⟨.non,H,I,rfl,h⟩
theorem Ba{x j pos}:PE X (.Constant (.str x) j pos) (tC (.str x)):=λ_ _ _ H _ I h=>Calls.Constant_str ⟨.str x,H,I.tok _,⟨_,rfl⟩,h⟩
def Gl(X:Cx)(x:Str):Prop:=X.env.kindOf x=some .globalImplicit
theorem Hb{E:JD->JH->Prop}{pins:List (JK×Obj)}{s:JH}{σ:St}{H:Hp}{x:Str}{u:JD}{pos:Pos}{Q:JD->JH->Prop}(I:Inv X pins σ H s)(hg:Gl X x)(hm:X.mg x=some u)(h:Q u s)(hd:(x == ("__debug__" : Str))=false:=by decide):KR (KU X.prog X.w) X.A (OX (.Name x pos) X.env) Q E s:=
 Calls.Name_function_global I.ok.kind hg (Calls.loadGlobal_global (by rw[I.ok.glob];exact I.mod.glob.keeps I.bk) hm h) hd
theorem Ia{E:JD->JH->Prop}{pins:List (JK×Obj)}{s:JH}{σ:St}{H:Hp}{x:Str}{u:JD}{pos:Pos}{Q:JD->JH->Prop}(I:Inv X pins σ H s)(hg:Gl X x)(hm:X.mg x=none)(hv:PR x=some u)(h:Q u s)(hn:x ≠ "__name__" := by decide)(hd:(x == ("__debug__" : Str))=false:=by decide):KR (KU X.prog X.w) X.A (OX (.Name x pos) X.env) Q E s:=by
 obtain⟨mb,h1,h2⟩:=I.mod.blt
 exact Calls.Name_function_global I.ok.kind hg (Calls.loadGlobal_builtin (by rw[I.ok.glob];exact I.mod.glob.keeps I.bk) hm (by rw[I.ok.blt];exact h1.keeps I.bk) ((h2 x hn).trans hv) h) hd
theorem dZ{x:Str}{v:V}{u:JD}{pos:Pos}(hg:Gl X x)(hm:X.mg x=some u)(r:RelV v u)(hd:(x == ("__debug__" : Str))=false:=by decide):PE X (.Name x pos) (tC v):=
 λ_ _ _ H _ I h=>Hb I hg hm ⟨v,H,I,r,h⟩ hd
theorem Ib{x:Str}{v:V}{u:JD}{pos:Pos}(hg:Gl X x)(hm:X.mg x=none)(hv:PR x=some u)(r:RelV v u)(hn:x ≠ "__name__" := by decide)(hd:(x == ("__debug__" : Str))=false:=by decide):PE X (.Name x pos) (tC v):=
 λ_ _ _ H _ I h=>Ia I hg hm hv ⟨v,H,I,r,h⟩ hn hd
variable {a b:Expr} {ta tb:TE} {pos:Pos}
def PC(X:Cx)(op:CmpOp)(a b:Expr)(t:TE):Prop:=
 ∀(pins:List (JK×Obj))(s:JH)(σ:St)(H:Hp)(Q:VK),Inv X pins σ H s->t σ H Q ->
  KR (KU X.prog X.w) X.A (OX a X.env) (λv s₁=>KR (KU X.prog X.w) X.A (OX b X.env) (λu s₂=>KR (KU X.prog X.w) X.A (OS op v u) (EP X pins σ Q) X.xe s₂) X.xe s₁) X.xe s
theorem qB(b:Expr){op:CmpOp}(h:op ≠ .In)(h2:op ≠ .NotIn):SG op b=false:=by
 have e1:(op == CmpOp.In)=false:=by cases op<;>first | rfl | exact absurd rfl h
 have e2:(op == CmpOp.NotIn)=false:=by cases op<;>first | rfl | exact absurd rfl h2
 cases b<;>simp[SG,e1,e2]
def HE(ta:TE):TE:=λσ H Q=>ta σ H λx H1=>Q (.bl (decide (x=.non))) H1
def DH(ta:TE):TE:=λσ H Q=>ta σ H λx H1=>Q (.bl (!decide (x=.non))) H1
theorem RelV.none_iff{x:V}{v:JD}(r:RelV x v):(v == MU)=decide (x=.non):=by
 cases x with
 | non=>cases r;rfl
 | bl _=>cases r;rfl
 | int _=>obtain⟨t,rfl⟩:=r;rfl
 | str _=>obtain⟨t,rfl⟩:=r;rfl
 | byt _=>obtain⟨t,rfl⟩:=r;rfl
 | flt _=>obtain⟨t,rfl⟩:=r;rfl
 | ref _=>cases r;rfl
 | ty _=>cases r;rfl
theorem cG{j pos'}(ha:PE X a ta):PC X .Is a (.Constant .none j pos') (HE ta):=by
 intro pins s σ H Q I h
 refine Bu (ha pins s σ H _ I h) λv s1 ⟨x,H1,I1,r1,q1⟩=>?_
 exact Constant_none (is_none_gen ⟨.bl _,H1,I1,by rw[r1.none_iff];rfl,q1⟩)
theorem Uq{j pos'}(ha:PE X a ta):PC X .IsNot a (.Constant .none j pos') (DH ta):=by
 intro pins s σ H Q I h
 refine Bu (ha pins s σ H _ I h) λv s1 ⟨x,H1,I1,r1,q1⟩=>?_
 exact Constant_none (isnot_none_gen ⟨.bl _,H1,I1,by rw[r1.none_iff];rfl,q1⟩)
def tB(t:TE):TT:=λσ H Q=>t σ H λx H1=>∃c,x=.bl c/\Q c H1
theorem Fs{op:CmpOp}{t:TE}(h:PC X op a b t)(h1:SG op b=false:=by first | exact qB _ (by decide) (by decide) | rfl):PT X (.Compare a [op] [b] pos) (tB t):=by
 intro pins s σ H Q I hw
 refine wpAny_isTrue_Compare1 (Bu (h pins s σ H _ I hw) λv s1 h1=>Bu h1 λu s2 h2=>Bu h2 λc s3 ⟨x,H1,I1,r1,q1⟩=>?_) h1
 obtain⟨d,rfl,q⟩:=q1
 cases r1
 exact OD ⟨H1,I1,q⟩
theorem Fv{e:Expr}{t:TE}(h:PE X e t)(he:∀whole,isTrue e X.env whole=(do let v <- whole;standAt e.pos;holding [v] (truthy v)):=by intro _;rfl):PT X e (tB t):=by
 intro pins s σ H Q I hw
 refine isTrue_plain (Bu (h pins s σ H _ I hw) λv s1 ⟨x,H1,I1,r1,q1⟩=>?_) (he _)
 obtain⟨d,rfl,q⟩:=q1
 cases r1
 exact OD ⟨H1,I1,q⟩
variable {tA tB':TT} {rest:List Expr}
def HJ(t u:TT):TT:=λσ H Q=>t σ H λc H1=>if c=true then u σ H1 Q else Q false H1
def IL(t u:TT):TT:=λσ H Q=>t σ H λc H1=>if c=true then Q true H1 else u σ H1 Q
def HF(t:TT):TT:=λσ H Q=>t σ H λc H1=>Q (!c) H1
theorem Lc(ha:PT X a tA):PW X (.BoolOp .And [a] pos) tA:=by
 intro wh pins s σ H Q I h
 refine isTrue_and (Bu (ha pins s σ H Q I h) λc s1 e=>?_)
 cases c with
 | true=>exact isTrue_and_nil e
 | false=>exact e
theorem Zq(ha:PT X a tA):PW X (.BoolOp .Or [a] pos) tA:=by
 intro wh pins s σ H Q I h
 refine isTrue_or (Bu (ha pins s σ H Q I h) λc s1 e=>?_)
 cases c with
 | false=>exact isTrue_or_nil e
 | true=>exact e
theorem Qn(ha:PT X a tA)(hb:PW X (.BoolOp .And (b::rest) pos) tB'):PW X (.BoolOp .And (a::b::rest) pos) (HJ tA tB'):=by
 intro wh pins s σ H Q I h
 refine isTrue_and (Bu (ha pins s σ H _ I h) λc s1 ⟨H1,I1,q1⟩=>?_)
 cases c with
 | true=>exact hb wh pins s1 σ H1 Q I1 q1
 | false=>exact⟨H1,I1,q1⟩
theorem Xt(ha:PT X a tA)(hb:PW X (.BoolOp .Or (b::rest) pos) tB'):PW X (.BoolOp .Or (a::b::rest) pos) (IL tA tB'):=by
 intro wh pins s σ H Q I h
 refine isTrue_or (Bu (ha pins s σ H _ I h) λc s1 ⟨H1,I1,q1⟩=>?_)
 cases c with
 | true=>exact⟨H1,I1,q1⟩
 | false=>exact hb wh pins s1 σ H1 Q I1 q1
theorem Hi(ha:PT X a tA):PT X (.UnaryOp .Not a pos) (HF tA):=by
 intro pins s σ H Q I h
 exact isTrue_not (ha pins s σ H (λc H1=>Q (!c) H1) I h)
def BX(ta tb:TE):TE:=λσ H Q=>ta σ H λx H1=>∃c,x=.bl c/\if c=true then tb σ H1 Q else Q (.bl false) H1
def DZ(ta:TE):TE:=λσ H Q=>ta σ H λx H1=>∃c,x=.bl c/\Q (.bl (!c)) H1
theorem Vi{op}{t:TE}(h:PE X a t):PE X (.BoolOp op [a] pos) t:=λpins s σ H Q I hw=>BoolOp_one (h pins s σ H Q I hw)
theorem Kp(ha:PE X a ta)(hb:PE X (.BoolOp .And (b::rest) pos) tb):PE X (.BoolOp .And (a::b::rest) pos) (BX ta tb):=by
 intro pins s σ H Q I h
 refine BoolOp_and (Bu (ha pins s σ H _ I h) λv s1 ⟨x,H1,I1,r1,q1⟩=>?_)
 obtain⟨c,rfl,q1⟩:=q1
 cases r1
 refine OD ?_
 cases c with
 | true=>exact hb pins s1 σ H1 Q I1 q1
 | false=>exact⟨.bl false,H1,I1,rfl,q1⟩
theorem zB(ha:PE X a ta):PE X (.UnaryOp .Not a pos) (DZ ta):=by
 intro pins s σ H Q I h
 refine UnaryOp_ (Bu (ha pins s σ H _ I h) λv s1 ⟨x,H1,I1,r1,q1⟩=>?_)
 obtain⟨c,rfl,q1⟩:=q1
 cases r1
 exact not_of (OD ⟨.bl (!c),H1,I1,rfl,q1⟩)
def IU(t:TT)(ta tb:TE):TE:=λσ H Q=>t σ H λc H1=>if c=true then ta σ H1 Q else tb σ H1 Q
theorem Xs{c:Expr}(hc:PT X c tA)(ha:PE X a ta)(hb:PE X b tb):PE X (.IfExp c a b pos) (IU tA ta tb):=by
 intro pins s σ H Q I h
 refine wpAny_IfExp (Bu (hc pins s σ H _ I h) λd s1 ⟨H1,I1,q1⟩=>?_)
 cases d with
 | true=>exact ha pins s1 σ H1 Q I1 q1
 | false=>exact hb pins s1 σ H1 Q I1 q1
end
def Aw(K:JC)(H:Hp)(a:JK)(xs:List V):Prop:=
 Rd H a (.lst xs) ∨
  ∃(o:Obj)(its:Array JD)(n:Nat),K.lookup a=some o/\o.cls=.type "list" /\ o.dict=none/\o.data=.seq its n/\its.size<=JM/\Bb xs its.toList
def Co(K:JC)(H:Hp)(a:JK)(xs:List V):Prop:=
 Rd H a (.tup xs) ∨
  ∃(o:Obj)(its:Array JD)(n:Nat),K.lookup a=some o/\o.cls=.type "tuple" /\ o.data=.seq its n/\its.size<=JM/\Bb xs its.toList
def FS:JD->Option V
 | .none=>some .non
 | .bool b=>some (.bl b)
 | .int i _=>some (.int i)
 | .str x _=>some (.str x)
 | .bytes b _=>some (.byt b)
 | .float b _=>some (.flt b)
 | .ref a=>some (.ref a)
 | .type n=>some (.ty n)
 | _=>none
theorem RelV.abs{x:V}{u:JD}(r:RelV x u):FS u=some x:=by
 cases x with
 | non=>cases r;rfl
 | bl _=>cases r;rfl
 | int _=>obtain⟨t,rfl⟩:=r;rfl
 | str _=>obtain⟨t,rfl⟩:=r;rfl
 | byt _=>obtain⟨t,rfl⟩:=r;rfl
 | flt _=>obtain⟨t,rfl⟩:=r;rfl
 | ref _=>cases r;rfl
 | ty _=>cases r;rfl
theorem RelV.inj{x y:V}{u:JD}(r:RelV x u)(q:RelV y u):x=y:=KW (r.abs.symm.trans q.abs)
theorem Bb.inj:∀ {xs ys:List V} {us:List JD},Bb xs us->Bb ys us->xs=ys
 | _,_,_,.nil,.nil=>rfl
 | _,_,_,.cons r t,.cons r' t'=>by rw[r.inj r',Bb.inj t t']
section
variable {X:Cx} {pins:List (JK×Obj)} {σ:St} {H:Hp} {s:JH} {a:JK} {xs ys:List V}
theorem Aw.of{K:JC}(h:H a=some (.lst xs)):Aw K H a xs:=.inl (.inl h)
theorem Co.of{K:JC}(h:H a=some (.tup xs)):Co K H a xs:=.inl (.inl h)
theorem Inv.list(I:Inv X pins σ H s)(h:Aw X.K H a xs):∃its:List JD,Bb xs its/\PlainL s.heap a its.toArray/\xs.length<=JM:=by
 rcases h with h | ⟨o,its,n,hk,hc,hd,hs,hz,r⟩
 ·obtain⟨z,its,n,r,e⟩:=h.ok I.hok
  exact⟨its,r,⟨_,n,e,rfl,rfl,rfl⟩,z⟩
 ·refine⟨its.toList,r,⟨o,n,I.kIn a o hk,hc,hd,by simpa using hs⟩,?_⟩
  have e:=r.length
  simp only[RG] at e
  omega
theorem Inv.tuple(I:Inv X pins σ H s)(h:Co X.K H a xs):∃its:List JD,Bb xs its/\IsTup s.heap a its.toArray/\xs.length<=JM:=by
 rcases h with h | ⟨o,its,n,hk,hc,hs,hz,r⟩
 ·obtain⟨z,its,r,p⟩:=h.ok I.hok
  exact⟨its,r,p,z⟩
 ·refine⟨its.toList,r,⟨o,I.kIn a o hk,hc,n,by simpa using hs⟩,?_⟩
  have e:=r.length
  simp only[RG] at e
  omega
theorem Inv.list_inj(I:Inv X pins σ H s)(h:Aw X.K H a xs)(h':Aw X.K H a ys):xs=ys:=by
 obtain⟨its,r,⟨o,n,e,_,_,d⟩,_⟩:=I.list h
 obtain⟨its',r',⟨o',n',e',_,_,d'⟩,_⟩:=I.list h'
 rw[e] at e';cases e'
 rw[d] at d'
 injection d' with d1 _
 have:its=its':=by simpa using congrArg Array.toList d1
 subst this
 exact r.inj r'
theorem Inv.tuple_inj(I:Inv X pins σ H s)(h:Co X.K H a xs)(h':Co X.K H a ys):xs=ys:=by
 obtain⟨its,r,⟨o,e,_,n,d⟩,_⟩:=I.tuple h
 obtain⟨its',r',⟨o',e',_,n',d'⟩,_⟩:=I.tuple h'
 rw[e] at e';cases e'
 rw[d] at d'
 injection d' with d1 _
 have:its=its':=by simpa using congrArg Array.toList d1
 subst this
 exact r.inj r'
end
abbrev Cx.wish(X:Cx)(E:JD->JH->Prop):Cx:={ X with xe:=E }
abbrev Cx.nox(X:Cx):Cx:=X.wish λ_ _=>False
theorem Cx.Ok.wish{X:Cx}(ok:X.Ok)(E:JD->JH->Prop):(X.wish E).Ok:=
 ⟨ok.mod,ok.kind,ok.glob,ok.blt,ok.above,ok.inj,ok.has,ok.cab,ok.hd,ok.st,ok.frames,ok.stk,ok.exf,ok.bs,ok.bsz,ok.noex,ok.exfs,ok.funs,ok.frf⟩
theorem Cx.Ok.unwish{X:Cx}{E:JD->JH->Prop}(ok:(X.wish E).Ok):X.Ok:=
 ⟨ok.mod,ok.kind,ok.glob,ok.blt,ok.above,ok.inj,ok.has,ok.cab,ok.hd,ok.st,ok.frames,ok.stk,ok.exf,ok.bs,ok.bsz,ok.noex,ok.exfs,ok.funs,ok.frf⟩
section
variable {X:Cx} {pins:List (JK×Obj)} {σ:St} {H:Hp} {s:JH} {E:JD->JH->Prop}
theorem Inv.wish(I:Inv X pins σ H s)(E:JD->JH->Prop):Inv (X.wish E) pins σ H s:=⟨I.ok.wish E,I.os,I.bare,I.base,I.loc,I.cell,I.free,I.freeC,I.pin,I.hok,I.len⟩
theorem Inv.unwish(I:Inv (X.wish E) pins σ H s):Inv X pins σ H s:=⟨I.ok.unwish,I.os,I.bare,I.base,I.loc,I.cell,I.free,I.freeC,I.pin,I.hok,I.len⟩
theorem SP.unwish{D:Ends}{f:Flow}{s':JH}(h:SP (X.wish E) pins D f s'):SP X pins D f s':=by
 cases f with
 | next=>obtain⟨σ',H',I,q⟩:=h;exact⟨σ',H',I.unwish,q⟩
 | brk=>obtain⟨σ',H',I,q⟩:=h;exact⟨σ',H',I.unwish,q⟩
 | cont=>obtain⟨σ',H',I,q⟩:=h;exact⟨σ',H',I.unwish,q⟩
 | ret u=>obtain⟨v,σ',H',I,r,q⟩:=h;exact⟨v,σ',H',I.unwish,r,q⟩
theorem Hy.nox{st:List OQ}{t:TS}(h:Hy X.nox st t):Hy X st t:=λpins s σ H D I hw=>
 MY (h pins s σ H D (I.wish _) hw) (λ_ _ q=>q.unwish) λ_ _ z=>LZ z
end
section
variable {X:Cx} {st:OQ} {rest:List OQ} {t u:TS} {e:Expr} {te:TE} {pos:Pos}
def EB:TS:=λD σ H=>D.nx σ H
def DT(t u:TS):TS:=λD σ H=>t { D with nx:=u D } σ H
theorem Ap:Hy X [] EB:=λ_ _ σ H _ I h=>wpAny_execs_nil ⟨σ,H,I,h⟩
theorem Ac(h1:PS X st t)(h2:Hy X rest u):Hy X (st::rest) (DT t u):=by
 intro pins s σ H D I h
 refine wpAny_execs_cons (Bu (h1 pins s σ H { D with nx:=u D } I h) λf s1 q=>?_)
 cases f with
 | next=>
  obtain⟨σ',H',I',q⟩:=q
  exact h2 pins s1 σ' H' D I' q
 | ret v=>exact q
 | brk=>exact q
 | cont=>exact q
theorem Af(h1:PS X st t):Hy X [st] t:=by
 intro pins s σ H D I h
 refine wpAny_execs_cons (Bu (h1 pins s σ H D I h) λf s1 q=>?_)
 cases f with
 | next=>exact wpAny_execs_nil q
 | ret v=>exact q
 | brk=>exact q
 | cont=>exact q
theorem Inv.quiet{pins:List (JK×Obj)}{σ:St}{H:Hp}{s:JH}(I:Inv X pins σ H s):interactive X.env=false:=by simp[interactive,I.ok.kind]
def BR(te:TE):TS:=λD σ H=>te σ H λ_ H1=>D.nx σ H1
theorem Bx(he:PE X e te)(hs:swapsWith e none pos.line X.env=pure false:=by rfl):PS X (.Expr e pos) (BR te):=by
 intro pins s σ H D I h
 exact wpAny_Expr_any (Bu (he pins s σ H _ I h) λv s1 ⟨x,H1,I1,r1,q1⟩=>⟨σ,H1,I1,q1⟩) I.quiet hs
def HC(te:TE):TS:=λD σ H=>te σ H D.rt
theorem Ao(he:PE X e te):PS X (.Return (some e) pos) (HC te):=by
 intro pins s σ H D I h
 exact wpAny_Return_some (Bu (he pins s σ H _ I h) λv s1 ⟨x,H1,I1,r1,q1⟩=>⟨x,σ,H1,I1,r1,q1⟩)
def HN(c:TT)(t u:TS):TS:=λD σ H=>c σ H λb H1=>if b=true then t D σ H1 else u D σ H1
theorem Ay{c:Expr}{a b:List OQ}{tc:TT}(hc:PT X c tc)(ha:Hy X a t)(hb:Hy X b u):PS X (.If c a b pos) (HN tc t u):=by
 intro pins s σ H D I h
 refine wpAny_If (Bu (hc pins s σ H _ I h) λd s1 ⟨H1,I1,q1⟩=>?_)
 cases d with
 | true=>exact ha pins s1 σ H1 D I1 q1
 | false=>exact hb pins s1 σ H1 D I1 q1
def zR:TS:=λ_ _ _=>False
theorem Bs{sts:List OQ}:Hy X sts zR:=λ_ _ _ _ _ _ h=>h.elim
end
abbrev TG:=V->St->Hp->(St->Hp->Prop)->Prop
abbrev rM:=List V->St->Hp->(St->Hp->Prop)->Prop
def PG(X:Cx)(target:Expr)(t:TG):Prop:=
 ∀(pins:List (JK×Obj))(s:JH)(σ:St)(H:Hp)(v:V)(u:JD)(Q:St->Hp->Prop),Inv X pins σ H s->RelV v u->t v σ H Q ->
  KR (KU X.prog X.w) X.A (assign target X.env u) (λ_ s'=>∃σ' H',Inv X pins σ' H' s'/\Q σ' H') X.xe s
def ET(X:Cx)(ts:List Expr)(t:rM):Prop:=
 ∀(pins:List (JK×Obj))(s:JH)(σ:St)(H:Hp)(vs:List V)(us:List JD)(Q:St->Hp->Prop),Inv X pins σ H s->Bb vs us->t vs σ H Q ->
  KR (KU X.prog X.w) X.A (assignInOrder ((assignEach ts X.env).map (·.2)) us) (λ_ s'=>∃σ' H',Inv X pins σ' H' s'/\Q σ' H') X.xe s
abbrev yW:=V->V->V->Hp->(Hp->Prop)->Prop
def DX(X:Cx)(t:yW):Prop:=
 ∀(pins:List (JK×Obj))(s:JH)(σ:St)(H:Hp)(o i v:V)(ov iv u:JD)(Q:Hp->Prop),Inv X pins σ H s->RelV o ov->RelV i iv->RelV v u->t o i v H Q ->
  KR (KU X.prog X.w) X.A (setItem ov iv u) (λ_ s'=>∃H',Inv X pins σ H' s'/\Q H') X.xe s
section
variable {X:Cx} {pos:Pos}
def Kk(i:Nat):TG:=λv σ H Q=>Q (σ.set i (some v)) H
theorem rP{i:Nat}{x:Str}(hN:X.N.Nodup)(hi:X.N[i]? = some x)(hx:Loc X.env.scope x)(hf:X.fn x=true∨X.env.scope.names.lookup x=some .local:=by first | exact .inl rfl | exact .inr rfl | assumption):PG X (.Name x pos) (Kk i):=by
 intro pins s σ H v u Q I r h
 exact wpAny_assign_Name (Qc I hN hi hx r (λs' I'=>⟨_,H,I',h⟩) hf)
def CC:rM:=λvs σ H Q=>vs=[]/\Q σ H
def xC(t:TG)(u:rM):rM:=λvs σ H Q=>∃v r,vs=v::r/\t v σ H λσ' H'=>u r σ' H' Q
theorem Hf:ET X [] CC:=by
 intro pins s σ H vs us Q I r h
 obtain⟨e,h⟩:=h
 subst e
 cases r
 exact assignInOrder_nil ⟨σ,H,I,h⟩
theorem Ce{e:Expr}{es:List Expr}{t:TG}{u:rM}(h1:PG X e t)(h2:ET X es u)(hs:(assignEach (e::es) X.env).map (·.2)=assign e X.env::(assignEach es X.env).map (·.2):=by rfl):ET X (e::es) (xC t u):=by
 intro pins s σ H vs us Q I r h
 obtain⟨v,vr,e1,h⟩:=h
 subst e1
 cases r with
 | cons r rr=>
  rw[hs]
  refine assignInOrder_cons (Bu (h1 pins s σ H _ _ _ I r h) λ_ s1 ⟨σ1,H1,I1,q1⟩=>?_)
  exact h2 pins s1 σ1 H1 _ _ Q I1 rr q1
def EK(K:JC)(n:Nat)(t:rM):TG:=λv σ H Q=>∃a xs,v=.ref a/\Co K H a xs/\xs.length=n/\t xs σ H Q
theorem Ji{es:List Expr}{k:Nat}{t:rM}{n:Nat}(hc:X.calm=true)(h:ET X es t)(hn:(assignEach es X.env).length=n:=by rfl)(hst:(assignEach es X.env).findIdx? (·.1)=none:=by rfl):PG X (.Tuple es k pos) (EK X.K n t):=by
 intro pins s σ H v u Q I r hw
 obtain⟨a,xs,e1,hq,hl,hw⟩:=hw
 subst e1
 cases r
 obtain⟨its,rv,ht,hz⟩:=I.tuple hq
 refine sV (I.calmS hc) ht (by simp[hn,<- hl,rv.length]) hst λh' hx=>?_
 have I1:Inv X pins σ H { s with heap:=h' }:=I.kept (t':=s.toks) λb o e=>hx b o (KL (JW e)) e
 exact h pins _ σ H xs _ Q I1 (by simpa using rv) hw
def HM(to ti:TE)(t:yW):TG:=λv σ H Q=>to σ H λo H1=>ti σ H1 λi H2=>t o i v H2 λH3=>Q σ H3
theorem AE{o i:Expr}{to ti:TE}{t:yW}(ho:PE X o to)(hi:PE X i ti)(hs:DX X t)(ha:∀v,assign (.Subscript o i pos) X.env v=(do
  let ov <- holding [v] (OX o X.env)
  let iv <- holding [v,ov] (OX i X.env)
  standAt pos
  holding [v,ov,iv] (setItem ov iv v)
  release [v,ov,iv] []):=by intro _;rfl):PG X (.Subscript o i pos) (HM to ti t):=by
 intro pins s σ H v u Q I r h
 rw[ha]
 refine JA (NC (Bu (ho pins s σ H _ I h) λov s1 ⟨x,H1,I1,r1,q1⟩=>?_))
 refine JA (NC (Bu (hi pins s1 σ H1 _ I1 q1) λiv s2 ⟨y,H2,I2,r2,q2⟩=>?_))
 refine JA (RA (JA (NC (Bu (hs pins s2 σ H2 x y v ov iv u _ I2 r1 r2 r q2) λ_ s3 ⟨H3,I3,q3⟩=>?_))))
 exact wpAny_release ⟨σ,H3,I3,q3⟩
def Wp(te:TE)(g:TG):TS:=λD σ H=>te σ H λx H1=>g x σ H1 D.nx
theorem xZ{tg e:Expr}{te:TE}{g:TG}(he:PE X e te)(hg:PG X tg g)(hs:swapsWithSole [tg] e pos.line X.env=pure false:=by rfl)(hw:swappedStores [tg] e X.env=pure none:=by rfl)(h1:(assignEach [tg] X.env).map (·.2)=[assign tg X.env]:=by rfl):PS X (.Assign [tg] e pos) (Wp te g):=by
 intro pins s σ H D I h
 refine wpAny_Assign_stores (Bu (he pins s σ H _ I h) λv s1 ⟨x,H1,I1,r1,q1⟩=>?_) hs hw
 rw[h1]
 exact Bu (hg pins s1 σ H1 x v _ I1 r1 q1) λ_ s2 q=>q
theorem Mr{i:Nat}{x:Str}{e:Expr}{te:TE}{pos':Pos}(hN:X.N.Nodup)(hi:X.N[i]? = some x)(hx:Loc X.env.scope x)(he:PE X e te)(hs:swapsWith e (some (.Name x pos')) pos.line X.env=pure false:=by rfl)(hf:X.fn x=true∨X.env.scope.names.lookup x=some .local:=by first | exact .inl rfl | exact .inr rfl | assumption):
 PS X (.Assign [.Name x pos'] e pos) (Wp te (Kk i)):=by
 intro pins s σ H D I h
 refine wpAny_Assign_Name (Bu (he pins s σ H _ I h) λv s1 ⟨y,H1,I1,r1,q1⟩=>?_) hs
 exact Qc I1 hN hi hx r1 (λs2 I2=>⟨_,H1,I2,q1⟩) hf
end
section
variable {X:Cx} {pos:Pos}
def zA(c:TT)(tb:TS):TS:=λD σ H=>∃W:Nat->St->Hp->Prop,(∃m,W m σ H)/\∀m σ H,W m σ H ->
 c σ H λb H1=>if b=true then ∃N:St->Hp->Prop,(∀σ' H',N σ' H'->∃m',m' < m/\W m' σ' H')/\tb { D with nx:=N,ct:=N,bk:=D.nx } σ H1 else D.nx σ H1
theorem Lz{c:Expr}{body:List OQ}{tc:TT}{tb:TS}(hp:PassesOwn (KU X.prog X.w) X.A X.env X.xe)(hc:PT X c tc)(hb:Hy X body tb):PS X (.While c body [] pos) (zA tc tb):=by
 intro pins s σ H D I h
 obtain⟨W,⟨m0,w0⟩,turn⟩:=h
 refine wpAny_While (codeAny_whileLoop (λn s'=>∃σ' H',Inv X pins σ' H' s'/\W n σ' H') ?_ m0 ⟨σ,H,I,w0⟩)
 rintro n s1 ⟨σ1,H1,I1,w1⟩
 refine QT hp (Bu (hc pins s1 σ1 H1 _ I1 (turn n σ1 H1 w1)) λb s2 ⟨H2,I2,q2⟩=>?_)
 cases b with
 | true=>
  obtain⟨N,hN,q2⟩:=q2
  rw[if_pos rfl]
  refine QT hp (Bu (hb pins s2 σ1 H2 _ I2 q2) λf s3 q3=>?_)
  cases f with
  | next=>
   obtain⟨σ3,H3,I3,n3⟩:=q3
   obtain⟨m',hm,w3⟩:=hN σ3 H3 n3
   exact⟨m',hm,σ3,H3,I3,w3⟩
  | cont=>
   obtain⟨σ3,H3,I3,n3⟩:=q3
   obtain⟨m',hm,w3⟩:=hN σ3 H3 n3
   exact⟨m',hm,σ3,H3,I3,w3⟩
  | brk=>exact q3
  | ret v=>exact q3
 | false=>
  rw[if_neg JN]
  exact wpAny_execs_nil ⟨σ1,H2,I2,q2⟩
end
structure It where
 go:Nat->Hp->Prop
 yld:Nat->Hp->V->Hp->Prop
 stop:Nat->Hp->Prop
def De(X:Cx)(pins:List (JK×Obj))(H:Hp)(b:JK):Prop:=
 H b=none/\b≠X.env.locals/\b∉X.fs/\(b∈X.ex∨X.s₀.heap.objs.size<=b)/\(∀x c,X.env.cells.lookup x=some c->c≠b)/\∀p∈X.pn++pins,p.1≠b
theorem Inv.fpOk{X:Cx}{pins:List (JK×Obj)}{σ:St}{H H':Hp}{s:JH}{b:JK}(I:Inv X pins σ H s)(hb:s.heap.objs.size<=b)(hn:H' b=none):De X pins H' b:=by
 refine⟨hn,OC (LD I.lt hb),I.nofs hb,.inr (KS I.sz hb),λx c e z=>?_,λp hp z=>?_⟩
 ·obtain⟨v,q⟩:=I.cell x c e
  exact absurd (LD q.lt (by rw[z];exact hb)) (PK _)
 ·exact absurd (LD (JW (I.pin p hp).1) (by rw[z];exact hb)) (PK _)
structure Turn(P:KC)(w:LL)(K:JC)(tg:Expr)(J:It)(fp:List JK)(it:JK)(tn:Nat->MQ->Prop):Prop where
 mem:it∈fp
 obj:∀i h,tn i h->∀b∈fp,∃o,h.get? b=some o/\∀v,o.data ≠ .cell v
 keep:∀i h h',tn i h->(∀b∈fp,∀o,h.get? b=some o->h'.get? b=some o)->tn i h'
 item:∀(X:Cx),X.prog=P->X.w=w->X.K=K->X.calm=true->∀(i:Nat)(pins:List (JK×Obj))(s:JH)(σ:St)(H:Hp)(E:JD->JH->Prop),Inv X pins σ H s->(∀b∈fp,De X pins H b)->tn i s.heap->J.go i H ->
  KR (KU P w) X.A (OW (.ref it)) (λr s1=>∃u,r=some u /\
   KR (KU P w) X.A (letOwnedTupleGo tg (.ref it) u) (λ_ s2=>∃x H',Inv X pins σ H' s2/\RelV x u/\J.yld i H x H'/\tn (i+1) s2.heap/\∀b∈fp,H' b=none) E s1) E s
 done:∀(X:Cx),X.prog=P->X.w=w->X.K=K->X.calm=true->∀(i:Nat)(pins:List (JK×Obj))(s:JH)(σ:St)(H:Hp)(E:JD->JH->Prop),Inv X pins σ H s->(∀b∈fp,De X pins H b)->tn i s.heap->J.stop i H ->
  KR (KU P w) X.A (OW (.ref it)) (λr s1=>r=none/\Inv X pins σ H s1) E s
 self:∀(A:LI)(i:Nat)(s:JH)(Q:JD->JH->Prop)(E:JD->JH->Prop),tn i s.heap->Q (.ref it) s->KR (KU P w) A (pyIter (.ref it)) Q E s
abbrev TI:=St->Hp->(It->Hp->Prop)->Prop
def HQ(X:Cx)(pins:List (JK×Obj))(σ:St)(tg:Expr)(R:It->Hp->Prop)(itv:JD)(s2:JH):Prop:=
 ∃(it:JK)(fp:List JK)(tn:Nat->MQ->Prop)(J:It)(H':Hp),itv=.ref it/\Inv X pins σ H' s2/\Turn X.prog X.w X.K tg J fp it tn/\tn 0 s2.heap/\(∀b∈fp,De X pins H' b)/\R J H'
def PI(X:Cx)(tg iter:Expr)(wi:TI):Prop:=
 ∀(pins:List (JK×Obj))(s:JH)(σ:St)(H:Hp)(R:It->Hp->Prop),Inv X pins σ H s->wi σ H R ->
  KR (KU X.prog X.w) X.A (OX iter X.env) (λv s1=>KR (KU X.prog X.w) X.A (pyIter v) (HQ X pins σ tg R) X.xe s1) X.xe s
theorem Sx{M:Model}{A:LI}{E:JD->JH->Prop}{s:JH}{tg:Expr}{it:JK}{u:JD}{o:Obj}{n:String}{vs:Array JD}{Q:Unit->JH->Prop}(ho:s.heap.get? it=some o)(hc:o.cls=.type n)(hd:o.data=.fields vs)(hn:["enumerate","zip","dict_itemiterator","dict_reverseitemiterator","odict_iterator","itertools.zip_longest","itertools.pairwise"].contains n=false)(hQ:Q () s):KR M A (letOwnedTupleGo tg (.ref it) u) Q E s:=by
  unfold letOwnedTupleGo
  cases tg<;>first
    | exact JO hQ
    | (cases u<;>first
        | exact JO hQ
        | (refine JA (wpAny_load ho ?_)
           rw[hc,hd]
           show KR M A (if (["enumerate","zip","dict_itemiterator","dict_reverseitemiterator","odict_iterator","itertools.zip_longest","itertools.pairwise"].contains n && vs[0]? == some (QJ _))=true then _ else _) Q E s
           rw[if_neg (by intro h;rw[hn,QZ] at h;cases h)]
           exact JO hQ))
def xL(K:JC)(a:JK):It:=
 ⟨λi H=>∃xs x,Aw K H a xs/\xs[i]? = some x,λi H x H'=>H'=H/\∀xs,Aw K H a xs->xs[i]? = some x,λi H=>∃xs,Aw K H a xs/\xs.length<=i⟩
def vF(lo:Int)(n:Nat):It:=⟨λi _=>i < n,λi H x H'=>H'=H/\x=.int (lo+i),λi _=>n<=i⟩
theorem Mz{P:KC}{w:LL}{K:JC}{tg:Expr}(a it:JK):Turn P w K tg (xL K a) [it] it (λi h=>h.IsListIter it a i) where
 mem:=by simp
 obj:=λi h st b hb=>by
  have e:b=it:=by simpa using hb
  subst e
  obtain⟨o,e,c,d⟩:=st
  exact⟨o,e,λv z=>by rw[d] at z;cases z⟩
 keep:=λi h h' st k=>st.at λo e=>k it (by simp) o e
 item:=by
  intro X hP hw hK hc i pins s σ H E I hf st hg
  subst hP hw hK
  obtain⟨xs,x,hq,hx⟩:=hg
  obtain⟨its,rv,p,hz⟩:=I.list hq
  obtain⟨u,hu,ru⟩:=rv.get hx
  obtain⟨f0,f1,f2,f3,f4,f5⟩:=hf it (by simp)
  refine SQ st p.isList (x:=u) (by simpa using hu) λh' st' sb=>?_
  have I1:Inv X pins σ H { s with heap:=h' }:=I.turned (t':=s.toks) (λb o hb e=>(sb.2 b hb).trans e) f0 f1 f3 f4 f5
  obtain⟨o,e,c,d⟩:=id st'
  exact⟨u,rfl,Sx (s:={ s with heap:=h' }) e c d (by decide) ⟨x,H,I1,ru,⟨rfl,λys hy=>by rw[I.list_inj hy hq];exact hx⟩,st',λb hb=>(hf b hb).1⟩⟩
 done:=by
  intro X hP hw hK hc i pins s σ H E I hf st hg
  subst hP hw hK
  obtain⟨xs,hq,hx⟩:=hg
  obtain⟨its,rv,p,hz⟩:=I.list hq
  obtain⟨f0,f1,f2,f3,f4,f5⟩:=hf it (by simp)
  have hl:=rv.length
  exact eM (I.calmS hc) st p.isList (by simp;omega) λh' eb=>⟨rfl,I.turned (t':=s.toks) (λb o hb e=>eb b o hb e) f0 f1 f3 f4 f5⟩
 self:=λ_ _ _ _ _ st h=>wpAny_pyIter_listiter st h
theorem cB{P:KC}{w:LL}{K:JC}{tg:Expr}(it:JK)(lo:Int)(n:Nat):Turn P w K tg (vF lo n) [it] it (λi h=>IsRangeIter h it (lo+(i:Nat) * 1) ((n:Int)-(i:Nat)) 1) where
 mem:=by simp
 obj:=λi h st b hb=>by
  have e:b=it:=by simpa using hb
  subst e
  exact⟨_,st,λv z=>by
   have z':Data.fields _=Data.cell v:=z
   cases z'⟩
 keep:=λi h h' st k=>k it (by simp) _ st
 item:=by
  intro X hP hw hK hc i pins s σ H E I hf st hg
  subst hP hw hK
  obtain⟨f0,f1,f2,f3,f4,f5⟩:=hf it (by simp)
  have W0:True:=trivial
  refine Yr i s _ _ hg st λv h' tk hv st' kk=>?_
  obtain⟨t,rfl⟩:=hv
  have I1:Inv X pins σ H { s with heap:=h',toks:=tk }:=I.turned (λb o hb e=>kk b o (by simpa using hb) e) f0 f1 f3 f4 f5
  refine⟨_,rfl,Sx (s:={ s with heap:=h',toks:=tk }) (n := "range_iterator") st' rfl rfl (by decide) ⟨.int (lo+i),H,I1,⟨t,?_⟩,⟨rfl,rfl⟩,st',λb hb=>(hf b hb).1⟩⟩
  rw[Int.mul_one]
 done:=by
  intro X hP hw hK hc i pins s σ H E I hf st hg
  subst hP hw hK
  obtain⟨f0,f1,f2,f3,f4,f5⟩:=hf it (by simp)
  exact Xx (I.calmS hc) st (by have:n<=i:=hg;omega) λh' eb=>⟨rfl,I.turned (t':=s.toks) (λb o hb e=>eb b o hb e) f0 f1 f3 f4 f5⟩
 self:=λ_ _ _ _ _ st h=>wpAny_pyIter_rangeiter st h
section
variable {X:Cx} {tg:Expr}
def BJ(K:JC)(tl:TE):TI:=λσ H R=>tl σ H λx H1=>∃a,x=.ref a/\(∃xs,Aw K H1 a xs)/\R (xL K a) H1
theorem Dk{l:Expr}{tl:TE}(hl:PE X l tl):PI X tg l (BJ X.K tl):=by
 intro pins s σ H R I h
 refine Bu (hl pins s σ H _ I h) λv s1 ⟨x,H1,I1,r1,q1⟩=>?_
 obtain⟨a,e,⟨xs,hq⟩,q⟩:=q1
 subst e
 cases r1
 obtain⟨its,rv,p,hz⟩:=I1.list hq
 refine wpAny_pyIter_list p.isList ?_
 refine⟨s1.heap.objs.size,[s1.heap.objs.size],_,_,H1,rfl,I1.kept (t':=s1.toks) λb o e=>JE _ e,Mz a _,⟨_,JZ _ rfl,rfl,rfl⟩,λb hb=>?_,q⟩
 have e:b=s1.heap.objs.size:=by simpa using hb
 subst e
 exact I1.fpOk (JI _) (I1.hok.fresh (JI _))
theorem Yg{pins:List (JK×Obj)}{σ:St}{H:Hp}{s:JH}{R:It->Hp->Prop}{E:JD->JH->Prop}{lo hi:Int}{t u v:Tok}{tk:Nat}(I:Inv X pins σ H s)(h1 : -(2 ^ 62)<=lo)(h2:lo < 2 ^ 62)(h3 : -(2 ^ 62)<=hi)(h4:hi < 2 ^ 62)(q:R (vF lo (hi-lo).toNat) H):KR (KU X.prog X.w) X.A (pyIter (.ref s.heap.objs.size)) (HQ X pins σ tg R) E { s with heap:=s.heap.push { cls:=.type "range", data:=.fields #[.int lo t,.int hi u,.int 1 v] },toks:=tk }:=by
 refine wpAny_pyIter_range (IsRange.new ..) (small_one h1 h2 h3 h4) ?_
 have I1:Inv X pins σ H { s with heap:=s.heap.push { cls:=.type "range", data:=.fields #[.int lo t,.int hi u,.int 1 v] },toks:=tk }:=I.kept λb o e=>JE _ e
 refine⟨(s.heap.push { cls:=.type "range", data:=.fields #[.int lo t,.int hi u,.int 1 v] }).objs.size,[(s.heap.push { cls:=.type "range", data:=.fields #[.int lo t,.int hi u,.int 1 v] }).objs.size],_,_,H,rfl,
  I1.kept (t':=tk) λb o e=>JE _ e,cB _ lo (hi-lo).toNat,?_,λb hb=>?_,q⟩
 ·have e1:lo+((0:Nat):Int) * 1=lo:=by simp
  have e2:(((hi-lo).toNat:Nat):Int)-((0:Nat):Int)=SN lo hi 1:=by rw[rangeSize_one];split<;>omega
  show IsRangeIter _ _ (lo+((0:Nat):Int) * 1) ((((hi-lo).toNat:Nat):Int)-((0:Nat):Int)) 1
  rw[e1,e2]
  exact JZ _ rfl
 ·have e:b=(s.heap.push { cls:=.type "range", data:=.fields #[.int lo t,.int hi u,.int 1 v] }).objs.size:=by simpa using hb
  subst e
  exact I1.fpOk (JI _) (I1.hok.fresh (JI _))
def EI(ta:TA):TI:=λσ H R=>ta σ H λvs H1=>∃j:Int,vs=[.int j] /\ -(2 ^ 62)<=j/\j < 2 ^ 62/\R (vF 0 j.toNat) H1
def EM(ta:TA):TI:=λσ H R=>ta σ H λvs H1=>∃i j:Int,vs=[.int i,.int j]/\(-(2 ^ 62)<=i/\i < 2 ^ 62 /\ -(2 ^ 62)<=j/\j < 2 ^ 62)/\R (vF i (j-i).toNat) H1
theorem Fb{a:Expr}{ta:TA}{p pos:Pos}(hg:Gl X "range")(hm:X.mg "range" = none)(ha:PA X [a] ta)(hs:KQ [a] X.env=[(false,OX a X.env)]:=by rfl):PI X tg (.Call (.Name "range" p) [a] [] pos) (EI ta):=by
 intro pins s σ H R I h
 refine Call_ (Ia I hg hm boot_range (ND (Bu (ha pos pins s σ H _ I h) λus s1 ⟨vs,H1,I1,r1,q1⟩=>?_) hs rfl))
 obtain⟨j,e,q1,q2,q⟩:=q1
 subst e
 cases r1 with
 | cons r rr=>
  cases rr
  obtain⟨t,rfl⟩:=r
  exact call_range_1 (Yg I1 (by omega) (by omega) q1 q2 (by simpa using q))
theorem iM{a b:Expr}{ta:TA}{p pos:Pos}(hg:Gl X "range")(hm:X.mg "range" = none)(ha:PA X [a,b] ta)(hs:KQ [a,b] X.env=[(false,OX a X.env),(false,OX b X.env)]:=by rfl)(hs2:KQ [b] X.env=[(false,OX b X.env)]:=by rfl):
 PI X tg (.Call (.Name "range" p) [a,b] [] pos) (EM ta):=by
 intro pins s σ H R I h
 refine Call_ (Ia I hg hm boot_range (ND (Bu (ha pos pins s σ H _ I h) λus s1 ⟨vs,H1,I1,r1,q1⟩=>?_) (by rw[hs,hs2]) (by rw[hs2];rfl)))
 obtain⟨i,j,e,⟨q1,q2,q3,q4⟩,q⟩:=q1
 subst e
 cases r1 with
 | cons r rr=>
  cases rr with
  | cons r' rr=>
   cases rr
   obtain⟨t,rfl⟩:=r
   obtain⟨t',rfl⟩:=r'
   exact call_range_2 (Yg I1 q1 q2 q3 q4 q)
def GJ(wi:TI)(g:TG)(tb:TS):TS:=λD σ H=>wi σ H λJ H1=>∃W:Nat->Nat->St->Hp->Prop,(∃m,W 0 m σ H1)/\∀i m σ H,W i m σ H ->
 (J.stop i H/\D.nx σ H)∨(J.go i H/\∃N:St->Hp->Prop,(∀σ' H',N σ' H'->∃m',m' < m/\W (i+1) m' σ' H')/\∀x H',J.yld i H x H'->g x σ H' λσ2 H2=>tb { D with nx:=N,ct:=N,bk:=D.nx } σ2 H2)
def Up(fp:List JK)(h:MQ):List (JK×Obj):=fp.filterMap λb=>(h.get? b).map λo=>(b,o)
theorem Fc{fp:List JK}{h:MQ}{b:JK}{o:Obj}(hb:b∈fp)(e:h.get? b=some o):(b,o)∈Up fp h:=List.mem_filterMap.mpr ⟨b,hb,by rw[e];rfl⟩
theorem hU{fp:List JK}{h:MQ}{p:JK×Obj}(hp:p∈Up fp h):p.1∈fp/\h.get? p.1=some p.2:=by
 obtain⟨b,hb,e⟩:=List.mem_filterMap.mp hp
 cases q:h.get? b with
 | none=>rw[q] at e;cases e
 | some o=>
  rw[q] at e
  have e':(b,o)=p:=KW e
  subst e'
  exact⟨hb,q⟩
theorem Inv.pinned{pins:List (JK×Obj)}{σ:St}{H:Hp}{s:JH}{fp:List JK}(I:Inv X pins σ H s)(hf:∀b∈fp,De X pins H b)(ho:∀b∈fp,∃o,s.heap.get? b=some o/\∀v,o.data ≠ .cell v):Inv X (pins++Up fp s.heap) σ H s:=
 I.pins_of λp hp=>(KI.mp hp).elim (λz=>I.pin p (JX _ z)) λz=>by
  obtain⟨hb,e⟩:=hU z
  obtain⟨f0,f1,f2,_⟩:=hf p.1 hb
  obtain⟨o,e',d⟩:=ho p.1 hb
  rw[e] at e';cases e'
  exact⟨e,f0,f1,f2,d⟩
theorem Inv.unpinned{pins pl:List (JK×Obj)}{σ:St}{H:Hp}{s:JH}(I:Inv X (pins++pl) σ H s):Inv X pins σ H s:=I.pins_of λp hp=>I.pin p (JX _ (MG _ hp))
theorem Eg{iter:Expr}{body:List OQ}{wi:TI}{g:TG}{tb:TS}{pos:Pos}(hp:PassesOwn (KU X.prog X.w) X.A X.env X.xe)(hc:X.calm=true)(hi:PI X tg iter wi)(hg:PG X tg g)(hb:Hy X body tb)(hs:∀x,foldedSetIterable iter X.env x=pure x:=by intro _;rfl):PS X (.For tg iter body [] pos) (GJ wi g tb):=by
 intro pins s σ H D I h
 refine wpAny_For (Bu (hi pins s σ H _ I h) λv s1 h1=>Bu h1 λitv s2 h2=>?_) hs
 obtain⟨it,fp,tn,J,H2,e,I2,T,st2,f2,W,⟨m0,w0⟩,turn⟩:=h2
 subst e
 -- what stays true of the iterator's objects through the loop
 have stat:∀ {H':Hp},(∀b∈fp,H' b=none)->∀b∈fp,De X pins H' b:=λhn b hb=>⟨hn b hb,(f2 b hb).2⟩
 refine codeAny_forLoop_any (λn s'=>∃i σ' H',Inv X pins σ' H' s'/\tn i s'.heap/\(∀b∈fp,H' b=none)/\W i n σ' H') ?_ m0 ⟨0,σ,H2,I2,st2,λb hb=>(f2 b hb).1,w0⟩
 rintro n s3 ⟨i,σ3,H3,I3,st3,fr3,w3⟩
 rcases turn i n σ3 H3 w3 with ⟨stop,qn⟩ | ⟨go,N,hN,step⟩
 ·refine QT hp (Bu (T.done X rfl rfl rfl hc i pins s3 σ3 H3 X.xe I3 (stat fr3) st3 stop) λr s4 ⟨hr,I4⟩=>?_)
  subst hr
  exact wpAny_execs_nil ⟨σ3,H3,I4,qn⟩
 ·refine QT hp (Bu (T.item X rfl rfl rfl hc i pins s3 σ3 H3 X.xe I3 (stat fr3) st3 go) λr s4 ⟨u,hr,h4⟩=>?_)
  subst hr
  refine QT hp (Bu h4 λ_ s5 ⟨x,H5,I5,r5,y5,st5,fr5⟩=>?_)
  have I5':=I5.pinned (stat fr5) (T.obj _ _ st5)
  refine QT hp (Bu (hg _ s5 σ3 H5 x u _ I5' r5 (step x H5 y5)) λ_ s6 ⟨σ6,H6,I6,q6⟩=>?_)
  refine QT hp (Bu (hb _ s6 σ6 H6 _ I6 q6) λf s7 q7=>?_)
  have again:∀ {σ7:St} {H7:Hp},Inv X (pins++Up fp s5.heap) σ7 H7 s7->N σ7 H7->∃m,m < n/\∃i σ' H',Inv X pins σ' H' s7/\tn i s7.heap/\(∀b∈fp,H' b=none)/\W i m σ' H':=λ{σ7 H7} I7 n7=>by
   obtain⟨m',hm,w7⟩:=hN σ7 H7 n7
   refine⟨m',hm,i+1,σ7,H7,I7.unpinned,T.keep _ _ _ st5 λb hb o e=>(I7.pin (b,o) (JX _ (JX _ (Fc hb e)))).1,λb hb=>?_,w7⟩
   obtain⟨o,e,d⟩:=T.obj _ _ st5 b hb
   exact(I7.pin (b,o) (JX _ (JX _ (Fc hb e)))).2.1
  cases f with
  | next=>obtain⟨σ7,H7,I7,n7⟩:=q7;exact again I7 n7
  | cont=>obtain⟨σ7,H7,I7,n7⟩:=q7;exact again I7 n7
  | brk=>obtain⟨σ7,H7,I7,q7⟩:=q7;exact⟨σ7,H7,I7.unpinned,q7⟩
  | ret v=>obtain⟨x7,σ7,H7,I7,r7,q7⟩:=q7;exact⟨x7,σ7,H7,I7.unpinned,r7,q7⟩
end
theorem Fo{K:JC}{a:JK}{xs:List V}{g:TG}{tb:TS}{D:Ends}{σ:St}{H:Hp}(Pv:Nat->St->Hp->Prop)(h0:Pv 0 σ H)(hl:∀i σ H,i<=xs.length->Pv i σ H->Aw K H a xs)(hs:∀i x σ H,xs[i]? = some x->Pv i σ H->g x σ H λσ2 H2=>tb { D with nx:=Pv (i+1),ct:=Pv (i+1),bk:=D.nx } σ2 H2)(hd:∀σ H,Pv xs.length σ H->D.nx σ H):
 ∃W:Nat->Nat->St->Hp->Prop,(∃m,W 0 m σ H)/\∀i m σ H,W i m σ H ->
  ((xL K a).stop i H/\D.nx σ H)∨((xL K a).go i H/\∃N:St->Hp->Prop,(∀σ' H',N σ' H'->∃m',m' < m/\W (i+1) m' σ' H')/\∀x H',(xL K a).yld i H x H'->g x σ H' λσ2 H2=>tb { D with nx:=N,ct:=N,bk:=D.nx } σ2 H2):=by
 refine⟨λi m σ H=>m=xs.length-i/\i<=xs.length/\Pv i σ H,⟨xs.length,by simp,LG _,h0⟩,?_⟩
 rintro i m σ H ⟨rfl,hi,p⟩
 have q:=hl i σ H hi p
 by_cases hlt:i < xs.length
 ·refine .inr ⟨⟨xs,xs[i],q,by simp[hlt]⟩,Pv (i+1),λσ' H' p'=>⟨xs.length-(i+1),by omega,rfl,hlt,p'⟩,λx H' y=>?_⟩
  obtain⟨e,y⟩:=y
  subst e
  exact hs i x σ _ (y xs q) p
 ·have e:i=xs.length:=by omega
  subst e
  exact .inl ⟨⟨xs,q,JI _⟩,hd σ H p⟩
theorem Hm{lo:Int}{n:Nat}{g:TG}{tb:TS}{D:Ends}{σ:St}{H:Hp}(Pv:Nat->St->Hp->Prop)(h0:Pv 0 σ H)(hs:∀i σ H,i < n->Pv i σ H->g (.int (lo+i)) σ H λσ2 H2=>tb { D with nx:=Pv (i+1),ct:=Pv (i+1),bk:=D.nx } σ2 H2)(hd:∀σ H,Pv n σ H->D.nx σ H):
 ∃W:Nat->Nat->St->Hp->Prop,(∃m,W 0 m σ H)/\∀i m σ H,W i m σ H ->
  ((vF lo n).stop i H/\D.nx σ H)∨((vF lo n).go i H/\∃N:St->Hp->Prop,(∀σ' H',N σ' H'->∃m',m' < m/\W (i+1) m' σ' H')/\∀x H',(vF lo n).yld i H x H'->g x σ H' λσ2 H2=>tb { D with nx:=N,ct:=N,bk:=D.nx } σ2 H2):=by
 refine⟨λi m σ H=>m=n-i/\i<=n/\Pv i σ H,⟨n,by simp,LG _,h0⟩,?_⟩
 rintro i m σ H ⟨rfl,hi,p⟩
 by_cases hlt:i < n
 ·refine .inr ⟨hlt,Pv (i+1),λσ' H' p'=>⟨n-(i+1),by omega,rfl,hlt,p'⟩,λx H' y=>?_⟩
  obtain⟨e,y⟩:=y
  subst e y
  exact hs i σ _ hlt p
 ·have e:i=n:=by omega
  subst e
  exact .inl ⟨JI _,hd σ H p⟩
abbrev R2:=V->V->Hp->VK->Prop
def Jr(X:Cx)(f:JD->JD->Sem JD)(r:R2):Prop:=
 ∀(pins:List (JK×Obj))(s:JH)(σ:St)(H:Hp)(x y:V)(v u:JD)(Q:VK),Inv X pins σ H s->RelV x v->RelV y u->r x y H Q ->
  KR (KU X.prog X.w) X.A (f v u) (EP X pins σ Q) X.xe s
def HP(X:Cx)(f:JD->Sem JD)(r:V->Hp->VK->Prop):Prop:=
 ∀(pins:List (JK×Obj))(s:JH)(σ:St)(H:Hp)(x:V)(v:JD)(Q:VK),Inv X pins σ H s->RelV x v->r x H Q ->
  KR (KU X.prog X.w) X.A (f v) (EP X pins σ Q) X.xe s
def Fj(X:Cx)(f:JD)(r:List V->Hp->VK->Prop):Prop:=
 ∀(pins:List (JK×Obj))(s:JH)(σ:St)(H:Hp)(xs:List V)(us:List JD)(Q:VK),Inv X pins σ H s->Bb xs us->r xs H Q ->
  KR (KU X.prog X.w) X.A (call f us) (EP X pins σ Q) X.xe s
def HA(X:Cx)(r:V->Hp->(Bool->Hp->Prop)->Prop):Prop:=
 ∀(pins:List (JK×Obj))(s:JH)(σ:St)(H:Hp)(x:V)(v:JD)(Q:Bool->Hp->Prop),Inv X pins σ H s->RelV x v->r x H Q ->
  KR (KU X.prog X.w) X.A (truthy v) (TP X pins σ Q) X.xe s
def BH(r:R2)(ta tb:TE):TE:=λσ H Q=>ta σ H λx H1=>tb σ H1 λy H2=>r x y H2 Q
def IP(r:V->Hp->VK->Prop)(ta:TE):TE:=λσ H Q=>ta σ H λx H1=>r x H1 Q
def rI(C:Int->Int->Prop)(g:Int->Int->V):R2:=λx y H Q=>∃i j,x=.int i/\y=.int j/\C i j/\Q (g i j) H
def lX(g:Int->Int->V):R2:=λx y H Q=>∃i j,x=.int i/\y=.int j/\Q (g i j) H
def rU(g:Int->V):V->Hp->VK->Prop:=λx H Q=>∃i,x=.int i/\Q (g i) H
section
variable {X:Cx} {a b c:Expr} {ta tb tc:TE} {pos:Pos}
theorem AY(ha:PE X a ta)(hb:PE X b tb){pins:List (JK×Obj)}{s:JH}{σ:St}{H:Hp}{R:V->V->Hp->Prop}(I:Inv X pins σ H s)(h:ta σ H λx H1=>tb σ H1 λy H2=>R x y H2){Q:JD->JH->Prop}{f:JD->JD->Sem JD}(hf:∀v u s2 x y H2,Inv X pins σ H2 s2->RelV x v->RelV y u->R x y H2->KR (KU X.prog X.w) X.A (f v u) Q X.xe s2):
 KR (KU X.prog X.w) X.A (OX a X.env) (λv s₁=>KR (KU X.prog X.w) X.A (OX b X.env) (λu s₂=>KR (KU X.prog X.w) X.A (f v u) Q X.xe s₂) X.xe s₁) X.xe s:=by
 refine Bu (ha pins s σ H _ I h) λv s1 ⟨x,H1,I1,r1,q1⟩=>?_
 refine Bu (hb pins s1 σ H1 _ I1 q1) λu s2 ⟨y,H2,I2,r2,q2⟩=>?_
 exact hf v u s2 x y H2 I2 r1 r2 q2
theorem Aq{op:Operator}{r:R2}(ho:Jr X (QM op) r)(ha:PE X a ta)(hb:PE X b tb):PE X (.BinOp a op b pos) (BH r ta tb):=by
 intro pins s σ H Q I h
 exact wpAny_BinOp (AY ha hb I h λv u s2 x y H2 I2 rx ry q=>ho pins s2 σ H2 x y v u Q I2 rx ry q)
theorem Jt{op:UnaryOp}{r:V->Hp->VK->Prop}(ho:HP X (unaryOp op) r)(ha:PE X a ta):PE X (.UnaryOp op a pos) (IP r ta):=by
 intro pins s σ H Q I h
 exact UnaryOp_ (Bu (ha pins s σ H _ I h) λv s1 ⟨x,H1,I1,r1,q1⟩=>ho pins s1 σ H1 x v Q I1 r1 q1)
theorem vQ{f:JD->JD->Sem JD}{C:Int->Int->Prop}{g:Int->Int->Int}(rule:∀(i j:Int)(t u:Tok)(s:JH)(Q:JD->JH->Prop)(E:JD->JH->Prop),C i j->Q (.int (g i j) s.toks) { s with toks:=s.toks+1 }->KR (KU X.prog X.w) X.A (f (.int i t) (.int j u)) Q E s):
 Jr X f (rI C λi j=>.int (g i j)):=by
 intro pins s σ H x y v u Q I rx ry h
 obtain⟨i,j,rfl,rfl,hc,q⟩:=h
 obtain⟨t,rfl⟩:=rx
 obtain⟨t',rfl⟩:=ry
 exact rule i j t t' s _ _ hc ⟨.int (g i j),H,I.tok _,⟨_,rfl⟩,q⟩
theorem qQ{f:JD->JD->Sem JD}{g:Int->Int->Int}(rule:∀(i j:Int)(t u:Tok)(s:JH)(Q:JD->JH->Prop)(E:JD->JH->Prop),Q (.int (g i j) s.toks) { s with toks:=s.toks+1 }->KR (KU X.prog X.w) X.A (f (.int i t) (.int j u)) Q E s):
 Jr X f (lX λi j=>.int (g i j)):=by
 intro pins s σ H x y v u Q I rx ry h
 obtain⟨i,j,rfl,rfl,q⟩:=h
 obtain⟨t,rfl⟩:=rx
 obtain⟨t',rfl⟩:=ry
 exact rule i j t t' s _ _ ⟨.int (g i j),H,I.tok _,⟨_,rfl⟩,q⟩
theorem vZ{f:JD->JD->Sem JD}{g:Int->Int->Bool}(rule:∀(i j:Int)(t u:Tok)(s:JH)(Q:JD->JH->Prop)(E:JD->JH->Prop),Q (.bool (g i j)) s->KR (KU X.prog X.w) X.A (f (.int i t) (.int j u)) Q E s):
 Jr X f (lX λi j=>.bl (g i j)):=by
 intro pins s σ H x y v u Q I rx ry h
 obtain⟨i,j,rfl,rfl,q⟩:=h
 obtain⟨t,rfl⟩:=rx
 obtain⟨t',rfl⟩:=ry
 exact rule i j t t' s _ _ ⟨.bl (g i j),H,I,rfl,q⟩
def FO(i j:Int):Prop:=0 < j/\j < 1073741824
def HD(i j:Int):Prop:=0<=j/\j<=1000000/\i.natAbs < 2 ^ 64
def yM(i j:Int):Prop:=(-(2 ^ 64) < i/\i < 2 ^ 64)∨(-(2 ^ 64) < j/\j < 2 ^ 64)
theorem yM.ok{i j:Int}(h:yM i j):IntMulOk i j:=by
 rcases h with ⟨h1,h2⟩ | ⟨h1,h2⟩
 ·exact .of_left (intBits_le_64 h1 h2)
 ·exact .of_right (intBits_le_64 h1 h2)
theorem Zd(k:Nat):(0:Int)<=2 ^ k:=by
 rw[two_pow_cast]
 exact Int.natCast_nonneg _
theorem Cm:Jr X (QM .Add) (lX λi j=>.int (i+j)):=qQ λ_ _ _ _ _ _ _ q=>add_int q
theorem Jg:Jr X (QM .Sub) (lX λi j=>.int (i-j)):=qQ λ_ _ _ _ _ _ _ q=>sub_int q
theorem Kq:Jr X (QM .Mult) (rI yM λi j=>.int (i * j)):=vQ λ_ _ _ _ _ _ _ hc q=>mul_int q hc.ok
theorem Dy:Jr X (QM .FloorDiv) (rI FO λi j=>.int (i / j)):=vQ λi j _ _ _ _ _ hc q=>by
 have h1:(0:Int) < j:=hc.1
 have h2:j < 1073741824:=hc.2
 exact floordiv_int (by omega) (by rw[Int.fdiv_eq_ediv_of_nonneg i (by omega)];exact q) (.inl (PyProof.noPylong_small (by omega)))
theorem Ca:Jr X (QM .Mod) (rI (λ_ j=>0 < j) λi j=>.int (i % j)):=vQ λi j _ _ _ _ _ hc q=>by
 have h1:(0:Int) < j:=hc
 exact mod_int' (by omega) (by rw[Int.fmod_eq_emod_of_nonneg i (by omega)];exact q)
theorem uT:Jr X (QM .Mod) (rI (λ_ j=>j≠0) λi j=>.int (i.fmod j)):=vQ λ_ _ _ _ _ _ _ hc q=>mod_int' hc q
theorem Ug:Jr X (QM .Pow) (rI HD λi j=>.int (i ^ j.toNat)):=vQ λ_ _ _ _ _ _ _ hc q=>pow_int_small hc.1 hc.2.1 hc.2.2 q
theorem BA:Jr X (QM .RShift) (rI (λ_ j=>0<=j) λi j=>.int (i / 2 ^ j.toNat)):=vQ λi j _ _ _ _ _ hc q=>
 rshift_int hc (by rw[Int.fdiv_eq_ediv_of_nonneg i (Zd _)];exact q)
theorem AO:Jr X (QM .BitAnd) (lX λi j=>.int (Builtin.bitAnd i j)):=qQ λ_ _ _ _ _ _ _ q=>and_int q
theorem DO:Jr X (QM .BitOr) (lX λi j=>.int (Builtin.bitOr i j)):=qQ λ_ _ _ _ _ _ _ q=>or_int q
theorem zF:Jr X (QM .BitXor) (lX λi j=>.int (Builtin.bitXor i j)):=qQ λ_ _ _ _ _ _ _ q=>xor_int q
theorem IQ{f:JD->Sem JD}{g:Int->Int}(rule:∀(i:Int)(t:Tok)(s:JH)(Q:JD->JH->Prop)(E:JD->JH->Prop),Q (.int (g i) s.toks) { s with toks:=s.toks+1 }->KR (KU X.prog X.w) X.A (f (.int i t)) Q E s):
 HP X f (rU λi=>.int (g i)):=by
 intro pins s σ H x v Q I rx h
 obtain⟨i,rfl,q⟩:=h
 obtain⟨t,rfl⟩:=rx
 exact rule i t s _ _ ⟨.int (g i),H,I.tok _,⟨_,rfl⟩,q⟩
theorem Gs:HP X (unaryOp .USub) (rU λi=>.int (-i)):=IQ λ_ _ _ _ _ q=>neg_int q
end
def CW:V->V->Bool
 | .non,.non=>true | .non,.int _=>true | .int _,.non=>true | .non,.bl _=>true | .bl _,.non=>true | .non,.str _=>true | .str _,.non=>true
 | .int _,.int _=>true | .bl _,.bl _=>true | .str _,.str _=>true | .byt _,.byt _=>true
 | .int _,.str _=>true | .str _,.int _=>true | .bl _,.str _=>true | .str _,.bl _=>true
 | _,_=>false
def IJ:R2:=λx y H Q=>CW x y=true/\Q (.bl (decide (x=y))) H
def II:R2:=λx y H Q=>CW x y=true/\Q (.bl (!decide (x=y))) H
theorem gF{i j:Int}:decide (V.int i=V.int j)=(i == j):=by
 rw[Bool.eq_iff_iff]
 simp
theorem oQ{i j:Bool}:decide (V.bl i=V.bl j)=(i == j):=by
 rw[Bool.eq_iff_iff]
 simp
theorem gU{i j:Str}:decide (V.str i=V.str j)=(i == j):=by
 rw[Bool.eq_iff_iff]
 simp
theorem dJ{i j:Array UInt8}:decide (V.byt i=V.byt j)=(i.toList == j.toList):=by
 rw[Bool.eq_iff_iff]
 cases i
 cases j
 simp
section
variable {X:Cx} {a b c:Expr} {ta tb tc:TE} {pos:Pos}
theorem Bt{pins:List (JK×Obj)}{σ:St}{H:Hp}{s:JH}{Q:VK}{k k':Bool}(I:Inv X pins σ H s)(q:Q (.bl k) H)(e:k=k'):EP X pins σ Q (.bool k') s:=by
 subst e
 exact⟨.bl k,H,I,rfl,q⟩
theorem Cc:Jr X (OS .Eq) IJ:=by
 intro pins s σ H x y v u Q I rx ry h
 obtain⟨hs,q⟩:=h
 cases x with
 | non=>
  cases rx
  cases y with
  | non=>cases ry;exact PySem.EqNone.eq_none_none (Bt I q (by simp))
  | bl j=>cases ry;exact PySem.EqNone.eq_none_bool (Bt I q (by simp))
  | int j=>obtain⟨t',rfl⟩:=ry;exact PySem.EqNone.eq_none_int (Bt I q (by simp))
  | str j=>obtain⟨t',rfl⟩:=ry;exact PySem.EqNone.eq_none_str (Bt I q (by simp))
  | _=>exact absurd (show false=true from hs) JN
 | bl i=>
  cases rx
  cases y with
  | non=>cases ry;exact PySem.EqNone.eq_bool_none (Bt I q (by simp))
  | bl j=>cases ry;exact eq_bool (Bt I q oQ)
  | str j=>obtain⟨t',rfl⟩:=ry;exact PySem.EqMixed.eq_bool_str (Bt I q (by simp))
  | _=>exact absurd (show false=true from hs) JN
 | int i=>
  obtain⟨t,rfl⟩:=rx
  cases y with
  | non=>cases ry;exact PySem.EqNone.eq_int_none (Bt I q (by simp))
  | int j=>obtain⟨t',rfl⟩:=ry;exact eq_int (Bt I q gF)
  | str j=>obtain⟨t',rfl⟩:=ry;exact PySem.EqMixed.eq_int_str (Bt I q (by simp))
  | _=>exact absurd (show false=true from hs) JN
 | str i=>
  obtain⟨t,rfl⟩:=rx
  cases y with
  | non=>cases ry;exact PySem.EqNone.eq_str_none (Bt I q (by simp))
  | bl j=>cases ry;exact PySem.EqMixed.eq_str_bool (Bt I q (by simp))
  | int j=>obtain⟨t',rfl⟩:=ry;exact PySem.EqMixed.eq_str_int (Bt I q (by simp))
  | str j=>obtain⟨t',rfl⟩:=ry;exact eq_str (Bt I q gU)
  | _=>exact absurd (show false=true from hs) JN
 | byt i=>
  obtain⟨t,rfl⟩:=rx
  cases y with
  | byt j=>obtain⟨t',rfl⟩:=ry;exact PySem.W.eq_bytes (Bt I q dJ)
  | _=>exact absurd (show false=true from hs) JN
 | _=>cases y<;>exact absurd (show false=true from hs) JN
theorem Sw:Jr X (OS .NotEq) II:=by
 intro pins s σ H x y v u Q I rx ry h
 obtain⟨hs,q⟩:=h
 cases x with
 | non=>
  cases rx
  cases y with
  | non=>cases ry;exact PySem.EqNone.ne_none_none (Bt I q (by simp))
  | bl j=>cases ry;exact PySem.EqNone.ne_none_bool (Bt I q (by simp))
  | int j=>obtain⟨t',rfl⟩:=ry;exact PySem.EqNone.ne_none_int (Bt I q (by simp))
  | str j=>obtain⟨t',rfl⟩:=ry;exact PySem.EqNone.ne_none_str (Bt I q (by simp))
  | _=>exact absurd (show false=true from hs) JN
 | bl i=>
  cases rx
  cases y with
  | non=>cases ry;exact PySem.EqNone.ne_bool_none (Bt I q (by simp))
  | bl j=>cases ry;exact ne_bool (Bt I q (congrArg not oQ))
  | str j=>obtain⟨t',rfl⟩:=ry;exact PySem.EqMixed.ne_bool_str (Bt I q (by simp))
  | _=>exact absurd (show false=true from hs) JN
 | int i=>
  obtain⟨t,rfl⟩:=rx
  cases y with
  | non=>cases ry;exact PySem.EqNone.ne_int_none (Bt I q (by simp))
  | int j=>obtain⟨t',rfl⟩:=ry;exact ne_int (Bt I q (congrArg not gF))
  | str j=>obtain⟨t',rfl⟩:=ry;exact PySem.EqMixed.ne_int_str (Bt I q (by simp))
  | _=>exact absurd (show false=true from hs) JN
 | str i=>
  obtain⟨t,rfl⟩:=rx
  cases y with
  | non=>cases ry;exact PySem.EqNone.ne_str_none (Bt I q (by simp))
  | bl j=>cases ry;exact PySem.EqMixed.ne_str_bool (Bt I q (by simp))
  | int j=>obtain⟨t',rfl⟩:=ry;exact PySem.EqMixed.ne_str_int (Bt I q (by simp))
  | str j=>obtain⟨t',rfl⟩:=ry;exact ne_str (Bt I q (congrArg not gU))
  | _=>exact absurd (show false=true from hs) JN
 | byt i=>
  obtain⟨t,rfl⟩:=rx
  cases y with
  | byt j=>obtain⟨t',rfl⟩:=ry;exact PySem.W.ne_bytes (Bt I q (congrArg not dJ))
  | _=>exact absurd (show false=true from hs) JN
 | _=>cases y<;>exact absurd (show false=true from hs) JN
theorem Qx:Jr X (OS .Lt) (lX λi j=>.bl (decide (i < j))):=vZ λ_ _ _ _ _ _ _ q=>lt_int q
theorem Pl:Jr X (OS .LtE) (lX λi j=>.bl (decide (i<=j))):=vZ λ_ _ _ _ _ _ _ q=>le_int q
theorem Yl:Jr X (OS .Gt) (lX λi j=>.bl (decide (j < i))):=vZ λ_ _ _ _ _ _ _ q=>gt_int q
theorem BW:Jr X (OS .GtE) (lX λi j=>.bl (decide (j<=i))):=vZ λ_ _ _ _ _ _ _ q=>ge_int q
theorem Au(b:Expr){op:CmpOp}(h:op ≠ .In:=by decide)(h2:op ≠ .NotIn:=by decide):SG op b=false:=by
 have e1:(op == CmpOp.In)=false:=by cases op<;>first | rfl | exact absurd rfl h
 have e2:(op == CmpOp.NotIn)=false:=by cases op<;>first | rfl | exact absurd rfl h2
 cases b<;>simp[SG,e1,e2]
theorem fJ{op:CmpOp}{r:R2}(ho:Jr X (OS op) r)(ha:PE X a ta)(hb:PE X b tb)(hm:SG op b=false):PE X (.Compare a [op] [b] pos) (BH r ta tb):=by
 intro pins s σ H Q I h
 exact wpAny_Compare1 (AY ha hb I h λv u s2 x y H2 I2 rx ry q=>ho pins s2 σ H2 x y v u Q I2 rx ry q) hm
def wI(t:TE):TT:=λσ H Q=>t σ H λx H'=>∃k,x=.bl k/\Q k H'
theorem Ar{op:CmpOp}{r:R2}(ho:Jr X (OS op) r)(ha:PE X a ta)(hb:PE X b tb)(hm:SG op b=false):PT X (.Compare a [op] [b] pos) (wI (BH r ta tb)):=by
 intro pins s σ H Q I h
 refine wpAny_isTrue_Compare1 (Bu (ha pins s σ H _ I h) λv s1 ⟨x,H1,I1,r1,q1⟩=>Bu (hb pins s1 σ H1 _ I1 q1) λu s2 ⟨y,H2,I2,r2,q2⟩=>
  Bu (ho pins s2 σ H2 x y v u _ I2 r1 r2 q2) λc s3 ⟨z,H3,I3,r3,k,e,q3⟩=>?_) hm
 subst e
 cases r3
 exact OD ⟨H3,I3,q3⟩
def nQ(r r':R2)(ta tb tc:TE):TE:=λσ H Q=>ta σ H λx H1=>tb σ H1 λy H2=>r x y H2 λz H3=>∃k,z=.bl k /\
 (if k=true then tc σ H3 λw' H4=>r' y w' H4 Q else Q (.bl false) H3)
theorem Pm{op op':CmpOp}{r r':R2}(ho:Jr X (OS op) r)(ho':Jr X (OS op') r')(ha:PE X a ta)(hb:PE X b tb)(hc:PE X c tc)(hm:lastMarks [op,op'] [b,c]=false:=by with_unfolding_all rfl):PE X (.Compare a [op,op'] [b,c] pos) (nQ r r' ta tb tc):=by
 intro pins s σ H Q I h
 refine Compare_chain (Bu (ha pins s σ H _ I h) λv s1 ⟨x,H1,I1,r1,q1⟩=>chain_link (Bu (hb pins s1 σ H1 _ I1 q1) λu s2 ⟨y,H2,I2,r2,q2⟩=>
  Bu (ho pins s2 σ H2 x y v u _ I2 r1 r2 q2) λd s3 ⟨z,H3,I3,r3,k,e,q3⟩=>?_)) hm
 subst e
 cases r3
 refine OD ?_
 cases k with
 | false=>exact ite_ff ⟨.bl false,H3,I3,rfl,q3⟩
 | true=>exact ite_tt (chain_last (Bu (hc pins s3 σ H3 _ I3 q3) λw' s4 ⟨z',H4,I4,r4,q4⟩=>ho' pins s4 σ H4 y z' u w' Q I4 r2 r4 q4))
theorem lI{op op':CmpOp}{r r':R2}(ho:Jr X (OS op) r)(ho':Jr X (OS op') r')(ha:PE X a ta)(hb:PE X b tb)(hc:PE X c tc)(hm:lastMarks [op,op'] [b,c]=false:=by with_unfolding_all rfl):PT X (.Compare a [op,op'] [b,c] pos) (wI (nQ r r' ta tb tc)):=by
 intro pins s σ H Q I h
 refine isTrue_chain (Bu (ha pins s σ H _ I h) λv s1 ⟨x,H1,I1,r1,q1⟩=>test_link (Bu (hb pins s1 σ H1 _ I1 q1) λu s2 ⟨y,H2,I2,r2,q2⟩=>
  Bu (ho pins s2 σ H2 x y v u _ I2 r1 r2 q2) λd s3 ⟨z,H3,I3,r3,k,e,q3⟩=>?_)) hm
 subst e
 cases r3
 refine OD ?_
 cases k with
 | false=>
  obtain⟨k',e',q'⟩:=q3
  cases e'
  exact ite_ff ⟨H3,I3,q'⟩
 | true=>
  refine ite_tt (test_last (Bu (hc pins s3 σ H3 _ I3 q3) λw' s4 ⟨z',H4,I4,r4,q4⟩=>Bu (ho' pins s4 σ H4 y z' u w' _ I4 r2 r4 q4) λd' s5 ⟨z2,H5,I5,r5,k2,e2,q5⟩=>?_))
  subst e2
  cases r5
  exact OD ⟨H5,I5,q5⟩
def sX(K:JC)(x:V)(H:Hp)(k:Bool):Prop:=
 match x with
 | .non=>k=false
 | .bl b=>k=b
 | .int i=>k=(i != 0)
 | .str y=>y.length<=JM/\k=((y.length:Int) != 0)
 | .byt y=>y.size<=JM/\k=((y.size:Int) != 0)
 | .ref p=>(∃xs,Aw K H p xs/\k = !xs.isEmpty)∨(∃xs,Co K H p xs/\k = !xs.isEmpty) ∨ ∃kvs,H p=some (.dK kvs)/\k = !kvs.isEmpty
 | _=>False
theorem cA{κ:Type}{kvs:List (κ×V)}{vs:List (κ×JD)}(r:KV kvs vs):(!vs.isEmpty) = !kvs.isEmpty:=by
 cases r<;>rfl
theorem Ox{xs:List V}{its:List JD}(r:Bb xs its):(!its.toArray.isEmpty) = !xs.isEmpty:=by
 cases r<;>simp
theorem Kn:(JM:Nat) < 2 ^ 63:=by rw[KO];decide
theorem bG:HA X (λx H Q=>∃k,sX X.K x H k/\Q k H):=by
 intro pins s σ H x v Q I rx h
 obtain⟨k,e,q⟩:=h
 have hl:=Kn
 have hs:JM=16777216:=KO
 cases x with
 | non=>
  cases rx
  have e':k=false:=e
  subst e'
  exact truthy_none ⟨H,I,q⟩
 | bl b=>
  cases rx
  have e':k=b:=e
  subst e'
  exact OD ⟨H,I,q⟩
 | int i=>
  obtain⟨t,rfl⟩:=rx
  have e':k=(i != 0):=e
  subst e'
  exact PySem.P.truthy_int ⟨H,I,q⟩
 | str y=>
  obtain⟨t,rfl⟩:=rx
  obtain⟨hy,e'⟩:y.length<=JM/\k=((y.length:Int) != 0):=e
  subst e'
  exact PySem.P.truthy_str (by omega) ⟨H,I.tok _,q⟩
 | byt y=>
  obtain⟨t,rfl⟩:=rx
  obtain⟨hy,e'⟩:y.size<=JM/\k=((y.size:Int) != 0):=e
  subst e'
  exact PySem.W.truthy_bytes (by omega) ⟨H,I.tok _,q⟩
 | ref p=>
  cases rx
  have e':(∃xs,Aw X.K H p xs/\k = !xs.isEmpty)∨(∃xs,Co X.K H p xs/\k = !xs.isEmpty) ∨ ∃kvs,H p=some (.dK kvs)/\k = !kvs.isEmpty:=e
  rcases e' with ⟨xs,hx,e'⟩ | ⟨xs,hx,e'⟩ | ⟨kvs,hx,e'⟩
  ·subst e'
   obtain⟨its,r,pl,hz⟩:=I.list hx
   have hlen:=r.length
   exact wpAny_truthy_list pl.isList (by simp only[KP];omega) ⟨H,I.tok _,by rw[Ox r];exact q⟩
  ·subst e'
   obtain⟨its,r,pl,hz⟩:=I.tuple hx
   have hlen:=r.length
   exact truthy_tuple pl (by simp only[KP];omega) ⟨H,I.tok _,by rw[Ox r];exact q⟩
  ·subst e'
   obtain⟨hz,hS,vs,r,m⟩:kvs.length<=JM/\(p == OE)=false/\∃vs,KV kvs vs/\s.heap.DictOf (Bo X.prog X.w) p vs:=I.hok p _ hx
   have hlen:kvs.length=vs.length:=NK r
   exact wpAny_truthy_dict hS m (by omega) ⟨H,I.tok _,by rw[cA r];exact q⟩
 | _=>exact(show False from e).elim
theorem pO(ha:PE X a ta)(he:∀whole,isTrue a X.env whole=(do let v <- whole;standAt a.pos;holding [v] (truthy v))):
 PT X a (λσ H Q=>ta σ H λx H'=>∃k,sX X.K x H' k/\Q k H'):=by
 intro pins s σ H Q I h
 exact isTrue_plain (Bu (ha pins s σ H _ I h) λv s1 ⟨x,H1,I1,r1,q1⟩=>bG pins s1 σ H1 x v Q I1 r1 q1) (he _)
theorem Iw:Jr X (QM .Add) (λx y H Q=>∃i j,x=.str i/\y=.str j/\i.length+j.length<=JM/\Q (.str (i++j)) H):=by
 intro pins s σ H x y v u Q I rx ry h
 obtain⟨i,j,rfl,rfl,hz,q⟩:=h
 obtain⟨t,rfl⟩:=rx
 obtain⟨t',rfl⟩:=ry
 exact add_str (λt' tk=>⟨.str (i++j),H,I.tok _,⟨_,rfl⟩,q⟩) hz
theorem vals1{x:V}{us:List JD}(r:Bb [x] us):∃u,us=[u]/\RelV x u:=by
 cases r with
 | cons r1 r2=>cases r2;exact⟨_,rfl,r1⟩
theorem vals2{x y:V}{us:List JD}(r:Bb [x,y] us):∃u w',us=[u,w']/\RelV x u/\RelV y w':=by
 cases r with
 | cons r1 r2=>
  cases r2 with
  | cons r3 r4=>cases r4;exact⟨_,_,rfl,r1,r3⟩
theorem pZ:Fj X (.builtin "abs") (λxs H Q=>∃i,xs=[.int i]/\Q (.int (if i < 0 then -i else i)) H):=by
 intro pins s σ H xs us Q I r h
 obtain⟨i,rfl,q⟩:=h
 obtain⟨u,rfl,t,rfl⟩:=vals1 r
 exact call_abs_int λu tk=>⟨.int (if i < 0 then -i else i),H,I.tok _,⟨_,rfl⟩,q⟩
end
structure cV(h:MQ)(x dx C:JK)(mA:Str->Option JD):Prop where
 obj:h.get? x=some (PU C dx)
 ns:h.Ns1 dx mA
 ne:dx≠x
theorem iB{h:MQ}{dx:JK}{mA:Str->Option JD}(n:h.Ns1 dx mA):∃od,h.get? dx=some od/\∀name,PySem.W.lookIn name od=some (mA name):=by
 obtain⟨o,es,ep,ho,hd,hk,_,hm⟩:=n
 refine⟨o,ho,λname=>?_⟩
 have e:=hm name
 unfold nsFind findBy at e
 rw[<- Array.find?_toList] at e
 unfold PySem.W.lookIn
 rw[hd]
 dsimp only
 split
 ·rename_i y q
  rw[q] at e
  exact congrArg some e
 ·rename_i q
  rw[q] at e
  have a:es.toList.any (·.refKey)=false:=by
   rw[List.any_eq_false]
   intro y hy
   obtain⟨z,t,hkey⟩:=hk y (Array.mem_toList_iff.mp hy)
   simp[DictEntry.refKey,hkey]
  have a':¬ es.toList.any (·.refKey)=true:=by rw[a];exact JN
  rw[if_neg a']
  exact congrArg some e
theorem cV.look{h:MQ}{x dx C:JK}{mA:Str->Option JD}(I:cV h x dx C mA):∃od,PySem.W.InstAt h x (PU C dx) C (some od)/\∀name,PySem.W.lookIn name od=some (mA name):=
 let ⟨od,ho,hl⟩:=iB I.ns
 ⟨od,⟨I.obj,rfl,rfl,ho⟩,hl⟩
section
variable {prog:KC} {w:LL} {A:LI} {E:JD->JH->Prop} {s:JH} {K:JC} {x dx C f:JK} {mA:Str->Option JD} {name:Str} {v:JD}
theorem vS{expr:Bool}{Q:JD->JH->Prop}(X:K.In s.heap)(I:cV s.heap x dx C mA)(hg:PySem.W.plainGet K C name=true)(hh:PySem.W.hasDictIn K C=true)(ha:MF K (.ref C) name=some none)(hv:mA name=some v)(hv':PySem.W.handedIn v=true)(h:Q v { s with toks:=s.toks+1 }):
 KR (KU prog w) A (getAttr (.ref x) name expr) Q E s:=by
 obtain⟨od,J,hl⟩:=I.look
 exact PySem.W.get_value X J (PySem.W.plainGet_of hg).1 (PySem.W.findObj_own hh ha rfl (by rw[hl,hv])) hv' h
theorem oJ{pl:Sem Bool}{Q:JD×List JD->JH->Prop}(X:K.In s.heap)(I:cV s.heap x dx C mA)(hg:PySem.W.plainGet K C name=true)(hf:MF K (.ref C) name=some (some (.ref f)))(ht:PySem.W.isFn K (.ref f)=true)(hv:mA name=none)(h:Q (.ref f,[.ref x]) s):
 KR (KU prog w) A (getMethod (.ref x) name pl) Q E s:=by
 obtain⟨od,J,hl⟩:=I.look
 exact PySem.W.method_fn X J (PySem.W.plainGet_of hg).1 (PySem.W.plainGet_of hg).2 hf (beq_iff_eq.mp ht) (by show (PySem.W.lookIn name od).map (·.isSome)=some false;rw[hl,hv];rfl) h
theorem tW{ns:List Str}{Q:Unit->JH->Prop}(X:K.In s.heap)(I:cV s.heap x dx C mA)(hs:MF K (.ref C) "__setattr__" = some (some (.builtin "object.__setattr__")))(hp:PySem.W.plainOver K C=true)(ht:PySem.W.takerIn K C name=some none)(hh:PySem.W.hasDictIn K C=true)(hw:PySem.Within mA ns)(hsz:ns.length<=JM)(h:∀h',cV h' x dx C (λy=>if y=name then some v else mA y)->Heap.SameBut dx s.heap h'->Q () { s with heap:=h',toks:=s.toks+2 }):
 KR (KU prog w) A (setAttr (.ref x) name v) Q E s:=by
 obtain⟨od,J,hl⟩:=I.look
 refine PySem.W.set_plain X J hs (PySem.W.osa_open (s:={ s with toks:=s.toks+1 }) (r:=none) X J hp ht λb=>?_)
 obtain⟨cd,hc,hd'⟩:=PySem.W.any_some hh
 have hx:s.heap.get? x=some ⟨.ref C,some dx,.plain,#[]⟩:=I.obj
 refine JA (JO (JA (JA (wpAny_loadPart hx (JA (PySem.W.Looks.here (s:={ s with toks:=s.toks+1 }) (PySem.W.looks_clsIn X hc) ?_))))))
 rw[hd']
 refine JO (a:=some dx) (JA (JO (JA ?_)))
 refine wpAny_nsSet1 (s:={ s with toks:=s.toks+1 }) I.ns λh' hn2 hs2=>?_
 obtain⟨oD,esD,epD,hoD,hdD,hcD⟩:=hn2.count (PySem.Within.cons name v hw)
 refine JA (wpAny_lookBehind hoD (by rw[hdD];exact pastItsLine_dict (KS hcD (by rw[LN];omega))) ?_)
 exact JO (h _ ⟨(hs2.2 _ (LH I.ne)).trans I.obj,hn2,I.ne⟩ hs2)
theorem lR{R:Result->JH->Prop}{vs:List JD}{kw:List (Str×JD)}(X:K.In s.heap)(hm:PySem.W.makesIn K C=true)(hi:MF K (.ref C) "__init__" = some (some (.ref f)))(hf:PySem.W.typeIn K (.ref f)=some (.type "function"))(h:RV (KU prog w) (A.under (.builtin "type.__call__" ⟨.ref C::vs,kw⟩)) (.call (.ref f) ⟨.ref (s.heap.objs.size+1)::vs,kw⟩) (PySem.W.InitBack (s.heap.objs.size+1) R)
  { s with heap:=(s.heap.push NZ).push (PU C s.heap.objs.size) }):
 RV (KU prog w) A (.call (.ref C) ⟨vs,kw⟩) R s:=by
 obtain⟨hh,g,d,t,os⟩:=s
 exact PySem.W.make_core (PySem.W.makes_of X hm) (PySem.W.looks_findIn X hi) (λself=>PySem.W.bind_fn X self hf) (.inl rfl) h
end
def Ep(f:Str)(v:V):List (Str×V)->List (Str×V)
 | []=>[(f,v)]
 | (g,x)::r=>if g=f then (g,v)::r else (g,x)::Ep f v r
theorem Nh(f g:Str)(v:V):∀fs:List (Str×V),(Ep f v fs).lookup g=if g=f then some v else fs.lookup g
 | []=>by
  show RF g [(f,v)]=_
  by_cases h:g=f
  ·have hb:(g == f)=true:=beq_iff_eq.mpr h
   simp only[RF,hb,if_pos h]
  ·have hb:(g == f)=false:=beq_eq_false_iff_ne.mpr h
   simp only[RF,hb,if_neg h]
 | (k,x)::r=>by
  have ih:=Nh f g v r
  rw[show Ep f v ((k,x)::r)=(if k=f then (k,v)::r else (k,x)::Ep f v r) from rfl]
  by_cases hk:k=f
  ·rw[if_pos hk]
   by_cases h:g=k
   ·have hb:(g == k)=true:=beq_iff_eq.mpr h
    simp only[RF,hb,if_pos (h.trans hk)]
   ·have hb:(g == k)=false:=beq_eq_false_iff_ne.mpr h
    simp only[RF,hb,if_neg (λe:g=f=>h (e.trans hk.symm))]
  ·rw[if_neg hk]
   by_cases h:g=k
   ·have hb:(g == k)=true:=beq_iff_eq.mpr h
    simp only[RF,hb,if_neg (λe:g=f=>hk (h.symm.trans e))]
   ·have hb:(g == k)=false:=beq_eq_false_iff_ne.mpr h
    simp only[RF,hb]
    exact ih
theorem Ml(f:Str)(v:V):∀fs:List (Str×V),f∈(Ep f v fs).map (·.1)/\∀g,g∈fs.map (·.1)->g∈(Ep f v fs).map (·.1)
 | []=>⟨by simp[Ep],λg h=>by simp at h⟩
 | (k,x)::r=>by
  obtain⟨i1,i2⟩:=Ml f v r
  rw[show Ep f v ((k,x)::r)=(if k=f then (k,v)::r else (k,x)::Ep f v r) from rfl]
  by_cases hk:k=f
  ·rw[if_pos hk]
   subst hk
   exact⟨by simp,λg h=>by simpa using h⟩
  ·rw[if_neg hk]
   refine⟨?_,λg h=>?_⟩
   ·rw[LU]
    exact JQ _ i1
   ·rw[LU] at h ⊢
    rcases JP.mp h with e | e
    ·exact JP.mpr (.inl e)
    ·exact JQ _ (i2 g e)
theorem Fi(f:Str)(v:V):∀fs:List (Str×V),(Ep f v fs).length<=fs.length+1
 | []=>by simp[Ep]
 | (k,x)::r=>by
  have ih:=Fi f v r
  rw[show Ep f v ((k,x)::r)=(if k=f then (k,v)::r else (k,x)::Ep f v r) from rfl]
  by_cases hk:k=f
  ·rw[if_pos hk,LN,LN];omega
  ·rw[if_neg hk,LN,LN];omega
theorem Ho.some_of{v:V}{o:Option JD}(r:Ho (some v) o):∃u,o=some u/\RelV v u:=by
 cases o with
 | none=>exact(show False from r).elim
 | some u=>exact⟨u,rfl,r⟩
theorem Ho.none_of{o:Option JD}(r:Ho none o):o=none:=by
 cases o with
 | none=>rfl
 | some u=>exact(show False from r).elim
theorem iY{v:V}{u:JD}(r:RelV v u):PySem.W.handedIn u=true:=by
 cases v with
 | non=>cases (show u=MU from r);rfl
 | bl b=>cases (show u=Value.bool b from r);rfl
 | int i=>obtain⟨t,e⟩:=(show ∃t,u=Value.int i t from r);cases e;rfl
 | str x=>obtain⟨t,e⟩:=(show ∃t,u=Value.str x t from r);cases e;rfl
 | byt b=>obtain⟨t,e⟩:=(show ∃t,u=Value.bytes b t from r);cases e;rfl
 | flt b=>obtain⟨t,e⟩:=(show ∃t,u=Value.float b t from r);cases e;rfl
 | ref a=>cases (show u=JV a from r);rfl
 | ty n=>cases (show u=OP n from r);rfl
section
variable {P:KC} {w:LL} {H H':Hp} {h h':MQ} {a C dx:JK} {fs fs':List (Str×V)}
theorem Of(hok:Kg P w H h)(e:H a=some (.ins C dx fs)):∃mA,cV h a dx C mA/\(∀f,Ho (fs.lookup f) (mA f))/\PySem.Within mA (fs.map (·.1))/\fs.length<=1000/\H dx=some (.own a):=by
 obtain⟨d,z,ne,ob,mA,n,r,q⟩:=(show Cg P w H h a (.ins C dx fs) from hok a _ e)
 exact⟨mA,⟨ob,n,ne⟩,r,q,z,d⟩
end
structure Wa(K:JC)(C:JK):Prop where
 pg:PySem.W.plainGet K C Str.empty=true
 hd:PySem.W.hasDictIn K C=true
 po:PySem.W.plainOver K C=true
 sa:MF K (.ref C) "__setattr__" = some (some (.builtin "object.__setattr__"))
theorem Wa.get{K:JC}{C:JK}(c:Wa K C)(f:Str):PySem.W.plainGet K C f=true:=c.pg
def Eh(K:JC)(C:JK)(f:Str):Prop:=MF K (.ref C) f=some none
theorem Eh.taker{K:JC}{C:JK}{f:Str}(n:Eh K C f):PySem.W.takerIn K C f=some none:=by
 unfold PySem.W.takerIn
 rw[show MF K (.ref C) f=some none from n]
 rfl
structure Dt(K:JC)(C:JK)(m:Str)(f:JK):Prop where
 at_:MF K (.ref C) m=some (some (.ref f))
 fn:PySem.W.isFn K (.ref f)=true
 kp:JR K (.ref f)=true
section
variable {X:Cx} {pins:List (JK×Obj)} {σ:St} {H:Hp} {s:JH} {a C dx:JK} {fs:List (Str×V)} {f:Str} {v:V} {A:LI} {E:JD->JH->Prop}
theorem cS{b:Bool}{Q:JD->JH->Prop}(I:Inv X pins σ H s)(e:H a=some (.ins C dx fs))(c:Wa X.K C)(n:Eh X.K C f)(l:fs.lookup f=some v)(h:∀u s',Inv X pins σ H s'->RelV v u->Q u s'):KR (KU X.prog X.w) A (getAttr (.ref a) f b) Q E s:=by
 obtain⟨mA,O,r,_,_,_⟩:=Of I.hok e
 obtain⟨u,hu,ru⟩:=Ho.some_of (v:=v) (o:=mA f) (by rw[<- l];exact r f)
 exact vS I.kIn O (c.get f) c.hd n hu (iY ru) (h u _ (I.tok _) ru)
theorem Ff{m:Str}{g:JK}{pl:Sem Bool}{Q:JD×List JD->JH->Prop}(I:Inv X pins σ H s)(e:H a=some (.ins C dx fs))(c:Wa X.K C)(k:Dt X.K C m g)(l:fs.lookup m=none)(h:Q (.ref g,[.ref a]) s):KR (KU X.prog X.w) A (getMethod (.ref a) m pl) Q E s:=by
 obtain⟨mA,O,r,_,_,_⟩:=Of I.hok e
 have hn:mA m=none:=Ho.none_of (by rw[<- l];exact r m)
 exact oJ I.kIn O (c.get m) k.at_ k.fn hn h
theorem aB{y:V}{u:JD}{Q:Unit->JH->Prop}(I:Inv X pins σ H s)(e:H a=some (.ins C dx fs))(c:Wa X.K C)(n:Eh X.K C f)(hl:fs.length < 1000)(ry:RelV y u)(h:∀s',Inv X pins σ (upd H a (.ins C dx (Ep f y fs))) s'->Q () s'):KR (KU X.prog X.w) A (setAttr (.ref a) f u) Q E s:=by
 obtain⟨mA,O,r,wi,_,ho⟩:=Of I.hok e
 have hz:(fs.map (·.1)).length<=JM:=by rw[JF,KO];omega
 refine tW I.kIn O c.sa c.po n.taker c.hd wi hz λh' O' sb=>h _ ?_
 have hd:∃o,h'.get? dx=some o:=let ⟨o,_,_,e',_⟩:=O'.ns;⟨o,e'⟩
 refine I.write (x:=a) (e:=dx) (by rw[e];exact PB) (.inr ho) (λb q hb z=>(sb.2 b hb).trans z) hd ?_
 refine⟨by rw[Aj O.ne];exact ho,?_,O.ne,O'.obj,_,O'.ns,λg=>?_,λg hg=>?_⟩
 ·have:=Fi f y fs;omega
 ·show Ho ((Ep f y fs).lookup g) (if g=f then some u else mA g)
  rw[Nh]
  by_cases q:g=f
  ·rw[if_pos q,if_pos q];exact ry
  ·rw[if_neg q,if_neg q];exact r g
 ·by_cases q:g=f
  ·rw[q];exact(Ml f y fs).1
  ·refine(Ml f y fs).2 g (wi g λz=>hg ?_)
   show (if g=f then some u else mA g)=none
   rw[if_neg q];exact z
theorem Inv.made(I:Inv X pins σ H s):Inv X pins σ (upd (upd H s.heap.objs.size (.own (s.heap.objs.size+1))) (s.heap.objs.size+1) (.ins C s.heap.objs.size []))
 { s with heap:=(s.heap.push NZ).push (PU C s.heap.objs.size) }:=by
 have e1:(s.heap.push NZ).get? s.heap.objs.size=some NZ:=JZ s.heap rfl
 have e2:((s.heap.push NZ).push (PU C s.heap.objs.size)).get? (s.heap.objs.size+1)=some (PU C s.heap.objs.size):=by
  have:=JZ (s.heap.push NZ) (o:=PU C s.heap.objs.size) rfl
  rwa [OL] at this
 have e3:(s.heap.push NZ).Ns s.heap.objs.size (λ_=>none):=⟨NZ,#[],_,e1,rfl,(λe he=>absurd he (by simp)),λ_=>rfl⟩
 have I1:=I.laid (a:=s.heap.objs.size) (o:=.own (s.heap.objs.size+1)) (h':=s.heap.push NZ) (t':=s.toks) (λb u q=>JE _ q) (JI _) ⟨_,e1⟩
 refine I1.laid (a:=s.heap.objs.size+1) (o:=.ins C s.heap.objs.size []) (t':=s.toks) (λb u q=>JE _ q) (QP (OL _ _)) ?_
 have ne:s.heap.objs.size≠s.heap.objs.size+1:=KL (QC _)
 refine⟨by rw[Aj ne,Aa],LG _,ne,e2,λ_=>none,(Heap.Ns1.of_empty e3).at λo q=>JE _ q,λ_=>PB,λy hy=>absurd rfl hy⟩
theorem uI{prog:KC}{w:LL}{env:Env}{e:Expr}{f:Str}{pos:Pos}{s:JH}{Q:JD->JH->Prop}(hb:RD e f env (OX e env)=OX e env)(h:KR (KU prog w) A (OX e env) (λo s₁=>KR (KU prog w) A (getAttr o f true) Q E s₁) E s):KR (KU prog w) A (OX (.Attribute e f pos) env) Q E s:=
 Attribute_any_ h (by rw[arm_eval_Attribute,hb])
end
def CV(K:JC)(ta:TE)(f:Str):TE:=λσ H Q=>ta σ H λx H1=>∃a C dx fs v,x=.ref a/\H1 a=some (.ins C dx fs)/\Wa K C/\Eh K C f/\fs.lookup f=some v/\Q v H1
def GZ(K:JC)(ta tv:TE)(f:Str):TS:=λD σ H=>tv σ H λy H1=>ta σ H1 λx H2=>∃a C dx fs,x=.ref a/\H2 a=some (.ins C dx fs)/\Wa K C/\Eh K C f/\fs.length < 1000 /\
 D.nx σ (upd H2 a (.ins C dx (Ep f y fs)))
section
variable {X:Cx} {o e value:Expr} {f:Str} {pos pos' tpos:Pos} {ta tv:TE}
theorem Cp(he:PE X e ta)(hb:RD e f X.env (OX e X.env)=OX e X.env):PE X (.Attribute e f pos) (CV X.K ta f):=by
 intro pins s σ H Q I h
 refine uI hb (Bu (he pins s σ H _ I h) λu s1 ⟨x,H1,I1,rx,a,C,dx,fs,v,ex,ea,c,n,l,q⟩=>?_)
 subst ex
 obtain rfl:u=JV a:=rx
 exact cS I1 ea c n l λu' s2 I2 ru=>⟨v,H1,I2,ru,q⟩
theorem Gj(ha:PE X o ta)(hv:PE X value tv)(hs:swapsWith value (some (.Attribute o f pos')) pos.line X.env=pure false):PS X (.Assign [.Attribute o f pos'] value pos) (GZ X.K ta tv f):=by
 intro pins s σ H D I h
 refine plainObj_wpAny_Assign_Attribute (Bu (hv pins s σ H _ I h) λu s1 ⟨y,H1,I1,ry,q⟩=>Bu (ha pins s1 σ H1 _ I1 q) λov s2 ⟨x,H2,I2,rx,a,C,dx,fs,ex,ea,c,n,l,q2⟩=>?_) hs
 subst ex
 obtain rfl:ov=JV a:=rx
 exact aB I2 ea c n l ry λs3 I3=>⟨σ,_,I3,q2⟩
theorem wQ{pl:Sem Bool}{m:Str}{apos:Pos}{args:List Expr}{pins:List (JK×Obj)}{s:JH}{σ:St}{H:Hp}{Q:JD->JH->Prop}{te:TE}(he:PE X e te)(I:Inv X pins σ H s)(h:te σ H λx H1=>∃a C dx fs g,x=.ref a/\H1 a=some (.ins C dx fs)/\Wa X.K C/\Dt X.K C m g/\fs.lookup m=none /\
  ∀s1,Inv X pins σ H1 s1->KR (KU X.prog X.w) X.A (callWith pos (.ref g) [.ref a] (QK pos (KQ args X.env)) (backToKw pos (QU [] X.env))) Q X.xe s1)(ht:OX (.Call (.Attribute e m apos) args [] pos) X.env=(do
  let ov <- OX e X.env
  standAt apos.atName
  let (f,first) <- holding [ov] (getMethod ov m pl)
  callWith pos f first (QK pos (KQ args X.env)) (backToKw pos (QU [] X.env)))):
 KR (KU X.prog X.w) X.A (OX (.Call (.Attribute e m apos) args [] pos) X.env) Q X.xe s:=by
 refine PF (pl:=pl) (Bu (he pins s σ H _ I h) λu s1 ⟨x,H1,I1,rx,a,C,dx,fs,g,ex,ea,c,k,l,q⟩=>?_) ht
 subst ex
 obtain rfl:u=JV a:=rx
 exact Ff I1 ea c k l (q s1 I1)
end
section
variable {X:Cx} {pins:List (JK×Obj)} {σ:St} {H:Hp} {s:JH} {A:LI} {E:JD->JH->Prop} {Q:JD->JH->Prop} {c:JD} {b:Bool}
inductive Mo(K:JC)(H:Hp):V->JD->Prop where
 | non:Mo K H .non (.type "NoneType")
 | bl (x:Bool):Mo K H (.bl x) (.type "bool")
 | int (i:Int):Mo K H (.int i) (.type "int")
 | str (x:Str):Mo K H (.str x) (.type "str")
 | flt (x:UInt64):Mo K H (.flt x) (.type "float")
 | lst {a:JK} {xs:List V} (e:H a=some (.lst xs)):Mo K H (.ref a) (.type "list")
 | frz {a:JK} {o:Obj} {xs:List V} (e:H a=some (.frz o (.lst xs))):Mo K H (.ref a) (.type "list")
 | tup {a:JK} {xs:List V} (e:H a=some (.tup xs)):Mo K H (.ref a) (.type "tuple")
 | dK {a:JK} {kvs:List (Key×V)} (e:H a=some (.dK kvs)):Mo K H (.ref a) (.type "dict")
 | dT {a:JK} {kvs:List (List Key×V)} (e:H a=some (.dT kvs)):Mo K H (.ref a) (.type "dict")
 | ins {a C dx:JK} {fs:List (Str×V)} (e:H a=some (.ins C dx fs)) (cl:Wa K C) (ha:MF K (.ref C) "__class__" = some (some (.builtin "object.__class__")))
  (hn:PySem.W.specialIn K (.builtin "object.__class__") "__get__" = some (some (.builtin "getset_descriptor.__get__"))) (htk:PySem.W.takesIn K (.builtin "object.__class__")=some true)
  (hm:PySem.W.mroIn K C (.type "object")=some true):Mo K H (.ref a) (.ref C)
theorem jP{x:V}{u t:JD}(I:Inv X pins σ H s)(rx:RelV x u)(ty:Mo X.K H x t)(e:QG X.K t c=some b)(h:∀tk,Q (.bool b) { s with toks:=tk }):
 KR (KU X.prog X.w) A (call (.builtin "isinstance") [u,c]) Q E s:=by
 cases ty with
 | non=>cases (show u=MU from rx);exact NM PySem.W.kitx_none I.kIn PB e (λz=>nomatch z) h
 | bl y=>cases (show u=Value.bool y from rx);exact NM PySem.W.kitx_bool I.kIn PB e (λz=>nomatch z) h
 | int i=>obtain⟨t,q⟩:=(show ∃t,u=Value.int i t from rx);cases q;exact NM PySem.W.kitx_int I.kIn PB e (λz=>nomatch z) h
 | str y=>obtain⟨t,q⟩:=(show ∃t,u=Value.str y t from rx);cases q;exact NM PySem.W.kitx_str I.kIn PB e (λz=>nomatch z) h
 | flt y=>obtain⟨t,q⟩:=(show ∃t,u=Value.float y t from rx);cases q;exact NM PySem.W.kitx_float I.kIn PB e (λz=>nomatch z) h
 | @lst a xs ea=>
  cases (show u=JV a from rx)
  obtain⟨_,_,n,_,h1⟩:=(show Cg X.prog X.w H s.heap a (.lst xs) from I.hok a _ ea)
  exact NM PySem.W.kitx_list I.kIn ⟨_,h1,rfl⟩ e (λz=>nomatch z) h
 | @frz a ob xs ea=>
  cases (show u=JV a from rx)
  obtain⟨_,_,_,n,_,h1⟩:=(show Cg X.prog X.w H s.heap a (.frz ob (.lst xs)) from I.hok a _ ea)
  exact NM PySem.W.kitx_list I.kIn ⟨_,h1,rfl⟩ e (λz=>nomatch z) h
 | @tup a xs ea=>
  cases (show u=JV a from rx)
  obtain⟨_,_,_,p⟩:=(show Cg X.prog X.w H s.heap a (.tup xs) from I.hok a _ ea)
  obtain⟨o,h1,h2,_⟩:=p
  exact NM PySem.W.kitx_tuple I.kIn ⟨o,h1,h2⟩ e (λz=>nomatch z) h
 | @dK a kvs ea=>
  cases (show u=JV a from rx)
  obtain⟨_,_,vs,_,p⟩:=(show Cg X.prog X.w H s.heap a (.dK kvs) from I.hok a _ ea)
  obtain⟨o,es,ep,h1,h2,_⟩:=p
  exact NM PySem.W.kitx_dict I.kIn ⟨o,h1,h2.1⟩ e (λz=>nomatch z) h
 | @dT a kvs ea=>
  cases (show u=JV a from rx)
  obtain⟨_,_,xs,_,o,es,ep,h1,h2,_⟩:=(show Cg X.prog X.w H s.heap a (.dT kvs) from I.hok a _ ea)
  exact NM PySem.W.kitx_dict I.kIn ⟨o,h1,h2.1⟩ e (λz=>nomatch z) h
 | @ins a C dx fs ea cl ha hn htk hm=>
  cases (show u=JV a from rx)
  obtain⟨mA,O,_⟩:=Of I.hok ea
  obtain⟨od,J,_⟩:=O.look
  exact NM (PySem.W.kitx_own (cl.get _) cl.hd ha hn htk hm) I.kIn J e (λz=>nomatch z) h
end
structure Ck(k:Nat)(A:LI):Prop where
 dp:A.depth+3 * k+5 < recursionLimit
 un:A.units+16 * k+200 < cLine
theorem Ck.mono{j k:Nat}{A:LI}(r:Ck k A)(h:j<=k):Ck j A:=⟨by have:=r.dp;omega,by have:=r.un;omega⟩
theorem Ck.deeper{k:Nat}{A:LI}(r:Ck (k+1) A)(env:Env):Ck k (A.deeper env):=
 ⟨by have:=r.dp;show A.depth+1+3 * k+5 < _;omega,by have:=r.un;show A.units+3+16 * k+200 < _;omega⟩
theorem cM{A:LI}{C:JK}{us:List JD}{kw:List (Str×JD)}:(A.under (.builtin "type.__call__" ⟨.ref C::us,kw⟩)).depth=A.depth+1:=by
 first | rfl | simp[Around.under,Code.weight,Code.isCreation,Code.isGuard,Code.isCaller,Code.frames,Code.isFrame,guardIds]
theorem aH{A:LI}{C:JK}{us:List JD}{kw:List (Str×JD)}:(A.under (.builtin "type.__call__" ⟨.ref C::us,kw⟩)).units=A.units+1:=by
 first | rfl | simp[Around.under,Code.cUnits,Code.frames,Code.isFrame]
theorem Ck.make{k:Nat}{A:LI}(r:Ck (k+1) A)(C:JK)(us:List JD)(kw:List (Str×JD)):Ck k (A.under (.builtin "type.__call__" ⟨.ref C::us,kw⟩)):=
 ⟨by have:=r.dp;rw[cM];omega,by have:=r.un;rw[aH];omega⟩
theorem Ck.depth{k:Nat}{A:LI}(r:Ck k A):A.depth < recursionLimit:=by have:=r.dp;omega
theorem Ck.units{k:Nat}{A:LI}(r:Ck k A):A.units+64 < cLine:=by have:=r.un;omega
def Xz:TA:=λ_ H Q=>Q [] H
def Iz(ta:TE)(tr:TA):TA:=λσ H Q=>ta σ H λx H1=>tr σ H1 λxs H2=>Q (x::xs) H2
section
variable {X:Cx} {e:Expr} {es:List Expr} {te:TE} {t:TA} {pos:Pos}
theorem Fu:PA X [] Xz:=λ_ _ _ _ H Q I h=>Calls.spliced_nil ⟨[],H,I,.nil,h⟩
theorem Fz(ha:PE X e te)(hr:PA X es t)(hs:KQ (e::es) X.env=(false,OX e X.env)::KQ es X.env:=by rfl):PA X (e::es) (Iz te t):=by
 intro pos pins s σ H Q I h
 rw[hs]
 show KR _ _ (spliced ((false,OX e X.env)::QK pos (KQ es X.env))) _ _ s
 refine QS (Bu (ha pins s σ H _ I h) λu s1 ⟨x,H1,I1,r1,q1⟩=>?_)
 exact Bu (hr pos pins s1 σ H1 _ I1 q1) λus s2 ⟨xs,H2,I2,r2,q2⟩=>⟨x::xs,H2,I2,.cons r1 r2,q2⟩
def GU(t:TA):TE:=λσ H Q=>t σ H λxs H1=>xs.length<=JM/\∀p,H1 p=none->Q (.ref p) (upd H1 p (.tup xs))
def pS(t:TA):TE:=λσ H Q=>t σ H λxs H1=>xs.length<=JM/\∀p,H1 p=none->Q (.ref p) (upd H1 p (.lst xs))
theorem Cb{x1}(h:PA X es t):PE X (.Tuple es x1 pos) (GU t):=by
 intro pins s σ H Q I hq
 refine wpAny_Tuple_spliced (Bu (h pos pins s σ H _ I hq) λus s1 ⟨xs,H1,I1,r,z,q⟩=>⟨by rw[<- r.length];exact z,?_⟩)
 have hf:H1 s1.heap.objs.size=none:=I1.hok.fresh (JI _)
 refine⟨.ref s1.heap.objs.size,upd H1 s1.heap.objs.size (.tup xs),I1.laid (t':=s1.toks) (λb u e=>JE _ e) (JI _) ?_,rfl,q _ hf⟩
 exact⟨z,us,r,⟨_,JZ _ rfl,rfl,_,rfl⟩⟩
theorem Df(h:PA X es t):PE X (.List es pos) (pS t):=by
 intro pins s σ H Q I hq
 refine wpAny_List_spliced (Bu (h pos pins s σ H _ I hq) λus s1 ⟨xs,H1,I1,r,z,q⟩=>⟨by rw[<- r.length];exact z,?_⟩)
 have hf:H1 s1.heap.objs.size=none:=I1.hok.fresh (JI _)
 refine⟨.ref s1.heap.objs.size,upd H1 s1.heap.objs.size (.lst xs),I1.laid (t':=s1.toks) (λb u e=>JE _ e) (JI _) ?_,rfl,q _ hf⟩
 exact⟨z,us,0,r,JZ _ rfl⟩
end
abbrev Sp:=List V->Hp->VK->XK->Prop
structure Wc where
 f:List Env->Hp->JH->XK->JD->JH->Prop
 st:Bool
structure Yk(CX:Wc)(base:MQ)(k:Nat)(A:LI):Prop where
 rm:Ck k A
 st:CX.st=true->A.handled=none
 hd:Bp A base
theorem Yk.mono{CX:Wc}{base:MQ}{j k:Nat}{A:LI}(r:Yk CX base k A)(h:j<=k):Yk CX base j A:=⟨r.rm.mono h,r.st,r.hd⟩
structure Uo(P:KC)(w:LL)(K:JC)(mg:Str->Option JD)(base:MQ)(A:LI)(outer:List Env)(s:JH)(H:Hp):Prop where
 frames:A.frames=some outer
 mod:Mod K mg base
 bs:∀b o,base.get? b=some o->s.heap.get? b=some o/\H b=none
 bsz:base.objs.size<=s.heap.objs.size
 funs:s.heap.FunFrames base outer
 frf:∀b∈Rc outer,H b=none
 hok:Kg P w H s.heap
 bare:AllBare s.gens
def CE(outer:List Env)(P:KC)(w:LL)(H:Hp)(s:JH)(Q:VK)(u:JD)(s':JH):Prop:=
 ∃v H',s'.os=s.os/\AllBare s'.gens/\Un (Rc outer) [] H H' s.heap s'.heap/\Kg P w H' s'.heap/\RelV v u/\Q v H'
def CR(CX:Wc)(outer:List Env)(P:KC)(w:LL)(H:Hp)(s:JH)(Q:VK)(E:XK)(r:Result)(s':JH):Prop:=
 match r with
 | .ok (.ret u)=>CE outer P w H s Q u s'
 | .ok _=>False
 | .error e=>CX.f outer H s E e s'
structure Al(P:KC)(w:LL)(K:JC)(mg:Str->Option JD)(base:MQ)(CX:Wc)(k:Nat)(f:JK)(fd:LB)(ps:List Str)(sp:Sp):Prop where
 len:∀vs H Q E,sp vs H Q E->vs.length=ps.length
 run:∀(A:LI)(outer:List Env)(s:JH)(H:Hp)(args:Args)(us:List JD)(vs:List V)(Q:VK)(E:XK),Yk CX base k A->Uo P w K mg base A outer s H->BindsTo s fd args (ps.zip us)->Bb vs us->sp vs H Q E ->
  RV (KU P w) A (.call (.ref f) args) (CR CX outer P w H s Q E) s
theorem Al.mono{P:KC}{w:LL}{K:JC}{mg:Str->Option JD}{base:MQ}{CX:Wc}{j k:Nat}{f:JK}{fd:LB}{ps:List Str}{sp:Sp}(F:Al P w K mg base CX j f fd ps sp)(h:j<=k):
 Al P w K mg base CX k f fd ps sp:=⟨F.len,λA outer s H args us vs Q E hr=>F.run A outer s H args us vs Q E (hr.mono h)⟩
theorem Uo.make{P:KC}{w:LL}{K:JC}{mg:Str->Option JD}{base:MQ}{A:LI}{outer:List Env}{s:JH}{H:Hp}(e:Uo P w K mg base A outer s H)(C:JK)(us:List JD)(kw:List (Str×JD)):
 Uo P w K mg base (A.under (.builtin "type.__call__" ⟨.ref C::us,kw⟩)) outer s H:=⟨by first | exact e.frames | (simpa [Around.under,Code.envs,Code.isFrame,pushEnvs] using e.frames),e.mod,e.bs,e.bsz,e.funs,e.frf,e.hok,e.bare⟩
section
variable {X:Cx} {pins:List (JK×Obj)} {σ:St} {H:Hp} {s s':JH}
theorem Inv.env0(I:Inv X pins σ H s):Uo X.prog X.w X.K X.mg X.base X.A X.stack s H:=
 ⟨I.ok.frames,I.ok.mod,I.bs,KS I.ok.bsz I.sz,I.stack,I.stkFree,I.hok,I.bare⟩
theorem Inv.after{Q:VK}{u:JD}(I:Inv X pins σ H s)(h:CE X.stack X.prog X.w H s Q u s'):EP X pins σ Q u s':=by
 obtain⟨v,H',os,bare,un,hok,r,q⟩:=h
 obtain⟨hh,g,d,t,os'⟩:=s'
 obtain rfl:os'=s.os:=os
 exact⟨v,H',I.call (h':=hh) (g':=g) (d':=d) (t':=t) (ch:=[]) un hok bare (λb z=>absurd z (by simp)),r,q⟩
end
def wY(sp:Sp)(dvs:List V)(E:XK)(t:TA):TE:=λσ H Q=>t σ H λvs H1=>sp (vs++dvs) H1 Q E
def rK(C:JK)(m:Str)(sp:Sp)(dvs:List V)(E:XK)(ta:TE)(t:TA):TE:=λσ H Q=>ta σ H λx H1=>∃a dx fs,x=.ref a/\H1 a=some (.ins C dx fs)/\fs.lookup m=none /\
 t σ H1 λvs H2=>sp (x::(vs++dvs)) H2 Q E
def wU(C:JK)(sp:Sp)(dvs:List V)(E:XK)(t:TA):TE:=λσ H Q=>t σ H λvs H1=>∀x dx,H1 x=none->H1 dx=none->dx≠x ->
 sp (.ref x::(vs++dvs)) (upd (upd H1 dx (.own x)) x (.ins C dx [])) (λv H2=>v=.non/\Q (.ref x) H2) E
def Binds(K:JC)(fd:LB)(ps:List Str)(ds:List JD):Prop:=
 ∀(s:JH)(us:List JD),K.In s.heap->(us++ds).length=ps.length->BindsTo s fd ⟨us,[]⟩ (ps.zip (us++ds))
theorem Binds.all{K:JC}{fd:LB}{ps:List Str}(h:∀us:List JD,us.length=ps.length->bindArgs fd ⟨us,[]⟩=pure (ps.zip us)):Binds K fd ps []:=λs us _ hl=>by
 rw[LX] at hl ⊢
 exact .of_eq (h us hl)
structure Hk(CX:Wc)(X:Cx)(E:XK):Prop where
 cl:X.calm=true
 st:CX.st=true->X.sx=true
 go:∀(pins:List (JK×Obj))(σ:St)(H:Hp)(s:JH)(e:JD)(s':JH),Inv X pins σ H s->CX.f X.stack H s E e s'->X.xe e s'
theorem Hk.room{CX:Wc}{X:Cx}{E:XK}{pins:List (JK×Obj)}{σ:St}{H:Hp}{s:JH}{k:Nat}(p:Hk CX X E)(I:Inv X pins σ H s)(r:Ck k X.A):Yk CX X.base k X.A:=⟨r,λz=>I.ok.st (p.st z),I.ok.hd p.cl⟩
section
variable {X:Cx} {CX:Wc} {k:Nat} {f C:JK} {fd:LB} {ps:List Str} {sp:Sp} {dvs:List V} {ds:List JD} {E:XK} {x m:Str} {p pos apos:Pos} {e o:Expr} {es:List Expr} {ta:TE} {t:TA}
theorem nF{pins:List (JK×Obj)}{σ:St}{H:Hp}{s:JH}{Q:VK}{us:List JD}{vs:List V}(F:Al X.prog X.w X.K X.mg X.base CX k f fd ps sp)(hr:Ck k X.A)(hb:Binds X.K fd ps ds)(hd:Bb dvs ds)(hx:Hk CX X E)(I:Inv X pins σ H s)(r:Bb vs us)(h:sp (vs++dvs) H Q E):KR (KU X.prog X.w) X.A (call (.ref f) us) (EP X pins σ Q) X.xe s:=by
 have r2:Bb (vs++dvs) (us++ds):=r.append hd
 have hl:(us++ds).length=ps.length:=by rw[<- r2.length];exact F.len _ _ _ _ h
 refine RW (PQ (F.run X.A X.stack s H ⟨us,[]⟩ (us++ds) (vs++dvs) Q E (hx.room I hr) I.env0 (hb s us I.kIn hl) r2 h) λr s' hq=>?_)
 cases r with
 | error e=>exact hx.go pins σ H s e s' I hq
 | ok fl=>
  cases fl with
  | ret u=>exact I.after hq
  | next=>exact LZ hq
  | brk=>exact LZ hq
  | cont=>exact LZ hq
theorem Di(F:Al X.prog X.w X.K X.mg X.base CX k f fd ps sp)(hr:Ck k X.A)(hg:Gl X x)(hm:X.mg x=some (.ref f))(hk:JR X.K (.ref f)=true)(hb:Binds X.K fd ps ds)(hd:Bb dvs ds)(hx:Hk CX X E)(ha:PA X (e::es) t)(hdb:(x == ("__debug__" : Str))=false:=by decide)(he:KQ (e::es) X.env=(false,OX e X.env)::KQ es X.env:=by rfl)(hpl:(QK pos (KQ es X.env)).any (·.1)=false:=by rfl):
 PE X (.Call (.Name x p) (e::es) [] pos) (wY sp dvs E t):=by
 intro pins s σ H Q I h
 refine OO (Hb I hg hm ?_ hdb)
 refine NR (h₀:=X.base) I.ok.mod.kin hk (Bu (ha pos pins s σ H _ I h) λus s1 ⟨vs,H1,I1,r,q⟩=>⟨I1.kIn,?_⟩) he hpl
 exact nF F hr hb hd hx I1 r q
theorem Ee{pl:Sem Bool}(he:PE X o ta)(c:Wa X.K C)(hm:Dt X.K C m f)(F:Al X.prog X.w X.K X.mg X.base CX k f fd ps sp)(hr:Ck k X.A)(hb:Binds X.K fd ps ds)(hd:Bb dvs ds)(hx:Hk CX X E)(ha:PA X (e::es) t)(hst:KQ (e::es) X.env=(false,OX e X.env)::KQ es X.env:=by rfl)(hpl:(QK pos (KQ es X.env)).any (·.1)=false:=by rfl)(ht:OX (.Call (.Attribute o m apos) (e::es) [] pos) X.env=(do
  let ov <- OX o X.env
  standAt apos.atName
  let (f,first) <- holding [ov] (getMethod ov m pl)
  callWith pos f first (QK pos (KQ (e::es) X.env)) (backToKw pos (QU [] X.env))):=by rfl):
 PE X (.Call (.Attribute o m apos) (e::es) [] pos) (rK C m sp dvs E ta t):=by
 intro pins s σ H Q I h
 refine PF (pl:=pl) (Bu (he pins s σ H _ I h) λu s1 ⟨x,H1,I1,rx,a,dx,fs,ex,ea,l,q⟩=>?_) ht
 subst ex
 obtain rfl:u=JV a:=rx
 refine Ff I1 ea c hm l ?_
 refine NR (first:=[.ref a]) (h₀:=X.base) I.ok.mod.kin hm.kp (Bu (ha pos pins s1 σ H1 _ I1 q) λus s2 ⟨vs,H2,I2,r,q2⟩=>⟨I2.kIn,?_⟩) hst hpl
 exact nF (us:=.ref a::us) (vs:=.ref a::vs) F hr hb hd hx I2 (.cons rfl r) q2
structure Mk(K:JC)(C f:JK):Prop where
 makes:PySem.W.makesIn K C=true
 init:MF K (.ref C) "__init__" = some (some (.ref f))
 fn:PySem.W.isFn K (.ref f)=true
 kp:JR K (.ref C)=true
theorem Wg{pins:List (JK×Obj)}{σ:St}{H:Hp}{s:JH}{Q:VK}{us:List JD}{vs:List V}(M:Mk X.K C f)(F:Al X.prog X.w X.K X.mg X.base CX k f fd ps sp)(hr:Ck (k+1) X.A)(hb:Binds X.K fd ps ds)(hd:Bb dvs ds)(hx:Hk CX X E)(I:Inv X pins σ H s)(r:Bb vs us)(h:∀x dx,H x=none->H dx=none->dx≠x->sp (.ref x::(vs++dvs)) (upd (upd H dx (.own x)) x (.ins C dx [])) (λv H2=>v=.non/\Q (.ref x) H2) E):
 KR (KU X.prog X.w) X.A (call (.ref C) us) (EP X pins σ Q) X.xe s:=by
 have hq:=h (s.heap.objs.size+1) s.heap.objs.size (I.hok.fresh (OI _)) (I.hok.fresh (JI _)) (KL (QC _))
 have I2:=Inv.made (C:=C) I
 have r2:Bb (V.ref (s.heap.objs.size+1)::(vs++dvs)) (JV (s.heap.objs.size+1)::(us++ds)):=.cons rfl (r.append hd)
 have hl:(JV (s.heap.objs.size+1)::us++ds).length=ps.length:=by
  have e:=r2.length
  rw[F.len _ _ _ _ hq] at e
  exact e.symm
 refine RW (lR (f:=f) I.kIn M.makes M.init (beq_iff_eq.mp M.fn) (PQ (F.run _ X.stack _ _ ⟨JV (s.heap.objs.size+1)::us,[]⟩ (JV (s.heap.objs.size+1)::(us++ds)) _ _ E ⟨hr.make C us [],λz=>I2.ok.st (hx.st z),I2.ok.hd hx.cl⟩
  (I2.env0.make C us []) (hb _ (JV (s.heap.objs.size+1)::us) I2.kIn hl) r2 hq) λr s' hq'=>?_))
 cases r with
 | error e=>exact hx.go pins σ _ _ e s' I2 hq'
 | ok fl=>
  cases fl with
  | ret u=>
   obtain⟨v,H',I3,rv,ev,q3⟩:=I2.after hq'
   subst ev
   exact⟨rv,⟨V.ref (s.heap.objs.size+1),H',I3,rfl,q3⟩⟩
  | next=>exact LZ hq'
  | brk=>exact LZ hq'
  | cont=>exact LZ hq'
theorem Oe(M:Mk X.K C f)(F:Al X.prog X.w X.K X.mg X.base CX k f fd ps sp)(hr:Ck (k+1) X.A)(hg:Gl X x)(hm:X.mg x=some (.ref C))(hb:Binds X.K fd ps ds)(hd:Bb dvs ds)(hx:Hk CX X E)(ha:PA X (e::es) t)(hdb:(x == ("__debug__" : Str))=false:=by decide)(he:KQ (e::es) X.env=(false,OX e X.env)::KQ es X.env:=by rfl)(hpl:(QK pos (KQ es X.env)).any (·.1)=false:=by rfl):
 PE X (.Call (.Name x p) (e::es) [] pos) (wU C sp dvs E t):=by
 intro pins s σ H Q I h
 refine OO (Hb I hg hm ?_ hdb)
 refine NR (h₀:=X.base) I.ok.mod.kin M.kp (Bu (ha pos pins s σ H _ I h) λus s1 ⟨vs,H1,I1,r,q⟩=>⟨I1.kIn,?_⟩) he hpl
 exact Wg M F hr hb hd hx I1 r q
theorem oY(M:Mk X.K C f)(F:Al X.prog X.w X.K X.mg X.base CX k f fd ps sp)(hr:Ck (k+1) X.A)(hg:Gl X x)(hm:X.mg x=some (.ref C))(hb:Binds X.K fd ps ds)(hd:Bb dvs ds)(hx:Hk CX X E)(hdb:(x == ("__debug__" : Str))=false:=by decide):PE X (.Call (.Name x p) [] [] pos) (wU C sp dvs E Xz):=by
 intro pins s σ H Q I h
 refine OO (Hb I hg hm ?_ hdb)
 exact PySem.W.callWith_K0 I.kIn M.kp (Wg (us:=[]) M F hr hb hd hx I .nil h)
end
section
variable {X:Cx} {CX:Wc} {k:Nat} {f C:JK} {fd:LB} {ps ks:List Str} {sp:Sp} {E:XK} {x m:Str} {p pos apos kpos:Pos} {e o:Expr} {es:List Expr} {kws:List Keyword} {te ta:TE} {t tk:TA} {nm:Option Str}
variable {g:List JD->List JD->List JD} {gV:List V->List V->List V}
end
structure An(N P:List Str)(sc:Scope):Prop where
 kind:sc.kind=.function
 co:sc.isCoroutine=false
 gen:sc.isGenerator=false
 nd:N.Nodup
 pre:N.take P.length=P
 par:∀x∈P,sc.names.lookup x=some .local∨sc.names.lookup x=some .cell
 nofree:∀y∈sc.names,y.2 ≠ .free
theorem Sz{kindOf:Str->Option NameKind}{x:Str}:∀ {binds:List (Str×JD)} {m:Str->Option JD},(∀v,(x,v)∉binds)->bindL kindOf binds m x=m x
 | [],_,_=>rfl
 | (n,v)::r,m,h=>by
  unfold bindL
  rw[Sz λw hw=>h w (JQ _ hw)]
  split
  ·have:x≠n:=by rintro rfl;exact h v JS
   simp[this]
  ·rfl
theorem Sf{kindOf:Str->Option NameKind}{x:Str}:∀ {binds:List (Str×JD)} {m:Str->Option JD},(∀v,(x,v)∉binds)->bindC kindOf binds m x=m x
 | [],_,_=>rfl
 | (n,v)::r,m,h=>by
  unfold bindC
  rw[Sf λw hw=>h w (JQ _ hw)]
  split
  ·rfl
  ·have:x≠n:=by rintro rfl;exact h v JS
   simp[this]
theorem Tc{kindOf:Str->Option NameKind}{x:Str}{v:JD}:∀ {P:List Str} {vs:List JD} {i:Nat} {m:Str->Option JD},P.Nodup->P[i]? = some x->vs[i]? = some v->kindOf x=some .local ->
 bindL kindOf (P.zip vs) m x=some v
 | [],_,_,_,_,h,_,_=>by simp at h
 | _::_,[],_,_,_,_,h,_=>by simp at h
 | p::P,w::vs,0,m,nd,h1,h2,hk=>by
  simp at h1 h2;subst h1;subst h2
  show bindL kindOf ((p,w)::P.zip vs) m p=_
  unfold bindL
  rw[Sz λv hv=>(LQ.mp nd).1 (List.of_mem_zip hv).1,if_pos hk]
  simp
 | p::P,w::vs,i+1,m,nd,h1,h2,hk=>by
  show bindL kindOf ((p,w)::P.zip vs) m x=_
  unfold bindL
  exact Tc (i:=i) (LQ.mp nd).2 (by simpa using h1) (by simpa using h2) hk
theorem Te{kindOf:Str->Option NameKind}{x:Str}{v:JD}:∀ {P:List Str} {vs:List JD} {i:Nat} {m:Str->Option JD},P.Nodup->P[i]? = some x->vs[i]? = some v->kindOf x≠some .local ->
 bindC kindOf (P.zip vs) m x=some v
 | [],_,_,_,_,h,_,_=>by simp at h
 | _::_,[],_,_,_,_,h,_=>by simp at h
 | p::P,w::vs,0,m,nd,h1,h2,hk=>by
  simp at h1 h2;subst h1;subst h2
  show bindC kindOf ((p,w)::P.zip vs) m p=_
  unfold bindC
  rw[Sf λv hv=>(LQ.mp nd).1 (List.of_mem_zip hv).1,if_neg hk]
  simp
 | p::P,w::vs,i+1,m,nd,h1,h2,hk=>by
  show bindC kindOf ((p,w)::P.zip vs) m x=_
  unfold bindC
  exact Te (i:=i) (LQ.mp nd).2 (by simpa using h1) (by simpa using h2) hk
def start(N:List Str)(vs:List V):St:=vs.map some++KZ (N.length-vs.length) none
def Ex(CX:Wc)(P:KC)(w:LL)(K:JC)(mg:Str->Option JD)(base:MQ)(N:List Str)(qual:Str)(scope:Scope)(f:JK)(cd:JD)(A:LI)(outer:List Env)(s:JH)(H:Hp)(E:XK):Cx where
 prog:=P
 w:=w
 K:=K
 mg:=mg
 base:=base
 A:=A.deeper (envOfC qual scope s.heap.objs.size f cd)
 N:=N
 s₀:=s
 H₀:=H
 env:=envOfC qual scope s.heap.objs.size f cd
 outer:=outer
 stack:=envOfC qual scope s.heap.objs.size f cd::outer
 ex:=[]
 calm:=true
 sx:=CX.st
 fn:=λ_=>true
 pn:=[]
 xe:=λe s'=>KR (KU P w) (A.deeper (envOfC qual scope s.heap.objs.size f cd)) (leaving (envOfC qual scope s.heap.objs.size f cd) e) (λ_ s''=>CX.f outer H s E e s'') (λe' s''=>CX.f outer H s E e' s'') s'
theorem Wv{sc:Scope}{n:Nat}{x:Str}(h:sc.names.lookup x=some .cell):∃c,(cellsFrom n sc.names []).lookup x=some c:=by
 have q:=PySem.W.cellsFrom_some sc.names n [] (.inl h)
 exact RH.mp q
theorem Ss{CX:Wc}{P:KC}{w:LL}{K:JC}{mg:Str->Option JD}{base:MQ}{N ps:List Str}{qual:Str}{scope:Scope}{f:JK}{cd:JD}{A:LI}{outer:List Env}{s s1:JH}{H:Hp}{E:XK}{us:List JD}{vs:List V}(S:An N ps scope)(hd:CX.st=true->A.handled=none)(hc:Bp A base)(e0:Uo P w K mg base A outer s H)(hl:vs.length=ps.length)(r:Bb vs us)(x:InCallC s s.heap.objs.size (bindL (envOfC qual scope s.heap.objs.size f cd).kindOf (ps.zip us) λ_=>none) (cellsFrom (s.heap.objs.size+1) scope.names []) (bindC (envOfC qual scope s.heap.objs.size f cd).kindOf (ps.zip us) λ_=>none) s1):
 Inv (Ex CX P w K mg base N qual scope f cd A outer s H E) [] (start N vs) H s1:=by
 have hpl:ps.length<=N.length:=by have:=congrArg List.length S.pre;rw[NN] at this;omega
 obtain⟨h1,tk,rfl,hk⟩:=x.done
 have noA:∀b:JK,b∉(Ex CX P w K mg base N qual scope f cd A outer s H E).ex:=λb z=>absurd (show b∈([]:List JK) from z) (by simp)
 refine⟨⟨e0.mod,S.kind,rfl,rfl,JI _,λy z c h1 h2=>?_,λy hy=>?_,λy c _ h=>?_,λ_=>hc,hd,Around.frames_deeper e0.frames,.inr ⟨rfl,rfl⟩,λb z=>absurd z (noA b),e0.bs,e0.bsz,λb _ _=>noA b,λb z=>absurd z (noA b),e0.funs,e0.frf⟩,
  rfl,e0.bare,Un.kept hk,⟨_,x.toInCall.ns,λi y v h1 h2 h3=>?_⟩,λy c h=>⟨_,x.cell y c h⟩,e0.hok.fresh (JI _),λy c h=>?_,λp hp=>absurd (show p∈([]:List (JK×Obj)) from hp) (by simp),e0.hok.kept hk,?_⟩
 ·exact name_of_addr x.apart (RE h1) (RE h2)
 ·have hy:scope.names.lookup y=some .cell∨scope.names.lookup y=some .free:=hy
  rcases hy with hy | hy
  ·exact Wv hy
  ·exact absurd rfl (S.nofree _ (RE hy))
 ·exact Nat.le_of_lt (x.above y c (RE h))
 ·have hi:i < vs.length:=by
   unfold start at h2
   by_cases hi:i < vs.length
   ·exact hi
   ·rw[List.getElem?_append_right (by simpa using hi)] at h2
    rw[QA] at h2
    split at h2<;>cases h2
  have ha:vs[i]? = some v:=by
   unfold start at h2
   rw[KH (by simpa using hi),KJ] at h2
   cases e:vs[i]? with
   | none=>rw[e] at h2;cases h2
   | some a=>rw[e] at h2;cases h2;rfl
  obtain⟨u,hu,rv⟩:=r.get ha
  have hp:ps[i]? = some y:=by
   rw[<- S.pre,List.getElem?_take_of_lt (by omega)];exact h1
  have ndP:ps.Nodup:=by rw[<- S.pre];exact S.nd.sublist (List.take_sublist _ _)
  refine⟨u,rv,?_⟩
  rcases S.par y (JY hp) with k | k
  ·exact .inl ⟨k,Tc ndP hp hu k⟩
  ·obtain⟨c,e⟩:=Wv (n:=s.heap.objs.size+1) k
   refine .inr ⟨.inl k,c,e,?_⟩
   have q:=x.cell y c e
   rw[Te ndP hp hu (by show scope.names.lookup y≠_;rw[k];decide)] at q
   exact q
 ·exact e0.hok.fresh (Nat.le_of_lt (x.above y c (RE h)))
 ·unfold start
  show _=N.length
  rw[JJ,JF,NQ]
  omega
theorem Xg{CX:Wc}{P:KC}{w:LL}{K:JC}{mg:Str->Option JD}{base:MQ}{k:Nat}{f:JK}{name qual:Str}{params:Arguments}{body:List OQ}{scope:Scope}{dV kV doc pm cdv ct oc:JD}{an od:Option JK}{osl:Array (Option JD)}{N ps:List Str}{sp:Sp}(lk:K.lookup f=some ⟨oc,od,.func (PY name qual params body scope dV kV doc pm an cdv ct),osl⟩)(hcd:PySem.W.codeIn K cdv qual=true)(S:An N ps scope)(len:∀vs H Q E,sp vs H Q E->vs.length=ps.length)(hbody:∀(A:LI)(outer:List Env)(s:JH)(H:Hp)(vs:List V)(Q:VK)(E:XK),Ck k (A.deeper (envOfC qual scope s.heap.objs.size f cdv))->sp vs H Q E ->
  ∃t,Hy (Ex CX P w K mg base N qual scope f cdv A outer s H E) body t/\t { nx:=λ_ H'=>Q .non H',rt:=Q } (start N vs) H):
 Al P w K mg base CX (k+1) f (PY name qual params body scope dV kV doc pm an cdv ct) ps sp:=by
 refine⟨len,λA outer s H args us vs Q E hr e0 hb r hsp=>?_⟩
 have hl:=len _ _ _ _ hsp
 have KX:K.In s.heap:=e0.mod.kin.keeps λb o e=>(e0.bs b o e).1
 have lim:s.heap.NoLimit:=e0.mod.nolimit.keeps λb o e=>(e0.bs b o e).1
 have hkind:∀y∈ps.zip us,scope.names.lookup y.1=some .local∨(scope.names.lookup y.1=some .cell/\((cellsFrom (s.heap.objs.size+1) scope.names []).lookup y.1).isSome=true):=λ⟨n,v⟩ hy=>by
  rcases S.par n (List.of_mem_zip hy).1 with q | q
  ·exact .inl q
  ·exact .inr ⟨q,PySem.W.cellsFrom_some _ _ _ (.inl q)⟩
 refine codeAny_call_function hr.rm.depth (KX _ _ lk) rfl S.co S.gen rfl (PySem.W.codeRec_of KX hcd) (hb _ _ _ _ ?_)
 refine wpAny_newFunctionEnv_cells S.kind hkind λenv he s1 x=>?_
 subst he
 refine⟨lim.keeps x.toInCall.keep,codeAny_func ?_⟩
 obtain⟨t,ht,hq⟩:=hbody A outer s H vs Q E (hr.rm.deeper _) hsp
 have I:Inv (Ex CX P w K mg base N qual scope f cdv A outer s H E) [] (start N vs) H s1:=Ss S hr.st hr.hd e0 hl r x
 refine MY (ht [] s1 (start N vs) H _ I hq) (λfl s' hs=>?_) λe s' hs=>hs
 have fin:∀ {σ':St} {H':Hp} {v:V} {u:JD},Inv (Ex CX P w K mg base N qual scope f cdv A outer s H E) [] σ' H' s'->RelV v u->Q v H'->CE outer P w H s Q u s':=
  λ{σ' H' v u} J rv q=>⟨v,H',J.os,J.bare,J.base,J.hok,rv,q⟩
 cases fl with
 | ret u=>
  obtain⟨v,σ',H',J,rv,q⟩:=hs
  exact fin J rv q
 | next=>
  obtain⟨σ',H',J,q⟩:=hs
  exact fin (v:=V.non) (u:=MU) J rfl q
 | brk=>
  obtain⟨_,_,_,q⟩:=hs
  exact LZ q
 | cont=>
  obtain⟨_,_,_,q⟩:=hs
  exact LZ q
section
variable {X:Cx} {x:Str} {p pos:Pos} {e:Expr} {es:List Expr} {t:TA} {id T:String} {r:List V->Hp->VK->Prop}
def HI(r:List V->Hp->VK->Prop)(t:TA):TE:=λσ H Q=>t σ H λvs H1=>r vs H1 Q
theorem Bz(hc:Fj X (.builtin id) r)(hg:Gl X x)(hm:X.mg x=none)(hv:PR x=some (.builtin id))(ha:PA X (e::es) t)(hn:x ≠ "__name__" := by decide)(hdb:(x == ("__debug__" : Str))=false:=by decide)(he:KQ (e::es) X.env=(false,OX e X.env)::KQ es X.env:=by rfl)(hpl:(QK pos (KQ es X.env)).any (·.1)=false:=by rfl):PE X (.Call (.Name x p) (e::es) [] pos) (HI r t):=by
 intro pins s σ H Q I h
 refine OO (Ia I hg hm hv ?_ hn hdb)
 exact PyProof.Rows.callWith_builtin1 (Bu (ha pos pins s σ H _ I h) λus s1 ⟨vs,H1,I1,r1,q1⟩=>hc pins s1 σ H1 vs us Q I1 r1 q1) he hpl
theorem Dl(hc:Fj X (.type T) r)(hg:Gl X x)(hm:X.mg x=none)(hv:PR x=some (.type T))(ha:PA X (e::es) t)(hn:x ≠ "__name__" := by decide)(hdb:(x == ("__debug__" : Str))=false:=by decide)(he:KQ (e::es) X.env=(false,OX e X.env)::KQ es X.env:=by rfl)(hpl:(QK pos (KQ es X.env)).any (·.1)=false:=by rfl):PE X (.Call (.Name x p) (e::es) [] pos) (HI r t):=by
 intro pins s σ H Q I h
 refine OO (Ia I hg hm hv ?_ hn hdb)
 exact ND (Bu (ha pos pins s σ H _ I h) λus s1 ⟨vs,H1,I1,r1,q1⟩=>hc pins s1 σ H1 vs us Q I1 r1 q1) he hpl
end
end L2
namespace HT
open PySem PyProof.Rows
section
open PySem.SeqAt
open PySem.AutoSeq1 (wpAny_loadPart')
open PySem.MeetsSeq PySem.MeetsSeq2 PySem.MeetsSeq3
end
section
variable {prog:KC} {w:LL} {A:LI} {E:JD->JH->Prop} {s:JH}
def sIx(n d:Nat):Option Int->Nat
 | none=>d
 | some v=>if v < 0 then (v+(n:Int)).toNat else min v.toNat n
theorem sIx_none(n d:Nat):sIx n d none=d:=rfl
theorem sIx_nat(n d k:Nat):sIx n d (some (k:Int))=min k n:=by
 show (if (k:Int) < 0 then ((k:Int)+(n:Int)).toNat else min (k:Int).toNat n)=min k n
 rw[if_neg (by omega),LR]
theorem zH(n d:Nat)(hd:d<=n)(o:Option Int):sIx n d o<=n:=by
 cases o with
 | none=>exact hd
 | some v=>
  show (if v < 0 then (v+(n:Int)).toNat else min v.toNat n)<=n
  by_cases hv:v < 0
  ·rw[if_pos hv];omega
  ·rw[if_neg hv];exact Nat.min_le_right _ _
theorem eF(v:Int)(n d:Nat):(if v < 0 then max (v+(n:Int)) 0 else min v (n:Int))=((sIx n d (some v):Nat):Int):=by
 show (if v < 0 then max (v+(n:Int)) 0 else min v (n:Int))=(((if v < 0 then (v+(n:Int)).toNat else min v.toNat n):Nat):Int)
 by_cases hv:v < 0
 ·simp only[if_pos hv];omega
 ·simp only[if_neg hv];omega
theorem aX(lo hi:Option Int)(n:Nat):Builtin.Slice.sliceAdjust lo hi 1 (n:Int)=(((sIx n 0 lo:Nat):Int),((sIx n n hi:Nat):Int)):=by
 have h1:¬ ((1:Int) < 0):=by omega
 unfold Builtin.Slice.sliceAdjust
 simp only[h1,if_false]
 refine Prod.ext ?_ ?_
 ·cases lo with
  | none=>rfl
  | some v=>exact eF v n 0
 ·cases hi with
  | none=>rfl
  | some v=>exact eF v n n
theorem cU(i j:Nat):RP (i:Int) (j:Int) 1=j-i:=by
 unfold RP
 have h1:(1:Int) > 0:=by omega
 simp only[h1,if_true,Int.ediv_one]
 split<;>omega
theorem Qg{v:JD}{o:Option Int}{Q:Option Int->JH->Prop}(p:IsPart v o)(h:Q o s):KR (KU prog w) A (Builtin.Slice.slicePartIndex v) Q E s:=by
 cases p with
 | none=>exact slicePart_none h
 | int i t=>exact slicePart_int h
theorem Mf{sl:JK}{vl vu:JD}{lo hi:Option Int}{n:Nat}{Q:Int×Int×Nat->JH->Prop}(hs:s.heap.IsSliceOf sl vl vu .none)(pl:IsPart vl lo)(pu:IsPart vu hi)(h:Q (((sIx n 0 lo:Nat):Int),1,sIx n n hi-sIx n 0 lo) s):KR (KU prog w) A (Builtin.Slice.sliceApplied (.ref sl) (pure (n:Int))) Q E s:=by
 obtain⟨os,hos,hcs,hds⟩:=id hs
 unfold Builtin.Slice.sliceApplied Builtin.Slice.sliceFields
 refine JA (JA (KY hos hds (x:=vl) rfl (JA (KY hos hds (x:=vu) rfl (JA (KY hos hds (x:=.none) rfl (JO ?_)))))))
 refine JA (slicePart_none ?_)
 show KR _ _ (if ((1:Int) == 0)=true then _ else _) _ _ s
 rw[if_neg (by decide)]
 refine JA (Qg pl (JA (Qg pu (JA (JO ?_)))))
 show KR _ _ (match Builtin.Slice.sliceAdjust lo hi 1 (n:Int) with | (lo,hi)=>pure (lo,(1:Int),RP lo hi 1)) _ _ s
 rw[aX lo hi n]
 show KR _ _ (pure (((sIx n 0 lo:Nat):Int),(1:Int),RP ((sIx n 0 lo:Nat):Int) ((sIx n n hi:Nat):Int) 1)) _ _ s
 rw[cU]
 exact JO h
theorem pA(xs:Array JD)(i k:Nat):((SD k).filterMap λ(m:Nat)=>xs[((i:Int)+(m:Int) * 1).toNat]?).toArray=((xs.toList.drop i).take k).toArray:=by
 have e:(λ(m:Nat)=>xs[((i:Int)+(m:Int) * 1).toNat]?)=λm=>xs[i+m]?:=by
  funext m
  have:((i:Int)+(m:Int) * 1).toNat=i+m:=by omega
  rw[this]
 rw[e]
 have:=pick_run xs i k
 rw[List.filterMap_map] at this
 have e2:((λx=>xs[x]?) ∘ λx=>i+x)=λm=>xs[i+m]?:=rfl
 rw[e2] at this
 rw[this]
theorem getItem_tuple_cut{t sl:JK}{items:Array JD}{vl vu:JD}{lo hi:Option Int}{Q:JD->JH->Prop}(ht:IsTup s.heap t items)(hs:s.heap.IsSliceOf sl vl vu .none)(pl:IsPart vl lo)(pu:IsPart vu hi)(hw:¬ (sIx items.size 0 lo=0/\sIx items.size items.size hi=items.size))(h:Q (.ref s.heap.objs.size) { s with heap:=s.heap.push { cls:=.type "tuple", data:=.seq ((items.toList.drop (sIx items.size 0 lo)).take (sIx items.size items.size hi-sIx items.size 0 lo)).toArray } })(hsz:items.size<=JM):KR (KU prog w) A (getItem (.ref t) (.ref sl)) Q E s:=by
 have htake:sizeOk (.seq ((items.toList.drop (sIx items.size 0 lo)).take (sIx items.size items.size hi-sIx items.size 0 lo)).toArray):=by
  show ((items.toList.drop (sIx items.size 0 lo)).take (sIx items.size items.size hi-sIx items.size 0 lo)).toArray.size<=JM
  rw[KP,NN,MR,RG]
  omega
 have hj:sIx items.size items.size hi<=items.size:=zH _ _ (JI _) hi
 obtain⟨os,hos,hcs,hds⟩:=id hs
 have hTs:s.TypeIs (.ref sl) "slice" := ⟨os,hos,hcs⟩
 unfold getItem
 try with_reducible refine NC ?_
 first | refine JA (JO ?_) | skip
 refine JA (wpAny_sequenceKey ht.typeIs (by decide) ?_)
 refine JA (LK (name:=NH "__getitem__") ht.typeIs RZ
  (MC RZ ht.typeIs entry_tuple_getitem ?_ (args_tuple_getitem _ _)))
 show KR _ _ (Builtin.Tuple.tupleItemsOf (.ref t) >>= _) _ _ s
 refine JA (tupleItemsOf_ ht ?_)
 refine JA (wpAny_typeOf hTs ?_)
 rw[if_pos (by decide)]
 refine JA (Mf hs pl pu ?_)
 have hno:¬ ((((sIx items.size 0 lo:Nat):Int) == 0 && (1:Int) == 1 && (sIx items.size items.size hi-sIx items.size 0 lo) == items.size)=true):=by
  intro q
  rw[ME,ME] at q
  have q1:((sIx items.size 0 lo:Nat):Int)=0:=eq_of_beq q.1.1
  have q2:sIx items.size items.size hi-sIx items.size 0 lo=items.size:=eq_of_beq q.2
  exact hw ⟨by omega,by omega⟩
 show KR _ _ (if (((sIx items.size 0 lo:Nat):Int) == 0 && (1:Int) == 1 && (sIx items.size items.size hi-sIx items.size 0 lo) == items.size)=true then _ else _) _ _ s
 rw[if_neg hno,pA]
 first
  | exact JA (m:=RY _) (OZ (JO ⟨_,rfl,JO h⟩) htake)
  | exact JA (m:=RY _) (OZ (JA (JO (JO ⟨_,rfl,JO h⟩))) htake)
  | exact JA (JA (m:=RY _) (OZ (JO (JO ⟨_,rfl,JO h⟩)) htake))
  | exact JA (JA (m:=RY _) (OZ (JO ⟨_,rfl,JO h⟩) htake))
end
end HT
namespace L2
open PySem PySem.Spec PyProof.Rows
abbrev TO:=St->Hp->(Option Int->Hp->Prop)->Prop
def PO(X:Cx)(e:Option Expr)(t:TO):Prop:=
 ∀(pins:List (JK×Obj))(s:JH)(σ:St)(H:Hp)(Q:Option Int->Hp->Prop),Inv X pins σ H s->t σ H Q ->
  KR (KU X.prog X.w) X.A (evalPart e X.env) (λu s'=>∃o H',Inv X pins σ H' s'/\IsPart u o/\Q o H') X.xe s
def tY:TO:=λ_ H Q=>Q none H
def DB(t:TE):TO:=λσ H Q=>t σ H λx H1=>∃i,x=.int i/\Q (some i) H1
section
variable {X:Cx} {e:Expr} {te:TE} {lo hi:Option Expr} {tl th:TO} {pos p2:Pos}
theorem Dx:PO X none tY:=by
 intro pins s σ H Q I h
 rw[evalPart_none]
 exact JO ⟨none,H,I,.none,h⟩
theorem Cy(h:PE X e te):PO X (some e) (DB te):=by
 intro pins s σ H Q I hw
 rw[evalPart_some]
 refine Bu (h pins s σ H _ I hw) λu s1 ⟨x,H1,I1,r1,q1⟩=>?_
 obtain⟨i,rfl,q⟩:=q1
 obtain⟨t,rfl⟩:=r1
 exact⟨some i,H1,I1,.int i t,q⟩
def CQ(X:Cx)(r:V->Option Int->Option Int->Hp->VK->Prop):Prop:=
 ∀(pins:List (JK×Obj))(s:JH)(σ:St)(H:Hp)(x:V)(v vl vu:JD)(lo hi:Option Int)(sl:JK)(Q:VK),Inv X pins σ H s->RelV x v->s.heap.IsSliceOf sl vl vu .none->IsPart vl lo->IsPart vu hi->r x lo hi H Q ->
  ∃T id,typeLookup (.type T) "__getitem__" = pure (some (.builtin id))/\s.TypeIs v T/\KR (KU X.prog X.w) X.A (getItem v (.ref sl)) (EP X pins σ Q) X.xe s
def IW(r:V->Option Int->Option Int->Hp->VK->Prop)(te:TE)(tl th:TO):TE:=λσ H Q=>te σ H λx H1=>tl σ H1 λl H2=>th σ H2 λu H3=>r x l u H3 Q
theorem Cj{r:V->Option Int->Option Int->Hp->VK->Prop}(hr:CQ X r)(he:PE X e te)(hl:PO X lo tl)(hu:PO X hi th):PE X (.Subscript e (.Slice lo hi none p2) pos) (IW r te tl th):=by
 intro pins s σ H Q I h
 refine Subscript_ (Bu (he pins s σ H _ I h) λv s1 ⟨x,H1,I1,r1,q1⟩=>?_)
 refine wpAny_Slice (Bu (hl pins s1 σ H1 _ I1 q1) λvl s2 ⟨l,H2,I2,pl,q2⟩=>Bu (hu pins s2 σ H2 _ I2 q2) λvu s3 ⟨u,H3,I3,pu,q3⟩=>?_)
 rw[evalPart_none]
 refine JO ?_
 have I4:Inv X pins σ H3 { s3 with heap:=s3.heap.push { cls:=.type "slice", data:=.fields #[vl,vu,.none] } }:=I3.kept (t':=s3.toks) λb ob q=>JE _ q
 obtain⟨T,id,hT,ht,hg⟩:=hr pins { s3 with heap:=s3.heap.push { cls:=.type "slice", data:=.fields #[vl,vu,.none] } } σ H3 x v vl vu l u s3.heap.objs.size Q I4 r1 (Heap.IsSliceOf.new ..) pl pu q3
 show KR (KU X.prog X.w) X.A (subscriptTail e (.Slice lo hi none p2) v (.ref s3.heap.objs.size)) (EP X pins σ Q) X.xe { s3 with heap:=s3.heap.push { cls:=.type "slice", data:=.fields #[vl,vu,.none] } }
 exact tail_any (ops:=[.ref s3.heap.objs.size,v]) ht hT hg (by with_unfolding_all rfl)
def Ga(xs:List V)(lo hi:Option Int):List V:=(xs.drop (HT.sIx xs.length 0 lo)).take (HT.sIx xs.length xs.length hi-HT.sIx xs.length 0 lo)
theorem Nf(xs:List V)(lo hi:Option Int):(Ga xs lo hi).length<=xs.length:=by
 unfold Ga
 rw[NN,MR]
 omega
def FX(K:JC):V->Option Int->Option Int->Hp->VK->Prop:=λx lo hi H Q=>∃a xs,x=.ref a/\Co K H a xs /\
 ¬ (HT.sIx xs.length 0 lo=0/\HT.sIx xs.length xs.length hi=xs.length)/\∀p,H p=none->Q (.ref p) (upd H p (.tup (Ga xs lo hi)))
theorem yI:CQ X (FX X.K):=by
 intro pins s σ H x v vl vu lo hi sl Q I rx hs pl pu h
 obtain⟨a,xs,rfl,hx,hw,q⟩:=h
 cases rx
 obtain⟨its,r,ht,hz⟩:=I.tuple hx
 have hlen:its.toArray.size=xs.length:=by rw[KP];exact r.length.symm
 refine⟨"tuple", _,RZ.lookup,ht.typeIs,?_⟩
 refine HT.getItem_tuple_cut ht hs pl pu (by rw[hlen];exact hw) ?_ (by rw[hlen];exact hz)
 rw[hlen]
 refine⟨.ref s.heap.objs.size,_,I.laid (t':=s.toks) (o:=.tup (Ga xs lo hi)) (λb ob q=>JE _ q) (JI _) ?_,rfl,q _ (I.hok.fresh (JI _))⟩
 exact⟨KS (Nf xs lo hi) hz,_,(r.drop (HT.sIx xs.length 0 lo)).take (HT.sIx xs.length xs.length hi-HT.sIx xs.length 0 lo),IsTup.new _ _⟩
end
def jW(n:Nat)(i:Int):Option Nat:=if 0<=i then (if i < n then some i.toNat else none) else if -(n:Int)<=i then some (i+n).toNat else none
def Jb{α:Type}(xs:List α)(i:Int):Option α:=(jW xs.length i).bind λj=>xs[j]?
theorem gY{n:Nat}{i:Int}{j:Nat}(h:jW n i=some j):seqIndex? i n=some j/\j < n /\ -(n:Int)<=i/\i < n:=by
 unfold jW at h
 by_cases h0:0<=i
 ·rw[if_pos h0] at h
  by_cases h1:i < n
  ·rw[if_pos h1] at h
   have e:i.toNat=j:=KW h
   exact⟨by rw[seqIndex_of h0 h1,e],by omega,by omega,h1⟩
  ·rw[if_neg h1] at h;cases h
 ·rw[if_neg h0] at h
  by_cases h1 : -(n:Int)<=i
  ·rw[if_pos h1] at h
   have e:(i+n).toNat=j:=KW h
   exact⟨by rw[seqIndex_neg (by omega) h1,e],by omega,h1,by omega⟩
  ·rw[if_neg h1] at h;cases h
theorem Ud{α:Type}{xs:List α}{i:Int}{v:α}(h:Jb xs i=some v):∃j,seqIndex? i xs.length=some j/\xs[j]? = some v/\j < xs.length /\ -(xs.length:Int)<=i/\i < xs.length:=by
 unfold Jb at h
 cases e:jW xs.length i with
 | none=>rw[e] at h;cases h
 | some j=>
  rw[e] at h
  obtain⟨h1,h2,h3,h4⟩:=gY e
  exact⟨j,h1,h,h2,h3,h4⟩
theorem Bc{α:Type}{xs:List α}{j:Nat}{v:α}(h:xs[j]? = some v):Jb xs (j:Int)=some v:=by
 have hj:j < xs.length:=(JB.mp h).1
 have e:jW xs.length (j:Int)=some j:=by
  unfold jW
  rw[if_pos (by omega),if_pos (by omega)];simp
 unfold Jb;rw[e];exact h
theorem Wo{α:Type}(xs:List α)(v:α):Jb (xs++[v]) (-1)=some v:=by
 have hl:(xs++[v]).length=xs.length+1:=by simp
 have e:jW (xs++[v]).length (-1)=some xs.length:=by
  unfold jW
  rw[hl,if_neg (by decide),if_pos (by omega)]
  congr 1
  omega
 unfold Jb
 rw[e]
 show (xs++[v])[xs.length]? = some v
 simp
def uW(b:Expr):Prop:=∀o i,subscripted b false o i=operate [o,i] (getItem o i)
def EN(X:Cx)(r:R2):Prop:=
 ∀(value slice:Expr)(pins:List (JK×Obj))(s:JH)(σ:St)(H:Hp)(x y:V)(v u:JD)(Q:VK),Inv X pins σ H s->RelV x v->RelV y u->r x y H Q ->
  subscripted slice false v u=operate [v,u] (getItem v u)->KR (KU X.prog X.w) X.A (subscriptTail value slice v u) (EP X pins σ Q) X.xe s
def IG(X:Cx)(id:String)(r:V->List V->Hp->VK->Prop):Prop:=
 ∀(pins:List (JK×Obj))(s:JH)(σ:St)(H:Hp)(x:V)(xs:List V)(v:JD)(us:List JD)(Q:VK),Inv X pins σ H s->RelV x v->Bb xs us->r x xs H Q ->
  KR (KU X.prog X.w) X.A (call (.builtin id) (v::us)) (EP X pins σ Q) X.xe s
section
variable {X:Cx} {a b:Expr} {ta tb:TE} {pos:Pos}
theorem As{r:R2}(hr:EN X r)(ha:PE X a ta)(hb:PE X b tb)(hs:uW b):PE X (.Subscript a b pos) (BH r ta tb):=by
 intro pins s σ H Q I h
 exact Subscript_ (AY ha hb I h λv u s2 x y H2 I2 rx ry q=>hr a b pins s2 σ H2 x y v u Q I2 rx ry q (hs _ _))
def iZ(K:JC):R2:=λx y H Q=>∃p xs i v,x=.ref p/\y=.int i/\Aw K H p xs/\Jb xs i=some v/\Q v H
def EY(K:JC):R2:=λx y H Q=>∃p xs i v,x=.ref p/\y=.int i/\Co K H p xs/\Jb xs i=some v/\Q v H
def GG:R2:=λx y H Q=>∃z i c,x=.str z/\y=.int i/\z.length<=JM/\Jb z.cps.toList i=some c/\Q (.str ⟨#[c]⟩) H
theorem Bj:EN X (iZ X.K):=by
 intro value slice pins s σ H x y v u Q I rx ry h hs
 obtain⟨p,xs,i,z,rfl,rfl,hq,he,q⟩:=h
 cases rx
 obtain⟨t,rfl⟩:=ry
 obtain⟨its,r,pl,hz⟩:=I.list hq
 obtain⟨j,h1,h2,h3,h4,h5⟩:=Ud he
 obtain⟨w,ew,rw'⟩:=r.get h2
 have hl:=r.length
 have hn:=Kn
 have fin:EP X pins σ Q w s:=⟨z,H,I,rw',q⟩
 by_cases h0:0<=i
 ·have hj:i.toNat=j:=by
   rw[seqIndex_of h0 h5] at h1
   exact KW h1
  exact item_listR pl.isList h0 (by omega) (by rw[hj];simpa using ew) fin hs
 ·have hj:(i+(its.toArray.size:Int)).toNat=j:=by
   rw[seqIndex_neg (by omega) h4] at h1
   rw[KP,<- hl]
   exact KW h1
  exact subscriptTail_builtinR (x:=w) pl.isList.typeIs slot_list_getitem.lookup
   (wpAny_getItem_list_neg (Q:=λr s'=>r=w/\EP X pins σ Q r s') pl.isList (by omega) (by rw[KP]<;>omega) (by omega) (by rw[hj];simpa using ew) ⟨rfl,fin⟩) hs
theorem Ax:EN X (EY X.K):=by
 intro value slice pins s σ H x y v u Q I rx ry h hs
 obtain⟨p,xs,i,z,rfl,rfl,hq,he,q⟩:=h
 cases rx
 obtain⟨t,rfl⟩:=ry
 obtain⟨its,r,pl,hz⟩:=I.tuple hq
 obtain⟨j,h1,h2,h3,h4,h5⟩:=Ud he
 obtain⟨w,ew,rw'⟩:=r.get h2
 have hl:=r.length
 have hn:=Kn
 have fin:EP X pins σ Q w s:=⟨z,H,I,rw',q⟩
 exact subscriptTail_builtinR (x:=w) pl.typeIs slot_tuple_getitem.lookup
  (getItem_tuple (j:=j) (Q:=λr s'=>r=w/\EP X pins σ Q r s') pl (by omega) (by omega) (by rw[KP,<- hl];exact h1) (by simpa using ew) ⟨rfl,fin⟩) hs
theorem qG:EN X GG:=by
 intro value slice pins s σ H x y v u Q I rx ry h hs
 obtain⟨z,i,c,rfl,rfl,hz,he,q⟩:=h
 obtain⟨t,rfl⟩:=rx
 obtain⟨t',rfl⟩:=ry
 obtain⟨j,h1,h2,h3,h4,h5⟩:=Ud he
 have hl:z.cps.toList.length=z.length:=by simp[Str.length]
 rw[hl] at h1 h4 h5
 have hn:=Kn
 exact tail_any (typeIs_str s z t) slot_str_getitem.lookup (getItem_str (c:=c) (by
  have e1:decide (i < -(2 ^ 63:Int))=false:=decide_eq_false (by omega)
  have e2:decide (i ≥ 2 ^ 63)=false:=decide_eq_false (by omega)
  rw[e1,e2,Bool.or_false]) (by rw[h1];simpa using h2) ⟨.str ⟨#[c]⟩,H,I.tok _,⟨_,rfl⟩,q⟩) hs
theorem Zk(its:List JD)(n j:Nat)(u:JD):RX (·.setIfInBounds j u) { cls:=.type "list", data:=.seq its.toArray n }={ cls:=.type "list", data:=.seq (its.set j u).toArray n }:=by
 simp[RX]
theorem Inv.lst{pins:List (JK×Obj)}{σ:St}{H:Hp}{s:JH}{p:JK}{xs:List V}(I:Inv X pins σ H s)(h:H p=some (.lst xs)):
 ∃(its:List JD)(n:Nat),Bb xs its/\s.heap.get? p=some { cls:=.type "list", data:=.seq its.toArray n }/\xs.length<=JM:=by
 obtain⟨z,its,n,r,e⟩:=I.hok p _ h
 exact⟨its,n,r,e,z⟩
theorem Inv.lstUpd{pins:List (JK×Obj)}{σ:St}{H:Hp}{s:JH}{p:JK}{xs ys:List V}{its its':List JD}{n n':Nat}{f:Obj->Obj}(I:Inv X pins σ H s)(h:H p=some (.lst xs))(ho:s.heap.get? p=some { cls:=.type "list", data:=.seq its.toArray n })(hf:f { cls:=.type "list", data:=.seq its.toArray n }={ cls:=.type "list", data:=.seq its'.toArray n' })(r:Bb ys its')(hz:ys.length<=JM)(t:Nat):
 Inv X pins σ (upd H p (.lst ys)) { s with heap:=s.heap.update p f,toks:=t }:=by
 have e:(s.heap.update p f).get? p=some { cls:=.type "list", data:=.seq its'.toArray n' }:=by
  rw[MS f ho (by rw[hf]<;>rfl),hf]
 refine I.write (x:=p) (e:=p) (by rw[h];trivial) (.inl rfl) (λb u hb q=>(LP _ _ (LH hb)).trans q) ⟨_,e⟩ ?_
 exact⟨hz,its',n',r,e⟩
def EG:V->V->V->Hp->(Hp->Prop)->Prop:=λo i v H Q=>∃p xs k j,o=.ref p/\i=.int k/\H p=some (.lst xs)/\jW xs.length k=some j/\Q (upd H p (.lst (xs.set j v)))
theorem set_list:DX X EG:=by
 intro pins s σ H o i v ov iv u Q I ro ri rv h
 obtain⟨p,xs,k,j,rfl,rfl,hp,hj,q⟩:=h
 cases ro
 obtain⟨t,rfl⟩:=ri
 obtain⟨its,n,r,ho,hz⟩:=I.lst hp
 obtain⟨h1,h2,h3,h4⟩:=gY hj
 have hl:=r.length
 have hn:=Kn
 have I':Inv X pins σ (upd H p (.lst (xs.set j v))) { s with heap:=s.heap.update p (RX (·.setIfInBounds j u)) }:=
  I.lstUpd hp ho (Zk its n j u) (r.set rv j) (by rw[List.length_set];exact hz) s.toks
 by_cases h0:0<=k
 ·have hk:k.toNat=j:=by
   rw[seqIndex_of h0 h4] at h1
   exact KW h1
  exact PySem.W.ki_setAt ho h0 (by omega) (by rw[KP,<- hl];exact h4) (by rw[hk];exact⟨_,I',q⟩)
 ·have hk:(k+(its.toArray.size:Int)).toNat=j:=by
   rw[seqIndex_neg (by omega) h3] at h1
   rw[KP,<- hl]
   exact KW h1
  exact PySem.W.ki_setBack ho (by omega) (by rw[KP,<- hl];exact h3) (by omega) (by rw[hk];exact⟨_,I',q⟩)
theorem Vr(lo hi:Option Int)(n:Nat):(sliceBounds lo hi none n).1=((HT.sIx n 0 lo:Nat):Int)/\(sliceBounds lo hi none n).2.1=((HT.sIx n n hi:Nat):Int)/\(sliceBounds lo hi none n).2.2=1:=by
 refine⟨?_,?_,rfl⟩
 ·cases lo with
  | none=>simp[sliceBounds,HT.sIx]
  | some i=>
   simp only[sliceBounds,HT.sIx,Option.getD_none,show (1:Int) > 0 by decide,if_true]
   by_cases h:i < 0
   ·simp only[h,if_true]<;>omega
   ·simp only[h,if_false]<;>omega
 ·cases hi with
  | none=>simp[sliceBounds,HT.sIx]
  | some i=>
   simp only[sliceBounds,HT.sIx,Option.getD_none,show (1:Int) > 0 by decide,if_true]
   by_cases h:i < 0
   ·simp only[h,if_true]<;>omega
   ·simp only[h,if_false]<;>omega
theorem Ri(its:List JD)(lo hi:Option Int):slicePick its.toArray lo hi none=((its.drop (HT.sIx its.length 0 lo)).take (HT.sIx its.length its.length hi-HT.sIx its.length 0 lo)).toArray:=by
 obtain⟨h1,h2,h3⟩:=Vr lo hi its.toArray.size
 unfold slicePick
 rw[h1,h2,h3]
 simp only[sliceRange_one,pick_run,KP]<;>rfl
def mD(K:JC):V->Option Int->Option Int->Hp->VK->Prop:=λx lo hi H Q=>∃a xs,x=.ref a/\Aw K H a xs/\∀p,H p=none->Q (.ref p) (upd H p (.lst (Ga xs lo hi)))
theorem El:CQ X (mD X.K):=by
 intro pins s σ H x v vl vu lo hi sl Q I rx hs pl pu h
 obtain⟨a,xs,rfl,hx,q⟩:=h
 cases rx
 obtain⟨its,r,ht,hz⟩:=I.list hx
 have hlen:=r.length
 refine⟨"list", _,slot_list_getitem.lookup,ht.isList.typeIs,?_⟩
 refine wpAny_getItem_list_slice ht.isList hs pl pu .none (by simp) ?_ (by rw[KP]<;>omega)
 rw[Ri,<- hlen]
 refine⟨.ref s.heap.objs.size,_,I.laid (t':=s.toks) (o:=.lst (Ga xs lo hi)) (λb ob q=>JE _ q) (JI _) ?_,rfl,q _ (I.hok.fresh (JI _))⟩
 exact⟨KS (Nf xs lo hi) hz,_,0,(r.drop (HT.sIx xs.length 0 lo)).take (HT.sIx xs.length xs.length hi-HT.sIx xs.length 0 lo),JZ _ rfl⟩
def Lh:V->Bool
 | .non=>true
 | .bl _=>true
 | .int _=>true
 | .str _=>true
 | _=>false
def wK:V->V->Bool
 | .non,.non=>true
 | .bl a,.bl b=>a == b
 | .bl a,.int b=>(if a then 1 else 0) == b
 | .int a,.bl b=>a == (if b then 1 else 0)
 | .int a,.int b=>a == b
 | .str a,.str b=>a == b
 | _,_=>false
theorem yK{A:LI}{s:JH}{y x:V}{u v:JD}(ry:RelV y u)(rx:RelV x v)(fy:Lh y=true)(fx:Lh x=true):NP A s u v (wK y x):=by
 cases y with
 | non=>
  cases ry
  cases x with
  | non=>cases rx;exact SeqAt.EqAt.same _
  | bl b=>cases rx;exact SeqAt.EqAt.none_bool b
  | int b=>obtain⟨t,rfl⟩:=rx;exact SeqAt.EqAt.none_int b t
  | str b=>obtain⟨t,rfl⟩:=rx;exact SeqAt.EqAt.none_str b t
  | _=>exact absurd (show false=true from fx) JN
 | bl a=>
  cases ry
  cases x with
  | non=>cases rx;exact SeqAt.EqAt.bool_none a
  | bl b=>cases rx;exact SeqAt.EqAt.bool_bool a b
  | int b=>obtain⟨t,rfl⟩:=rx;exact SeqAt.EqAt.bool_int a b t
  | str b=>obtain⟨t,rfl⟩:=rx;exact SeqAt.EqAt.bool_str a b t
  | _=>exact absurd (show false=true from fx) JN
 | int a=>
  obtain⟨t',rfl⟩:=ry
  cases x with
  | non=>cases rx;exact SeqAt.EqAt.int_none a t'
  | bl b=>cases rx;exact SeqAt.EqAt.int_bool a t' b
  | int b=>obtain⟨t,rfl⟩:=rx;exact SeqAt.EqAt.int_int a t' b t
  | str b=>obtain⟨t,rfl⟩:=rx;exact SeqAt.EqAt.int_str a t' b t
  | _=>exact absurd (show false=true from fx) JN
 | str a=>
  obtain⟨t',rfl⟩:=ry
  cases x with
  | non=>cases rx;exact SeqAt.EqAt.str_none a t'
  | bl b=>cases rx;exact SeqAt.EqAt.str_bool a t' b
  | int b=>obtain⟨t,rfl⟩:=rx;exact SeqAt.EqAt.str_int a t' b t
  | str b=>obtain⟨t,rfl⟩:=rx;exact SeqAt.EqAt.str_str a t' b t
  | _=>exact absurd (show false=true from fx) JN
 | _=>exact absurd (show false=true from fy) JN
def cY(x:V)(u:JD):Bool:=match u with
 | .none=>wK .non x
 | .bool b=>wK (.bl b) x
 | .int i _=>wK (.int i) x
 | .str z _=>wK (.str z) x
 | _=>false
theorem nV{x y:V}{u:JD}(r:RelV y u)(f:Lh y=true):cY x u=wK y x:=by
 cases y with
 | non=>cases r;rfl
 | bl b=>cases r;rfl
 | int i=>obtain⟨t,rfl⟩:=r;rfl
 | str z=>obtain⟨t,rfl⟩:=r;rfl
 | _=>exact absurd (show false=true from f) JN
theorem Lm{x:V}:∀ {xs:List V} {us:List JD},Bb xs us->xs.all Lh=true->us.any (cY x)=xs.any λy=>wK y x
 | _,_,.nil,_=>rfl
 | y::xs,u::us,.cons r t,f=>by
  rw[List.all_cons,ME] at f
  rw[List.any_cons,List.any_cons,nV r f.1,Lm t f.2]
theorem Jk{A:LI}{s:JH}{x:V}{v:JD}(rx:RelV x v)(fx:Lh x=true):∀ {xs:List V} {us:List JD},Bb xs us->xs.all Lh=true->∀u∈us,NP A s u v (cY x u)
 | _,_,.nil,_=>λu hu=>by cases hu
 | y::xs,u::us,.cons r t,f=>λu' hu=>by
  rw[List.all_cons,ME] at f
  rcases JP.mp hu with rfl | hu
  ·rw[nV r f.1];exact yK r rx f.1 fx
  ·exact Jk rx fx t f.2 u' hu
def kU(x:V)(xs:List V):Bool:=xs.any λy=>wK y x
def FA(K:JC)(neg:Bool):R2:=λx y H Q=>∃p xs,y=.ref p/\(Aw K H p xs∨Co K H p xs)/\Lh x=true/\xs.all Lh=true/\Q (.bl (if neg then !kU x xs else kU x xs)) H
theorem Hr:Jr X (OS .In) (FA X.K false):=by
 intro pins s σ H x y v u Q I rx ry h
 obtain⟨p,xs,rfl,hq,fx,fs,q⟩:=h
 cases ry
 rcases hq with hq | hq
 ·obtain⟨its,r,pl,hz⟩:=I.list hq
  refine SeqAt.in_listAt (cY x) pl.isList (λw hw=>Jk rx fx r fs w (by simpa using hw)) ⟨.bl _,H,I,rfl,?_⟩
  rw[show its.toArray.any (cY x)=its.any (cY x) by simp,Lm r fs]
  exact q
 ·obtain⟨its,r,pl,hz⟩:=I.tuple hq
  refine SeqAt.in_tupleAt (cY x) pl (λw hw=>Jk rx fx r fs w (by simpa using hw)) ⟨.bl _,H,I,rfl,?_⟩
  rw[show its.toArray.any (cY x)=its.any (cY x) by simp,Lm r fs]
  exact q
theorem Uc:Jr X (OS .NotIn) (FA X.K true):=by
 intro pins s σ H x y v u Q I rx ry h
 obtain⟨p,xs,rfl,hq,fx,fs,q⟩:=h
 cases ry
 rcases hq with hq | hq
 ·obtain⟨its,r,pl,hz⟩:=I.list hq
  refine SeqAt.notIn_listAt (cY x) pl.isList (λw hw=>Jk rx fx r fs w (by simpa using hw)) ⟨.bl _,H,I,rfl,?_⟩
  rw[show its.toArray.any (cY x)=its.any (cY x) by simp,Lm r fs]
  exact q
 ·obtain⟨its,r,pl,hz⟩:=I.tuple hq
  refine SeqAt.notIn_tupleAt (cY x) pl (λw hw=>Jk rx fx r fs w (by simpa using hw)) ⟨.bl _,H,I,rfl,?_⟩
  rw[show its.toArray.any (cY x)=its.any (cY x) by simp,Lm r fs]
  exact q
theorem Vo:Fj X (.builtin "len") (λxs H Q=>∃p ys,xs=[.ref p]/\(Aw X.K H p ys∨Co X.K H p ys)/\Q (.int ys.length) H):=by
 intro pins s σ H xs us Q I r h
 obtain⟨p,ys,rfl,hq,q⟩:=h
 obtain⟨u,rfl,rx⟩:=vals1 r
 cases rx
 have hn:=Kn
 rcases hq with hq | hq
 ·obtain⟨its,r',pl,hz⟩:=I.list hq
  have hlen:=r'.length
  exact Calls.call_len_list pl.isList (by simp only[KP]<;>omega) ⟨.int ys.length,H,I.tok _,⟨s.toks+1,by rw[KP,hlen]⟩,q⟩
 ·obtain⟨its,r',pl,hz⟩:=I.tuple hq
  have hlen:=r'.length
  exact len_tuple pl (by simp only[KP]<;>omega) ⟨.int ys.length,H,I.tok _,⟨s.toks+1,by rw[KP,hlen]⟩,q⟩
theorem Lr:Fj X (.builtin "len") (λxs H Q=>∃z,xs=[.str z]/\z.length<=JM/\Q (.int z.length) H):=by
 intro pins s σ H xs us Q I r h
 obtain⟨z,rfl,hz,q⟩:=h
 obtain⟨u,rfl,t,rfl⟩:=vals1 r
 have hn:=Kn
 exact len_str (by omega) ⟨.int z.length,H,I.tok _,⟨_,rfl⟩,q⟩
theorem Gd:Fj X (.type "list") (λxs H Q=>∃p ys,xs=[.ref p]/\(Aw X.K H p ys∨Co X.K H p ys)/\∀l,H l=none->Q (.ref l) (upd H l (.lst ys))):=by
 intro pins s σ H xs us Q I r h
 obtain⟨p,ys,rfl,hq,q⟩:=h
 obtain⟨u,rfl,rx⟩:=vals1 r
 cases rx
 have fin:∀(its:List JD),Bb ys its->ys.length<=JM->∀(h':MQ)(c':Nat),(∀b o',s.heap.get? b=some o'->h'.get? b=some o') ->
  h'.get? s.heap.objs.size=some { cls:=.type "list", dict:=none,data:=.seq its.toArray c',slots:=#[] }->EP X pins σ Q (.ref s.heap.objs.size) { s with heap:=h' }:=λits r' hz h' c' kp e=>
  ⟨.ref s.heap.objs.size,_,I.laid (t':=s.toks) kp (JI _) (show Cg X.prog X.w _ h' _ (.lst ys) from ⟨hz,its,c',r',e⟩),rfl,q _ (I.hok.fresh (JI _))⟩
 rcases hq with hq | hq
 ·obtain⟨its,r',pl,hz⟩:=I.list hq
  have hlen:=r'.length
  obtain⟨o,ho,hc,n,hd⟩:=pl.isList
  exact call_list_seq p (.inl rfl) ho hc hd (λh' c' kp e=>fin its r' hz h' c' kp e) (by simp only[KP]<;>omega)
 ·obtain⟨its,r',pl,hz⟩:=I.tuple hq
  have hlen:=r'.length
  obtain⟨o,ho,hc,n,hd⟩:=pl
  exact call_list_seq p (.inr rfl) ho hc hd (λh' c' kp e=>fin its r' hz h' c' kp e) (by simp only[KP]<;>omega)
def FU(K:JC)(T:String)(x:V)(H:Hp):Prop:=match x with
 | .str _=>T = "str"
 | .int _=>T = "int"
 | .ref p=>(T = "list" /\ ∃xs,Aw K H p xs)∨(T = "tuple" /\ ∃o,K.lookup p=some o/\o.cls=.type "tuple" /\ o.dict=none) ∨
  (T = "dict" /\ ((∃kvs,H p=some (.dK kvs)) ∨ ∃kvs,H p=some (.dT kvs)))∨(T = "set" /\ ∃S n,H p=some (.set S n))
 | _=>False
theorem rG{pins:List (JK×Obj)}{σ:St}{H:Hp}{s:JH}{T:String}{x:V}{v:JD}(I:Inv X pins σ H s)(r:RelV x v)(ty:FU X.K T x H):
 s.TypeIs v T/\∀a,v=.ref a->∃ob,s.heap.get? a=some ob/\ob.dict=none:=by
 cases x with
 | str z=>
  obtain⟨t,rfl⟩:=r
  cases (show T = "str" from ty)
  exact⟨typeIs_str s z t,λ_ e=>nomatch e⟩
 | int i=>
  obtain⟨t,rfl⟩:=r
  cases (show T = "int" from ty)
  exact⟨typeIs_int s i t,λ_ e=>nomatch e⟩
 | ref p=>
  cases r
  rcases ty with ⟨rfl,xs,hq⟩ | ⟨rfl,o,hk,hc,hd⟩ | ⟨rfl,hk⟩ | ⟨rfl,S,n,hk⟩
  ·obtain⟨its,_,pl,_⟩:=I.list hq
   refine⟨pl.isList.typeIs,λa e=>?_⟩
   cases e
   obtain⟨o,n,e,c,hd,_⟩:=pl
   exact⟨o,e,hd⟩
  ·refine⟨⟨o,I.kIn p o hk,hc⟩,λa e=>?_⟩
   cases e
   exact⟨o,I.kIn _ o hk,hd⟩
  ·have z:∃o,s.heap.get? p=some o/\o.ExactDict:=by
    rcases hk with ⟨kvs,hk⟩ | ⟨kvs,hk⟩
    ·obtain⟨_,_,_,_,o,_,_,e,ex,_⟩:=I.hok p _ hk
     exact⟨o,e,ex⟩
    ·obtain⟨_,_,_,_,o,_,_,e,ex,_⟩:=I.hok p _ hk
     exact⟨o,e,ex⟩
   obtain⟨o,e,ex⟩:=z
   refine⟨⟨o,e,ex.1⟩,λa e2=>?_⟩
   cases e2
   exact⟨o,e,ex.2.1⟩
  ·obtain⟨o,_,_,_,e,ex,_⟩:=I.hok p _ hk
   refine⟨⟨o,e,ex.1⟩,λa e2=>?_⟩
   cases e2
   exact⟨o,e,ex.2.1⟩
 | _=>exact LZ ty
def FR(K:JC)(T:String)(r:V->List V->Hp->VK->Prop)(to:TE):TE:=λσ H Q=>to σ H λx H1=>FU K T x H1/\r x [] H1 Q
def IR(K:JC)(T:String)(r:V->List V->Hp->VK->Prop)(to:TE)(t:TA):TE:=λσ H Q=>to σ H λx H1=>FU K T x H1/\t σ H1 λxs H2=>r x xs H2 Q
variable {o e:Expr} {es:List Expr} {to:TE} {t:TA} {name:Str} {apos cpos:Pos} {T id:String} {r:V->List V->Hp->VK->Prop}
theorem zV(pa:PlainAttrs T)(slot:Slot T name id)(hty:typeOf (.builtin id)=pure (.type "method_descriptor"))(hm:IG X id r)(ho:PE X o to)(hbase:RD o name X.env (OX o X.env)=OX o X.env:=by rfl)(hline:(apos.endLine == cpos.line)=true:=by rfl):PE X (.Call (.Attribute o name apos) [] [] cpos) (FR X.K T r to):=by
 intro pins s σ H Q I h
 refine wpAny_Call_method0_late hbase hline (Bu (ho pins s σ H _ I h) λv s1 ⟨x,H1,I1,r1,ty,q1⟩=>?_)
 obtain⟨h1,h2⟩:=rG I1 r1 ty
 exact⟨T,id,pa,slot,hty,h1,h2,PN rfl (PySem.evalArgs_none (hm pins s1 σ H1 x [] v [] Q I1 r1 .nil q1))⟩
theorem Lu(pa:PlainAttrs T)(slot:Slot T name id)(hty:typeOf (.builtin id)=pure (.type "method_descriptor"))(hm:IG X id r)(ho:PE X o to)(ha:PA X (e::es) t)(hbase:RD o name X.env (OX o X.env)=OX o X.env:=by rfl)(hfew:((QK cpos (KQ (e::es) X.env)).all (λx=>!x.1) && (backToKw cpos (QU [] X.env)).all (λx=>x.1.isSome)
  && decide ((e::es).length+([]:List Keyword).length+(if ([]:List Keyword).isEmpty then 0 else 1) < 30))=true:=by rfl)(hline:(apos.endLine == cpos.line)=true:=by rfl)(hs:KQ (e::es) X.env=(false,OX e X.env)::KQ es X.env:=by rfl)(hplain:(QK cpos (KQ es X.env)).any (·.1)=false:=by rfl):
 PE X (.Call (.Attribute o name apos) (e::es) [] cpos) (IR X.K T r to t):=by
 intro pins s σ H Q I h
 refine wpAny_Call_method_late hbase hfew hline rfl (Bu (ho pins s σ H _ I h) λv s1 ⟨x,H1,I1,r1,ty,q1⟩=>?_)
 obtain⟨h1,h2⟩:=rG I1 r1 ty
 refine⟨T,id,pa,slot,hty,h1,h2,?_⟩
 have hA:=ha cpos pins s1 σ H1 _ I1 q1
 rw[hs] at hA ⊢
 refine PN (by show (false || (QK cpos (KQ es X.env)).any (·.1))=false;rw[hplain]<;>rfl) (Calls.evalArgs_plain ?_)
 exact Bu hA λus s2 ⟨vs,H2,I2,r2,q2⟩=>hm pins s2 σ H2 x vs v us Q I2 r1 r2 q2
end
def IE(X:Cx)(id:String)(r:V->List V->Hp->VK->Prop):Prop:=
 ∀(pins:List (JK×Obj))(s:JH)(σ:St)(H:Hp)(x:V)(xs:List V)(v:JD)(us:List JD)(Q:VK),Inv X pins σ H s->RelV x v->Bb xs us->r x xs H Q ->
  KR (KU X.prog X.w) X.A (call (.builtin id) (v::us)) (EP X pins σ Q) X.xe s
theorem Bb.one:∀ {x:V} {us:List JD},Bb [x] us->∃u,us=[u]/\RelV x u
 | _,_,.cons r .nil=>⟨_,rfl,r⟩
theorem Bb.zero:∀ {us:List JD},Bb [] us->us=[]
 | _,.nil=>rfl
theorem Bb.dropLast{xs:List V}{us:List JD}(h:Bb xs us):Bb xs.dropLast us.dropLast:=by
 induction h with
 | nil=>exact .nil
 | cons r t ih=>
  cases t with
  | nil=>exact .nil
  | cons q t'=>exact .cons r ih
theorem Bb.reverse{xs:List V}{us:List JD}(h:Bb xs us):Bb xs.reverse us.reverse:=by
 induction h with
 | nil=>exact .nil
 | cons r t ih=>rw[List.reverse_cons,List.reverse_cons];exact Bb.append ih (.cons r .nil)
theorem bZ{α:Type}(l:List α):l.eraseIdx (l.length-1)=l.dropLast:=by
 induction l with
 | nil=>rfl
 | cons a r ih=>
  cases r with
  | nil=>rfl
  | cons b r=>
   have e:(a::b::r).length-1=((b::r).length-1)+1:=by
    have h1:(a::b::r).length=r.length+2:=rfl
    have h2:(b::r).length=r.length+1:=rfl
    omega
   rw[e,List.eraseIdx_cons_succ,ih]
   all_goals rfl
section
variable {X:Cx} {pins:List (JK×Obj)} {σ:St} {H:Hp} {s:JH} {l b:JK} {xs ys zs:List V}
theorem Inv.lset{its its':List JD}{n:Nat}{f:Array JD->Array JD}{t':Nat}(I:Inv X pins σ H s)(hH:H l=some (.lst xs))(e:s.heap.get? l=some { cls:=.type "list", data:=.seq its.toArray n })(hf:f its.toArray=its'.toArray)(hv:Bb ys its')(hz:ys.length<=JM):
 Inv X pins σ (upd H l (.lst ys)) { s with heap:=s.heap.update l (RX f),toks:=t' }:=by
 have q:=PySem.IsL.update e f
 rw[hf] at q
 refine I.write (x:=l) (e:=l) (by rw[hH];exact trivial) (.inl rfl) (λb' u hb hu=>(LP s.heap (RX f) (LH hb)).trans hu) ⟨_,q⟩ ?_
 exact⟨hz,its',_,hv,q⟩
theorem Inv.lnew{its:List JD}{t':Nat}(I:Inv X pins σ H s)(hv:Bb ys its)(hz:ys.length<=JM):
 Inv X pins σ (upd H s.heap.objs.size (.lst ys)) { s with heap:=s.heap.push { cls:=.type "list", data:=.seq its.toArray },toks:=t' }:=
 I.laid (λ_ _ q=>JE _ q) (JI _) ⟨hz,its,0,hv,JZ _ rfl⟩
theorem Inv.fresh(I:Inv X pins σ H s):H s.heap.objs.size=none:=I.hok.fresh (JI _)
theorem Inv.lstM(I:Inv X pins σ H s)(hH:H l=some (.lst xs)):xs.length<=JM/\∃(its:List JD)(n:Nat),Bb xs its/\xs.length=its.length/\s.heap.get? l=some { cls:=.type "list", data:=.seq its.toArray n }:=by
 obtain⟨z,its,n,r,e⟩:=I.hok l _ hH
 exact⟨z,its,n,r,r.length,e⟩
end
section
variable {X:Cx}
def sQ:V->List V->Hp->VK->Prop:=λx vs H Q=>∃l xs y,x=.ref l/\vs=[y]/\H l=some (.lst xs)/\xs.length < JM/\Q .non (upd H l (.lst (xs++[y])))
theorem Ed:IE X "list.append" sQ:=by
 intro pins s σ H x vs v us Q I rx rv h
 obtain⟨l,xs,y,rfl,rfl,hH,hz,q⟩:=h
 cases rx
 obtain⟨u,rfl,ru⟩:=rv.one
 obtain⟨z,its,n,r,hl,e⟩:=I.lstM hH
 refine call_meets F.slot_list_append ⟨_,e,rfl⟩ F.entry_list_append (F.args_list_append_2 _ _) (PySem.list_append l its.toArray n u (by rw[KP];omega)) ⟨e,?_⟩
 refine⟨.non,_,I.lset (its':=its++[u]) hH e (by simp) (r.append (.cons ru .nil)) ?_,rfl,q⟩
 rw[JJ,JU]
 omega
def HG:V->List V->Hp->VK->Prop:=λx vs H Q=>∃l xs y,x=.ref l/\vs=[]/\H l=some (.lst xs)/\xs[xs.length-1]? = some y/\Q y (upd H l (.lst xs.dropLast))
theorem zE:IE X "list.pop" HG:=by
 intro pins s σ H x vs v us Q I rx rv h
 obtain⟨l,xs,y,rfl,rfl,hH,hy,q⟩:=h
 cases rx
 have hus:=rv.zero
 subst hus
 obtain⟨z,its,n,r,hl,e⟩:=I.lstM hH
 obtain⟨u,hu,ru⟩:=r.get hy
 have hy':its.toArray[its.toArray.size-1]? = some u:=by
  show its.toArray[its.length-1]? = some u
  rw[<- SO,<- hl]
  exact hu
 refine call_meets F.slot_list_pop ⟨_,e,rfl⟩ F.entry_list_pop (F.args_list_pop_1 _) (MeetsSeq.list_pop_last l its.toArray n u hy' (by rw[KP];omega)) ⟨e,?_⟩
 refine⟨y,_,I.lset (its':=its.dropLast) hH e ?_ r.dropLast ?_,ru,q⟩
 ·show its.toArray.eraseIdxIfInBounds (its.toArray.size-1)=its.dropLast.toArray
  rw[KP,List.eraseIdxIfInBounds_toArray,bZ]
 ·rw[List.length_dropLast]
  omega
def AZ:R2:=λx y H Q=>∃l b xs zs,x=.ref l/\y=.ref b/\H l=some (.lst xs)/\H b=some (.lst zs)/\xs.length+zs.length<=JM/\∀p,H p=none->Q (.ref p) (upd H p (.lst (xs++zs)))
theorem Jp:Jr X (QM .Add) AZ:=by
 intro pins s σ H x y v u Q I rx ry h
 obtain⟨l,b,xs,zs,rfl,rfl,hH,hB,hz,q⟩:=h
 cases rx
 cases ry
 obtain⟨z,its,n,r,hl,e⟩:=I.lstM hH
 obtain⟨z2,its2,n2,r2,hl2,e2⟩:=I.lstM hB
 refine PySem.P.add_list e e2 ?_ (by rw[KP,KP];omega)
 have ea:its.toArray++its2.toArray=(its++its2).toArray:=by simp
 rw[ea]
 exact⟨.ref _,_,I.lnew (t':=s.toks) (r.append r2) (by rw[JJ];omega),rfl,q _ I.fresh⟩
end
section
variable {prog:KC} {w:LL} {A:LI} {E:JD->JH->Prop} {s:JH}
end
section
variable {X:Cx}
end
section
variable {κ:Type} [DecidableEq κ]
def valV(kvs:List (κ×V))(k:κ):Option V:=(kvs.find? λkv=>decide (kv.1=k)).map (·.2)
def putK(kvs:List (κ×V))(k:κ)(v:V):List (κ×V):=
 if (kvs.any λkv=>decide (kv.1=k))=true then kvs.map (λkv=>if kv.1=k then (kv.1,v) else kv) else kvs++[(k,v)]
theorem Cu{p:κ×V}{r:List (κ×V)}{k:κ}(e:p.1=k):valV (p::r) k=some p.2:=by simp[valV,RN,e]
theorem Ct{p:κ×V}{r:List (κ×V)}{k:κ}(e:¬ p.1=k):valV (p::r) k=valV r k:=by simp[valV,RN,e]
theorem Ey(k:κ):∀kvs:List (κ×V),(kvs.any λkv=>decide (kv.1=k))=(valV kvs k).isSome
 | []=>rfl
 | p::r=>by
  rw[List.any_cons]
  by_cases e:p.1=k
  ·simp only[Cu e,decide_eq_true e,Bool.true_or,Option.isSome_some]
  ·rw[Ct e,decide_eq_false e,Bool.false_or];exact Ey k r
theorem Xq(k j:κ)(y:V):∀kvs:List (κ×V),valV (kvs.map λkv=>if kv.1=k then (kv.1,y) else kv) j=(valV kvs j).map λx=>if j=k then y else x
 | []=>rfl
 | p::r=>by
  have ih:=Xq k j y r
  rw[LU]
  by_cases h:p.1=k
  ·rw[if_pos h]
   by_cases e:p.1=j
   ·rw[Cu (p:=(p.1,y)) e,Cu e,Option.map_some,if_pos (e.symm.trans h)]
   ·rw[Ct (p:=(p.1,y)) e,Ct e,ih]
  ·rw[if_neg h]
   by_cases e:p.1=j
   ·rw[Cu (p:=p) e,Cu e,Option.map_some,if_neg (λz=>h (e.trans z))]
   ·rw[Ct (p:=p) e,Ct e,ih]
theorem Se(k j:κ)(y:V):∀kvs:List (κ×V),valV kvs k=none->valV (kvs++[(k,y)]) j=if j=k then some y else valV kvs j
 | [],_=>by
  by_cases e:k=j
  ·rw[if_pos e.symm];exact Cu (p:=(k,y)) e
  ·rw[if_neg (λz=>e z.symm)];exact Ct (p:=(k,y)) e
 | p::r,hn=>by
  rw[List.cons_append]
  have hk:¬ p.1=k:=λz=>by rw[Cu z] at hn;cases hn
  rw[Ct hk] at hn
  have ih:=Se k j y r hn
  by_cases e:p.1=j
  ·rw[Cu e,Cu e,if_neg (λz=>hk (e.trans z))]
  ·rw[Ct e,Ct e,ih]
theorem Fp(kvs:List (κ×V))(k j:κ)(y:V):valV (putK kvs k y) j=if j=k then some y else valV kvs j:=by
 unfold putK
 by_cases a:(kvs.any λkv=>decide (kv.1=k))=true
 ·rw[if_pos a,Xq]
  rw[Ey] at a
  by_cases e:j=k
  ·obtain⟨x,hx⟩:=RH.mp a
   rw[if_pos e,e,hx,Option.map_some,if_pos rfl]
  ·rw[if_neg e]
   cases valV kvs j with
   | none=>rfl
   | some x=>rw[Option.map_some,if_neg e]
 ·rw[if_neg a]
  refine Se k j y kvs ?_
  rw[Ey] at a
  cases q:valV kvs k with
  | none=>rfl
  | some x=>rw[q] at a;exact(a rfl).elim
theorem Dm(kvs:List (κ×V))(k:κ)(v:V):(putK kvs k v).length<=kvs.length+1:=by
 unfold putK
 split
 ·rw[JF];omega
 ·rw[JJ,LN,List.length_nil];omega
theorem Qw{kvs:List (κ×V)}{k:κ}(v:V)(h:valV kvs k=none):putK kvs k v=kvs++[(k,v)]:=by
 unfold putK
 rw[Ey,h]
 exact if_neg (by decide)
theorem Ho.isSome_eq{o:Option V}{u:Option JD}(r:Ho o u):o.isSome=u.isSome:=by
 cases o with
 | none=>cases u with
  | none=>rfl
  | some _=>exact(show False from r).elim
 | some _=>cases u with
  | none=>exact(show False from r).elim
  | some _=>rfl
theorem Ho.getD{o:Option V}{u:Option JD}{d:V}{d':JD}(r:Ho o u)(rd:RelV d d'):RelV (o.getD d) (u.getD d'):=by
 cases o with
 | none=>cases u with
  | none=>exact rd
  | some _=>exact(show False from r).elim
 | some _=>cases u with
  | none=>exact(show False from r).elim
  | some _=>exact r
theorem KV.val{kvs:List (κ×V)}{vs:List (κ×JD)}(r:KV kvs vs)(k:κ):Ho (valV kvs k) (valueAt vs k):=by
 unfold KV at r
 induction r with
 | nil=>exact PB
 | @cons p q ps qs h t ih=>
  obtain⟨h1,h2⟩:=h
  by_cases e:p.1=k
  ·have e':q.1=k:=h1.symm.trans e
   have b:valueAt (q::qs) k=some q.2:=by simp[valueAt,RN,e']
   rw[Cu e,b];exact h2
  ·have e':¬ q.1=k:=λz=>e (h1.trans z)
   have b:valueAt (q::qs) k=valueAt qs k:=by simp[valueAt,RN,e']
   rw[Ct e,b];exact ih
theorem KV.any{kvs:List (κ×V)}{vs:List (κ×JD)}(r:KV kvs vs)(k:κ):(kvs.any λkv=>decide (kv.1=k))=vs.any λkv=>decide (kv.1=k):=by
 unfold KV at r
 induction r with
 | nil=>rfl
 | cons h t ih=>rw[List.any_cons,List.any_cons,ih,h.1]
theorem KV.repl{kvs:List (κ×V)}{vs:List (κ×JD)}(r:KV kvs vs)(k:κ){y:V}{u:JD}(ry:RelV y u):
 KV (kvs.map λkv=>if kv.1=k then (kv.1,y) else kv) (vs.map λkv=>if kv.1=k then (kv.1,u) else kv):=by
 unfold KV at r ⊢
 induction r with
 | nil=>exact .nil
 | @cons p q ps qs h t ih=>
  rw[LU,LU]
  refine .cons ?_ ih
  obtain⟨h1,h2⟩:=h
  by_cases e:p.1=k
  ·rw[if_pos e,if_pos (h1.symm.trans e)];exact⟨h1,ry⟩
  ·rw[if_neg e,if_neg (λz=>e (h1.trans z))];exact⟨h1,h2⟩
theorem KV.put{kvs:List (κ×V)}{vs:List (κ×JD)}(r:KV kvs vs)(k:κ){y:V}{u:JD}(ry:RelV y u):KV (putK kvs k y) (stored vs k u):=by
 unfold putK stored
 rw[r.any k]
 by_cases e:(vs.any λkv=>decide (kv.1=k))=true
 ·rw[if_pos e,if_pos e];exact r.repl k ry
 ·rw[if_neg e,if_neg e];exact Paired.snoc r ⟨rfl,ry⟩
theorem KV.length{kvs:List (κ×V)}{vs:List (κ×JD)}(r:KV kvs vs):kvs.length=vs.length:=NK r
end
theorem Lj{P:KC}{w:LL}{k:Key}{u:JD}(r:RelV (kV k) u):(Bo P w).is k u=true:=by
 cases k with
 | inl i=>obtain⟨t,e⟩:=(show ∃t,u=Value.int i t from r);subst e;exact Wi P w i t
 | inr x=>obtain⟨t,e⟩:=(show ∃t,u=Value.str x t from r);subst e;exact Wj P w x t
theorem Su{P:KC}{w:LL}:∀ {ks:List Key} {us:List JD},Bb (ks.map kV) us->ItemsAre (Bo P w) ks us
 | [],_,r=>by rw[List.map_nil] at r;cases r;exact .nil
 | k::ks,_,r=>by
  rw[LU] at r
  cases r with
  | cons h t=>exact .cons (Lj h) (Su t)
abbrev KT(H:Hp):List (List Key×V)->List (List Key×JK×JD)->Prop:=RK λp q=>p.1=q.1/\H q.2.1=some (.tup (p.1.map kV))/\RelV p.2 q.2.2
theorem KT.val{H:Hp}{kvs:List (List Key×V)}{xs:List (List Key×JK×JD)}(r:KT H kvs xs)(k:List Key):Ho (valV kvs k) ((atKey xs k).map (·.2)):=by
 induction r with
 | nil=>exact PB
 | @cons p q ps qs h t ih=>
  obtain⟨h1,_,h2⟩:=h
  by_cases e:p.1=k
  ·have e':q.1=k:=h1.symm.trans e
   have b:atKey (q::qs) k=some q.2:=by simp[atKey,RN,e']
   rw[Cu e,b];exact h2
  ·have e':¬ q.1=k:=λz=>e (h1.trans z)
   have b:atKey (q::qs) k=atKey qs k:=by simp[atKey,RN,e']
   rw[Ct e,b];exact ih
theorem KT.repl{H:Hp}{kvs:List (List Key×V)}{xs:List (List Key×JK×JD)}(r:KT H kvs xs)(k:List Key){y:V}{u:JD}(ry:RelV y u):
 KT H (kvs.map λkv=>if kv.1=k then (kv.1,y) else kv) (xs.map (putAt k u)):=by
 induction r with
 | nil=>exact .nil
 | @cons p q ps qs h t ih=>
  rw[LU,LU]
  refine .cons ?_ ih
  obtain⟨h1,h2,h3⟩:=h
  unfold putAt
  by_cases e:p.1=k
  ·rw[if_pos e,if_pos (h1.symm.trans e)];exact⟨h1,h2,ry⟩
  ·rw[if_neg e,if_neg (λz=>e (h1.trans z))];exact⟨h1,h2,h3⟩
theorem KT.put{H:Hp}{kvs:List (List Key×V)}{xs:List (List Key×JK×JD)}(r:KT H kvs xs)(k:List Key){b:JK}{y:V}{u:JD}(hb:H b=some (.tup (k.map kV)))(ry:RelV y u):
 KT H (putK kvs k y) (storedH xs k b u):=by
 have e:(kvs.any λkv=>decide (kv.1=k))=(atKey xs k).isSome:=by
  rw[Ey,(r.val k).isSome_eq,Option.isSome_map]
 unfold putK storedH
 rw[e]
 by_cases q:(atKey xs k).isSome=true
 ·rw[if_pos q,if_pos q];exact r.repl k ry
 ·rw[if_neg q,if_neg q];exact Paired.snoc r ⟨rfl,hb,ry⟩
theorem KT.keeps{H H':Hp}{kvs:List (List Key×V)}{xs:List (List Key×JK×JD)}(r:KT H kvs xs)(ht:∀b ys,H b=some (.tup ys)->H' b=some (.tup ys)):KT H' kvs xs:=
 Paired.mapP r λ_ _ z=>⟨z.1,ht _ _ z.2.1,z.2.2⟩
section
variable {P:KC} {w:LL} {H:Hp} {h:MQ} {a:JK}
theorem wN{u:HO}(ok:Kg P w H h)(e:Rd H a u):Cg P w H h a u:=e.ok ok
theorem Nc{kvs:List (Key×V)}(ok:Kg P w H h)(e:Rd H a (.dK kvs)):kvs.length<=JM/\(a == OE)=false/\∃vs,KV kvs vs/\h.DictOf (Bo P w) a vs:=
 show Cg P w H h a (.dK kvs) from wN ok e
theorem wZ{kvs:List (Key×V)}(ok:Kg P w H h)(e:H a=some (.dK kvs)):kvs.length<=JM/\(a == OE)=false/\∃vs,KV kvs vs/\h.DictOf (Bo P w) a vs:=Nc ok (.inl e)
theorem Mj{ks:List Key}(ok:Kg P w H h)(e:H a=some (.tup (ks.map kV))):(tupleKind (Bo P w)).is h ks a:=by
 obtain⟨_,its,r,o,h1,h2,n,h3⟩:=(show Cg P w H h a (.tup (ks.map kV)) from ok a _ e)
 exact⟨o,its.toArray,n,h1,h2,h3,by simpa using Su r⟩
theorem Pi{kvs:List (List Key×V)}(ok:Kg P w H h)(e:Rd H a (.dT kvs)):kvs.length<=JM/\(a == OE)=false /\
 ∃xs,KT H kvs xs/\h.DictOfH (tupleKind (Bo P w)) a xs:=by
 obtain⟨z,y,xs,r,o,es,ep,h1,h2,h3,h4,h5⟩:=(show Cg P w H h a (.dT kvs) from wN ok e)
 refine⟨z,y,xs,r,o,es,ep,h1,h2,h3,h4,λx hx=>?_,h5⟩
 have all:∀ {l:List (List Key×V)} {m:List (List Key×JK×JD)},KT H l m->∀x∈m,(tupleKind (Bo P w)).is h x.1 x.2.1:=by
  intro l m q
  induction q with
  | nil=>intro x hx;exact nomatch hx
  | @cons p q ps qs hq t ih=>
   intro x hx
   rcases JP.mp hx with e | hx
   ·subst e
    exact Mj ok (by rw[<- hq.1];exact hq.2.1)
   ·exact ih x hx
 exact all r x hx
theorem CF{kvs:List (List Key×V)}(ok:Kg P w H h)(e:H a=some (.dT kvs)):kvs.length<=JM/\(a == OE)=false /\
 ∃xs,KT H kvs xs/\h.DictOfH (tupleKind (Bo P w)) a xs:=Pi ok (.inl e)
end
def Er(H:Hp)(a:JK)(y:V)(r:Option V):Prop:=
 (∃kvs k,Rd H a (.dK kvs)/\y=kV k/\r=valV kvs k) ∨ ∃kvs k b,Rd H a (.dT kvs)/\y=.ref b/\H b=some (.tup (k.map kV))/\r=valV kvs k
def Kv(H:Hp)(a:JK)(y v:V)(H':Hp):Prop:=
 (∃kvs k,H a=some (.dK kvs)/\y=kV k/\kvs.length < JM/\H'=upd H a (.dK (putK kvs k v))) ∨
 ∃kvs k b,H a=some (.dT kvs)/\y=.ref b/\H b=some (.tup (k.map kV))/\kvs.length < JM/\H'=upd H a (.dT (putK kvs k v))
theorem Er.k{H:Hp}{a:JK}{kvs:List (Key×V)}{k:Key}(e:H a=some (.dK kvs)):Er H a (kV k) (valV kvs k):=.inl ⟨kvs,k,.inl e,rfl,rfl⟩
theorem Er.t{H:Hp}{a b:JK}{kvs:List (List Key×V)}{k:List Key}(e:H a=some (.dT kvs))(eb:H b=some (.tup (k.map kV))):Er H a (.ref b) (valV kvs k):=.inr ⟨kvs,k,b,.inl e,rfl,eb,rfl⟩
theorem Kv.k{H:Hp}{a:JK}{kvs:List (Key×V)}{k:Key}{v:V}(e:H a=some (.dK kvs))(hl:kvs.length < JM):Kv H a (kV k) v (upd H a (.dK (putK kvs k v))):=.inl ⟨kvs,k,e,rfl,hl,rfl⟩
theorem Kv.t{H:Hp}{a b:JK}{kvs:List (List Key×V)}{k:List Key}{v:V}(e:H a=some (.dT kvs))(eb:H b=some (.tup (k.map kV)))(hl:kvs.length < JM):
 Kv H a (.ref b) v (upd H a (.dT (putK kvs k v))):=.inr ⟨kvs,k,b,e,rfl,eb,hl,rfl⟩
section
variable {X:Cx} {pins:List (JK×Obj)} {σ:St} {H:Hp} {s:JH} {a:JK} {y v:V} {u r:JD} {o:Option V} {A:LI} {E:JD->JH->Prop}
theorem Inv.big(I:Inv X pins σ H s):OE < s.heap.objs.size:=by
 have h:LC < s.heap.objs.size:=(I.mod.glob.keeps I.bk).lt
 exact Nat.lt_trans (by decide) h
theorem jK{Q:JD->JH->Prop}(hu:A.units+1 < cLine)(I:Inv X pins σ H s)(g:Er H a y (some v))(ry:RelV y u)(h:∀w' s',Inv X pins σ H s'->RelV v w'->Q w' s'):
 KR (KU X.prog X.w) A (getItem (.ref a) u) Q E s:=by
 rcases g with ⟨kvs,k,e,ey,l⟩ | ⟨kvs,k,b,e,ey,eb,l⟩
 ·subst ey
  obtain⟨z,hd,vs,rel,dd⟩:=Nc I.hok e
  obtain⟨w',hw,rw'⟩:=Ho.some_of (v:=v) (o:=valueAt vs k) (by rw[l];exact rel.val k)
  exact wpAny_getItem_of (Lj ry) dd.mapOf hw (h w' _ (I.tok _) rw')
 ·subst ey
  cases (show u=JV b from ry)
  obtain⟨z,hd,xs,rel,dd⟩:=Pi I.hok e
  obtain⟨w',hw,rw'⟩:=Ho.some_of (v:=v) (o:=(atKey xs k).map (·.2)) (by rw[l];exact rel.val k)
  obtain⟨p,hp,hp2⟩:=Option.map_eq_some_iff.mp hw
  refine wpAny_getItem_heap (SE hu) (Mj I.hok eb) dd hp ?_
  rw[hp2]
  exact h w' _ (I.tok _) rw'
theorem EU{Q:JD->JH->Prop}(hu:A.units+1 < cLine)(I:Inv X pins σ H s)(g:Er H a y o)(ry:RelV y u)(h:∀s',Inv X pins σ H s'->Q (.bool o.isSome) s'):
 KR (KU X.prog X.w) A (OS .In u (.ref a)) Q E s:=by
 rcases g with ⟨kvs,k,e,ey,l⟩ | ⟨kvs,k,b,e,ey,eb,l⟩
 ·subst ey
  obtain⟨z,hd,vs,rel,dd⟩:=Nc I.hok e
  refine wpAny_in_of (Lj ry) hd dd.mapOf ?_
  rw[<- (rel.val k).isSome_eq,<- l]
  exact h _ (I.tok _)
 ·subst ey
  cases (show u=JV b from ry)
  obtain⟨z,hd,xs,rel,dd⟩:=Pi I.hok e
  refine wpAny_in_heap (SE hu) (Mj I.hok eb) hd dd ?_
  have q:=(rel.val k).isSome_eq
  rw[Option.isSome_map] at q
  rw[<- q,<- l]
  exact h _ (I.tok _)
theorem vO{Q:JD->JH->Prop}(hu:A.units+1 < cLine)(I:Inv X pins σ H s)(g:Er H a y o)(ry:RelV y u)(h:∀s',Inv X pins σ H s'->Q (.bool (!o.isSome)) s'):
 KR (KU X.prog X.w) A (OS .NotIn u (.ref a)) Q E s:=by
 rcases g with ⟨kvs,k,e,ey,l⟩ | ⟨kvs,k,b,e,ey,eb,l⟩
 ·subst ey
  obtain⟨z,hd,vs,rel,dd⟩:=Nc I.hok e
  refine wpAny_notIn_of (Lj ry) hd dd.mapOf ?_
  rw[<- (rel.val k).isSome_eq,<- l]
  exact h _ (I.tok _)
 ·subst ey
  cases (show u=JV b from ry)
  obtain⟨z,hd,xs,rel,dd⟩:=Pi I.hok e
  refine wpAny_notIn_heap (SE hu) (Mj I.hok eb) hd dd ?_
  have q:=(rel.val k).isSome_eq
  rw[Option.isSome_map] at q
  rw[<- q,<- l]
  exact h _ (I.tok _)
theorem Vg{h':MQ}{t':Nat}{ob:HO}(I:Inv X pins σ H s)(mu:BU (H a))(hs:Heap.SameBut a s.heap h')(he:∃q,h'.get? a=some q)(new:Cg X.prog X.w (upd H a ob) h' a ob):
 Inv X pins σ (upd H a ob) { s with heap:=h',toks:=t' }:=
 I.write (x:=a) (e:=a) mu (.inl rfl) (λb q hb z=>(hs.2 b hb).trans z) he new
theorem lO{P:KC}{w:LL}{H':Hp}{h':MQ}{kvs:List (Key×V)}{vs:List (Key×JD)}(z:kvs.length<=JM)(hd:(a == OE)=false)(rel:KV kvs vs)(dd:h'.DictOf (Bo P w) a vs):
 Cg P w H' h' a (.dK kvs):=⟨z,hd,vs,rel,dd⟩
theorem jT{H':Hp}{Q:Unit->JH->Prop}(hu:A.units+1 < cLine)(I:Inv X pins σ H s)(g:Kv H a y v H')(ry:RelV y u)(rv:RelV v r)(h:∀s',Inv X pins σ H' s'->Q () s'):
 KR (KU X.prog X.w) A (setItem (.ref a) u r) Q E s:=by
 rcases g with ⟨kvs,k,e,ey,l,eH⟩ | ⟨kvs,k,b,e,ey,eb,l,eH⟩
 ·subst ey eH
  obtain⟨z,hd,vs,rel,dd⟩:=wZ I.hok e
  have hz:vs.length<=JM:=by rw[<- rel.length];exact z
  have hl:(putK kvs k v).length<=JM:=by have:=Dm kvs k v;omega
  refine wpAny_setItem_pairs (hsz:=hz) (Lj ry) dd λh' dd' hs=>h _ ?_
  have he:∃q,h'.get? a=some q:=let ⟨q,_,_,hq,_⟩:=dd';⟨q,hq⟩
  exact Vg I (by rw[e];exact PB) hs he (lO hl hd (rel.put k rv) dd')
 ·subst ey eH
  cases (show u=JV b from ry)
  obtain⟨z,hd,xs,rel,dd⟩:=CF I.hok e
  have hz:xs.length<=JM:=by rw[<- NK rel];exact z
  have hl:(putK kvs k v).length<=JM:=by have:=Dm kvs k v;omega
  refine wpAny_setItem_heap (hsz:=hz) (SE hu) (Mj I.hok eb) dd λh' dd' hs=>h _ ?_
  obtain⟨q,es,ep,hq,h2,h3,h4,_,h5⟩:=dd'
  refine Vg I (by rw[e];exact PB) hs ⟨q,hq⟩ ⟨hl,hd,_,(rel.put k eb rv).keeps λc ys ec=>?_,q,es,ep,hq,h2,h3,h4,h5⟩
  rw[Aj (Cd ec e (λz=>nomatch z))]
  exact ec
end
section
variable {X:Cx} {pins:List (JK×Obj)} {σ:St} {H:Hp} {s:JH} {a:JK} {kvs:List (Key×V)} {k:Key} {u:JD} {A:LI} {E:JD->JH->Prop}
end
def DY(i:Expr):Prop:=∀ov iv,subscripted i false ov iv=operate [ov,iv] (getItem ov iv)
theorem uY{prog:KC}{w:LL}{A:LI}{E:JD->JH->Prop}{s:JH}{env:Env}{value slice:Expr}{pos:Pos}{T id:String}{Q:JD->JH->Prop}(hl:typeLookup (.type T) "__getitem__" = pure (some (.builtin id)))(hs:DY slice)(h:KR (KU prog w) A (OX value env) (λo s₁=>KR (KU prog w) A (OX slice env) (λi s₂=>s₂.TypeIs o T/\KR (KU prog w) A (getItem o i) Q E s₂) E s₁) E s):
 KR (KU prog w) A (OX (.Subscript value slice pos) env) Q E s:=by
 refine Subscript_ (MY h (λo s₁ h₁=>MY h₁ (λi s₂ h₂=>?_) λ_ _ x=>x) λ_ _ x=>x)
 obtain⟨hT,h₂⟩:=h₂
 unfold subscriptTail
 refine JA ?_
 rw[getitemInPython_of_ne hT.not_modules]
 refine JA (wpAny_specialOf hT hl ?_)
 have fin:KR (KU prog w) A (subscripted slice false o i) (λr s₃=>KR (KU prog w) A (letTemporaryGo value o r >>= λ_=>pure r) Q E s₃) E s₂:=by
  rw[hs o i]
  exact wpAny_operating (MY h₂ (λr s₃ h₃=>JA (wpAny_letTemporaryGo (JO h₃))) λ_ _ x=>x)
 first
  | exact JO (JA fin)
  | exact JA (JO (JA fin))
  | exact JA fin
theorem Ww{X:Cx}{pins:List (JK×Obj)}{σ:St}{H:Hp}{s:JH}{a:JK}{y:V}{o:Option V}(I:Inv X pins σ H s)(g:Er H a y o):s.TypeIs (.ref a) "dict" := by
 rcases g with ⟨kvs,k,e,_,_⟩ | ⟨kvs,k,b,e,_,_,_⟩
 ·obtain⟨_,_,vs,_,dd⟩:=Nc I.hok e
  exact dd.typeIs
 ·obtain⟨_,_,xs,_,dd⟩:=Pi I.hok e
  exact dd.typeIs
def BY(td ty:TE):TE:=λσ H Q=>td σ H λx H1=>ty σ H1 λy H2=>∃a v,x=.ref a/\Er H2 a y (some v)/\Q v H2
def FY(ty td:TE):TE:=λσ H Q=>ty σ H λy H1=>td σ H1 λx H2=>∃a o,x=.ref a/\Er H2 a y o/\Q (.bl o.isSome) H2
def vH(ty td:TE):TE:=λσ H Q=>ty σ H λy H1=>td σ H1 λx H2=>∃a o,x=.ref a/\Er H2 a y o/\Q (.bl (!o.isSome)) H2
def DG(td ty tv:TE):TS:=λD σ H=>tv σ H λv H1=>td σ H1 λx H2=>ty σ H2 λy H3=>∃a H4,x=.ref a/\Kv H3 a y v H4/\D.nx σ H4
section
variable {X:Cx} {o i e value:Expr} {pos pos' tpos:Pos} {td ty tv:TE}
theorem Io(hu:X.A.units+1 < cLine)(ho:PE X o td)(hi:PE X i ty)(hs:DY i):PE X (.Subscript o i pos) (BY td ty):=by
 intro pins s σ H Q I h
 refine uY PySem.F.slot_dict_getitem.lookup hs (Bu (ho pins s σ H _ I h) λu s1 ⟨x,H1,I1,rx,q1⟩=>Bu (hi pins s1 σ H1 _ I1 q1) λiv s2 ⟨y,H2,I2,ry,a,v,ex,g,q2⟩=>?_)
 subst ex
 obtain rfl:u=JV a:=rx
 exact⟨Ww I2 g,jK hu I2 g ry λw' s3 I3 rw'=>⟨v,H2,I3,rw',q2⟩⟩
theorem pP(hu:X.A.units+1 < cLine)(hi:PE X i ty)(ho:PE X o td):PC X .In i o (FY ty td):=by
 intro pins s σ H Q I h
 refine Bu (hi pins s σ H _ I h) λiv s1 ⟨y,H1,I1,ry,q1⟩=>Bu (ho pins s1 σ H1 _ I1 q1) λu s2 ⟨x,H2,I2,rx,a,ov,ex,g,q2⟩=>?_
 subst ex
 obtain rfl:u=JV a:=rx
 exact EU hu I2 g ry λs3 I3=>⟨.bl ov.isSome,H2,I3,rfl,q2⟩
theorem Kf(hu:X.A.units+1 < cLine)(hi:PE X i ty)(ho:PE X o td):PC X .NotIn i o (vH ty td):=by
 intro pins s σ H Q I h
 refine Bu (hi pins s σ H _ I h) λiv s1 ⟨y,H1,I1,ry,q1⟩=>Bu (ho pins s1 σ H1 _ I1 q1) λu s2 ⟨x,H2,I2,rx,a,ov,ex,g,q2⟩=>?_
 subst ex
 obtain rfl:u=JV a:=rx
 exact vO hu I2 g ry λs3 I3=>⟨.bl (!ov.isSome),H2,I3,rfl,q2⟩
theorem Gc(hu:X.A.units+1 < cLine)(ho:PE X o td)(hi:PE X i ty)(hv:PE X value tv)(hs:swapsWith value (some (.Subscript o i pos')) pos.line X.env=pure false):
 PS X (.Assign [.Subscript o i pos'] value pos) (DG td ty tv):=by
 intro pins s σ H D I h
 refine wpAny_Assign_Subscript (Bu (hv pins s σ H _ I h) λr s1 ⟨v,H1,I1,rv,q1⟩=>Bu (ho pins s1 σ H1 _ I1 q1) λu s2 ⟨x,H2,I2,rx,q2⟩=>Bu (hi pins s2 σ H2 _ I2 q2) λiv s3 ⟨y,H3,I3,ry,a,H4,ex,g,q3⟩=>?_) hs
 subst ex
 obtain rfl:u=JV a:=rx
 exact jT hu I3 g ry rv λs4 I4=>⟨σ,H4,I4,q3⟩
end
theorem nM{P:KC}{w:LL}{H:Hp}(h:MQ)(hb:OE < h.objs.size):Cg P w H (h.push { cls:=.type "dict", data:=.dict #[] }) h.objs.size (.dK []):=
 ⟨LG _,beq_eq_false_iff_ne.mpr (LH (KL hb)),[],.nil,Heap.DictOf.new h⟩
theorem pX{P:KC}{w:LL}{H:Hp}(h:MQ)(hb:OE < h.objs.size):Cg P w H (h.push { cls:=.type "dict", data:=.dict #[] }) h.objs.size (.dT []):=
 ⟨LG _,beq_eq_false_iff_ne.mpr (LH (KL hb)),[],.nil,_,#[],0,JZ _ rfl,⟨rfl,rfl,rfl⟩,rfl,rfl,OR⟩
def AL:TE:=λ_ H Q=>∀p,H p=none->Q (.ref p) (upd H p (.dK []))
def zU:TE:=λ_ H Q=>∀p,H p=none->Q (.ref p) (upd H p (.dT []))
section
variable {X:Cx} {pos:Pos}
theorem Hn:PE X (.Dict [] [] pos) AL:=λpins s σ H Q I h=>
 wpAny_Dict_empty ⟨.ref s.heap.objs.size,_,I.laid (a:=s.heap.objs.size) (o:=.dK []) (t':=s.toks) (λ_ _ q=>JE _ q) (JI _) (nM s.heap I.big),rfl,h _ (I.hok.fresh (JI _))⟩
theorem lH:PE X (.Dict [] [] pos) zU:=λpins s σ H Q I h=>
 wpAny_Dict_empty ⟨.ref s.heap.objs.size,_,I.laid (a:=s.heap.objs.size) (o:=.dT []) (t':=s.toks) (λ_ _ q=>JE _ q) (JI _) (pX s.heap I.big),rfl,h _ (I.hok.fresh (JI _))⟩
end
structure M1(X:Cx)(o:Expr)(m:Str)(apos:Pos)(e:Expr)(cpos:Pos):Prop where
 base:RD o m X.env (OX o X.env)=OX o X.env
 few:((QK cpos (KQ [e] X.env)).all (λx=>!x.1) && (backToKw cpos (QU [] X.env)).all (λx=>x.1.isSome)
  && decide (([e]:List Expr).length+([]:List Keyword).length+(if ([]:List Keyword).isEmpty then 0 else 1) < 30))=true
 line:(apos.endLine == cpos.line)=true
 trees:QK cpos (KQ [e] X.env)=[(false,OX e X.env)]
structure M2(X:Cx)(o:Expr)(m:Str)(apos:Pos)(e f:Expr)(cpos:Pos):Prop where
 base:RD o m X.env (OX o X.env)=OX o X.env
 few:((QK cpos (KQ [e,f] X.env)).all (λx=>!x.1) && (backToKw cpos (QU [] X.env)).all (λx=>x.1.isSome)
  && decide (([e,f]:List Expr).length+([]:List Keyword).length+(if ([]:List Keyword).isEmpty then 0 else 1) < 30))=true
 line:(apos.endLine == cpos.line)=true
 trees:QK cpos (KQ [e,f] X.env)=[(false,OX e X.env),(false,OX f X.env)]
def FH(H:Hp)(a:JK):Prop:=(∃kvs,Rd H a (.dK kvs)) ∨ ∃kvs,Rd H a (.dT kvs)
theorem Yx{X:Cx}{pins:List (JK×Obj)}{σ:St}{H:Hp}{s:JH}{a:JK}(I:Inv X pins σ H s)(d:FH H a):
 s.TypeIs (.ref a) "dict" /\ (∀b,JV a=.ref b->∃ob,s.heap.get? b=some ob/\ob.dict=none)/\(a == OE)=false:=by
 rcases d with ⟨kvs,e⟩ | ⟨kvs,e⟩
 ·obtain⟨_,hd,vs,_,dd⟩:=Nc I.hok e
  refine⟨dd.typeIs,λb q=>?_,hd⟩
  cases q
  obtain⟨ob,_,_,h1,h2,_⟩:=dd
  exact⟨ob,h1,h2.2.1⟩
 ·obtain⟨_,hd,xs,_,dd⟩:=Pi I.hok e
  refine⟨dd.typeIs,λb q=>?_,hd⟩
  cases q
  obtain⟨ob,_,_,h1,h2,_⟩:=dd
  exact⟨ob,h1,h2.2.1⟩
section
variable {X:Cx} {pins:List (JK×Obj)} {σ:St} {H:Hp} {s:JH} {a:JK} {y d:V} {u r:JD} {o:Option V} {A:LI} {E:JD->JH->Prop}
theorem yG{Q:JD->JH->Prop}(hu:A.units+1 < cLine)(I:Inv X pins σ H s)(g:Er H a y o)(ry:RelV y u)(rd:RelV d r)(h:∀w' s',Inv X pins σ H s'->RelV (o.getD d) w'->Q w' s'):
 KR (KU X.prog X.w) A (call (.builtin "dict.get") [.ref a,u,r]) Q E s:=by
 rcases g with ⟨kvs,k,e,ey,l⟩ | ⟨kvs,k,b,e,ey,eb,l⟩
 ·subst ey
  obtain⟨z,hd,vs,rel,dd⟩:=Nc I.hok e
  refine call_meetsIn QO dd.typeIs PySem.F.entry_dict_get (PySem.F.args_dict_get_3 _ _ _) (meets_dict_get_default (Bo X.prog X.w) a (Lj ry) hd r) ⟨_,dd.mapOf,h _ _ (I.tok _) ?_⟩
  rw[l]
  exact(rel.val k).getD rd
 ·subst ey
  cases (show u=JV b from ry)
  obtain⟨z,hd,xs,rel,dd⟩:=Pi I.hok e
  refine call_meetsIn QO dd.typeIs PySem.F.entry_dict_get (PySem.F.args_dict_get_3 _ _ _) (meetsH_dict_get_default (tupleKind (Bo X.prog X.w)) a b hd r) ⟨SE hu,k,xs,Mj I.hok eb,dd,h _ _ (I.tok _) ?_⟩
  rw[l]
  exact(rel.val k).getD rd
end
def AV(td ty tx:TE):TE:=λσ H Q=>td σ H λx H1=>∃a,x=.ref a/\FH H1 a/\ty σ H1 λy H2=>tx σ H2 λz H3=>∃o,Er H3 a y o/\Q (o.getD z) H3
section
variable {X:Cx} {o e f:Expr} {apos cpos:Pos} {td ty tx:TE}
theorem Jh(hu:X.A.units+1 < cLine)(ho:PE X o td)(he:PE X e ty)(hf:PE X f tx)(m:M2 X o "get" apos e f cpos):PE X (.Call (.Attribute o "get" apos) [e,f] [] cpos) (AV td ty tx):=by
 intro pins s σ H Q I h
 refine wpAny_Call_method m.base m.few m.line RJ QO PySem.F.type_dict_get (Bu (ho pins s σ H _ I h) λu s1 ⟨x,H1,I1,rx,a,ex,d,q1⟩=>?_)
 subst ex
 obtain rfl:u=JV a:=rx
 obtain⟨t1,t2,_⟩:=Yx I1 d
 refine⟨t1,t2,?_⟩
 rw[m.trees]
 refine PN rfl (Calls.evalArgs_plain (QS (Bu (he pins s1 σ H1 _ I1 q1) λiv s2 ⟨y,H2,I2,ry,q2⟩=>
  QS (Bu (hf pins s2 σ H2 _ I2 q2) λfv s3 ⟨z,H3,I3,rz,ov,g,q3⟩=>Calls.spliced_nil ?_))))
 exact yG hu I3 g ry rz λw' s4 I4 rw'=>⟨_,H3,I4,rw',q3⟩
end
section
variable {X:Cx} {pins:List (JK×Obj)} {σ:St} {H:Hp} {s:JH} {a:JK} {kvs:List (Key×V)} {A:LI} {E:JD->JH->Prop}
end
section
variable {X:Cx} {pins:List (JK×Obj)} {σ:St} {H:Hp} {s:JH} {a:JK} {y:V} {u:JD} {A:LI} {E:JD->JH->Prop}
end
end L2
namespace Att
open PySem PySem.W PySem.Calls PyProof.Rows
theorem Nv{P:Params}{h:MQ}:∀(ns:List Int)(vs:List JD),WellAll P h vs (ns.map WData.int)->IntsAre vs ns:=by
 intro ns
 induction ns with
 | nil=>
  intro vs w
  rw[List.map_nil] at w
  cases w
  exact .nil
 | cons n ns ih=>
  intro vs w
  rw[LU] at w
  cases w with
  | cons a b=>
   cases a
   exact .cons _ _ (ih _ b)
theorem jN{l:OpenLaw}{n:Nat}(hn:l.most=some n){P:Params}{h:MQ}{args:List WData}{vals:List JD}(hpre:l.row.toRowW.claim.pre args=true)(hwl:WellAll P h vals args):
 ∃a vs ns,vals=[JV a]/\args=[WData.list (ns.map WData.int)]/\h.get? a=some { cls:=.type "list", data:=.seq vs.toArray }/\IntsAre vs ns/\ns.length<=n:=by
 have hsh:WShape.hasAll [] args [.list .int]=true:=(pre_splitW hpre).1
 have hc:l.pre.holds [] { args:=args }=true:=(pre_splitW hpre).2
 obtain⟨d,r,rfl,h1,h2⟩:=hasAllW_cons hsh
 obtain rfl:=hasAllW_nil h2
 obtain⟨xs,rfl,h3⟩:=hasW_list h1
 obtain⟨ns,rfl⟩:=items_int h3
 have hlen:ns.length<=n:=by
  unfold OpenLaw.pre at hc
  have h4:(WTm.not (.lt (.lit (.int (n:Int))) (.len (.arg 0)))).holds [] { args:=[.list (ns.map .int)] }=true:=by
   have h4:=(holds_andW hc).1
   rw[hn] at h4
   exact h4
  have h5:=condW_of h4 (w_not (w_lt w_lit (w_len_list (w_arg rfl))))
  rw[JF] at h5
  refine Nat.le_of_not_lt λq=>?_
  have q':(n:Int) < ((ns.length:Nat):Int):=by omega
  first
   | (rw[decide_eq_true q'] at h5;exact absurd h5 (by decide))
   | (simp at h5;omega)
 cases hwl with
 | cons w1 w2=>
  cases w2
  cases w1 with
  | list ho hall=>exact⟨_,_,ns,rfl,rfl,ho,Nv ns _ hall,hlen⟩
theorem hV(l:OpenLaw)(args:List WData):l.row.toRowW.claim.post args (.bool true) args=true:=
 postW_of (r:=l.row.toRowW) (X:=(true == true))
  (show WShape.has [] (.bool true) .bool=true by first | rfl | decide | simp[WShape.has,WShape.arms,WShape.armsAll])
  (show (WTm.eq .res (.lit (.bool true))).value [] { args:=args,res:=some (.bool true),after:=args }=some (.bool (true == true)) from w_eq_bool (w_res rfl) w_lit) rfl
theorem attach_call{l:OpenLaw}{n:Nat}{q:KC}{loose:List Str}{XP:(Str->Option JD)->MQ->Prop}{YP:LL->MQ->Prop}{d:DefRec}(hn:l.most=some n)(hdf:d.params.defaults=[])(call:∀(w:LL)(s₀ s₁:JH)(mg mb:Str->Option JD)(fa:JK)(o:Obj)(pm cd doc:JD)(a:JK)(vs:List JD)(ns:List Int),
  Ground q loose [] XP w s₀ mg mb s₁.heap->YP w s₁.heap ->
  s₁.heap.get? fa=some o->o.data=.func (docDef d.name d.params d.body d.scope pm cd doc)->s₁.heap.CodeRec cd d.name->mg d.name=some (.ref fa) ->
  s₁.heap.get? a=some { cls:=.type "list", data:=.seq vs.toArray }->IntsAre vs ns->ns.length<=n->s₁.gens = #[] ->
  RV (KU l.prog w) callerA (.call (.ref fa) ⟨[.ref a],[]⟩) (λr s'=>r=.ok (.ret (.bool true))/\OldK s₁.heap s'.heap/\s'.os=s₁.os/\AllBare s'.gens) s₁):
 WalkO q loose XP YP l.row.toRowW d [] (λf vs=>PySem.call f vs):=by
 intro w s₀ s₁ mg mb G Y fa o pm cd doc dV kV ho hd hcd hD hmg hg args vals as hpre hlay hrd hwl hlo
 obtain rfl:dV=.none:=Dflts.none hD hdf
 obtain rfl:kV=.none:=Dflts.noKw hD
 obtain⟨a,vs,ns,rfl,rfl,hobj,hints,hlen⟩:=jN hn hpre hwl
 refine enter_call (PQ (call w s₀ s₁ mg mb fa o pm cd doc a vs ns G Y ho (fd_plain hd) hcd hmg hobj hints hlen hg) λr s' hq=>?_)
 obtain⟨rfl,h2,h3,h4⟩:=hq
 exact⟨.inl ⟨.bool true,.bool true,[],rfl,λ_=>rfl,.bool true,hV l _,λ_=>⟨List.Pairwise.nil,λ_ hm=>(nomatch hm)⟩⟩,h2,h3,h4⟩
section
variable {prog:KC} {w:LL} {A:LI} {E:JD->JH->Prop} {s:JH} {K:Frag}
end
end Att
namespace L2
open PySem PySem.Spec PyProof.Rows
theorem Th:∀ {vs:List JD} {ns:List Int},IntsAre vs ns->Bb (ns.map V.int) vs
 | _,_,.nil=>.nil
 | _,_,.cons n t h=>.cons ⟨t,rfl⟩ (Th h)
def xO(H:Hp):Prop:=∀b,H b=none ∨ ∃o xs,H b=some (.frz o (.lst xs))
theorem nO{P:KC}{w:LL}{K:JC}{mg mb:Str->Option JD}{CX:Wc}{k:Nat}{fa a:JK}{fd:LB}{x:Str}{sp:Sp}{s₁:JH}{vs:List JD}{ns:List Int}(KX:K.In s₁.heap)(hns:s₁.heap.Ns LC mg)(hb:s₁.heap.Ns builtinsNs mb)(hbb:∀x:Str,x ≠ "__name__" -> mb x=PR x)(hlim:s₁.heap.NoLimit)(hg:s₁.gens = #[])(ha:s₁.heap.get? a=some { cls:=.type "list", data:=.seq vs.toArray })(hi:IntsAre vs ns)(hl:ns.length<=JM)(hr:Ck k callerA)(F:∀base:MQ,K.In base->base.Ns LC mg->Al P w K mg base CX k fa fd [x] sp)(hbind:∀(s:JH)(u:JD),BindsTo s fd ⟨[u],[]⟩ [(x,u)])(hsp:∀H:Hp,xO H->Aw K H a (ns.map V.int)->sp [.ref a] H (λv _=>v=.bl true) λ_ _ _=>False)(hCX:∀H e s',CX.f [] H s₁ (λ_ _ _=>False) e s'->False):
 RV (KU P w) callerA (.call (.ref fa) ⟨[.ref a],[]⟩) (λr s'=>r=.ok (.ret (.bool true))/\OldK s₁.heap s'.heap/\s'.os=s₁.os/\AllBare s'.gens) s₁:=by
 have rv:=Th hi
 have lenV:=hi.length
 -- from an abstract heap in which nothing but the script may be tracked
 have core:∀H:Hp,xO H->Aw K H a (ns.map V.int)->Kg P w H s₁.heap->(∀b,H b≠none->b=a)->(H a≠none->K.lookup a=none) ->
  RV (KU P w) callerA (.call (.ref fa) ⟨[.ref a],[]⟩) (λr s'=>r=.ok (.ret (.bool true))/\OldK s₁.heap s'.heap/\s'.os=s₁.os/\AllBare s'.gens) s₁:=by
  intro H hO hS hok hA hK
  have base_of:∀ {b:JK} {o:Obj},s₁.heap.get? b=some o->H b=none->(Lv s₁.heap H).get? b=some o:=λe n=>Py e n
  have noA:∀ {b:JK} {o:Obj} {es:Array RO} {ep:Nat},s₁.heap.get? b=some o->o.data=.dict es ep->H b=none:=λ{b o es ep} e d=>by
   cases q:H b with
   | none=>rfl
   | some u=>
    have e':b=a:=hA b (by rw[q];simp)
    subst e'
    rw[ha] at e;cases e
    have d':Data.seq vs.toArray _=Data.dict es ep:=d
    cases d'
  have nsK:∀ {b:JK} {m:Str->Option JD},s₁.heap.Ns b m->(Lv s₁.heap H).Ns b m:=λ{b m} ⟨o,es,ep,e,d,r⟩=>⟨o,es,ep,base_of e (noA e d),d,r⟩
  have hKb:K.In (Lv s₁.heap H):=λb o e=>base_of (KX b o e) (by
   cases q:H b with
   | none=>rfl
   | some u=>
    have e':b=a:=hA b (by rw[q];simp)
    subst e'
    rw[hK (by rw[q];simp)] at e;cases e)
  have hM:Mod K mg (Lv s₁.heap H):=⟨hKb,nsK hns,⟨mb,nsK hb,hbb⟩,let ⟨mc,h1,h2⟩:=hlim;⟨mc,nsK h1,h2⟩⟩
  have e0:Uo P w K mg (Lv s₁.heap H) callerA [] s₁ H:=⟨rfl,hM,λb o e=>gQ e,QP (Rx _ _),trivial,λb hb=>absurd (show b∈([]:List JK) from hb) (by simp),hok,.of_eq hg⟩
  refine PQ ((F _ hKb (nsK hns)).run callerA [] s₁ H ⟨[.ref a],[]⟩ [.ref a] [.ref a] _ _ ⟨hr,λ_=>rfl,.inl rfl⟩ e0 (hbind s₁ (.ref a)) (.cons rfl .nil) (hsp H hO hS)) λr s' h=>?_
  cases r with
  | error e=>exact(hCX H e s' h).elim
  | ok fl=>
   cases fl with
   | next=>exact LZ h
   | brk=>exact LZ h
   | cont=>exact LZ h
   | ret u=>
    obtain⟨v,H',os,bare,un,hok',r',q⟩:=h
    have q':v=.bl true:=q
    subst q'
    obtain rfl:u=Value.bool true:=r'
    refine⟨rfl,OldK.of_keep λb o e=>?_,os,bare⟩
    cases q:H b with
    | none=>exact un.keep b o e q (by intro z;exact absurd (show b∈([]:List JK) from z) (by simp)) (by simp)
    | some u=>
     rcases hO b with z | ⟨ob,xs,z⟩
     ·rw[q] at z;cases z
     ·have z2:=un.frzs b ob _ z
      obtain⟨e1,_⟩:=hok b _ z
      obtain⟨e2,_⟩:=hok' b _ z2
      rw[e] at e1;cases e1
      exact e2
 cases hk:K.lookup a with
 | some o=>
  -- the script is one of the module's own objects
  have e:=KX a o hk
  rw[ha] at e
  cases e
  refine core (λ_=>none) (λ_=>.inl rfl) (.inr ⟨_,vs.toArray,_,hk,rfl,rfl,rfl,by rw[KP,lenV];exact hl,by simpa using rv⟩) (λb u z=>by have z':(none:Option HO)=some u:=z;cases z') (λb z=>absurd rfl z) λz=>absurd rfl z
 | none=>
  refine core (λb=>if b=a then some (.frz { cls:=.type "list", data:=.seq vs.toArray } (.lst (ns.map V.int))) else none) (λb=>?_) (.inl (.inr ⟨{ cls:=.type "list", data:=.seq vs.toArray },if_pos rfl⟩)) (λb u z=>?_) (λb z=>?_) λ_=>hk
  ·by_cases hb:b=a
   ·exact .inr ⟨_,_,if_pos hb⟩
   ·exact .inl (if_neg hb)
  ·by_cases hb:b=a
   ·have z':=(if_pos hb).symm.trans z
    cases z'
    subst hb
    exact⟨ha,by rw[JF];exact hl,vs,_,rv,ha⟩
   ·have z':=(if_neg hb).symm.trans z
    cases z'
  ·by_cases hb:b=a
   ·exact hb
   ·exact absurd (if_neg hb) z
theorem sR{l:PySem.W.OpenLaw}{n k:Nat}{q:KC}{loose:List Str}{XP:(Str->Option JD)->MQ->Prop}{YP:LL->MQ->Prop}{d:DefRec}{K:Params->JC}{CX:LL->Wc}{sp:LL->Sp}{x:Str}(hn:l.most=some n)(hn2:n<=JM)(hdf:d.params.defaults=[])(hr:Ck k callerA)(hY:∀(w:LL)(h:MQ),YP w h->(K w.params).In h)(F:∀(w:LL)(mg:Str->Option JD)(fa:JK)(h:MQ),(K w.params).In h->h.Ns LC mg->mg d.name=some (.ref fa) ->
  ∃fd:LB,(∀(s:JH)(u:JD),BindsTo s fd ⟨[u],[]⟩ [(x,u)]) /\
   ∀base:MQ,(K w.params).In base->base.Ns LC mg->Al l.prog w (K w.params) mg base (CX w) k fa fd [x] (sp w))(hsp:∀(w:LL)(H:Hp)(a:JK)(ns:List Int),ns.length<=n->xO H->Aw (K w.params) H a (ns.map V.int)->sp w [.ref a] H (λv _=>v=.bl true) λ_ _ _=>False)(hCX:∀(w:LL)(H:Hp)(s:JH)(e:JD)(s':JH),(CX w).f [] H s (λ_ _ _=>False) e s'->False):
 PySem.W.WalkO q loose XP YP l.row.toRowW d [] (λf vs=>PySem.call f vs):=by
 refine Att.attach_call hn hdf λw s₀ s₁ mg mb fa o pm cd doc a vs ns G Y ho hd hcd hmg hobj hints hlen hg=>?_
 have KX:=hY w _ Y
 obtain⟨fd,hb,hF⟩:=F w mg fa _ KX G.T.g hmg
 exact nO KX G.T.g G.T.b G.T.builtins G.T.nolimit hg hobj hints (KS hlen hn2) hr hF hb (λH hO hS=>hsp w H a ns hlen hO hS) λH e s'=>hCX w H s₁ e s'
def inClass(s:OQ)(j:Nat):OQ:=match s with
 | .ClassDef _ _ _ body _ _ _ _ _ _ _=>body.getD j (.Pass ⟨0,0,0,0⟩)
 | _=>.Pass ⟨0,0,0,0⟩
def Dw(s:OQ):Arguments:=match s with
 | .FunctionDef _ a _ _ _ _ _ _ _ _=>a
 | _=>{ posonlyargs:=[],args:=[],vararg:=none,kwonlyargs:=[],kw_defaults:=[],kwarg:=none,defaults:=[] }
def Bg(s:OQ):List OQ:=match s with
 | .FunctionDef _ _ b _ _ _ _ _ _ _=>b
 | _=>[]
def Ad(s:OQ):Scope:=match s with
 | .FunctionDef _ _ _ _ _ _ sc _ _ _=>sc
 | _=>{ kind:=.function,names:=[],isGenerator:=false,isCoroutine:=false }
abbrev Bi:Wc:=⟨λ_ _ _ _ _ _=>False,false⟩
abbrev Jd:Wc:=⟨λ_ _ _ _ _ _=>False,true⟩
abbrev E0:XK:=λ_ _ _=>False
theorem Dh{X:Cx}(hc:X.calm=true:=by rfl):Hk Bi X E0:=⟨hc,(λz=>nomatch z),λ_ _ _ _ _ _ _ h=>h.elim⟩
theorem Sq{X:Cx}(hc:X.calm=true:=by rfl)(hs:X.sx=true:=by rfl):Hk Jd X E0:=⟨hc,(λ_=>hs),λ_ _ _ _ _ _ _ h=>h.elim⟩
structure Dj(K:JC)(x qual:Str)(st:OQ)(f:JK)(fd:LB):Prop where
 ex:∃(oc:JD)(od:Option JK)(kV doc pm:JD)(an:Option JK)(cdv ct:JD)(osl:Array (Option JD)),
  fd=PY x qual (Dw st) (Bg st) (Ad st) .none kV doc pm an cdv ct/\K.lookup f=some ⟨oc,od,.func fd,osl⟩/\PySem.W.codeIn K cdv qual=true
 kp:JR K (.ref f)=true
section
variable {P:KC} {w:LL} {K:JC} {mg:Str->Option JD} {base:MQ}
theorem Dj.ok{x qual:Str}{st:OQ}{f:JK}{fd:LB}{N ps:List Str}{k:Nat}{sp:Sp}(F:Dj K x qual st f fd)(S:An N ps (Ad st))(len:∀vs H Q E,sp vs H Q E->vs.length=ps.length)(hbody:∀(cdv:JD)(A:LI)(outer:List Env)(s:JH)(H:Hp)(vs:List V)(Q:VK)(E:XK),Ck k (A.deeper (envOfC qual (Ad st) s.heap.objs.size f cdv))->sp vs H Q E ->
  ∃t,Hy (Ex Bi P w K mg base N qual (Ad st) f cdv A outer s H E).nox (Bg st) t/\t { nx:=λ_ H'=>Q .non H',rt:=Q } (start N vs) H):Al P w K mg base Bi (k+1) f fd ps sp:=by
 obtain⟨oc,od,kV,doc,pm,an,cdv,ct,osl,rfl,lk,hcd⟩:=F.ex
 refine Xg lk hcd S len λA outer s H vs Q E hr hsp=>?_
 obtain⟨t,h,q⟩:=hbody cdv A outer s H vs Q E hr hsp
 exact⟨t,h.nox,q⟩
theorem Dj.ok1{x qual:Str}{st:OQ}{f:JK}{fd:LB}{N ps:List Str}{k:Nat}{sp:Sp}(F:Dj K x qual st f fd)(S:An N ps (Ad st))(len:∀vs H Q E,sp vs H Q E->vs.length=ps.length)(hbody:∀(cdv:JD)(A:LI)(outer:List Env)(s:JH)(H:Hp)(vs:List V)(Q:VK)(E:XK),Ck k (A.deeper (envOfC qual (Ad st) s.heap.objs.size f cdv))->sp vs H Q E ->
  ∃t,Hy (Ex Jd P w K mg base N qual (Ad st) f cdv A outer s H E).nox (Bg st) t/\t { nx:=λ_ H'=>Q .non H',rt:=Q } (start N vs) H):Al P w K mg base Jd (k+1) f fd ps sp:=by
 obtain⟨oc,od,kV,doc,pm,an,cdv,ct,osl,rfl,lk,hcd⟩:=F.ex
 refine Xg lk hcd S len λA outer s H vs Q E hr hsp=>?_
 obtain⟨t,h,q⟩:=hbody cdv A outer s H vs Q E hr hsp
 exact⟨t,h.nox,q⟩
theorem Dj.binds{x qual:Str}{st:OQ}{f:JK}{fd:LB}{ps:List Str}(F:Dj K x qual st f fd)(h:∀(kV doc pm:JD)(an:Option JK)(cdv ct:JD)(us:List JD),us.length=ps.length->bindArgs (PY x qual (Dw st) (Bg st) (Ad st) .none kV doc pm an cdv ct) ⟨us,[]⟩=pure (ps.zip us)):Binds K fd ps []:=by
 obtain⟨oc,od,kV,doc,pm,an,cdv,ct,osl,rfl,lk,hcd⟩:=F.ex
 exact .all (h kV doc pm an cdv ct)
theorem oG{x qual:Str}{st:OQ}{f:JK}{oc:JD}{od an:Option JK}{osl:Array (Option JD)}{kV doc pm cdv ct:JD}(l:K.lookup f=some ⟨oc,od,.func (PY x qual (Dw st) (Bg st) (Ad st) .none kV doc pm an cdv ct),osl⟩)(c:PySem.W.codeIn K cdv qual=true)(k:JR K (.ref f)=true):Dj K x qual st f (PY x qual (Dw st) (Bg st) (Ad st) .none kV doc pm an cdv ct):=⟨⟨oc,od,kV,doc,pm,an,cdv,ct,osl,rfl,l,c⟩,k⟩
end
theorem Fm{A:LI}{k:Nat}(hr:Ck k A):A.units+1 < cLine:=QL (Nat.add_le_add_left (by decide:1<=64) _) hr.units
section
variable {X:Cx}
theorem pv(i:Nat){x:Str}{pos:Pos}(hN:X.N[i]? = some x:=by rfl)(hv:HB X.env.scope x:=by first | exact Or.inl rfl | exact Or.inr (Or.inl rfl) | exact Or.inr (Or.inr rfl))(hd:(x == ("__debug__" : Str))=false:=by decide)(hcd:(x == ("__classdict__" : Str))=false:=by decide):PE X (.Name x pos) (CK i):=xS hN hv hd hcd
end
theorem Eb{A B:Prop}(h:B):if false=true then A else B:=by
 rw[if_neg JN]
 exact h
theorem Ju{A B:Prop}(h:A):if true=true then A else B:=by
 rw[if_pos rfl]
 exact h
theorem Br{c A B:Prop}[Decidable c](h1:c->A)(h2:¬ c->B):if c then A else B:=by
 by_cases h:c
 ·rw[if_pos h]
  exact h1 h
 ·rw[if_neg h]
  exact h2 h
theorem gZ{c A B:Prop}[Decidable c](hc:c)(h:B):if (!decide c)=true then A else B:=by
 rw[decide_eq_true hc]
 exact Eb h
def Am(H H':Hp):Prop:=∀b o,H b=some o->H' b=some o
theorem Am.refl(H:Hp):Am H H:=λ_ _ h=>h
theorem Am.trans{H H1 H2:Hp}(a:Am H H1)(b:Am H1 H2):Am H H2:=λc o h=>b c o (a c o h)
theorem Am.free{H H':Hp}(e:Am H H'){l:JK}(h:H' l=Option.none):H l=Option.none:=by
 cases q:H l with
 | none=>rfl
 | some o=>
  rw[e l o q] at h
  cases h
theorem Am.seq{K:JC}{H H':Hp}{a:JK}{xs:List V}(e:Am H H')(h:Aw K H a xs):Aw K H' a xs:=by
 rcases h with (h | ⟨o,h⟩) | h
 ·exact .inl (.inl (e _ _ h))
 ·exact .inl (.inr ⟨o,e _ _ h⟩)
 ·exact .inr h
section
variable {X:Cx}
end
section
variable {κ:Type} [DecidableEq κ]
end
section
variable {X:Cx} {pins:List (JK×Obj)} {σ:St} {H:Hp} {s:JH} {h':MQ}
theorem Inv.adopt{D:JK}{o:HO}(I:Inv X pins σ H s)(hn:H D=none)(hL:D≠X.env.locals)(h0:X.s₀.heap.objs.size<=D)(hc:∀x c,X.env.cells.lookup x=some c->c≠D)(hp:∀p∈X.pn++pins,p.1≠D)(new:Cg X.prog X.w (upd H D o) s.heap D o):Inv X pins σ (upd H D o) s:=by
 have ne:∀b u,H b=some u->b≠D:=λb u e=>Ai e hn
 refine⟨I.ok,I.os,I.bare,⟨I.base.keep,I.base.slot,λb u e n hx=>?_,I.base.there,λb xs e=>?_,λb u v e=>?_,λb ps e=>?_⟩,I.loc,I.cell,?_,λx c e=>?_,λp hp'=>?_,λb u e=>?_,I.len⟩
 ·rw[Aj (KL (LD (JW e) h0))];exact I.base.free b u e n hx
 ·have q:=I.base.tups b xs e
  rw[Aj (ne _ _ q)];exact q
 ·have q:=I.base.frzs b u v e
  rw[Aj (ne _ _ q)];exact q
 ·obtain⟨m,q⟩:=I.base.tbls b ps e
  exact⟨m,by rw[Aj (ne _ _ q)];exact q⟩
 ·rw[Aj (LH hL)];exact I.free
 ·rw[Aj (hc x c e)];exact I.freeC x c e
 ·obtain⟨e,n,r⟩:=I.pin p hp'
  exact⟨e,by rw[Aj (hp p hp')];exact n,r⟩
 ·by_cases hb:b=D
  ·subst hb;rw[Aa] at e;cases e;exact new
  ·rw[Aj hb] at e
   exact(I.hok b u e).stay (λ_ _ _ q=>q) (λc q=>by rw[Aj (ne _ _ q)];exact q) λc xs q=>by rw[Aj (ne _ _ q)];exact q
theorem Inv.turns{t':Nat}{ch:List JK}(I:Inv X pins σ H s)(k:∀b o,b∉ch->s.heap.get? b=some o->h'.get? b=some o)(hf:∀b∈ch,De X pins H b):
 Inv X pins σ H { s with heap:=h',toks:=t' }:=by
 have nit:∀b u,H b=some u->b∉ch:=λb u e z=>by rw[(hf b z).1] at e;cases e
 refine I.step (g':=s.gens) (d':=s.drawn) (ch:=ch) (λb hb=>?_) (λb o _ _ hc e _=>k b o hc e) (λb o _ _ hc e _=>⟨o.slots,k b o hc e⟩) (λ_ _ _ _ n=>n)
  (λb o hc e=>⟨o,k b o hc e⟩) (λ_ _ e=>e) (λ_ _ _ e=>e) (λb ps e=>⟨#[],by rw[e];simp⟩) (λm hm=>?_) (λb u e=>?_) I.bare
 ·obtain⟨f0,f1,f2,f3,f4,f5⟩:=hf b hb
  exact⟨f3,f1,f4,f5⟩
 ·obtain⟨o,es,ep,ho,r⟩:=hm
  exact⟨o,es,ep,k _ o (λz=>(hf _ z).2.1 rfl) ho,r⟩
 ·refine(I.hok b u e).stay (λc v hc q=>k c v ?_ q) (λ_ q=>q) λ_ _ q=>q
  rcases hc with z | z
  ·rw[z];exact nit b u e
  ·exact nit c _ z
end
theorem Ko{env:Env}(f:Str×NameKind->List (Str×JK)->Sem (ForInStep (List (Str×JK))))(hf:∀name kind cs,f (name,kind) cs=if kind == .free then (do let a <- cellOf env name;pure (.yield ((name,a)::cs))) else pure (.yield cs)):
 ∀(names:List (Str×NameKind))(cs:List (Str×JK)),(∀n,(n,MP)∈names->∃c,env.cells.lookup n=some c)->(∀x c,cs.lookup x=some c->env.cells.lookup x=some c) ->
  ∃cl,forIn names cs f=pure cl/\(∀x c,cl.lookup x=some c->env.cells.lookup x=some c)/\(∀x,(∃c,cs.lookup x=some c)∨(x,MP)∈names->∃c,cl.lookup x=some c)
 | [],cs,_,h=>⟨cs,rfl,h,λx hx=>hx.elim (λz=>z) λz=>nomatch z⟩
 | (n,k)::r,cs,hn,h=>by
  by_cases hk:k=.free
  ·subst hk
   obtain⟨c,hc⟩:=hn n JS
   obtain⟨cl,e,h1,h2⟩:=Ko f hf r ((n,c)::cs) (λm hm=>hn m (JQ _ hm)) (λx d hx=>by
    by_cases hxn:x=n
    ·subst hxn
     rw[KN,beq_self_eq_true] at hx
     cases hx
     exact hc
    ·rw[KN,beq_eq_false_iff_ne.mpr hxn] at hx
     exact h x d hx)
   refine⟨cl,?_,h1,λx hx=>?_⟩
   ·rw[List.forIn_cons,hf]
    have e1:cellOf env n=pure c:=by unfold cellOf;rw[hc]
    rw[e1]
    exact e
   ·rcases hx with ⟨d,hd⟩ | hx
    ·refine h2 x (.inl ?_)
     by_cases hxn:x=n
     ·subst hxn
      exact⟨c,by rw[KN,beq_self_eq_true]⟩
     ·exact⟨d,by rw[KN,beq_eq_false_iff_ne.mpr hxn];exact hd⟩
    ·rcases JP.mp hx with e2 | hx
     ·obtain rfl:x=n:=(Prod.mk.inj e2).1
      exact h2 x (.inl ⟨c,by rw[KN,beq_self_eq_true]⟩)
     ·exact h2 x (.inr hx)
  ·have hkb:(k == MP)=false:=beq_eq_false_iff_ne.mpr hk
   obtain⟨cl,e,h1,h2⟩:=Ko f hf r cs (λm hm=>hn m (JQ _ hm)) h
   refine⟨cl,?_,h1,λx hx=>h2 x ?_⟩
   ·rw[List.forIn_cons,hf,hkb]
    exact e
   ·rcases hx with hx | hx
    ·exact .inl hx
    ·rcases JP.mp hx with e2 | hx
     ·cases e2
      exact absurd rfl hk
     ·exact .inr hx
theorem Zx{env:Env}{scope:Scope}(hn:∀n,(n,MP)∈scope.names->∃c,env.cells.lookup n=some c):
 ∃cl,closureFor scope env=pure cl/\(∀x c,cl.lookup x=some c->env.cells.lookup x=some c)/\∀x,(x,MP)∈scope.names->∃c,cl.lookup x=some c:=by
 obtain⟨cl,e,h1,h2⟩:=Ko (env:=env) (λx cs=>match x with | (name,kind)=>if kind == .free then (do let a <- cellOf env name;pure (.yield ((name,a)::cs))) else pure (.yield cs)) (λ_ _ _=>rfl) scope.names [] hn (λx c z=>nomatch z)
 refine⟨cl,?_,h1,λx hx=>h2 x (.inr hx)⟩
 unfold closureFor
 exact Eq.trans (congrArg (λt:Sem (List (Str×JK))=>t >>= λr=>pure r) e) rfl
def IN(scope sc:Scope):Scope:=
 { scope with names:=scope.names.map λ(n,k)=>if (k == .free && sc.kind == .function && sc.names.lookup n == some .cell) then (n,.cell) else (n,k) }
def Ow(sc scope:Scope):Bool:=
 decide (scope.kind=.function) && (scope.names.all (λp=>decide (p.2 ≠ .cell)) && (scope.names.all (λp=>decide (p.2=.local->scope.names.lookup p.1=some .local)) &&
 scope.names.all (λp=>decide (p.2=.free->(sc.names.lookup p.1=some .cell∨sc.names.lookup p.1=some .free)))))
def vV(N:List Str)(scope:Scope)(fr:List (Str×Nat)):Bool:=fr.all λp=>decide (N[p.2]? = some p.1) && decide (scope.names.lookup p.1=some .free)
structure Ou(sc scope:Scope):Prop where
 kind:scope.kind=.function
 cell:∀p∈scope.names,p.2 ≠ .cell
 loc:∀p∈scope.names,p.2=.local->scope.names.lookup p.1=some .local
 free:∀n,(n,MP)∈scope.names->sc.names.lookup n=some .cell∨sc.names.lookup n=some .free
theorem hZ{sc scope:Scope}(h:Ow sc scope=true):Ou sc scope:=by
 unfold Ow at h
 rw[ME,ME,ME,QE,QE,QE] at h
 obtain⟨h1,h2,h3,h4⟩:=h
 exact⟨of_decide_eq_true h1,λp hp=>of_decide_eq_true (h2 p hp),λp hp=>of_decide_eq_true (h3 p hp),λn hn=>of_decide_eq_true (h4 (n,.free) hn) rfl⟩
theorem lookup_mem{α:Type}{x:Str}{v:α}:∀ {l:List (Str×α)},l.lookup x=some v->(x,v)∈l
 | [],h=>nomatch h
 | (n,k)::r,h=>by
  rw[KN] at h
  by_cases hx:x=n
  ·subst hx
   rw[beq_self_eq_true] at h
   cases h
   exact JS
  ·rw[beq_eq_false_iff_ne.mpr hx] at h
   exact JQ _ (lookup_mem h)
theorem Jm{env:Env}{x:Str}:∀ {names:List (Str×NameKind)} {k:NameKind},
 (names.map λ(n,k)=>if (k == MP && env.scope.kind == .function && env.kindOf n == some .cell) then (n,NameKind.cell) else (n,k)).lookup x=some k ->
 (k=.cell/\((x,MP)∈names∨(x,NameKind.cell)∈names))∨(x,k)∈names
 | [],_,h=>nomatch h
 | (n,j)::r,k,h=>by
  have ih:=@Jm env x r k
  rw[LU] at h
  by_cases hc:(j == MP && env.scope.kind == .function && env.kindOf n == some .cell)=true
  ·simp only[hc,if_true] at h
   rw[KN] at h
   by_cases hx:x=n
   ·subst hx
    rw[beq_self_eq_true] at h
    cases h
    have hj:j=.free:=by
     rw[ME,ME] at hc
     exact beq_iff_eq.mp hc.1.1
    subst hj
    exact .inl ⟨rfl,.inl JS⟩
   ·rw[beq_eq_false_iff_ne.mpr hx] at h
    rcases ih h with ⟨e,z | z⟩ | z
    ·exact .inl ⟨e,.inl (JQ _ z)⟩
    ·exact .inl ⟨e,.inr (JQ _ z)⟩
    ·exact .inr (JQ _ z)
  ·simp only[hc] at h
   rw[if_neg JN,KN] at h
   by_cases hx:x=n
   ·subst hx
    rw[beq_self_eq_true] at h
    cases h
    exact .inr JS
   ·rw[beq_eq_false_iff_ne.mpr hx] at h
    rcases ih h with ⟨e,z | z⟩ | z
    ·exact .inl ⟨e,.inl (JQ _ z)⟩
    ·exact .inl ⟨e,.inr (JQ _ z)⟩
    ·exact .inr (JQ _ z)
theorem Lo{env:Env}{x:Str}:∀ {names:List (Str×NameKind)},names.lookup x=some .free ->
 (names.map λ(n,k)=>if (k == MP && env.scope.kind == .function && env.kindOf n == some .cell) then (n,NameKind.cell) else (n,k)).lookup x=some .cell ∨
 (names.map λ(n,k)=>if (k == MP && env.scope.kind == .function && env.kindOf n == some .cell) then (n,NameKind.cell) else (n,k)).lookup x=some .free
 | [],h=>nomatch h
 | (n,j)::r,h=>by
  have ih:=@Lo env x r
  rw[LU]
  rw[KN] at h
  by_cases hx:x=n
  ·subst hx
   rw[beq_self_eq_true] at h
   cases h
   by_cases hc:(MP == MP && env.scope.kind == .function && env.kindOf x == some .cell)=true
   ·simp only[hc,if_true]
    rw[KN,beq_self_eq_true]
    exact .inl rfl
   ·simp only[hc]
    rw[if_neg JN,KN,beq_self_eq_true]
    exact .inr rfl
  ·rw[beq_eq_false_iff_ne.mpr hx] at h
   by_cases hc:(j == MP && env.scope.kind == .function && env.kindOf n == some .cell)=true
   ·simp only[hc,if_true]
    rw[KN,beq_eq_false_iff_ne.mpr hx]
    exact ih h
   ·simp only[hc]
    rw[if_neg JN,KN,beq_eq_false_iff_ne.mpr hx]
    exact ih h
theorem Xa{prog:KC}{w:LL}{A:LI}{R:Result->JH->Prop}{s:JH}{elt target iter:Expr}{ifs:List Expr}{scope:Scope}{pos:Pos}{it acc:JD}{env:Env}(EW:JD->JH->Prop)(hE:∀x s',EW x s'->notedBy (KU prog w) A env (λy s''=>R (.error y) s'') x s')(I:Nat->JH->Prop)(turn:∀n s,I n s->KR (KU prog w) A (OW it) (λr s₁=>match r with
  | none=>R (.ok .next) s₁
  | some v=>KR (KU prog w) A (letOwnedTupleGo target it v) (λ_ s₀=>KR (KU prog w) A (assign target env v) (λ_ s₂=>
   KR (KU prog w) A (forIn ifs true λc r=>if r=true then do let ok <- isTrue c env (OX c env);pure (ForInStep.yield ok) else pure (ForInStep.yield r)) (λok s₃=>
    if ok=true then KR (KU prog w) A (OX elt env) (λx s₄=>
     KR (KU prog w) A (call (.builtin "list.append") [acc,x]) (λ_ s₅=>∃m,m < n/\I m s₅) (λ_ _=>False) s₄) EW s₃
    else ∃m,m < n/\I m s₃) EW s₂) EW s₀) (λ_ _=>False) s₁) (λ_ _=>False) s)(n:Nat)(h:I n s):RV (KU prog w) A (.compLoop (.ListComp elt [⟨target,iter,ifs,0⟩] scope pos) 0 it acc env) R s:=by
 refine codeAny_loop rfl I (λn s hI=>?_) n h
 show KR _ A ((compTurn (.ListComp elt [⟨target,iter,ifs,0⟩] scope pos) 0 it acc env).onRaise (λx=>do noteFrame x env;theTreesLotGoes x)) _ _ s
 refine wpAny_noted ?_
 rw[compTurn_list]
 refine JA (RA (JA (MY (turn n s hI) (λr s₁ h₁=>?_) λ_ _ h'=>h'.elim)))
 cases r with
 | none=>exact JO h₁
 | some v=>
  refine JA (MY h₁ (λ_ s₀ h₀=>?_) λ_ _ h'=>h'.elim)
  refine JA (MY h₀ (λ_ s₂ h₂=>JA (MY h₂ (λok s₃ h₃=>?_) hE)) hE)
  cases ok with
  | false=>exact JO ⟨rfl,h₃⟩
  | true=>
   exact JA (JA (MY h₃ (λx s₄ h₄=>JA (MY h₄ (λ_ s₅ h₅=>JO (JO ⟨rfl,h₅⟩)) λ_ _ h'=>h'.elim)) hE))
def Jy(X:Cx)(scope:Scope)(N:List Str)(cl:List (Str×JK))(C:JK)(s:JH)(H:Hp)(fp:List JK)(pins:List (JK×Obj)):Cx where
 prog:=X.prog
 w:=X.w
 K:=X.K
 mg:=X.mg
 base:=X.base
 A:=X.A
 N:=N
 s₀:=s
 H₀:=H
 env:=compEnvC scope cl C X.env
 outer:=X.stack
 stack:=X.stack
 ex:=fp
 fn:=λ_=>false
 calm:=X.calm
 sx:=X.sx
 pn:=X.pn++pins
 xe:=λ_ _=>False
def FW(Y:Cx)(ifs:List Expr)(tc:TT):Prop:=
 ∀(pins:List (JK×Obj))(s:JH)(σ:St)(H:Hp)(Q:Bool->Hp->Prop),Inv Y pins σ H s->tc σ H Q ->
  KR (KU Y.prog Y.w) Y.A (forIn ifs true λc r=>if r=true then do let ok <- isTrue c Y.env (OX c Y.env);pure (ForInStep.yield ok) else pure (ForInStep.yield r)) (TP Y pins σ Q) Y.xe s
def Po:TT:=λ_ H Q=>Q true H
theorem Ds{Y:Cx}:FW Y [] Po:=λpins s σ H Q I h=>wpAny_tests_nil ⟨H,I,h⟩
theorem Us{Y:Cx}{c:Expr}{tc:TT}(h:PT Y c tc):FW Y [c] tc:=λpins s σ H Q I hw=>wpAny_tests_one (h pins s σ H Q I hw)
def Zf(n:Nat)(g:TG):Prop:=∀v σ H (Q Q':St->Hp->Prop),(∀σ2 H2,Q σ2 H2->σ2.length=σ.length->(∀j,n<=j->σ2[j]? = σ[j]?)->Q' σ2 H2)->g v σ H Q->g v σ H Q'
def eA(n:Nat)(g:rM):Prop:=∀v σ H (Q Q':St->Hp->Prop),(∀σ2 H2,Q σ2 H2->σ2.length=σ.length->(∀j,n<=j->σ2[j]? = σ[j]?)->Q' σ2 H2)->g v σ H Q->g v σ H Q'
theorem Bm{n i:Nat}(h:i < n):Zf n (Kk i):=λv σ H Q Q' f q=>f _ _ q (by simp) λj hj=>NJ (by omega)
theorem Ht{n:Nat}:eA n CC:=λv σ H Q Q' f q=>⟨q.1,f _ _ q.2 rfl λ_ _=>rfl⟩
theorem Cs{n:Nat}{t:TG}{u:rM}(h1:Zf n t)(h2:eA n u):eA n (xC t u):=λvs σ H Q Q' f q=>by
 obtain⟨v,r,e,q⟩:=q
 exact⟨v,r,e,h1 _ _ _ _ _ (λσ' H' q1 l1 k1=>h2 _ _ _ _ _ (λσ2 H2 q2 l2 k2=>f σ2 H2 q2 (l2.trans l1) λj hj=>(k2 j hj).trans (k1 j hj)) q1) q⟩
theorem Kb{K:JC}{n m:Nat}{t:rM}(h:eA n t):Zf n (EK K m t):=λv σ H Q Q' f q=>by
 obtain⟨a,xs,e,hq,hl,q⟩:=q
 exact⟨a,xs,e,hq,hl,h _ _ _ _ _ f q⟩
structure gR(Y:Cx)(tg:Expr)(ifs:List Expr)(elt:Expr)(g:TG)(tc:TT)(te:TE):Prop where
 tg:PG Y tg g
 ts:FW Y ifs tc
 el:PE Y elt te
def stC(n:Nat)(fr:List (Str×Nat))(σ:St):St:=KZ n none++fr.map λp=>(σ[p.2]?).join
def Eu(n:Nat)(fr:List (Str×Nat))(g:TG)(tc:TT)(te:TE)(σ:St)(J:It)(H:Hp)(F:List V->Hp->Prop):Prop:=
 ∃W:Nat->Nat->List V->Hp->Prop,(∃m,W 0 m [] H)/\∀i m ys H,W i m ys H ->
  (J.stop i H/\F ys H)∨(J.go i H/\∃Nx:List V->Hp->Prop,(∀ys' H',Nx ys' H'->∃m',m' < m/\W (i+1) m' ys' H')/\∀x H',J.yld i H x H'->g x (stC n fr σ) H' λσ2 H2=>tc σ2 H2 λb H3=>
   if b=true then te σ2 H3 λy H4=>ys.length < JM/\Nx (ys++[y]) H4 else Nx ys H3)
def wM(n:Nat)(fr:List (Str×Nat))(wi:TI)(g:TG)(tc:TT)(te:TE):TE:=λσ H Q=>wi σ H λJ H1=>Eu n fr g tc te σ J H1 λys H2=>∀p,H2 p=none->Q (.ref p) (upd H2 p (.lst ys))
abbrev lobj(its:List JD)(n:Nat):Obj:={ cls:=.type "list", data:=.seq its.toArray n }
section
variable {X:Cx} {elt iter tg:Expr} {ifs:List Expr} {scope sc:Scope} {pos:Pos} {own N:List Str} {fr:List (Str×Nat)} {g:TG} {tc:TT} {te:TE} {wi:TI}
theorem jM{pins:List (JK×Obj)}{σ:St}{H:Hp}{s:JH}{cl:List (Str×JK)}{C:JK}{fp:List JK}{N':List Str}(I:Inv X pins σ H s)(ho:Ou X.env.scope scope)(h1:∀x c,cl.lookup x=some c->X.env.cells.lookup x=some c)(h2:∀x,(x,MP)∈scope.names->∃c,cl.lookup x=some c)(hf:∀b∈fp,De X pins H b)(hlt:∀b∈fp,b < s.heap.objs.size)(hC:s.heap.objs.size<=C):
 (Jy X scope N' cl C s H fp pins).Ok where
 mod:=I.ok.mod
 kind:=ho.kind
 glob:=I.ok.glob
 blt:=I.ok.blt
 above:=hC
 inj:=λx y c e1 e2=>I.ok.inj x y c (h1 x c e1) (h1 y c e2)
 has:=λx hx=>by
  have go:∀k,(k=.cell∨k=.free)->(relabel scope X.env).names.lookup x=some k->∃c,cl.lookup x=some c:=λk hk e=>by
   rcases Jm (env:=X.env) e with ⟨_,z | z⟩ | z
   ·exact h2 x z
   ·exact absurd rfl (ho.cell _ z)
   ·rcases hk with rfl | rfl
    ·exact absurd rfl (ho.cell _ z)
    ·exact h2 x z
  rcases hx with hx | hx
  ·exact go _ (.inl rfl) hx
  ·exact go _ (.inr rfl) hx
 cab:=λx c e=>absurd e JN
 hd:=I.ok.hd
 st:=I.ok.st
 frames:=I.ok.frames
 stk:=.inl rfl
 exf:=λb hb=>⟨KL (LD (hlt b hb) hC),λx c e=>(hf b hb).2.2.2.2.1 x c (h1 x c e)⟩
 bs:=I.bs
 bsz:=KS I.ok.bsz I.sz
 noex:=λb o e hb=>by
  rcases (hf b hb).2.2.2.1 with z | z
  ·exact I.ok.noex b o e z
  ·exact absurd (LD (LD (JW e) I.ok.bsz) z) (PK _)
 exfs:=λb hb z=>by
  rcases JP.mp (I.stkSub b z) with e | e
  ·exact(hf b hb).2.1 e
  ·exact(hf b hb).2.2.1 e
 funs:=I.stack
 frf:=I.stkFree
theorem Ws{pins:List (JK×Obj)}{σ:St}{H2:Hp}{s2:JH}{cl:List (Str×JK)}{fp:List JK}{it:JK}{tn:Nat->MQ->Prop}{J:It}{F:List V->Hp->Prop}{RR:JD->JK->Result->JH->Prop}{E:JD->JH->Prop}(xw:Cx->JD->JH->Prop)(hcalm:X.calm=true)(ho:Ou X.env.scope scope)(hfr:∀p∈fr,X.N[p.2]? = some p.1/\scope.names.lookup p.1=some .free)(hG:Zf own.length g)(hY:∀cl C s H fp pins,gR ((Jy X scope (own++fr.map (·.1)) cl C s H fp pins).wish (xw (Jy X scope (own++fr.map (·.1)) cl C s H fp pins))) tg ifs elt g tc te)(I2:Inv X pins σ H2 s2)(T:Turn X.prog X.w X.K tg J fp it tn)(st2:tn 0 s2.heap)(f2:∀b∈fp,De X pins H2 b)(rd:Eu own.length fr g tc te σ J H2 F)(h1:∀x c,cl.lookup x=some c->X.env.cells.lookup x=some c)(h2:∀x,(x,MP)∈scope.names->∃c,cl.lookup x=some c)(fin:∀D C s' H' ys its n' m,Inv X pins σ H' s'->De X pins H' D->X.s₀.heap.objs.size<=D->s'.heap.get? D=some (lobj its n')->Bb ys its->ys.length<=JM->De X pins H' C->X.s₀.heap.objs.size<=C->C≠D->s'.heap.Ns C m->F ys H'->RR (.ref D) C (.ok .next) s')(hE:∀D C x s',s2.heap.objs.size<=C->xw (Jy X scope (own++fr.map (·.1)) cl C s2 H2 fp pins) x s'->notedBy (KU X.prog X.w) X.A (compEnvC scope cl C X.env) (λy s''=>RR (.ref D) C (.error y) s'') x s'):
 KR (KU X.prog X.w) X.A (newList []) (λacc s₃=>KR (KU X.prog X.w) X.A (newFunctionEnv scope X.env.globals cl [] X.env.qual none .none (some X.env)) (λcenv s₄=>
  RV (KU X.prog X.w) X.A (.compStart (.ListComp elt [⟨tg,iter,ifs,0⟩] scope pos) 0 (.ref it) acc { cenv with scope:=relabel scope X.env }) (RR acc cenv.locals) s₄) E s₃) E s2:=by
 refine OZ (wpAny_newFunctionEnv ho.cell (by intro y hy;simp at hy) (λh₁ hns₁ hsb₁=>?_) ho.kind)
 dsimp only at hns₁ hsb₁ ⊢
 generalize hHH:s2.heap.push { cls:=.type "list", dict:=none,data:=.seq ([]:List JD).toArray }=HH at hns₁ hsb₁ ⊢
 have hC:HH.objs.size=s2.heap.objs.size+1:=by rw[<- hHH,OL]
 have hDC:s2.heap.objs.size≠HH.objs.size:=by rw[hC];exact KL (QC _)
 have hCle:s2.heap.objs.size<=HH.objs.size:=by rw[hC];exact OI _
 have below:∀b,b < s2.heap.objs.size->b≠HH.objs.size:=λb hb=>by rw[hC];exact KL (SA hb)
 have old:∀b o,s2.heap.get? b=some o->h₁.get? b=some o:=λb o e=>hsb₁.extBut b o (below b (JW e)) (JE _ (hHH ▸ JE _ e))
 have hacc:h₁.get? s2.heap.objs.size=some (lobj [] 0):=hsb₁.extBut _ _ hDC (JE _ (hHH ▸ JZ _ rfl))
 have hlt:∀b∈fp,b < s2.heap.objs.size:=λb hb=>by
  obtain⟨o,e,_⟩:=T.obj 0 _ st2 b hb
  exact JW e
 have okY:=jM (N':=own++fr.map (·.1)) I2 ho h1 h2 f2 hlt hCle
 have hD0:H2 s2.heap.objs.size=none:=I2.hok.fresh (JI _)
 have hC0:H2 HH.objs.size=none:=I2.hok.fresh hCle
 have R':=hY cl HH.objs.size s2 H2 fp pins
 have hE':=hE s2.heap.objs.size HH.objs.size
 generalize hYe:Jy X scope (own++fr.map (·.1)) cl HH.objs.size s2 H2 fp pins=Y at okY R' hE'
 -- the cells of the block
 have cellY:∀x c,cl.lookup x=some c->∃v,h₁.IsCell c v:=λx c e=>by
  obtain⟨v,o,q,d⟩:=I2.cell x c (h1 x c e)
  exact⟨v,o,old c o q,d⟩
 have pinY:∀p∈X.pn++pins,h₁.get? p.1=some p.2/\H2 p.1=none/\p.1≠HH.objs.size/\p.1∉Rc X.stack/\∀v,p.2.data ≠ .cell v:=λp hp=>by
  obtain⟨e,n,ne,nf,d⟩:=I2.pin p hp
  refine⟨old _ _ e,n,below _ (JW e),λz=>?_,d⟩
  rcases JP.mp (I2.stkSub _ z) with q | q
  ·exact ne q
  ·exact nf q
 have I0:Inv Y [(s2.heap.objs.size,lobj [] 0)] (stC own.length fr σ) H2 { s2 with heap:=h₁,toks:=s2.toks+([]:List (Str×JD)).length }:=by
  subst hYe
  refine⟨okY,rfl,I2.bare,Un.kept old,⟨_,hns₁,λi x v e1 e2 e3=>?_⟩,cellY,hC0,λx c e=>I2.freeC x c (h1 x c e),λp hp=>?_,I2.hok.kept old,?_⟩
  ·-- a slot that is set is a free name's
   have hi:own.length<=i:=by
    rcases Nat.lt_or_ge i own.length with z | z
    ·have q:(stC own.length fr σ)[i]? = some none:=by
      unfold stC
      rw[KH (by simpa using z),QA,if_pos z]
     rw[q] at e2
     cases e2
    ·exact z
   have e1':(fr.map (·.1))[i-own.length]? = some x:=by
    have:(own++fr.map (·.1))[i]? = some x:=e1
    rwa [List.getElem?_append_right hi] at this
   have e2':(fr.map λp=>(σ[p.2]?).join)[i-own.length]? = some (some v):=by
    unfold stC at e2
    rwa [List.getElem?_append_right (by simpa using hi),NQ] at e2
   rw[KJ] at e1' e2'
   cases hp:fr[i-own.length]? with
   | none=>rw[hp] at e1';cases e1'
   | some p=>
    rw[hp] at e1' e2'
    have ep:p.1=x:=KW e1'
    have ev:(σ[p.2]?).join=some v:=KW e2'
    obtain⟨hN,hl⟩:=hfr p (JY hp)
    rw[ep] at hN hl
    have hσ:σ[p.2]? = some (some v):=by
     cases q:σ[p.2]? with
     | none=>rw[q] at ev;cases ev
     | some y=>rw[q] at ev;exact congrArg some ev
    obtain⟨m,hn,hloc⟩:=I2.loc
    have hk:=ho.free x (lookup_mem hl)
    obtain⟨u,r,l⟩:=hloc p.2 x v hN hσ (by rcases hk with z | z;exact .inr (.inl z);exact .inr (.inr z))
    refine⟨u,r,?_⟩
    rcases l with ⟨k,_⟩ | ⟨k,c,ec,hcell⟩
    ·rcases hk with z | z
     ·have k':X.env.scope.names.lookup x=some .local:=k
      rw[z] at k';cases k'
     ·have k':X.env.scope.names.lookup x=some .local:=k
      rw[z] at k';cases k'
    ·obtain⟨c',ec'⟩:=h2 x (lookup_mem hl)
     have:c'=c:=KW ((h1 x c' ec').symm.trans ec)
     subst this
     obtain⟨o,qo,qd⟩:=hcell
     exact .inr ⟨Lo (env:=X.env) hl,c',ec',o,old _ _ qo,qd⟩
  ·rcases KI.mp hp with z | z
   ·exact pinY p z
   ·have ep:p=(s2.heap.objs.size,lobj [] 0):=by simpa using z
    subst ep
    refine⟨hacc,hD0,hDC,λz=>?_,λv z=>nomatch z⟩
    rcases JP.mp (I2.stkSub _ z) with q | q
    ·exact absurd I2.lt (by rw[<- q];exact PK _)
    ·exact I2.nofs (JI _) q
  ·show (KZ own.length none++fr.map λp:Str×Nat=>(σ[p.2]?).join).length=(own++fr.map (·.1)).length
   simp
 have Yp:Y.prog=X.prog/\Y.w=X.w/\Y.K=X.K/\Y.calm=true/\Y.A=X.A/\Y.env=compEnvC scope cl HH.objs.size X.env/\(Y.xe=λ_ _=>False):=by
  subst hYe
  exact⟨rfl,rfl,rfl,hcalm,rfl,rfl,rfl⟩
 obtain⟨y1,y2,y3,y4,y5,y6,y7⟩:=Yp
 have fpY:∀ {H':Hp} {its:List JD} {n':Nat},(∀b∈fp,H' b=none)->∀b∈fp,De Y [(s2.heap.objs.size,lobj its n')] H' b:=λ{H' its n'} hn b hb=>by
  subst hYe
  obtain⟨f0,f1,f3,f4,f5,f6⟩:=f2 b hb
  refine⟨hn b hb,below b (hlt b hb),okY.exfs b hb,.inl hb,λx c e=>f5 x c (h1 x c e),λp hp=>?_⟩
  rcases KI.mp hp with z | z
  ·exact f6 p z
  ·have ep:p=(s2.heap.objs.size,lobj its n'):=by simpa using z
   subst ep
   exact OC (hlt b hb)
 have hYlen:∀ {H':Hp} {s':JH} {pl:List (JK×Obj)} {σ':St},Inv Y pl σ' H' s'->σ'.length=(stC own.length fr σ).length->(∀j,own.length<=j->σ'[j]? = (stC own.length fr σ)[j]?)->Inv Y pl (stC own.length fr σ) H' s':=λI hl hk=>by
  refine I.weak hl.symm λi v e=>?_
  rcases Nat.lt_or_ge i own.length with z | z
  ·have q:(stC own.length fr σ)[i]? = some none:=by
    unfold stC
    rw[KH (by simpa using z),QA,if_pos z]
   rw[q] at e
   cases e
  ·rw[hk i z];exact e
 obtain⟨W,⟨m0,w0⟩,turn⟩:=rd
 have loop:∀s₃:JH,s₃={ s2 with heap:=h₁,toks:=s2.toks+([]:List (Str×JD)).length } ->
  RV (KU X.prog X.w) X.A (.compLoop (.ListComp elt [⟨tg,iter,ifs,0⟩] scope pos) 0 (.ref it) (.ref s2.heap.objs.size) (compEnvC scope cl HH.objs.size X.env)) (RR (.ref s2.heap.objs.size) HH.objs.size) s₃:=by
  rintro s₃ rfl
  refine Xa (xw Y) (λx s' h=>hE' x s' hCle h) (λn s'=>∃i ys its n' H',Inv Y [(s2.heap.objs.size,lobj its n')] (stC own.length fr σ) H' s'/\tn i s'.heap/\(∀b∈fp,H' b=none)/\Bb ys its/\ys.length<=JM/\W i n ys H') ?_ m0
   ⟨0,[],[],0,H2,I0,T.keep _ _ _ st2 λb _ o e=>old b o e,λb hb=>(f2 b hb).1,.nil,LG _,w0⟩
  rintro n s3 ⟨i,ys,its,n',H3,I3,st3,fr3,rv,hz,w3⟩
  have pinD:=I3.pin (s2.heap.objs.size,lobj its n') (JX _ (by simp))
  rcases turn i n ys H3 w3 with ⟨stop,qn⟩ | ⟨go,Nx,hNx,step⟩
  ·have q:=T.done Y y1 y2 y3 y4 i _ s3 _ H3 (λ_ _=>False) I3 (fpY fr3) st3 stop
   rw[y5] at q
   refine Bu q λr s4 ⟨hr,I4⟩=>?_
   subst hr
   have pinD4:=I4.pin (s2.heap.objs.size,lobj its n') (JX _ (by simp))
   obtain⟨m,hm,_⟩:=I4.loc
   have IX:Inv X pins σ H3 s4:=by
    subst hYe
    exact I2.call' (ch:=fp) I4.os I4.base I4.hok I4.bare λb hb=>⟨(f2 b hb).2.2.2.1,(f2 b hb).2.1,(f2 b hb).2.2.2.2.1,(f2 b hb).2.2.2.2.2⟩
   rw[y6] at hm
   have hCf:H3 HH.objs.size=none:=by
    have z:=I4.free
    rw[y6] at z
    exact z
   refine fin s2.heap.objs.size HH.objs.size s4 H3 ys its n' m IX (I2.fpOk (JI _) pinD4.2.1) I2.sz pinD4.1 rv hz (I2.fpOk hCle hCf) (KS I2.sz hCle) (LH hDC) hm qn
  ·have q:=T.item Y y1 y2 y3 y4 i _ s3 _ H3 (λ_ _=>False) I3 (fpY fr3) st3 go
   rw[y5] at q
   refine Bu q λr s4 ⟨u,hr,h4⟩=>?_
   subst hr
   refine Bu h4 λ_ s5 ⟨x,H5,I5,r5,y5',st5,fr5⟩=>?_
   have I5':=I5.pinned (fpY fr5) (T.obj _ _ st5)
   have q6:KR (KU Y.prog Y.w) Y.A (assign tg Y.env u) _ (xw Y) s5:=R'.tg _ s5 _ H5 x u _ (I5'.wish _) r5 (hG _ _ _ _ _ (λσ2 H2' qq l k=>(⟨qq,l,k⟩:_/\_/\_)) (step x H5 y5'))
   rw[y1,y2,y5,y6] at q6
   refine Bu q6 λ_ s6 ⟨σ6,H6,I6,qt,hl6,hk6⟩=>?_
   have q7:KR (KU Y.prog Y.w) Y.A (forIn ifs true λc r=>if r=true then do let ok <- isTrue c Y.env (OX c Y.env);pure (ForInStep.yield ok) else pure (ForInStep.yield r)) _ (xw Y) s6:=R'.ts _ s6 _ H6 _ I6 qt
   rw[y1,y2,y5,y6] at q7
   refine Bu q7 λok s7 ⟨H7,I7,q7⟩=>?_
   -- a turn's end: the iterator's records and the list are pinned as they were
   have again:∀ {s8:JH} {H8:Hp} {ys8:List V} {its8:List JD} {n8:Nat},Inv Y [(s2.heap.objs.size,lobj its8 n8)] σ6 H8 s8->(∀b∈fp,∀o,s5.heap.get? b=some o->s8.heap.get? b=some o)->(∀b∈fp,H8 b=none)->Bb ys8 its8->ys8.length<=JM->Nx ys8 H8 ->
    ∃m,m < n/\∃i ys its n' H',Inv Y [(s2.heap.objs.size,lobj its n')] (stC own.length fr σ) H' s8/\tn i s8.heap/\(∀b∈fp,H' b=none)/\Bb ys its/\ys.length<=JM/\W i m ys H':=λ{s8 H8 ys8 its8 n8} I8 kp fr8 rv8 hz8 nx=>by
    obtain⟨m',hm,w8⟩:=hNx ys8 H8 nx
    exact⟨m',hm,i+1,ys8,its8,n8,H8,hYlen I8 hl6 hk6,T.keep _ _ _ st5 kp,fr8,rv8,hz8,w8⟩
   cases ok with
   | false=>
    rw[if_neg JN] at q7 ⊢
    refine again I7.unwish.unpinned (λb hb o e=>(I7.pin (b,o) (JX _ (JX _ (Fc hb e)))).1) (λb hb=>?_) rv hz q7
    obtain⟨o,e,d⟩:=T.obj _ _ st5 b hb
    exact(I7.pin (b,o) (JX _ (JX _ (Fc hb e)))).2.1
   | true=>
    rw[if_pos rfl] at q7 ⊢
    have q8:KR (KU Y.prog Y.w) Y.A (OX elt Y.env) _ (xw Y) s7:=R'.el _ s7 _ H7 _ I7 q7
    rw[y1,y2,y5,y6] at q8
    refine Bu q8 λv s8 ⟨yv,H8,I8,r8,hsz,nx⟩=>?_
    have pin8:=I8.pin (s2.heap.objs.size,lobj its n') (JX _ (MG _ (by simp)))
    refine wpAny_list_append_plain (hsz:=by have:=rv.length;simp only[KP];omega) ⟨n',pin8.1⟩ λh9 ⟨n9,e9⟩ sb=>?_
    have Iu:=I8.unwish.pins_of (pins':=[]) (λp hp=>nomatch hp)
    have DF:De Y [] H8 s2.heap.objs.size:=by
     subst hYe
     refine⟨pin8.2.1,hDC,pin8.2.2.2.1,.inr (JI _),λx c e=>?_,λp hp=>?_⟩
     ·obtain⟨w',o,qo,_⟩:=I2.cell x c (h1 x c e)
      exact KL (JW qo)
     ·have hp':p∈X.pn++pins:=by
       rw[LX] at hp
       exact hp
      exact KL (JW (I2.pin p hp').1)
    have I9:Inv Y [] σ6 H8 { s8 with heap:=h9 }:=Iu.turns (t':=s8.toks) (ch:=[s2.heap.objs.size]) (λb o hb e=>(sb.2 b (by simpa using hb)).trans e) (λb hb=>by
     have e:b=s2.heap.objs.size:=by simpa using hb
     subst e
     exact DF)
    have e9':h9.get? s2.heap.objs.size=some (lobj (its++[v]) n9):=by
     rw[e9]
     simp
    have I10:Inv Y [(s2.heap.objs.size,lobj (its++[v]) n9)] σ6 H8 { s8 with heap:=h9 }:=I9.pins_of λp hp=>by
     have ep:p=(s2.heap.objs.size,lobj (its++[v]) n9):=by simpa using hp
     subst ep
     exact⟨e9',pin8.2.1,pin8.2.2.1,pin8.2.2.2.1,λw' z=>nomatch z⟩
    refine again I10 (λb hb o e=>(sb.2 b (KL (hlt b hb))).trans (I8.pin (b,o) (JX _ (JX _ (Fc hb e)))).1) (λb hb=>?_) (rv.append (.cons r8 .nil)) (by simp;omega) nx
    obtain⟨o,e,d⟩:=T.obj _ _ st5 b hb
    exact(I8.pin (b,o) (JX _ (JX _ (Fc hb e)))).2.1
 exact codeAny_compStart_list (loop _ rfl) (T.self _ 0 _ _ _ (T.keep _ _ _ st2 λb _ o e=>old b o e) (loop _ rfl))
theorem Pu{pins:List (JK×Obj)}{σ:St}{H2:Hp}{s2:JH}{cl:List (Str×JK)}{fp:List JK}{it:JK}{tn:Nat->MQ->Prop}{J:It}{F:List V->Hp->Prop}{RR:JD->JK->Result->JH->Prop}{E:JD->JH->Prop}(hcalm:X.calm=true)(ho:Ou X.env.scope scope)(hfr:∀p∈fr,X.N[p.2]? = some p.1/\scope.names.lookup p.1=some .free)(hG:Zf own.length g)(hY:∀cl C s H fp pins,gR (Jy X scope (own++fr.map (·.1)) cl C s H fp pins) tg ifs elt g tc te)(I2:Inv X pins σ H2 s2)(T:Turn X.prog X.w X.K tg J fp it tn)(st2:tn 0 s2.heap)(f2:∀b∈fp,De X pins H2 b)(rd:Eu own.length fr g tc te σ J H2 F)(h1:∀x c,cl.lookup x=some c->X.env.cells.lookup x=some c)(h2:∀x,(x,MP)∈scope.names->∃c,cl.lookup x=some c)(fin:∀D C s' H' ys its n' m,Inv X pins σ H' s'->De X pins H' D->X.s₀.heap.objs.size<=D->s'.heap.get? D=some (lobj its n')->Bb ys its->ys.length<=JM->De X pins H' C->X.s₀.heap.objs.size<=C->C≠D->s'.heap.Ns C m->F ys H'->RR (.ref D) C (.ok .next) s'):
 KR (KU X.prog X.w) X.A (newList []) (λacc s₃=>KR (KU X.prog X.w) X.A (newFunctionEnv scope X.env.globals cl [] X.env.qual none .none (some X.env)) (λcenv s₄=>
  RV (KU X.prog X.w) X.A (.compStart (.ListComp elt [⟨tg,iter,ifs,0⟩] scope pos) 0 (.ref it) acc { cenv with scope:=relabel scope X.env }) (RR acc cenv.locals) s₄) E s₃) E s2:=
 Ws (λ_ _ _=>False) hcalm ho hfr hG hY I2 T st2 f2 rd h1 h2 fin λ_ _ _ _ _ h=>h.elim
theorem Qt{pins:List (JK×Obj)}{σ:St}{H:Hp}{s:JH}(I:Inv X pins σ H s)(hsc:X.env.scope=sc)(hok:Ow sc scope=true)(hNN:X.N=N)(hfr:vV N scope fr=true):
 Ou X.env.scope scope/\(∀p∈fr,X.N[p.2]? = some p.1/\scope.names.lookup p.1=some .free) /\
 ∃cl,closureFor scope X.env=pure cl/\(∀x c,cl.lookup x=some c->X.env.cells.lookup x=some c)/\∀x,(x,MP)∈scope.names->∃c,cl.lookup x=some c:=by
 subst hsc hNN
 have ho:=hZ hok
 refine⟨ho,λp hp=>?_,Zx λn hn=>I.ok.has n (ho.free n hn)⟩
 unfold vV at hfr
 rw[QE] at hfr
 have q:=hfr p hp
 rw[ME] at q
 exact⟨of_decide_eq_true q.1,of_decide_eq_true q.2⟩
theorem Hh(sc:Scope)(N own:List Str)(fr:List (Str×Nat))(hcalm:X.calm=true)(hi:PI X tg iter wi)(hG:Zf own.length g)(hY:∀cl C s H fp pins,gR (Jy X scope (own++fr.map (·.1)) cl C s H fp pins) tg ifs elt g tc te)(hsc:X.env.scope=sc:=by rfl)(hok:Ow sc scope=true:=by decide +kernel)(hNN:X.N=N:=by rfl)(hfr:vV N scope fr=true:=by decide +kernel)(hs:∀x,foldedSetIterable iter X.env x=pure x:=by intro _;rfl):
 PE X (.ListComp elt [⟨tg,iter,ifs,0⟩] scope pos) (wM own.length fr wi g tc te):=by
 intro pins s σ H Q I h
 obtain⟨ho,hfr',cl,hcl,c1,c2⟩:=Qt I hsc hok hNN hfr
 rw[eval_ListComp]
 refine wpAny_comprehension_free (use:=none) rfl hs hcl ho.kind ho.loc (Bu (hi pins s σ H _ I h) λv s1 q1=>Bu q1 λitv s2 q2=>?_)
 obtain⟨it,fp,tn,J,H2,e,I2,T,st2,f2,rd⟩:=q2
 subst e
 refine Pu (RR:=λacc C=>compPost (KU X.prog X.w) X.A X.xe none (EP X pins σ Q) acc C) hcalm ho hfr' hG hY I2 T st2 f2 rd c1 c2 ?_
 intro D C s' H' ys its n' m I' fD zD eD rv hz fC zC hCD hm hF
 refine⟨m,hm,λh' sb=>?_⟩
 have I3:Inv X pins σ H' { s' with heap:=h' }:=I'.turns (t':=s'.toks) (ch:=[C]) (λb o hb e=>(sb.2 b (by simpa using hb)).trans e) (λb hb=>by
  have e:b=C:=by simpa using hb
  subst e
  exact fC)
 exact⟨.ref D,_,I3.adopt (o:=.lst ys) fD.1 fD.2.1 zD fD.2.2.2.2.1 fD.2.2.2.2.2 ⟨hz,its,n',rv,(sb.2 D (LH hCD)).trans eD⟩,rfl,hF D fD.1⟩
theorem Dd{i:Nat}{x:Str}{pos' spos:Pos}(sc:Scope)(N own:List Str)(fr:List (Str×Nat))(hcalm:X.calm=true)(hN:X.N.Nodup)(hx':X.N[i]? = some x)(hx:X.env.scope.names.lookup x=some .local)(hi:PI X tg iter wi)(hG:Zf own.length g)(hY:∀cl C s H fp pins,gR (Jy X scope (own++fr.map (·.1)) cl C s H fp pins) tg ifs elt g tc te)(hsw:swapsWith (.ListComp elt [⟨tg,iter,ifs,0⟩] scope pos) (some (.Name x pos')) spos.line X.env=pure true:=by rfl)(hsc:X.env.scope=sc:=by rfl)(hok:Ow sc scope=true:=by decide +kernel)(hNN:X.N=N:=by rfl)(hfr:vV N scope fr=true:=by decide +kernel)(hs:∀x,foldedSetIterable iter X.env x=pure x:=by intro _;rfl):
 PS X (.Assign [.Name x pos'] (.ListComp elt [⟨tg,iter,ifs,0⟩] scope pos) spos) (Wp (wM own.length fr wi g tc te) (Kk i)):=by
 intro pins s σ H D0 I h
 obtain⟨ho,hfr',cl,hcl,c1,c2⟩:=Qt I hsc hok hNN hfr
 rw[exec_Assign_Name_used _ _ _ _ hsw]
 refine JA (RA (JA ?_))
 show KR _ X.A (do let _ <- comprehension (.ListComp elt [⟨tg,iter,ifs,0⟩] scope pos) scope X.env _ (newList []) false (OX iter X.env) (some (assign (.Name x pos') X.env))) _ _ s
 refine JA (MY (wpAny_comprehension_free (use:=some (assign (.Name x pos') X.env)) (Q:=λ_ s'=>SP X pins D0 .next s') rfl hs hcl ho.kind ho.loc
  (Bu (hi pins s σ H _ I h) λv s1 q1=>Bu q1 λitv s2 q2=>?_)) (λ_ s' hq=>JO (JO hq)) λ_ _ e=>e)
 obtain⟨it,fp,tn,J,H2,e,I2,T,st2,f2,rd⟩:=q2
 subst e
 refine Pu (RR:=λacc C=>compPost (KU X.prog X.w) X.A X.xe (some (assign (.Name x pos') X.env)) (λ_ s'=>SP X pins D0 .next s') acc C) hcalm ho hfr' hG hY I2 T st2 f2 rd c1 c2 ?_
 intro D C s' H' ys its n' m I' fD zD eD rv hz fC zC hCD hm hF
 show KR _ X.A (assign (.Name x pos') X.env (.ref D)) _ _ _
 have I3:Inv X pins σ (upd H' D (.lst ys)) s':=I'.adopt (o:=.lst ys) fD.1 fD.2.1 zD fD.2.2.2.2.1 fD.2.2.2.2.2 ⟨hz,its,n',rv,eD⟩
 obtain⟨oC,es,ep,hoC,dC,rC⟩:=id hm
 have nC:(upd H' D (.lst ys)) C=none:=by rw[Aj hCD];exact fC.1
 have I4:Inv X (pins++[(C,oC)]) σ (upd H' D (.lst ys)) s':=I3.pins_of λp hp=>by
  rcases KI.mp hp with z | z
  ·exact I3.pin p (JX _ z)
  ·have e:p=(C,oC):=by simpa using z
   subst e
   exact⟨hoC,nC,fC.2.1,fC.2.2.1,λv z=>by rw[dC] at z;cases z⟩
 refine wpAny_assign_Name (Qc I4 hN hx' (.inl hx) (v:=.ref D) rfl (λs5 I5=>?_) (.inr hx))
 have p5:=I5.pin (C,oC) (JX _ (JX _ (by simp)))
 refine⟨m,⟨oC,es,ep,p5.1,dC,rC⟩,λh' sb=>?_⟩
 have I6:Inv X pins (σ.set i (some (.ref D))) (upd H' D (.lst ys)) { s5 with heap:=h' }:=I5.unpinned.turns (t':=s5.toks) (ch:=[C]) (λb o hb e=>(sb.2 b (by simpa using hb)).trans e) (λb hb=>by
  have e:b=C:=by simpa using hb
  subst e
  exact⟨nC,fC.2⟩)
 exact⟨_,_,I6,hF D fD.1⟩
end
theorem Pa{K:JC}{a:JK}{xs:List V}{n:Nat}{fr:List (Str×Nat)}{g:TG}{tc:TT}{te:TE}{σ:St}{H:Hp}{F:List V->Hp->Prop}(Pv:Nat->List V->Hp->Prop)(h0:Pv 0 [] H)(hl:∀i ys H,i<=xs.length->Pv i ys H->Aw K H a xs)(hs:∀i x ys H,xs[i]? = some x->Pv i ys H->g x (stC n fr σ) H λσ2 H2=>tc σ2 H2 λb H3=>if b=true then te σ2 H3 λy H4=>ys.length < JM/\Pv (i+1) (ys++[y]) H4 else Pv (i+1) ys H3)(hd:∀ys H,Pv xs.length ys H->F ys H):Eu n fr g tc te σ (xL K a) H F:=by
 refine⟨λi m ys H=>m=xs.length-i/\i<=xs.length/\Pv i ys H,⟨xs.length,by simp,LG _,h0⟩,?_⟩
 rintro i m ys H ⟨rfl,hi,p⟩
 have q:=hl i ys H hi p
 by_cases hlt:i < xs.length
 ·refine .inr ⟨⟨xs,xs[i],q,by simp[hlt]⟩,Pv (i+1),λys' H' p'=>⟨xs.length-(i+1),by omega,rfl,hlt,p'⟩,λx H' y=>?_⟩
  obtain⟨e,y⟩:=y
  subst e
  exact hs i x ys _ (y xs q) p
 ·have e:i=xs.length:=by omega
  subst e
  exact .inl ⟨⟨xs,q,JI _⟩,hd ys H p⟩
theorem Wh{lo:Int}{k n:Nat}{fr:List (Str×Nat)}{g:TG}{tc:TT}{te:TE}{σ:St}{H:Hp}{F:List V->Hp->Prop}(Pv:Nat->List V->Hp->Prop)(h0:Pv 0 [] H)(hs:∀i ys H,i < k->Pv i ys H->g (.int (lo+i)) (stC n fr σ) H λσ2 H2=>tc σ2 H2 λb H3=>if b=true then te σ2 H3 λy H4=>ys.length < JM/\Pv (i+1) (ys++[y]) H4 else Pv (i+1) ys H3)(hd:∀ys H,Pv k ys H->F ys H):Eu n fr g tc te σ (vF lo k) H F:=by
 refine⟨λi m ys H=>m=k-i/\i<=k/\Pv i ys H,⟨k,by simp,LG _,h0⟩,?_⟩
 rintro i m ys H ⟨rfl,hi,p⟩
 by_cases hlt:i < k
 ·refine .inr ⟨hlt,Pv (i+1),λys' H' p'=>⟨k-(i+1),by omega,rfl,hlt,p'⟩,λx H' y=>?_⟩
  obtain⟨e,y⟩:=y
  subst e y
  exact hs i ys _ hlt p
 ·have e:i=k:=by omega
  subst e
  exact .inl ⟨JI _,hd ys H p⟩
def AG(K:JC)(a b:JK):It:=
 ⟨λi H=>∃xs ys x y,Aw K H a xs/\Aw K H b ys/\xs[i]? = some x/\ys[i]? = some y,
  λi H v H'=>∃T x y,H T=none/\v=.ref T/\H'=upd H T (.tup [x,y])/\(∀xs,Aw K H a xs->xs[i]? = some x)/\∀ys,Aw K H b ys->ys[i]? = some y,
  λi H=>∃xs ys,Aw K H a xs/\Aw K H b ys/\(xs.length<=i∨ys.length<=i)⟩
theorem ap(n i j:Nat)(h:i≠j):n+i≠n+j:=λe=>h (Nat.add_left_cancel e)
theorem kX(n i:Nat):n<=n+i:=QD n i
theorem Km{h:MQ}{a b:JK}{o u:Obj}(e:h.get? a=some o)(e':h.get? b=some u)(d:o.cls≠u.cls):a≠b:=by
 intro z
 subst z
 rw[e] at e'
 cases e'
 exact d rfl
theorem Rv{h:MQ}{n a b:JK}{i:Nat}{f0:JD}{pa pb:JD}{xs ys:Array JD}(hz:IsZip h (n+4) (n+2) (n+3) f0)(hTO:QF h (n+3) pa pb)(h1:h.IsListIter n a i)(h2:h.IsListIter (n+1) b i)(l1:h.IsList a xs)(l2:h.IsList b ys):
 ZipApart (n+4) (n+2) (n+3) n (n+1) a b:=by
 obtain⟨o1,e1,c1,_⟩:=l1
 obtain⟨o2,e2,c2,_⟩:=l2
 obtain⟨p1,q1,d1,_⟩:=h1
 obtain⟨p2,q2,d2,_⟩:=h2
 have nz:∀ {c:JK} {o:Obj},h.get? c=some o->o.cls=.type "list" -> c≠n+4/\c≠n+3/\c≠n/\c≠n+1:=λ{c o} e z=>
  ⟨Km e hz (by rw[z];show OP "list" ≠ OP "zip"; decide),Km e hTO (by rw[z];show OP "list" ≠ OP "tuple"; decide),Km e q1 (by rw[z,d1];decide),Km e q2 (by rw[z,d2];decide)⟩
 obtain⟨a1,a2,a3,a4⟩:=nz e1 c1
 obtain⟨b1,b2,b3,b4⟩:=nz e2 c2
 exact⟨ap n 2 4 (by decide),ap n 3 4 (by decide),ap n 0 4 (by decide),ap n 1 4 (by decide),ap n 2 3 (by decide),ap n 2 0 (by decide),ap n 2 1 (by decide),ap n 3 0 (by decide),ap n 3 1 (by decide),ap n 0 1 (by decide),a1,a2,a3,a4,b1,b2,b3,b4⟩
theorem oR{P:KC}{w:LL}{K:JC}{elts:List Expr}{kk:Nat}{tpos:Pos}(n a b:JK):Turn P w K (.Tuple elts kk tpos) (AG K a b) [n+4,n+2,n+3,n,n+1] (n+4)
 (λi h=>IsZip h (n+4) (n+2) (n+3) .none/\QF h (n+2) (.ref n) (.ref (n+1))/\(∃p q,QF h (n+3) p q)/\h.IsListIter n a i/\h.IsListIter (n+1) b i) where
 mem:=by simp
 obj:=λi h st c hc=>by
  obtain⟨hz,hTI,⟨p,q,hTO⟩,⟨o1,e1,c1,d1⟩,⟨o2,e2,c2,d2⟩⟩:=st
  simp only[JP,KG,or_false] at hc
  rcases hc with rfl | rfl | rfl | rfl | rfl
  ·exact⟨_,hz,λv z=>nomatch z⟩
  ·exact⟨_,hTI,λv z=>nomatch z⟩
  ·exact⟨_,hTO,λv z=>nomatch z⟩
  ·exact⟨_,e1,λv z=>by rw[d1] at z;cases z⟩
  ·exact⟨_,e2,λv z=>by rw[d2] at z;cases z⟩
 keep:=λi h h' st k=>by
  obtain⟨hz,hTI,⟨p,q,hTO⟩,h1,h2⟩:=st
  exact⟨k _ (by simp) _ hz,k _ (by simp) _ hTI,⟨p,q,k _ (by simp) _ hTO⟩,h1.at λo e=>k _ (by simp) o e,h2.at λo e=>k _ (by simp) o e⟩
 item:=by
  intro X hP hw hK hc i pins s σ H E I hf st hg
  subst hP hw hK
  obtain⟨xs,ys,x,y,hq1,hq2,hx,hy⟩:=hg
  obtain⟨its1,rv1,p1,_⟩:=I.list hq1
  obtain⟨its2,rv2,p2,_⟩:=I.list hq2
  obtain⟨u1,hu1,ru1⟩:=rv1.get hx
  obtain⟨u2,hu2,ru2⟩:=rv2.get hy
  obtain⟨hz,hTI,⟨pa,pb,hTO⟩,h1,h2⟩:=st
  have D:=Rv hz hTO h1 h2 p1.isList p2.isList
  refine wpAny_pyNext_zip_item D hz hTI hTO h1 h2 p1.isList p2.isList (x:=u1) (y:=u2) (by simpa using hu1) (by simpa using hu2) λh' a1 a2 a3 a4 a5 a6 k=>?_
  refine⟨_,rfl,wpAny_letOwnedTupleGo_zip a1 λh2' hz2 sb=>?_⟩
  have lt:∀c∈[n+4,n+2,n+3,n,n+1],c≠s.heap.objs.size:=λc hc=>by
   simp only[JP,KG,or_false] at hc
   obtain⟨_,q1,_,_⟩:=id h1
   obtain⟨_,q2,_,_⟩:=id h2
   rcases hc with rfl | rfl | rfl | rfl | rfl
   ·exact KL (JW hz)
   ·exact KL (JW hTI)
   ·exact KL (JW hTO)
   ·exact KL (JW q1)
   ·exact KL (JW q2)
  have kk2:∀c o,c∉[n+4,n+3,n,n+1]->s.heap.get? c=some o->h2'.get? c=some o:=λc o hc e=>by
   simp only[JP,KG,or_false,not_or] at hc
   exact(sb.2 c hc.1).trans (k c o hc.1 hc.2.1 hc.2.2.1 hc.2.2.2 e)
  have I1:Inv X pins σ H { s with heap:=h2' }:=I.turns (t':=s.toks) (ch:=[n+4,n+3,n,n+1]) kk2 λc hc=>by
   simp only[JP,KG,or_false] at hc
   exact hf c (by simp only[JP,KG,or_false];rcases hc with z | z | z | z<;>simp[z])
  have fT:De X pins H s.heap.objs.size:=I.fpOk (JI _) (I.hok.fresh (JI _))
  have eT:h2'.get? s.heap.objs.size=some { cls:=.type "tuple", data:=.seq #[u1,u2] }:=(sb.2 _ (LH (lt (n+4) (by simp)))).trans a5
  refine⟨.ref s.heap.objs.size,_,I1.adopt (o:=.tup [x,y]) fT.1 fT.2.1 I.sz fT.2.2.2.2.1 fT.2.2.2.2.2 ⟨by show 2<=JM;decide,[u1,u2],.cons ru1 (.cons ru2 .nil),⟨_,eT,rfl,0,rfl⟩⟩,rfl,⟨_,x,y,fT.1,rfl,rfl,λzs hzs=>?_,λzs hzs=>?_⟩,?_,λc hc=>?_⟩
  ·rw[I.list_inj hzs hq1];exact hx
  ·rw[I.list_inj hzs hq2];exact hy
  ·refine⟨hz2,(sb.2 _ (ap n 2 4 (by decide))).trans (k _ _ (ap n 2 4 (by decide)) (ap n 2 3 (by decide)) (ap n 2 0 (by decide)) (ap n 2 1 (by decide)) hTI),⟨u1,u2,(sb.2 _ (ap n 3 4 (by decide))).trans a2⟩,a3.at λo e=>(sb.2 _ (ap n 0 4 (by decide))).trans e,a4.at λo e=>(sb.2 _ (ap n 1 4 (by decide))).trans e⟩
  ·rw[Aj (lt c hc)]
   exact(hf c hc).1
 done:=by
  intro X hP hw hK hc i pins s σ H E I hf st hg
  subst hP hw hK
  obtain⟨xs,ys,hq1,hq2,hx⟩:=hg
  obtain⟨its1,rv1,p1,_⟩:=I.list hq1
  obtain⟨its2,rv2,p2,_⟩:=I.list hq2
  obtain⟨hz,hTI,⟨pa,pb,hTO⟩,h1,h2⟩:=st
  have D:=Rv hz hTO h1 h2 p1.isList p2.isList
  have l1:=rv1.length
  have l2:=rv2.length
  refine yY (I.calmS hc) D hz hTI hTO h1 h2 p1.isList p2.isList (by
   rcases hx with z | z
   ·exact .inl (by simp;omega)
   ·exact .inr (by simp;omega)) λh' k=>⟨rfl,?_⟩
  refine I.turns (t':=s.toks) (ch:=[n+4,n+3,n,n+1]) (λc o hc e=>?_) λc hc=>?_
  ·simp only[JP,KG,or_false,not_or] at hc
   exact k c o hc.1 hc.2.1 hc.2.2.1 hc.2.2.2 e
  ·simp only[JP,KG,or_false] at hc
   exact hf c (by simp only[JP,KG,or_false];rcases hc with z | z | z | z<;>simp[z])
 self:=λ_ _ _ _ _ st h=>wpAny_pyIter_zip st.1 h
def FP(K:JC)(ta:TA):TI:=λσ H R=>ta σ H λvs H1=>∃a b,vs=[.ref a,.ref b]/\(∃xs,Aw K H1 a xs)/\(∃ys,Aw K H1 b ys)/\R (AG K a b) H1
theorem Ui{X:Cx}{elts:List Expr}{kk:Nat}{tpos:Pos}{a b:Expr}{ta:TA}{p pos:Pos}(hg:Gl X "zip")(hm:X.mg "zip" = none)(ha:PA X [a,b] ta)(hs:KQ [a,b] X.env=[(false,OX a X.env),(false,OX b X.env)]:=by rfl)(hs2:KQ [b] X.env=[(false,OX b X.env)]:=by rfl):
 PI X (.Tuple elts kk tpos) (.Call (.Name "zip" p) [a,b] [] pos) (FP X.K ta):=by
 intro pins s σ H R I h
 refine Call_ (Ia I hg hm boot_zip (ND (Bu (ha pos pins s σ H _ I h) λus s1 ⟨vs,H1,I1,r1,q1⟩=>?_) (by rw[hs,hs2]) (by rw[hs2];rfl)))
 obtain⟨a',b',e,⟨xs,hq1⟩,⟨ys,hq2⟩,q⟩:=q1
 subst e
 obtain⟨u,w',rfl,r,r'⟩:=vals2 r1
 cases r
 cases r'
 obtain⟨its1,rv1,p1,_⟩:=I1.list hq1
 obtain⟨its2,rv2,p2,_⟩:=I1.list hq2
 refine call_zip_2 p1.isList p2.isList λh' z1 z2 z3 z4 z5 z6 k=>wpAny_pyIter_zip (s:={ s1 with heap:=h' }) z1 ?_
 refine⟨s1.heap.objs.size+4,[s1.heap.objs.size+4,s1.heap.objs.size+2,s1.heap.objs.size+3,s1.heap.objs.size,s1.heap.objs.size+1],_,_,H1,rfl,I1.kept (t':=s1.toks) k,oR s1.heap.objs.size a' b',⟨z1,z2,⟨_,_,z3⟩,z4,z5⟩,λc hc=>?_,q⟩
 have hle:s1.heap.objs.size<=c:=by
  simp only[JP,KG,or_false] at hc
  rcases hc with rfl | rfl | rfl | rfl | rfl
  ·exact kX _ 4
  ·exact kX _ 2
  ·exact kX _ 3
  ·exact kX _ 0
  ·exact kX _ 1
 exact I1.fpOk hle (I1.hok.fresh hle)
def BE(K:JC)(a:JK):It:=
 ⟨λi H=>∃xs x,Aw K H a xs/\xs[i]? = some x,
  λi H v H'=>∃T x,H T=none/\v=.ref T/\H'=upd H T (.tup [.int i,x])/\∀xs,Aw K H a xs->xs[i]? = some x,
  λi H=>∃xs,Aw K H a xs/\xs.length<=i⟩
theorem jQ{P:KC}{w:LL}{K:JC}{elts:List Expr}{kk:Nat}{tpos:Pos}(n a:JK):Turn P w K (.Tuple elts kk tpos) (BE K a) [n+1,n] (n+1)
 (λi h=>(∃old,IsEnum h (n+1) n i old)/\h.IsListIter n a i) where
 mem:=by simp
 obj:=λi h st c hc=>by
  obtain⟨⟨old,he⟩,⟨o1,e1,c1,d1⟩⟩:=st
  simp only[JP,KG,or_false] at hc
  rcases hc with rfl | rfl
  ·exact⟨_,he,λv z=>nomatch z⟩
  ·exact⟨_,e1,λv z=>by rw[d1] at z;cases z⟩
 keep:=λi h h' st k=>by
  obtain⟨⟨old,he⟩,h1⟩:=st
  exact⟨⟨old,k _ (by simp) _ he⟩,h1.at λo e=>k _ (by simp) o e⟩
 item:=by
  intro X hP hw hK hc i pins s σ H E I hf st hg
  subst hP hw hK
  obtain⟨xs,x,hq,hx⟩:=hg
  obtain⟨its,rv,p,_⟩:=I.list hq
  obtain⟨u,hu,ru⟩:=rv.get hx
  obtain⟨⟨old,he⟩,h1⟩:=st
  refine wpAny_pyNext_enum_item he h1 p.isList (x:=u) (by simpa using hu) (ap n 1 0 (by decide)) λh' a1 a2 a3 a4 k=>?_
  refine⟨_,rfl,wpAny_letOwnedTupleGo_enum a1 λh2' he2 sb=>?_⟩
  have lt:∀c∈[n+1,n],c≠s.heap.objs.size:=λc hc=>by
   simp only[JP,KG,or_false] at hc
   obtain⟨_,q1,_,_⟩:=id h1
   rcases hc with rfl | rfl
   ·exact KL (JW he)
   ·exact KL (JW q1)
  have I1:Inv X pins σ H { s with heap:=h2',toks:=s.toks+1 }:=I.turns (ch:=[n+1,n]) (λc o hc e=>by
   simp only[JP,KG,or_false,not_or] at hc
   exact(sb.2 c hc.1).trans (k c o hc.1 hc.2 e)) hf
  have fT:De X pins H s.heap.objs.size:=I.fpOk (JI _) (I.hok.fresh (JI _))
  have eT:h2'.get? s.heap.objs.size=some { cls:=.type "tuple", data:=.seq #[.int i s.toks,u] }:=(sb.2 _ (LH (lt (n+1) (by simp)))).trans a3
  refine⟨.ref s.heap.objs.size,_,I1.adopt (o:=.tup [.int i,x]) fT.1 fT.2.1 I.sz fT.2.2.2.2.1 fT.2.2.2.2.2 ⟨by show 2<=JM;decide,[.int i s.toks,u],.cons ⟨_,rfl⟩ (.cons ru .nil),⟨_,eT,rfl,0,rfl⟩⟩,rfl,⟨_,x,fT.1,rfl,rfl,λzs hzs=>?_⟩,?_,λc hc=>?_⟩
  ·rw[I.list_inj hzs hq];exact hx
  ·exact⟨⟨_,he2⟩,a2.at λo e=>(sb.2 _ (ap n 0 1 (by decide))).trans e⟩
  ·rw[Aj (lt c hc)]
   exact(hf c hc).1
 done:=by
  intro X hP hw hK hc i pins s σ H E I hf st hg
  subst hP hw hK
  obtain⟨xs,hq,hx⟩:=hg
  obtain⟨its,rv,p,_⟩:=I.list hq
  obtain⟨⟨old,he⟩,h1⟩:=st
  have l1:=rv.length
  refine sP (I.calmS hc) he h1 p.isList (by simp;omega) λh' k=>⟨rfl,?_⟩
  exact I.turns (t':=s.toks) (ch:=[n]) (λc o hc e=>k c o (by simpa using hc) e) λc hc=>hf c (by simp at hc ⊢;exact .inr hc)
 self:=λA i s Q E st h=>by
  obtain⟨⟨old,he⟩,_⟩:=st
  have hT:s.TypeIs (.ref (n+1)) "enumerate" := ⟨_,he,rfl⟩
  refine wpAny_pyIter_slot hT F.slot_enumerate_iter (MC F.slot_enumerate_iter hT F.entry_enumerate_iter ?_ (F.args_enumerate_iter_1 _))
  show KR _ _ (ret (.ref (n+1))) _ _ s
  exact JO ⟨_,rfl,"enumerate", _,hT,F.slot_enumerate_next.lookup,h⟩
theorem jX:PR "enumerate" = some (.type "enumerate"):=by decide +kernel
def EJ(K:JC)(ta:TA):TI:=λσ H R=>ta σ H λvs H1=>∃a,vs=[.ref a]/\(∃xs,Aw K H1 a xs)/\R (BE K a) H1
theorem vT{X:Cx}{elts:List Expr}{kk:Nat}{tpos:Pos}{a:Expr}{ta:TA}{p pos:Pos}(hg:Gl X "enumerate")(hm:X.mg "enumerate" = none)(ha:PA X [a] ta)(hs:KQ [a] X.env=[(false,OX a X.env)]:=by rfl):
 PI X (.Tuple elts kk tpos) (.Call (.Name "enumerate" p) [a] [] pos) (EJ X.K ta):=by
 intro pins s σ H R I h
 refine Call_ (Ia I hg hm jX (ND (Bu (ha pos pins s σ H _ I h) λus s1 ⟨vs,H1,I1,r1,q1⟩=>?_) hs rfl))
 obtain⟨a',e,⟨xs,hq1⟩,q⟩:=q1
 subst e
 obtain⟨u,rfl,r⟩:=vals1 r1
 cases r
 obtain⟨its1,rv1,p1,_⟩:=I1.list hq1
 refine call_enumerate_list p1.isList λh' z1 z2 z3 k=>?_
 have T:Turn X.prog X.w X.K (.Tuple elts kk tpos) (BE X.K a') _ _ _:=jQ s1.heap.objs.size a'
 refine T.self _ 0 { s1 with heap:=h' } _ _ ⟨⟨_,z1⟩,z2⟩ ?_
 refine⟨s1.heap.objs.size+1,[s1.heap.objs.size+1,s1.heap.objs.size],_,_,H1,rfl,I1.kept (t':=s1.toks) k,T,⟨⟨_,z1⟩,z2⟩,λc hc=>?_,q⟩
 have hle:s1.heap.objs.size<=c:=by
  simp only[JP,KG,or_false] at hc
  rcases hc with rfl | rfl
  ·exact kX _ 1
  ·exact kX _ 0
 exact I1.fpOk hle (I1.hok.fresh hle)
abbrev Cx.in1(X:Cx):Cx:={ X with A:=X.A.in1 }
theorem Inv.in1{X:Cx}{pins:List (JK×Obj)}{σ:St}{H:Hp}{s:JH}(I:Inv X pins σ H s):Inv X.in1 pins σ H s:=
 ⟨⟨I.ok.mod,I.ok.kind,I.ok.glob,I.ok.blt,I.ok.above,I.ok.inj,I.ok.has,I.ok.cab,I.ok.hd,I.ok.st,I.ok.frames,I.ok.stk,I.ok.exf,I.ok.bs,I.ok.bsz,I.ok.noex,I.ok.exfs,I.ok.funs,I.ok.frf⟩,I.os,I.bare,I.base,I.loc,I.cell,I.free,I.freeC,I.pin,I.hok,I.len⟩
theorem Inv.out1{X:Cx}{pins:List (JK×Obj)}{σ:St}{H:Hp}{s:JH}(I:Inv X.in1 pins σ H s):Inv X pins σ H s:=
 ⟨⟨I.ok.mod,I.ok.kind,I.ok.glob,I.ok.blt,I.ok.above,I.ok.inj,I.ok.has,I.ok.cab,I.ok.hd,I.ok.st,I.ok.frames,I.ok.stk,I.ok.exf,I.ok.bs,I.ok.bsz,I.ok.noex,I.ok.exfs,I.ok.funs,I.ok.frf⟩,I.os,I.bare,I.base,I.loc,I.cell,I.free,I.freeC,I.pin,I.hok,I.len⟩
def Xh(K:JC)(H:Hp)(ys:List V)(ks:List Bool):Prop:=RK (λy k=>sX K y H k) ys ks
theorem Fh{α β:Type}{F:α->β->Prop}:∀ {l₁:List α} {l₂:List β} {i:Nat} {a:α},RK F l₁ l₂->l₁[i]? = some a->∃b,l₂[i]? = some b/\F a b
 | _,_,_,_,.nil,e=>by simp at e
 | _,_,0,_,.cons r _,e=>by simp at e;subst e;exact⟨_,rfl,r⟩
 | _,_,i+1,a,.cons _ t,e=>by
  obtain⟨b,h1,h2⟩:=Fh (i:=i) (a:=a) t (by simpa using e)
  exact⟨b,by simpa using h1,h2⟩
section
variable {X:Cx} {pins:List (JK×Obj)} {σ:St} {H:Hp} {R:Result->JH->Prop} {a it:JK} {ys:List V} {ks:List Bool}
theorem qX(hc:X.calm=true)(hq:Aw X.K H a ys)(ht:Xh X.K H ys ks)(hR:∀s',Inv X pins σ H s'->R (.ok (.ret (.bool (ks.any id)))) s'):∀(k i:Nat)(s:JH),ys.length-i=k->i<=ys.length->(ks.take i).any id=false ->
 Inv X pins σ H s->De X pins H it->s.heap.IsListIter it a i->RV (KU X.prog X.w) X.A (.builtin "any.loop" ⟨[.ref it],[]⟩) R s:=by
 have hlen:ys.length=ks.length:=NK ht
 intro k
 induction k with
 | zero=>
  intro i s hk hi hn I hf st
  have hin:i=ys.length:=by omega
  refine ON F.entry_any_loop ?_
  rw[NY F.plain_any_loop _]
  show KR _ X.A.in1 (OW (.ref it) >>= _) _ _ s
  have T:=Mz (P:=X.prog) (w:=X.w) (K:=X.K) (tg:=.Name "x" ⟨0,0,0,0⟩) a it
  refine JA (Bu (T.done X.in1 rfl rfl rfl hc i pins s σ H _ I.in1 (λb hb=>by
   have e:b=it:=by simpa using hb
   subst e
   exact hf) st ⟨ys,hq,by omega⟩) λr s1 ⟨hr,I1⟩=>?_)
  subst hr
  refine JA (OY (JO ?_))
  have:=hR s1 I1.out1
  rw[<- LJ (l:=ks) (i:=i) (by omega),hn] at this
  exact this
 | succ k ih=>
  intro i s hk hi hn I hf st
  have hlt:i < ys.length:=by omega
  have hx:ys[i]? = some ys[i]:=JG hlt
  obtain⟨b,hb,htv⟩:=Fh ht hx
  refine ON F.entry_any_loop ?_
  rw[NY F.plain_any_loop _]
  show KR _ X.A.in1 (OW (.ref it) >>= _) _ _ s
  obtain⟨its,rv,p,_⟩:=I.list hq
  obtain⟨u,hu,ru⟩:=rv.get hx
  refine JA (SQ st p.isList (x:=u) (by simpa using hu) λh' st' sb=>?_)
  have I1:Inv X pins σ H { s with heap:=h' }:=I.turns (t':=s.toks) (ch:=[it]) (λc o hc' e=>(sb.2 c (by simpa using hc')).trans e) (λc hc'=>by
   have e:c=it:=by simpa using hc'
   subst e
   exact hf)
  obtain⟨oi,ei,ci,di⟩:=id st'
  have I1':Inv X.in1 (pins++[(it,oi)]) σ H { s with heap:=h' }:=I1.in1.pins_of λq hq'=>by
   rcases KI.mp hq' with z | z
   ·exact I1.pin q (JX _ z)
   ·have e:q=(it,oi):=by simpa using z
    subst e
    exact⟨ei,hf.1,hf.2.1,hf.2.2.1,λv z=>by rw[di] at z;cases z⟩
  refine JA (NC (MY (bG (X:=X.in1.nox) _ _ σ H ys[i] u (λk' H'=>k'=b/\H'=H) (I1'.wish _) ru ⟨b,htv,rfl,rfl⟩) (λkb s2 ⟨H2,I2',e1,e2⟩=>?_) (λ_ _ z=>z.elim)))
  subst e1 e2
  have I2:=I2'.unwish
  have st2:s2.heap.IsListIter it a (i+1):=⟨oi,(I2.pin (it,oi) (JX _ (JX _ (by simp)))).1,ci,di⟩
  refine JA (RT ?_)
  have hbk:ks[i]? = some kb:=hb
  cases kb with
  | false=>
   simp only[PM,if_false]
   refine JO ⟨RC F.plain_any_loop _,ih (i+1) s2 (by omega) hlt ?_ I2.unpinned.out1 hf st2⟩
   rw[MD,hbk,List.any_append,hn]
   rfl
  | true=>
   simp only[if_true]
   refine JA (OY (JO ?_))
   have:=hR s2 I2.unpinned.out1
   have e:ks.any id=true:=List.any_eq_true.mpr ⟨true,JY hbk,rfl⟩
   rw[e] at this
   exact this
theorem pW(hc:X.calm=true)(hq:Aw X.K H a ys)(ht:Xh X.K H ys ks)(hR:∀s',Inv X pins σ H s'->R (.ok (.ret (.bool (ks.all id)))) s'):∀(k i:Nat)(s:JH),ys.length-i=k->i<=ys.length->(ks.take i).all id=true ->
 Inv X pins σ H s->De X pins H it->s.heap.IsListIter it a i->RV (KU X.prog X.w) X.A (.builtin "all.loop" ⟨[.ref it],[]⟩) R s:=by
 have hlen:ys.length=ks.length:=NK ht
 intro k
 induction k with
 | zero=>
  intro i s hk hi hn I hf st
  have hin:i=ys.length:=by omega
  refine ON F.entry_all_loop ?_
  rw[NY F.plain_all_loop _]
  show KR _ X.A.in1 (OW (.ref it) >>= _) _ _ s
  have T:=Mz (P:=X.prog) (w:=X.w) (K:=X.K) (tg:=.Name "x" ⟨0,0,0,0⟩) a it
  refine JA (Bu (T.done X.in1 rfl rfl rfl hc i pins s σ H _ I.in1 (λb hb=>by
   have e:b=it:=by simpa using hb
   subst e
   exact hf) st ⟨ys,hq,by omega⟩) λr s1 ⟨hr,I1⟩=>?_)
  subst hr
  refine JA (OY (JO ?_))
  have:=hR s1 I1.out1
  rw[<- LJ (l:=ks) (i:=i) (by omega),hn] at this
  exact this
 | succ k ih=>
  intro i s hk hi hn I hf st
  have hlt:i < ys.length:=by omega
  have hx:ys[i]? = some ys[i]:=JG hlt
  obtain⟨b,hb,htv⟩:=Fh ht hx
  refine ON F.entry_all_loop ?_
  rw[NY F.plain_all_loop _]
  show KR _ X.A.in1 (OW (.ref it) >>= _) _ _ s
  obtain⟨its,rv,p,_⟩:=I.list hq
  obtain⟨u,hu,ru⟩:=rv.get hx
  refine JA (SQ st p.isList (x:=u) (by simpa using hu) λh' st' sb=>?_)
  have I1:Inv X pins σ H { s with heap:=h' }:=I.turns (t':=s.toks) (ch:=[it]) (λc o hc' e=>(sb.2 c (by simpa using hc')).trans e) (λc hc'=>by
   have e:c=it:=by simpa using hc'
   subst e
   exact hf)
  obtain⟨oi,ei,ci,di⟩:=id st'
  have I1':Inv X.in1 (pins++[(it,oi)]) σ H { s with heap:=h' }:=I1.in1.pins_of λq hq'=>by
   rcases KI.mp hq' with z | z
   ·exact I1.pin q (JX _ z)
   ·have e:q=(it,oi):=by simpa using z
    subst e
    exact⟨ei,hf.1,hf.2.1,hf.2.2.1,λv z=>by rw[di] at z;cases z⟩
  refine JA (NC (MY (bG (X:=X.in1.nox) _ _ σ H ys[i] u (λk' H'=>k'=b/\H'=H) (I1'.wish _) ru ⟨b,htv,rfl,rfl⟩) (λkb s2 ⟨H2,I2',e1,e2⟩=>?_) (λ_ _ z=>z.elim)))
  subst e1 e2
  have I2:=I2'.unwish
  have st2:s2.heap.IsListIter it a (i+1):=⟨oi,(I2.pin (it,oi) (JX _ (JX _ (by simp)))).1,ci,di⟩
  refine JA (RT ?_)
  have hbk:ks[i]? = some kb:=hb
  cases kb with
  | true=>
   simp only[if_true]
   refine JO ⟨RC F.plain_all_loop _,ih (i+1) s2 (by omega) hlt ?_ I2.unpinned.out1 hf st2⟩
   rw[MD,hbk,List.all_append,hn]
   rfl
  | false=>
   simp only[PM,if_false]
   refine JA (OY (JO ?_))
   have:=hR s2 I2.unpinned.out1
   have e:ks.all id=false:=by
    rw[List.all_eq_false]
    exact⟨false,JY hbk,by simp⟩
   rw[e] at this
   exact this
end
section
variable {X:Cx}
theorem Sh:PR "any" = some (.builtin "any"):=by decide +kernel
theorem Mt:PR "all" = some (.builtin "all"):=by decide +kernel
theorem Wt(hc:X.calm=true):Fj X (.builtin "any") (λxs H Q=>∃p ys ks,xs=[.ref p]/\Aw X.K H p ys/\Xh X.K H ys ks/\Q (.bl (ks.any id)) H):=by
 intro pins s σ H xs us Q I r h
 obtain⟨p,ys,ks,rfl,hq,ht,q⟩:=h
 obtain⟨u,rfl,ru⟩:=vals1 r
 cases ru
 refine call_function_tree F.kind_any F.plain_any F.entry_any (F.args_any1 _) ?_
 unfold Builtin.«any»
 refine JA (m:=oneArg "any" _) (JO ?_)
 obtain⟨its,rv,pl,hz⟩:=I.list hq
 refine JA (wpAny_pyIter_list pl.isList ?_)
 refine JO ⟨RC F.plain_any_loop _,qX (it:=s.heap.objs.size) hc hq ht ?_ ys.length 0 _ rfl (LG _) rfl (I.kept (t':=s.toks) λb o e=>JE _ e) (I.fpOk (JI _) (I.hok.fresh (JI _))) ⟨_,JZ _ rfl,rfl,rfl⟩⟩
 exact λs' I'=>⟨.bl _,H,I',rfl,q⟩
theorem Pq(hc:X.calm=true):Fj X (.builtin "all") (λxs H Q=>∃p ys ks,xs=[.ref p]/\Aw X.K H p ys/\Xh X.K H ys ks/\Q (.bl (ks.all id)) H):=by
 intro pins s σ H xs us Q I r h
 obtain⟨p,ys,ks,rfl,hq,ht,q⟩:=h
 obtain⟨u,rfl,ru⟩:=vals1 r
 cases ru
 refine call_function_tree F.kind_all F.plain_all F.entry_all (F.args_all1 _) ?_
 unfold Builtin.«all»
 refine JA (m:=oneArg "all" _) (JO ?_)
 obtain⟨its,rv,pl,hz⟩:=I.list hq
 refine JA (wpAny_pyIter_list pl.isList ?_)
 refine JO ⟨RC F.plain_all_loop _,pW (it:=s.heap.objs.size) hc hq ht ?_ ys.length 0 _ rfl (LG _) rfl (I.kept (t':=s.toks) λb o e=>JE _ e) (I.fpOk (JI _) (I.hok.fresh (JI _))) ⟨_,JZ _ rfl,rfl,rfl⟩⟩
 exact λs' I'=>⟨.bl _,H,I',rfl,q⟩
theorem Eo:Fj X (.builtin "isinstance") (λxs H Q=>∃x T t b,xs=[x,.ty T]/\Mo X.K H x t/\QG X.K t (.type T)=some b/\Q (.bl b) H):=by
 intro pins s σ H xs us Q I r h
 obtain⟨x,T,t,b,rfl,ty,e,q⟩:=h
 obtain⟨u,w',rfl,ru,rw'⟩:=vals2 r
 cases rw'
 exact jP I ru ty e λtk=>⟨.bl b,H,I.tok _,rfl,q⟩
theorem aT:CQ X (λx lo hi H Q=>∃z,x=.str z/\z.length<=JM/\Q (.str (SH z lo hi)) H):=by
 intro pins s σ H x v vl vu lo hi sl Q I rx hs pl pu h
 obtain⟨z,rfl,hz,q⟩:=h
 obtain⟨t,rfl⟩:=rx
 obtain⟨o,ho,hc,hd⟩:=hs
 have fin:∀(l u:Option (Int×Tok)),vl=partValue l->vu=partValue u->lo=l.map (·.1)->hi=u.map (·.1)->KR (KU X.prog X.w) X.A (getItem (.str z t) (.ref sl)) (EP X pins σ Q) X.xe s:=λl u e1 e2 e3 e4=>by
  subst e1 e2 e3 e4
  exact wpAny_getItem_str_slice (l:=l) (u:=u) (st:=none) ⟨o,ho,hc,hd⟩ rfl (post_val_or_str ⟨KS (Txt.slice_le z _ _) hz,λt' k=>⟨.str _,H,I.tok _,⟨_,rfl⟩,q⟩⟩)
 refine⟨"str", _,F.slot_str_getitem.lookup,typeIs_str _ _ _,?_⟩
 cases pl with
 | none=>
  cases pu with
  | none=>exact fin none none rfl rfl rfl rfl
  | int j tj=>exact fin none (some (j,tj)) rfl rfl rfl rfl
 | int i ti=>
  cases pu with
  | none=>exact fin (some (i,ti)) none rfl rfl rfl rfl
  | int j tj=>exact fin (some (i,ti)) (some (j,tj)) rfl rfl rfl rfl
end
theorem tM{K:JC}{a b:JK}{xs ys:List V}{g:TG}{tb:TS}{D:Ends}{σ:St}{H:Hp}(hlen:xs.length=ys.length)(Pv:Nat->St->Hp->Prop)(h0:Pv 0 σ H)(hl:∀i σ H,i<=xs.length->Pv i σ H->Aw K H a xs/\Aw K H b ys)(hs:∀i x y σ H T,xs[i]? = some x->ys[i]? = some y->Pv i σ H->H T=none->g (.ref T) σ (upd H T (.tup [x,y])) λσ2 H2=>tb { D with nx:=Pv (i+1),ct:=Pv (i+1),bk:=D.nx } σ2 H2)(hd:∀σ H,Pv xs.length σ H->D.nx σ H):
 ∃W:Nat->Nat->St->Hp->Prop,(∃m,W 0 m σ H)/\∀i m σ H,W i m σ H ->
  ((AG K a b).stop i H/\D.nx σ H)∨((AG K a b).go i H/\∃N:St->Hp->Prop,(∀σ' H',N σ' H'->∃m',m' < m/\W (i+1) m' σ' H')/\∀x H',(AG K a b).yld i H x H'->g x σ H' λσ2 H2=>tb { D with nx:=N,ct:=N,bk:=D.nx } σ2 H2):=by
 refine⟨λi m σ H=>m=xs.length-i/\i<=xs.length/\Pv i σ H,⟨xs.length,by simp,LG _,h0⟩,?_⟩
 rintro i m σ H ⟨rfl,hi,p⟩
 obtain⟨q1,q2⟩:=hl i σ H hi p
 by_cases hlt:i < xs.length
 ·have hlt2:i < ys.length:=by omega
  refine .inr ⟨⟨xs,ys,xs[i],ys[i],q1,q2,by simp[hlt],by simp[hlt2]⟩,Pv (i+1),λσ' H' p'=>⟨xs.length-(i+1),by omega,rfl,hlt,p'⟩,λx H' y=>?_⟩
  obtain⟨T,x',y',hT,rfl,rfl,e1,e2⟩:=y
  exact hs i x' y' σ _ T (e1 xs q1) (e2 ys q2) p hT
 ·have e:i=xs.length:=by omega
  subst e
  exact .inl ⟨⟨xs,ys,q1,q2,.inl (JI _)⟩,hd σ H p⟩
theorem qY{K:JC}{a:JK}{xs:List V}{g:TG}{tb:TS}{D:Ends}{σ:St}{H:Hp}(Pv:Nat->St->Hp->Prop)(h0:Pv 0 σ H)(hl:∀i σ H,i<=xs.length->Pv i σ H->Aw K H a xs)(hs:∀i x σ H T,xs[i]? = some x->Pv i σ H->H T=none->g (.ref T) σ (upd H T (.tup [.int i,x])) λσ2 H2=>tb { D with nx:=Pv (i+1),ct:=Pv (i+1),bk:=D.nx } σ2 H2)(hd:∀σ H,Pv xs.length σ H->D.nx σ H):
 ∃W:Nat->Nat->St->Hp->Prop,(∃m,W 0 m σ H)/\∀i m σ H,W i m σ H ->
  ((BE K a).stop i H/\D.nx σ H)∨((BE K a).go i H/\∃N:St->Hp->Prop,(∀σ' H',N σ' H'->∃m',m' < m/\W (i+1) m' σ' H')/\∀x H',(BE K a).yld i H x H'->g x σ H' λσ2 H2=>tb { D with nx:=N,ct:=N,bk:=D.nx } σ2 H2):=by
 refine⟨λi m σ H=>m=xs.length-i/\i<=xs.length/\Pv i σ H,⟨xs.length,by simp,LG _,h0⟩,?_⟩
 rintro i m σ H ⟨rfl,hi,p⟩
 have q:=hl i σ H hi p
 by_cases hlt:i < xs.length
 ·refine .inr ⟨⟨xs,xs[i],q,by simp[hlt]⟩,Pv (i+1),λσ' H' p'=>⟨xs.length-(i+1),by omega,rfl,hlt,p'⟩,λx H' y=>?_⟩
  obtain⟨T,x',hT,rfl,rfl,e1⟩:=y
  exact hs i x' σ _ T (e1 xs q) p hT
 ·have e:i=xs.length:=by omega
  subst e
  exact .inl ⟨⟨xs,q,JI _⟩,hd σ H p⟩
theorem Sr{K:JC}{a b:JK}{xs zs:List V}{n:Nat}{fr:List (Str×Nat)}{g:TG}{tc:TT}{te:TE}{σ:St}{H:Hp}{F:List V->Hp->Prop}(hlen:xs.length=zs.length)(Pv:Nat->List V->Hp->Prop)(h0:Pv 0 [] H)(hl:∀i ys H,i<=xs.length->Pv i ys H->Aw K H a xs/\Aw K H b zs)(hs:∀i x z ys H T,xs[i]? = some x->zs[i]? = some z->Pv i ys H->H T=none->g (.ref T) (stC n fr σ) (upd H T (.tup [x,z])) λσ2 H2=>tc σ2 H2 λb H3=>if b=true then te σ2 H3 λy H4=>ys.length < JM/\Pv (i+1) (ys++[y]) H4 else Pv (i+1) ys H3)(hd:∀ys H,Pv xs.length ys H->F ys H):Eu n fr g tc te σ (AG K a b) H F:=by
 refine⟨λi m ys H=>m=xs.length-i/\i<=xs.length/\Pv i ys H,⟨xs.length,by simp,LG _,h0⟩,?_⟩
 rintro i m ys H ⟨rfl,hi,p⟩
 obtain⟨q1,q2⟩:=hl i ys H hi p
 by_cases hlt:i < xs.length
 ·have hlt2:i < zs.length:=by omega
  refine .inr ⟨⟨xs,zs,xs[i],zs[i],q1,q2,by simp[hlt],by simp[hlt2]⟩,Pv (i+1),λys' H' p'=>⟨xs.length-(i+1),by omega,rfl,hlt,p'⟩,λx H' y=>?_⟩
  obtain⟨T,x',y',hT,rfl,rfl,e1,e2⟩:=y
  exact hs i x' y' ys _ T (e1 xs q1) (e2 zs q2) p hT
 ·have e:i=xs.length:=by omega
  subst e
  exact .inl ⟨⟨xs,zs,q1,q2,.inl (JI _)⟩,hd ys H p⟩
theorem Dz{K:JC}{a:JK}{xs:List V}{n:Nat}{fr:List (Str×Nat)}{g:TG}{te:TE}{σ:St}{H:Hp}{F:List V->Hp->Prop}(Pv:Nat->List V->Hp->Prop)(h0:Pv 0 [] H)(hl:∀i ys H,i<=xs.length->Pv i ys H->Aw K H a xs)(hs:∀i x ys H,xs[i]? = some x->Pv i ys H->g x (stC n fr σ) H λσ2 H2=>te σ2 H2 λy H4=>ys.length < JM/\Pv (i+1) (ys++[y]) H4)(hd:∀ys H,Pv xs.length ys H->F ys H):Eu n fr g Po te σ (xL K a) H F:=Pa Pv h0 hl (λi x ys H hx p=>hs i x ys H hx p) hd
theorem Ie{lo:Int}{k n:Nat}{fr:List (Str×Nat)}{g:TG}{te:TE}{σ:St}{H:Hp}{F:List V->Hp->Prop}(Pv:Nat->List V->Hp->Prop)(h0:Pv 0 [] H)(hs:∀i ys H,i < k->Pv i ys H->g (.int (lo+i)) (stC n fr σ) H λσ2 H2=>te σ2 H2 λy H4=>ys.length < JM/\Pv (i+1) (ys++[y]) H4)(hd:∀ys H,Pv k ys H->F ys H):Eu n fr g Po te σ (vF lo k) H F:=Wh Pv h0 (λi ys H hi p=>hs i ys H hi p) hd
theorem Qj{K:JC}{a b:JK}{xs zs:List V}{n:Nat}{fr:List (Str×Nat)}{g:TG}{te:TE}{σ:St}{H:Hp}{F:List V->Hp->Prop}(hlen:xs.length=zs.length)(Pv:Nat->List V->Hp->Prop)(h0:Pv 0 [] H)(hl:∀i ys H,i<=xs.length->Pv i ys H->Aw K H a xs/\Aw K H b zs)(hs:∀i x z ys H T,xs[i]? = some x->zs[i]? = some z->Pv i ys H->H T=none->g (.ref T) (stC n fr σ) (upd H T (.tup [x,z])) λσ2 H2=>te σ2 H2 λy H4=>ys.length < JM/\Pv (i+1) (ys++[y]) H4)(hd:∀ys H,Pv xs.length ys H->F ys H):Eu n fr g Po te σ (AG K a b) H F:=Sr hlen Pv h0 hl (λi x z ys H T hx hz p hT=>hs i x z ys H T hx hz p hT) hd
abbrev BS(l:List Env):List JK:=l.filterMap (·.frame)
structure Flew(S ch:List JK)(h h':MQ):Prop where
 keep:∀b o,b∉S->b∉ch->h.get? b=some o->h'.get? b=some o
 slot:∀b o,b∉ch->h.get? b=some o->∃sl,h'.get? b=some { o with slots:=sl }
 size:h.objs.size<=h'.objs.size
theorem Flew.trans{S c1 c2:List JK}{h h1 h2:MQ}(a:Flew S c1 h h1)(b:Flew S c2 h1 h2):Flew S (c1++c2) h h2 where
 keep:=λx o hs hc e=>by
  rw[KI,not_or] at hc
  exact b.keep x o hs hc.2 (a.keep x o hs hc.1 e)
 slot:=λx o hc e=>by
  rw[KI,not_or] at hc
  obtain⟨s1,e1⟩:=a.slot x o hc.1 e
  obtain⟨s2,e2⟩:=b.slot x _ hc.2 e1
  exact⟨s2,e2⟩
 size:=KS a.size b.size
theorem Flew.mono{S c1 c2:List JK}{h h1:MQ}(a:Flew S c1 h h1)(k:∀b∈c1,b∈c2):Flew S c2 h h1:=
 ⟨λx o hs hc e=>a.keep x o hs (λz=>hc (k x z)) e,λx o hc e=>a.slot x o (λz=>hc (k x z)) e,a.size⟩
structure nI(h:MQ)(e:JK)(cls:JD)(dx:Option JK)(oe:Obj)(vs:Array JD):Prop where
 get:h.get? e=some oe
 cls:oe.cls=cls
 dict:oe.dict=dx
 data:oe.data=.fields vs
 tb:vs[1]? = some .none
 cx:vs[2]? = some .none
structure ExcAt(h:MQ)(e:JK)(cls:JD)(dx:Option JK)(T:JK)(fl:JD)(oe oT:Obj)(vs ts:Array JD):Prop where
 get:h.get? e=some oe
 cls:oe.cls=cls
 dict:oe.dict=dx
 data:oe.data=.fields vs
 tb:vs[1]? = some (.ref T)
 ne:T≠e
 getT:h.get? T=some oT
 dataT:oT.data=.fields ts
 fl:ts[3]? = some fl
 cx:vs[2]? = some .none
theorem jL(o:Obj)(f:Array JD->Array JD):(o.mapFields f).dict=o.dict:=by
 obtain⟨c,d,dt,sl⟩:=o
 cases dt<;>rfl
section
variable {M:Model} {A:LI} {E:JD->JH->Prop} {s:JH} {base:MQ} {env:Env} {outer:List Env} {L e:JK} {cls:JD} {dx:Option JK} {Q:Unit->JH->Prop}
theorem So(hl:s.heap.FunFrames base (env::outer)){b:JK}{o:Obj}{vs:Array JD}(e1:s.heap.get? b=some o)(d:o.data=.fields vs):b∉BS (env::outer):=λhm=>by
 obtain⟨_,o',ho,hnf⟩:=hl.mem hm
 rw[e1] at ho
 cases ho
 exact hnf vs d
theorem mG{oe:Obj}{vs:Array JD}{head:JD}{hn:Bool}(hfr:A.frames=some (env::outer))(hl:s.heap.FunFrames base (env::outer))(hf:env.frame=some L)(he:s.heap.get? e=some oe)(hc:oe.cls=cls)(hx:oe.dict=dx)(hd:oe.data=.fields vs)(hsz:1 < vs.size)(hcx:vs[2]? = some .none)(h:∀h' T oe' oT vs' ts,s.heap.objs.size<=T->Flew (BS (env::outer)) [e] s.heap h'->ExcAt h' e cls dx T (QJ L) oe' oT vs' ts->Q () { s with heap:=h' }):
 KR M A (do let a <- frameOf env;let pl <- entryPlaceOf L hn;let b <- EntryCells.newEntry head a .none (QJ L) .none pl;setField (.ref e) 1 b) Q E s:=by
 have ne:=So hl he hd
 refine JA (wpAny_frameOf_fun hfr hl hf λh1 so=>JA (wpAny_entryPlaceOf λpl hpl=>?_))
 unfold EntryCells.newEntry newFields
 refine JA (OZ ?_ (hpl.sizeOk5 _ _ _ _ _))
 have e1:h1.get? e=some oe:=(so.2.1 e ne).trans he
 generalize hto:({ cls:=.type "traceback", dict:=none,data:=.fields ([head,.ref L,.none,QJ L,.none]++(if pl.isEmpty then KZ 6 MU else pl)).toArray }:Obj)=tobj
 have hT3:∃ts,tobj.data=.fields ts/\ts[3]? = some (QJ L)/\tobj.isFreed=false:=by
  subst hto
  exact⟨_,rfl,by first | (simp;done) | (rcases hpl with rfl | ⟨_,_,_,_,_,_,_,rfl⟩<;>simp),rfl⟩
 obtain⟨ts,td,t3,tf⟩:=hT3
 have e2:(h1.push tobj).get? e=some oe:=JE tobj e1
 have sz1:h1.objs.size=s.heap.objs.size:=so.1
 have nT:h1.objs.size≠e:=OC (JW e1)
 have d3:=QR hd (·.setIfInBounds 1 (JV h1.objs.size))
 refine MM e2 hd hsz (h _ h1.objs.size _ tobj _ ts (QP sz1.symm) ⟨λb o hs hc' q=>?_,λb o hc' q=>?_,?_⟩ ⟨MS _ e2 (QX d3),(Obj.cls_mapFields _ _).trans hc,(jL _ _).trans hx,d3,by simp[hsz],nT,?_,td,t3,by rw[Array.getElem?_setIfInBounds_ne (by decide)];exact hcx⟩)
 ·rw[LP _ _ (LH (show b≠e by simpa using hc'))]
  exact JE _ ((so.2.1 b hs).trans q)
 ·obtain⟨sl,q1⟩:=so.2.2 b o q
  refine⟨sl,?_⟩
  rw[LP _ _ (LH (show b≠e by simpa using hc'))]
  exact JE _ q1
 ·have z:=OL h1 tobj
  have z2:((h1.push tobj).update e (PX (·.setIfInBounds 1 (JV h1.objs.size)))).objs.size=(h1.push tobj).objs.size:=(QN (a:=e) (h1.push tobj) (PX (·.setIfInBounds 1 (JV h1.objs.size)))).1
  exact KS (QP sz1.symm) (KS (by rw[z];exact OI _) (QP z2.symm))
 ·rw[LP _ _ (LH nT)]
  exact JZ h1 tf
theorem Yq{oe:Obj}{vs:Array JD}(hfr:A.frames=some (env::outer))(hl:s.heap.FunFrames base (env::outer))(hf:env.frame=some L)(x:nI s.heap e cls dx oe vs)(h:∀h' T oe' oT vs' ts,s.heap.objs.size<=T->Flew (BS (env::outer)) [e] s.heap h'->ExcAt h' e cls dx T (QJ L) oe' oT vs' ts->Q () { s with heap:=h' }):KR M A (noteFrame (.ref e) env) Q E s:=by
 unfold noteFrame
 simp only[hf]
 refine JA (KY x.get x.data x.tb ?_)
 rw[if_neg (by decide)]
 exact mG hfr hl hf x.get x.cls x.dict x.data (NI.mp x.tb).1 x.cx h
theorem pH{T:JK}{fl:JD}{oe oT:Obj}{vs ts:Array JD}(x:ExcAt s.heap e cls dx T fl oe oT vs ts)(S:List JK):
 Flew S [T] s.heap (s.heap.update T (PX (·.setIfInBounds 3 .none)))/\∃oT' ts',ExcAt (s.heap.update T (PX (·.setIfInBounds 3 .none))) e cls dx T .none oe oT' vs ts':=by
 have hsz:3 < ts.size:=(NI.mp x.fl).1
 have d3:=QR x.dataT (·.setIfInBounds 3 MU)
 have oth:∀b,b≠T->(s.heap.update T (PX (·.setIfInBounds 3 .none))).get? b=s.heap.get? b:=λb hb=>LP _ _ (LH hb)
 refine⟨⟨λb o _ hc q=>(oth b (by simpa using hc)).trans q,λb o hc q=>⟨o.slots,(oth b (by simpa using hc)).trans q⟩,QP (QN (a:=T) s.heap _).1.symm⟩,_,_,(oth e (LH x.ne)).trans x.get,x.cls,x.dict,x.data,x.tb,x.ne,MS _ x.getT (QX d3),d3,by simp[hsz],x.cx⟩
theorem eI{T:JK}{fl:JD}{oe oT:Obj}{vs ts:Array JD}(x:ExcAt s.heap e cls dx T fl oe oT vs ts)(S:List JK)(h:∀h' oT' ts',Flew S [T] s.heap h'->ExcAt h' e cls dx T .none oe oT' vs ts'->Q () { s with heap:=h' }):KR M A (setFlight (.ref e) none) Q E s:=by
 obtain⟨k1,oT',ts',k2⟩:=pH (s:=s) x S
 unfold setFlight
 refine JA (KY x.get x.data x.tb ?_)
 rw[if_pos (show (JV T != MU)=true from by simp)]
 exact MM x.getT x.dataT (NI.mp x.fl).1 (h _ _ _ k1 k2)
theorem cP{T:JK}{fl:JD}{oe oT:Obj}{vs ts:Array JD}(hfr:A.frames=some (env::outer))(hl:s.heap.FunFrames base (env::outer))(hf:env.frame=some L)(x:ExcAt s.heap e cls dx T fl oe oT vs ts)(hne:(fl == QJ L)=false)(h:∀h' T' oe' oT' vs' ts',s.heap.objs.size<=T'->Flew (BS (env::outer)) [e,T] s.heap h'->ExcAt h' e cls dx T' (QJ L) oe' oT' vs' ts'->Q () { s with heap:=h' }):KR M A (noteFrame (.ref e) env) Q E s:=by
 unfold noteFrame
 simp only[hf]
 refine JA (KY x.get x.data x.tb ?_)
 rw[if_pos (show (JV T != MU)=true from by simp)]
 refine JA (KY x.getT x.dataT x.fl ?_)
 rw[if_neg (show ¬ ((fl == QJ L)=true) by rw[hne];exact JN)]
 refine JA (MM x.getT x.dataT (NI.mp x.fl).1 ?_)
 obtain⟨k1,oT',ts',k2⟩:=pH (s:=s) x (BS (env::outer))
 have nfT:=So hl x.getT x.dataT
 have hl2:(s.heap.update T (PX (·.setIfInBounds 3 .none))).FunFrames base (env::outer):=hl.of_keeps λb o q hnf=>by
  obtain⟨sl,q'⟩:=k1.slot b o (λz=>by
   have z':b=T:=by simpa using z
   subst z'
   rw[x.getT] at q
   cases q
   exact hnf ts x.dataT) q
  exact⟨_,q',rfl⟩
 refine mG (s:={ s with heap:=s.heap.update T (PX (·.setIfInBounds 3 .none)) }) hfr hl2 hf k2.get k2.cls k2.dict k2.data (NI.mp x.tb).1 x.cx λh' T' oe' oT2 vs' ts2 hT' fl at'=>?_
 exact h h' T' oe' oT2 vs' ts2 (KS k1.size hT') ((k1.trans fl).mono (by intro b hb;simp at hb ⊢;rcases hb with z | z<;>simp[z])) at'
end
end L2
namespace L2
open PySem PySem.Spec PyProof.Rows
theorem Ez{N P:List Str}{sc:Scope}(h:N.Nodup/\(∀x∈P,sc.names.lookup x=some .local∨sc.names.lookup x=some .cell)/\∀y∈sc.names,y.2 ≠ .free)(h1:sc.kind=.function:=by rfl)(h2:sc.isCoroutine=false:=by rfl)(h3:sc.isGenerator=false:=by rfl)(h4:N.take P.length=P:=by rfl):An N P sc:=⟨h1,h2,h3,h.1,h4,h.2.1,h.2.2⟩
section
variable {X:Cx} {k:Nat} {f:JK} {fd:LB} {ps:List Str} {sp:Sp} {x:Str} {e a b c d:Expr} {es:List Expr} {t:TA} {ta tb tc td:TE} {p pos pos':Pos}
theorem Du(ha:PE X a ta)(h1:KQ [a] X.env=[(false,OX a X.env)]:=by rfl):PA X [a] (Iz ta Xz):=Fz ha Fu h1
theorem Em(ha:PE X a ta)(hb:PE X b tb)(h1:KQ [b] X.env=[(false,OX b X.env)]:=by rfl)(h2:KQ [a,b] X.env=(false,OX a X.env)::KQ [b] X.env:=by rfl):PA X [a,b] (Iz ta (Iz tb Xz)):=Fz ha (Du hb h1) h2
theorem Ja(ha:PE X a ta)(hb:PE X b tb)(hc:PE X c tc)(h0:KQ [c] X.env=[(false,OX c X.env)]:=by rfl)(h1:KQ [b,c] X.env=(false,OX b X.env)::KQ [c] X.env:=by rfl)(h2:KQ [a,b,c] X.env=(false,OX a X.env)::KQ [b,c] X.env:=by rfl):PA X [a,b,c] (Iz ta (Iz tb (Iz tc Xz))):=Fz ha (Em hb hc h0 h1) h2
theorem rO(ha:PE X a ta)(hb:PE X b tb)(hc:PE X c tc)(hd:PE X d td)(h3:KQ [d] X.env=[(false,OX d X.env)]:=by rfl)(h0:KQ [c,d] X.env=(false,OX c X.env)::KQ [d] X.env:=by rfl)(h1:KQ [b,c,d] X.env=(false,OX b X.env)::KQ [c,d] X.env:=by rfl)(h2:KQ [a,b,c,d] X.env=(false,OX a X.env)::KQ [b,c,d] X.env:=by rfl):PA X [a,b,c,d] (Iz ta (Iz tb (Iz tc (Iz td Xz)))):=Fz ha (Ja hb hc hd h3 h0 h1) h2
theorem Cf(F:Al X.prog X.w X.K X.mg X.base Bi k f fd ps sp)(hr:Ck k X.A)(hm:X.mg x=some (.ref f))(hk:JR X.K (.ref f)=true)(hb:Binds X.K fd ps [])(ha:PA X (e::es) t)(hg:Gl X x:=by rfl)(hc:X.calm=true:=by rfl)(hdb:(x == ("__debug__" : Str))=false:=by decide)(he:KQ (e::es) X.env=(false,OX e X.env)::KQ es X.env:=by rfl)(hpl:(QK pos (KQ es X.env)).any (·.1)=false:=by rfl):
 PE X (.Call (.Name x p) (e::es) [] pos) (wY sp [] E0 t):=Di F hr hg hm hk hb .nil (Dh hc) ha hdb he hpl
theorem Bv(i:Nat){x:Str}{e:Expr}{te:TE}(hN:X.N.Nodup)(he:PE X e te)(hi:X.N[i]? = some x:=by rfl)(hx:Loc X.env.scope x:=by exact .inl rfl)(hs:swapsWith e (some (.Name x pos')) pos.line X.env=pure false:=by rfl)(hf:X.fn x=true∨X.env.scope.names.lookup x=some .local:=by first | exact .inl rfl | exact .inr rfl | assumption):
 PS X (.Assign [.Name x pos'] e pos) (Wp te (Kk i)):=Mr hN hi hx he hs hf
theorem Dg(i:Nat){x:Str}(hN:X.N.Nodup)(hi:X.N[i]? = some x:=by rfl)(hx:Loc X.env.scope x:=by exact .inl rfl)(hf:X.fn x=true∨X.env.scope.names.lookup x=some .local:=by first | exact .inl rfl | exact .inr rfl | assumption):PG X (.Name x pos) (Kk i):=rP hN hi hx hf
theorem Bw(hm:X.mg "len" = none)(ha:PE X a ta)(hg:Gl X "len" := by rfl)(h1:KQ [a] X.env=[(false,OX a X.env)]:=by rfl):PE X (.Call (.Name "len" p) [a] [] pos) (HI (λxs H Q=>∃p ys,xs=[.ref p]/\(Aw X.K H p ys∨Co X.K H p ys)/\Q (.int ys.length) H) (Iz ta Xz)):=Bz Vo hg hm PySem.boot_len (Du ha h1) (by decide) (by decide) h1 rfl
end
end L2
namespace L2
open PySem PySem.Spec PyProof.Rows PySem.W
section
variable {prog:KC} {w:LL} {A:LI} {R:Result->JH->Prop} {E:JD->JH->Prop} {h:MQ} {g:Array GenState} {d:Drawn} {t:Nat} {os:OsState}
variable {nm q:Str} {C N f:JK} {bs bm bmB:List JD} {hdct:Bool} {sn:List Str} {sub:List JD} {ab:Bool} {col:Option Bool} {dd:Option JK} {k0 k1 k2 k3 k5:Option JD} {B Bn newId nid initId inN:String} {bmN:List JD}
abbrev Dp(C t:JK):Obj:={ cls:=.ref C,data:=.fields #[.ref t,.none,.none,.none,.bool false,.none] }
abbrev Ec(rest:List JD):Obj:={ cls:=.type "tuple", data:=.seq rest.toArray }
theorem vL(Fn:ExcBaseFacts Bn newId inN bmN)(hBn:bmB.contains (.type Bn)=true)(F:ExcBaseFacts B nid initId bmB)(T:OwnTail h bmB bm){rest:List JD}(hC:h.get? C=some (excClassObj nm q C N bs bm hdct sn sub ab col dd k0 k1 k2 k3 k5 newId))(hi:PJ (KU prog w) h (typeLookup (.ref C) "__init__") (some (.ref f)))(hb:∀self,PJ (KU prog w) h (bindSpecial (.ref f) self) (.ref f,[self]))(hrest:rest.length<=JM)(hq:RV (KU prog w) (A.under (.builtin "type.__call__" ⟨.ref C::rest,[]⟩)) (.call (.ref f) ⟨.ref (h.objs.size+1)::rest,[]⟩) (PySem.W.InitBack (h.objs.size+1) R) ⟨(h.push (Ec rest)).push (Dp C h.objs.size),g,d,t,os⟩):
 RV (KU prog w) A (.call (.ref C) ⟨rest,[]⟩) R ⟨h,g,d,t,os⟩:=by
 have f1:=tc_lookup
 have f2:=tc_bind (.ref C)
 have hT:(⟨h,g,d,t,os⟩:JH).TypeIs (.ref C) "type" := ⟨_,hC,rfl⟩
 refine codeAny_of_tree ?_
 show KR _ _ (callAny (.ref C) _) _ _ _
 repeat (any_goals (first | assumption | with_reducible refine RB hC ?_ | wp_step))
 refine⟨rfl,codeAny_call_builtin_at (SL _ (by decide +kernel)) entry_typeCall (wpAny_check_type_call_sub hC ?_)⟩
 repeat (first | with_reducible refine RB hC ?_ | with_reducible refine wpAny_madeBy_exc hC ?_ | wp_step)
 refine codeAny_call_builtin_code (SL _ Fn.quiet) (wpAny_check_new_subU Fn hBn T hC (codeAny_exc_new_subU Fn hBn F T hC ?_ hrest))
 show KR _ _ _ _ _ _
 have k:∀b o,h.get? b=some o->((h.push (Ec rest)).push (Dp C h.objs.size)).get? b=some o:=λb o e=>JE _ (JE _ e)
 have hx:((h.push (Ec rest)).push (Dp C h.objs.size)).get? (h.objs.size+1)=some (Dp C h.objs.size):=by heap_get
 have c1:=k _ _ hC
 have hcC:(JV C::bm).contains (.ref C)=true:=by simp
 have i1:=hi.keeps k
 have b1:=(hb (.ref (h.objs.size+1))).keeps k
 have t1:PJ (KU prog w) ((h.push (Ec rest)).push (Dp C h.objs.size)) (typeOf (.ref (h.objs.size+1))) (.ref C):=(PySem.W.Looks.ld hx).andThen .now
 have t2:PJ (KU prog w) ((h.push (Ec rest)).push (Dp C h.objs.size)) (isSubtype (.ref C) (.ref C)) true:=λA' Q' E' s' k' q'=>by
  obtain⟨h',g',d',tk',os'⟩:=s'
  refine wpAny_isSubtype_exc (k' _ _ c1) ?_
  rw[hcC]
  exact q'
 show KR (KU prog w) _ (isInstance (.ref (h.objs.size+1)) (.ref C) >>= _) _ _ ⟨(h.push (Ec rest)).push (Dp C h.objs.size),g,d,t,os⟩
 unfold isInstance callSpecial? specialOf
 repeat (first | with_reducible refine RW ?_ | lk)
 refine PQ hq λr s' z=>?_
 rcases r with e | (v | _ | _ | _)<;>first | exact z | exact z.elim | skip
 obtain⟨rfl,z⟩:=z
 exact JO (JO z)
end
end L2
namespace L2
open PySem PySem.Spec PyProof.Rows
structure yL(P:KC)(w:LL)(outer:List Env)(H:Hp)(s:JH)(cls:JD)(dx:Option JK)(H':Hp)(x:JK)(s':JH):Prop where
 os:s'.os=s.os
 bare:AllBare s'.gens
 un:Un (Rc outer) [] H H' s.heap s'.heap
 hok:Kg P w H' s'.heap
 hx:H' x=none
 nx:s.heap.objs.size<=x
 fly:∃T oe oT vs ts,H' T=none/\s.heap.objs.size<=T/\ExcAt s'.heap x cls dx T .none oe oT vs ts
def Gp(P:KC)(w:LL):Wc:=⟨λouter H s E e s'=>∃x cls dx H',e=.ref x/\yL P w outer H s cls dx H' x s'/\E cls dx H',true⟩
section
variable {X:Cx} {pins:List (JK×Obj)} {σ:St} {H:Hp} {s:JH} {h':MQ} {ch:List JK}
theorem Inv.flew{g:Array GenState}(I:Inv X pins σ H s)(fl:Flew (Rc X.stack) ch s.heap h')(hc:∀b∈ch,H b=none):Kg X.prog X.w H h':=λa o e=>
 (I.hok a o e).stay (λb u hb q=>fl.keep b u (λz=>by
  rcases hb with rfl | hb
  ·rw[I.stkFree b z] at e;cases e
  ·rw[I.stkFree b z] at hb;cases hb) (λz=>by
  rcases hb with rfl | hb
  ·rw[hc b z] at e;cases e
  ·rw[hc b z] at hb;cases hb) q) (λ_ q=>q) λ_ _ q=>q
theorem Inv.unFlew(I:Inv X pins σ H s)(hx:X.ex=[])(hst:X.stack=X.env::X.outer)(hfr:X.env.frame=some X.env.locals)(fl:Flew (Rc X.stack) ch s.heap h')(hc:∀b∈ch,X.s₀.heap.objs.size<=b):Un (Rc X.outer) [] X.H₀ H X.s₀.heap h':=by
 have old:∀ {b:JK} {o:Obj},X.s₀.heap.get? b=some o->b∉ch/\b≠X.env.locals:=λ{b o} e=>⟨λz=>absurd (LD (JW e) (hc b z)) (PK _),KL (LD (JW e) I.ok.above)⟩
 have nex:∀b:JK,b∉X.ex:=λb z=>by rw[hx] at z;cases z
 have nst:∀ {b:JK},b∉Rc X.outer->b≠X.env.locals->b∉Rc X.stack:=λ{b} h1 h2 z=>by
  rcases JP.mp (I.stkSub b z) with q | q
  ·exact h2 q
  ·exact h1 q
 refine⟨λb o e n hb _=>fl.keep b o (nst hb (old e).2) (old e).1 (I.base.keep b o e n hb (nex b)),λb o e n hb _=>?_,λb o e n _=>I.base.free b o e n (nex b),λb o e _=>?_,I.base.tups,I.base.frzs,I.base.tbls⟩
 ·obtain⟨sl,q⟩:=I.base.slot b o e n hb (nex b)
  obtain⟨sl2,q2⟩:=fl.slot b _ (old e).1 q
  exact⟨sl2,q2⟩
 ·obtain⟨o',q⟩:=I.base.there b o e (nex b)
  obtain⟨sl,q2⟩:=fl.slot b o' (old e).1 q
  exact⟨_,q2⟩
end
section
variable {P:KC} {w:LL} {K:JC} {mg:Str->Option JD} {base:MQ} {N:List Str} {qual:Str} {scope:Scope} {f:JK} {cd:JD} {A:LI} {outer:List Env} {s₀:JH} {H₀:Hp} {E:XK}
end
theorem Dj.okE{P:KC}{w:LL}{K:JC}{mg:Str->Option JD}{base:MQ}{x qual:Str}{st:OQ}{f:JK}{fd:LB}{N ps:List Str}{k:Nat}{sp:Sp}(F:Dj K x qual st f fd)(S:An N ps (Ad st))(len:∀vs H Q E,sp vs H Q E->vs.length=ps.length)(hbody:∀(cdv:JD)(A:LI)(outer:List Env)(s:JH)(H:Hp)(vs:List V)(Q:VK)(E:XK),Ck k (A.deeper (envOfC qual (Ad st) s.heap.objs.size f cdv))->sp vs H Q E ->
  ∃t,Hy (Ex (Gp P w) P w K mg base N qual (Ad st) f cdv A outer s H E) (Bg st) t/\t { nx:=λ_ H'=>Q .non H',rt:=Q } (start N vs) H):
 Al P w K mg base (Gp P w) (k+1) f fd ps sp:=by
 obtain⟨oc,od,kV,doc,pm,an,cdv,ct,osl,rfl,lk,hcd⟩:=F.ex
 exact Xg lk hcd S len λA outer s H vs Q E hr hsp=>hbody cdv A outer s H vs Q E hr hsp
def xF(X:Cx)(h:MQ)(H:Hp)(x:JK)(cls:JD)(dx:Option JK):Prop:=
 (∃oe vs,nI h x cls dx oe vs) ∨ ∃T fl oe oT vs ts,De X [] H T/\ExcAt h x cls dx T fl oe oT vs ts
abbrev XS:=St->JD->Option JK->Hp->Prop
def Wx(X:Cx)(E:XS)(e:JD)(s:JH):Prop:=∃x cls dx H σ,e=.ref x/\Inv X [] σ H s/\De X [] H x/\xF X s.heap H x cls dx/\E σ cls dx H
structure Own(X:Cx):Prop where
 ex:X.ex=[]
 st:X.stack=X.env::X.outer
 fr:X.env.frame=some X.env.locals
theorem De.old{X:Cx}{pins:List (JK×Obj)}{H:Hp}{b:JK}(f:De X pins H b)(o:X.ex=[]):X.s₀.heap.objs.size<=b:=by
 rcases f.2.2.2.1 with z | z
 ·rw[o] at z;cases z
 ·exact z
section
variable {X:Cx} {pins:List (JK×Obj)} {σ:St} {H:Hp} {s:JH} {h':MQ} {ch:List JK}
theorem Inv.fly(I:Inv X [] σ H s)(fl:Flew (Rc X.stack) ch s.heap h')(hf:∀b∈ch,De X [] H b):Inv X [] σ H { s with heap:=h' }:=by
 have nst:∀ {b:JK},b≠X.env.locals->b∉X.fs->b∉Rc X.stack:=λ{b} h1 h2 z=>by
  rcases JP.mp (I.stkSub b z) with q | q
  ·exact h1 q
  ·exact h2 q
 refine I.step (g':=s.gens) (d':=s.drawn) (t':=s.toks) (ch:=ch) (λb hb=>?_) (λb o h1 h2 hc e _=>fl.keep b o (nst h1 h2) hc e) (λb o _ _ hc e _=>fl.slot b o hc e) (λ_ _ _ _ n=>n)
  (λb o hc e=>?_) (λ_ _ e=>e) (λ_ _ _ e=>e) (λb ps e=>⟨#[],by rw[e];simp⟩) (λm hm=>?_) (I.flew (g:=s.gens) fl λb hb=>(hf b hb).1) I.bare
 ·obtain⟨f0,f1,f2,f3,f4,f5⟩:=hf b hb
  exact⟨f3,f1,f4,f5⟩
 ·obtain⟨sl,q⟩:=fl.slot b o hc e
  exact⟨_,q⟩
 ·obtain⟨o,es,ep,ho,r⟩:=hm
  obtain⟨sl,q⟩:=fl.slot _ o (λz=>(hf _ z).2.1 rfl) ho
  exact⟨_,es,ep,q,r⟩
end
section
variable {X:Cx} {σ:St} {H:Hp} {s:JH} {x:JK} {cls:JD} {dx:Option JK} {Q:Unit->JH->Prop} {E:JD->JH->Prop} {A:LI}
theorem lU(ow:Own X)(hA:A.frames=some X.stack)(I:Inv X [] σ H s)(fx:De X [] H x)(f:xF X s.heap H x cls dx)(h:∀h' T oe oT vs ts,Inv X [] σ H { s with heap:=h' }->De X [] H T->ExcAt h' x cls dx T (QJ X.env.locals) oe oT vs ts->Q () { s with heap:=h' }):KR (KU X.prog X.w) A (noteFrame (.ref x) X.env) Q E s:=by
 have hst:=I.stack
 rw[ow.st] at hst hA
 have hone:∀b∈[x],De X [] H b:=λb hb=>by rw[JL.mp hb];exact fx
 rcases f with ⟨oe,vs,n⟩ | ⟨T,fl,oe,oT,vs,ts,fT,a⟩
 ·refine Yq hA hst ow.fr n λh' T oe' oT vs' ts hT flw at'=>?_
  exact h h' T oe' oT vs' ts (I.fly (by rw[ow.st];exact flw) hone) (I.fpOk hT (I.hok.fresh hT)) at'
 ·by_cases hfl:fl=QJ X.env.locals
  rotate_left
  ·refine cP hA hst ow.fr a (beq_eq_false_iff_ne.mpr hfl) λh' T' oe' oT' vs' ts' hT flw at'=>?_
   refine h h' T' oe' oT' vs' ts' (I.fly (by rw[ow.st];exact flw) λb hb=>?_) (I.fpOk hT (I.hok.fresh hT)) at'
   simp only[JP,KG,or_false] at hb
   rcases hb with rfl | rfl
   ·exact fx
   ·exact fT
  ·subst hfl
   unfold noteFrame
   simp only[ow.fr]
   refine JA (KY a.get a.data a.tb ?_)
   rw[if_pos (show (JV T != MU)=true from by simp)]
   refine JA (KY a.getT a.dataT a.fl ?_)
   rw[if_pos (show (QJ X.env.locals == QJ X.env.locals)=true from by first | (simp;done) | exact beq_self_eq_true _)]
   exact JO (h s.heap T oe oT vs ts I fT a)
theorem wH{T:JK}{fl:JD}{oe oT:Obj}{vs ts:Array JD}(I:Inv X [] σ H s)(fT:De X [] H T)(a:ExcAt s.heap x cls dx T fl oe oT vs ts)(h:∀h' oT' ts',Inv X [] σ H { s with heap:=h' }->ExcAt h' x cls dx T .none oe oT' vs ts'->Q () { s with heap:=h' }):KR (KU X.prog X.w) A (setFlight (.ref x) none) Q E s:=
 eI a (Rc X.stack) λh' oT' ts' flw at'=>h h' oT' ts' (I.fly flw λb hb=>by rw[JL.mp hb];exact fT) at'
theorem CY{T:JK}{fl:JD}{oe oT:Obj}{vs ts:Array JD}(ow:Own X)(I:Inv X [] σ H s)(fT:De X [] H T)(a:ExcAt s.heap x cls dx T fl oe oT vs ts)(h:∀h' oT' ts',Inv X [] σ H { s with heap:=h' }->ExcAt h' x cls dx T (QJ X.env.locals) oe oT' vs ts'->Q () { s with heap:=h' }):
    KR (KU X.prog X.w) A (do if (<- field (.ref x) 1) == .none then unsupported "frame.own-activation:exception-without-traceback"
                                   setFlight (.ref x) X.env.frame) Q E s:=by
  refine JA (KY a.get a.data a.tb ?_)
  rw[if_neg (show ¬ ((JV T == MU)=true) from by simp)]
  unfold setFlight
  refine JA (KY a.get a.data a.tb ?_)
  rw[if_pos (show (JV T != MU)=true from by simp),ow.fr]
  have hsz:3 < ts.size:=(NI.mp a.fl).1
  have d3:=QR a.dataT (·.setIfInBounds 3 (QJ X.env.locals))
  have oth:∀b,b≠T->(s.heap.update T (PX (·.setIfInBounds 3 (QJ X.env.locals)))).get? b=s.heap.get? b:=λb hb=>LP _ _ (LH hb)
  refine MM a.getT a.dataT hsz (h _ _ _ (I.fly (ch:=[T]) ⟨λb o _ hc q=>(oth b (by simpa using hc)).trans q,λb o hc q=>⟨o.slots,(oth b (by simpa using hc)).trans q⟩,QP (QN (a:=T) s.heap _).1.symm⟩ λb hb=>by rw[JL.mp hb];exact fT)
    ⟨(oth x (LH a.ne)).trans a.get,a.cls,a.dict,a.data,a.tb,a.ne,MS _ a.getT (QX d3),d3,by simp[hsz],a.cx⟩)
theorem Wx.passesOwn{EX:XS}(ow:Own X):PassesOwn (KU X.prog X.w) X.A X.env (Wx X EX):=by
 intro e s' ⟨x,cls,dx,H,σ,he,I,fx,f,hE⟩
 subst he
 refine lU ow I.ok.frames I fx f λh1 T oe oT vs ts I1 fT a1=>?_
 refine CY ow I1 fT a1 λh2 oT' ts' I2 a2=>?_
 exact⟨x,cls,dx,H,σ,rfl,I2,fx,.inr ⟨T,_,oe,oT',vs,ts',fT,a2⟩,hE⟩
end
section
variable {P:KC} {w:LL} {K:JC} {mg:Str->Option JD} {base:MQ} {N:List Str} {qual:Str} {scope:Scope} {f:JK} {cd:JD} {A:LI} {outer:List Env} {s₀:JH} {H₀:Hp} {E:XK}
theorem Kl{CX:Wc}:Own (Ex CX P w K mg base N qual scope f cd A outer s₀ H₀ E):=⟨rfl,rfl,rfl⟩
theorem Wx.leaves{e:JD}{s:JH}(h:Wx (Ex (Gp P w) P w K mg base N qual scope f cd A outer s₀ H₀ E) (λ_=>E) e s):(Ex (Gp P w) P w K mg base N qual scope f cd A outer s₀ H₀ E).xe e s:=by
 obtain⟨x,cls,dx,H,σ,he,I,fx,fly,hE⟩:=h
 subst he
 have ow:Own (Ex (Gp P w) P w K mg base N qual scope f cd A outer s₀ H₀ E):=Kl
 show KR _ _ (leaving _ _) _ _ _
 unfold leaving
 refine JA (lU ow I.ok.frames I fx fly λh1 T oe oT vs ts I1 fT a1=>?_)
 refine eI (s:={ s with heap:=h1 }) a1 (Rc (Ex (Gp P w) P w K mg base N qual scope f cd A outer s₀ H₀ E).stack) λh2 oT' ts' flw a2=>?_
 have hch:∀b∈[T],De (Ex (Gp P w) P w K mg base N qual scope f cd A outer s₀ H₀ E) [] H b:=λb hb=>by rw[JL.mp hb];exact fT
 refine⟨x,cls,dx,H,rfl,⟨I1.os,I1.bare,I1.unFlew rfl rfl rfl flw (λb hb=>(hch b hb).old rfl),I1.flew (g:=s.gens) flw (λb hb=>(hch b hb).1),fx.1,fx.old rfl,T,oe,oT',vs,ts',fT.1,fT.old rfl,a2⟩,hE⟩
end
abbrev Cx.thrown(X:Cx)(E:XS):Cx:=X.wish (Wx X E)
theorem Dj.okX{P:KC}{w:LL}{K:JC}{mg:Str->Option JD}{base:MQ}{x qual:Str}{st:OQ}{f:JK}{fd:LB}{N ps:List Str}{k:Nat}{sp:Sp}(F:Dj K x qual st f fd)(S:An N ps (Ad st))(len:∀vs H Q E,sp vs H Q E->vs.length=ps.length)(hbody:∀(cdv:JD)(A:LI)(outer:List Env)(s:JH)(H:Hp)(vs:List V)(Q:VK)(E:XK),Ck k (A.deeper (envOfC qual (Ad st) s.heap.objs.size f cdv))->sp vs H Q E ->
  ∃t,Hy ((Ex (Gp P w) P w K mg base N qual (Ad st) f cdv A outer s H E).thrown λ_=>E) (Bg st) t/\t { nx:=λ_ H'=>Q .non H',rt:=Q } (start N vs) H):
 Al P w K mg base (Gp P w) (k+1) f fd ps sp:=by
 refine F.okE S len λcdv A outer s H vs Q E hr hsp=>?_
 obtain⟨t,h,q⟩:=hbody cdv A outer s H vs Q E hr hsp
 refine⟨t,λpins s' σ' H' D I hw=>?_,q⟩
 exact MY (h pins s' σ' H' D (I.wish _) hw) (λ_ _ z=>z.unwish) λe s2 z=>z.leaves
theorem Wx.passes{X:Cx}{EX:XS}{pins:List (JK×Obj)}{σ:St}{H:Hp}{s s':JH}{e:JD}(I:Inv X pins σ H s)(h:(Gp X.prog X.w).f X.stack H s (EX σ) e s'):Wx X EX e s':=by
 obtain⟨x,cls,dx,H',he,O,hE⟩:=h
 obtain⟨T,oe,oT,vs,ts,hT,zT,a⟩:=O.fly
 have I0:=I.pins_of (pins':=[]) (λp hp=>nomatch hp)
 have I':=I0.call' (ch:=[]) O.os O.un O.hok O.bare (λb z=>nomatch z)
 exact⟨x,cls,dx,H',σ,he,I',I0.fpOk O.nx O.hx,.inr ⟨T,_,oe,oT,vs,ts,I0.fpOk zT hT,a⟩,hE⟩
def AJ(sp:Sp)(dvs:List V)(EX:XS)(t:TA):TE:=λσ H Q=>t σ H λvs H1=>sp (vs++dvs) H1 Q (EX σ)
section
variable {X:Cx} {EX:XS} {k:Nat} {f C:JK} {fd:LB} {ps:List Str} {sp:Sp} {dvs:List V} {ds:List JD} {x m:Str} {p pos apos:Pos} {e o:Expr} {es:List Expr} {ta:TE} {t:TA}
theorem Vp{pins:List (JK×Obj)}{σ:St}{H:Hp}{s:JH}{Q:VK}{us:List JD}{vs:List V}(F:Al X.prog X.w X.K X.mg X.base (Gp X.prog X.w) k f fd ps sp)(hr:Ck k X.A)(hb:Binds X.K fd ps ds)(hd:Bb dvs ds)(hcs:X.calm=true/\X.sx=true)(I:Inv (X.thrown EX) pins σ H s)(r:Bb vs us)(h:sp (vs++dvs) H Q (EX σ)):KR (KU X.prog X.w) X.A (call (.ref f) us) (EP (X.thrown EX) pins σ Q) (Wx X EX) s:=by
 have r2:Bb (vs++dvs) (us++ds):=r.append hd
 have hl:(us++ds).length=ps.length:=by rw[<- r2.length];exact F.len _ _ _ _ h
 refine RW (PQ (F.run X.A X.stack s H ⟨us,[]⟩ (us++ds) (vs++dvs) Q (EX σ) ⟨hr,λ_=>I.ok.st hcs.2,I.ok.hd hcs.1⟩ I.env0 (hb s us I.kIn hl) r2 h) λr s' hq=>?_)
 cases r with
 | error e=>exact Wx.passes I.unwish hq
 | ok fl=>
  cases fl with
  | ret u=>exact I.after hq
  | next=>exact LZ hq
  | brk=>exact LZ hq
  | cont=>exact LZ hq
theorem Pp(F:Al X.prog X.w X.K X.mg X.base (Gp X.prog X.w) k f fd ps sp)(hr:Ck k X.A)(hg:Gl X x)(hm:X.mg x=some (.ref f))(hk:JR X.K (.ref f)=true)(hb:Binds X.K fd ps ds)(hd:Bb dvs ds)(ha:PA (X.thrown EX) (e::es) t)(hdb:(x == ("__debug__" : Str))=false:=by decide)(he:KQ (e::es) X.env=(false,OX e X.env)::KQ es X.env:=by rfl)(hpl:(QK pos (KQ es X.env)).any (·.1)=false:=by rfl)(hcs:X.calm=true/\X.sx=true:=by exact⟨rfl,rfl⟩):
 PE (X.thrown EX) (.Call (.Name x p) (e::es) [] pos) (AJ sp dvs EX t):=by
 intro pins s σ H Q I h
 refine OO (Hb I hg hm ?_ hdb)
 refine NR (h₀:=X.base) I.ok.mod.kin hk (Bu (ha pos pins s σ H _ I h) λus s1 ⟨vs,H1,I1,r,q⟩=>⟨I1.kIn,?_⟩) he hpl
 exact Vp F hr hb hd hcs I1 r q
end
end L2
namespace L2
open PySem PySem.Spec PyProof.Rows PySem.W
abbrev Nu:List JD:=[.type "ValueError", .type "Exception", .type "BaseException", .type "object"]
abbrev Mi(C:JK)(dx:Option JK)(t:JK):Obj:={ cls:=.ref C,dict:=dx,data:=.fields #[.ref t,.none,.none,.none,.bool false,.none] }
def To(es:List RO):Bool:=es.all λe=>match e.key with | .str _ _=>true | _=>false
theorem Sb{K:JC}{h:MQ}{N:JK}{oc:JD}{od:Option JK}{es:Array RO}{ep:Nat}{sl:Array (Option JD)}(X:K.In h)(l:K.lookup N=some ⟨oc,od,.dict es ep,sl⟩)(k:To es.toList=true):h.Ns N (λx=>nsFind es x):=
 ⟨_,es,ep,X N _ l,rfl,λe he=>by
  unfold To at k
  rw[QE] at k
  have q:=k e (Array.mem_toList_iff.mpr he)
  cases hk:e.key with
  | str n t=>exact⟨n,t,rfl⟩
  | _=>rw[hk] at q;exact absurd q JN,λ_=>rfl⟩
structure Ku(K:JC)(C:JK)(bm:List JD):Prop where
 obj:∃nm q N bs hdct sn sub ab col dd k0 k1 k2 k3 k5,K.lookup C=some (excClassObj nm q C N bs bm hdct sn sub ab col dd k0 k1 k2 k3 k5 "ValueError.__new__")
 tail:∀h,K.In h->OwnTail h Nu bm
 kp:JR K (.ref C)=true
section
variable {prog:KC} {w:LL} {A:LI} {R:Result->JH->Prop} {E:JD->JH->Prop} {s:JH} {K:JC} {C:JK} {bm:List JD}
theorem bJ(self:JD):bindSpecial (.builtin "ValueError.__init__") self=pure (.builtin "ValueError.__init__", [self]):=QQ.init.bind self
theorem rD(X:K.In s.heap)(c:Ku K C bm)(hi:MF K (.ref C) "__init__" = some (some (.builtin "ValueError.__init__"))){rest:List JD}(hrest:rest.length<=JM){Q:JD->JH->Prop}(h:∀h' t,(∀b o,s.heap.get? b=some o->h'.get? b=some o)->h'.get? (s.heap.objs.size+1)=some (Mi C none t)->Q (.ref (s.heap.objs.size+1)) { s with heap:=h' }):
 KR (KU prog w) A (call (.ref C) rest) Q E s:=by
 obtain⟨nm,q,N,bs,hdct,sn,sub,ab,col,dd,k0,k1,k2,k3,k5,lk⟩:=c.obj
 obtain⟨hh,g,d,t,os⟩:=s
 have hC:=X C _ lk
 have F:=QQ
 have T:=c.tail _ X
 have f1:=tc_lookup
 have f2:=tc_bind (.ref C)
 have hT:(⟨hh,g,d,t,os⟩:JH).TypeIs (.ref C) "type" := ⟨_,hC,rfl⟩
 refine RW (codeAny_of_tree ?_)
 show KR _ _ (callAny (.ref C) _) _ _ _
 repeat (any_goals (first | assumption | with_reducible refine RB hC ?_ | wp_step))
 refine⟨rfl,codeAny_call_builtin_at (SL _ (by decide +kernel)) entry_typeCall (wpAny_check_type_call_sub hC ?_)⟩
 repeat (first | with_reducible refine RB hC ?_ | with_reducible refine wpAny_madeBy_exc hC ?_ | wp_step)
 refine codeAny_call_builtin_code (SL _ F.quiet) (wpAny_check_new_subU F (by decide +kernel) T hC (codeAny_exc_new_subU F (by decide +kernel) F T hC ?_ hrest))
 show KR _ _ _ _ _ _
 have k:∀b o,hh.get? b=some o->((hh.push (Ec rest)).push (Dp C hh.objs.size)).get? b=some o:=λb o e=>JE _ (JE _ e)
 have hx:((hh.push (Ec rest)).push (Dp C hh.objs.size)).get? (hh.objs.size+1)=some (Dp C hh.objs.size):=by heap_get
 have c1:=k _ _ hC
 have hcC:(JV C::bm).contains (.ref C)=true:=by simp
 have i1:=(PySem.W.looks_findIn (M:=KU prog w) X hi).keeps k
 have b1:PJ (KU prog w) ((hh.push (Ec rest)).push (Dp C hh.objs.size)) (bindSpecial (.builtin "ValueError.__init__") (.ref (hh.objs.size+1))) (.builtin "ValueError.__init__", [.ref (hh.objs.size+1)]):=.of_pure (bJ _)
 have t1:PJ (KU prog w) ((hh.push (Ec rest)).push (Dp C hh.objs.size)) (typeOf (.ref (hh.objs.size+1))) (.ref C):=(PySem.W.Looks.ld hx).andThen .now
 have t2:PJ (KU prog w) ((hh.push (Ec rest)).push (Dp C hh.objs.size)) (isSubtype (.ref C) (.ref C)) true:=λA' Q' E' s' k' q'=>by
  obtain⟨h',g',d',tk',os'⟩:=s'
  refine wpAny_isSubtype_exc (k' _ _ c1) ?_
  rw[hcC]
  exact q'
 show KR (KU prog w) _ (isInstance (.ref (hh.objs.size+1)) (.ref C) >>= _) _ _ ⟨(hh.push (Ec rest)).push (Dp C hh.objs.size),g,d,t,os⟩
 unfold isInstance callSpecial? specialOf
 repeat (first | with_reducible refine RW ?_ | lk)
 refine codeAny_call_builtin F.init.plain F.initEntry (wpAny_check_init_subU F (T.keeps k) c1 hx rfl ?_)
 wp_walk
 refine h _ ((hh.push (Ec rest)).push (Dp C hh.objs.size)).objs.size (λb o e=>?_) ?_
 ·show (Heap.update _ _ _).get? b=_
  rw[LP _ _ (OC (SA (JW (h:=hh) e)))]
  exact JE _ (k b o e)
 ·show (Heap.update _ _ _).get? _=_
  rw[MS _ (JE _ hx) rfl]
  rfl
end
section
variable {M:Model} {A:LI} {E:JD->JH->Prop} {s:JH} {env:Env} {K:JC} {C:JK} {bm:List JD}
theorem lW{x:Sem JD}{Q:Flow->JH->Prop}(c:Ku K C bm)(hbase:bm.contains (.type "BaseException")=true)(hh:A.handled=none)(h:KR M A x (λv s₁=>∃e dx t,v=.ref e/\K.In s₁.heap/\s₁.heap.get? e=some (Mi C dx t)/\E (.ref e) s₁) E s):KR M A (raiseStmt env (some x) none) Q E s:=by
 obtain⟨nm,q,N,bs,hdct,sn,sub,ab,col,dd,k0,k1,k2,k3,k5,lk⟩:=c.obj
 have hcB:(JV C::bm).contains (.type "BaseException")=true:=by rw[List.contains_cons,hbase,Bool.or_true]
 unfold raiseStmt
 refine JA (MY h (λv s₁ h₁=>?_) λ_ _ x=>x)
 obtain⟨e,dx,t,rfl,X,he,hE⟩:=h₁
 have hC:=X C _ lk
 obtain⟨hp,g,d,tk,os⟩:=s₁
 repeat (first | with_reducible refine RB he ?_ | with_reducible refine RB hC ?_ | (with_reducible refine wpAny_isSubtype_exc hC ?_;rw[hcB]) | wp_step)
 exact wpAny_raiseNew_none hh hE
end
section
variable {X:Cx} {EX:XS} {C:JK} {bm:List JD} {x:Str} {p pos cpos:Pos} {e:Expr} {es:List Expr} {t:TA}
def yC(C:JK)(EX:XS)(t:TA):TS:=λ_ σ H=>t σ H λvs H1=>vs.length<=JM/\EX σ (.ref C) none H1
theorem cO(c:Ku X.K C bm)(hbase:bm.contains (.type "BaseException")=true)(hi:MF X.K (.ref C) "__init__" = some (some (.builtin "ValueError.__init__"))){pins:List (JK×Obj)}{σ:St}{H:Hp}{s:JH}{us:List JD}(I:Inv X pins σ H s)(hz:us.length<=JM)(hE:EX σ (.ref C) none H):
 KR (KU X.prog X.w) X.A (call (.ref C) us) (λv s₁=>∃e dx t,v=.ref e/\X.K.In s₁.heap/\s₁.heap.get? e=some (Mi C dx t)/\Wx X EX (.ref e) s₁) (Wx X EX) s:=by
 refine rD I.kIn c hi hz λh' t k g=>?_
 have I0:=I.pins_of (pins':=[]) (λp hp=>nomatch hp)
 have I1:Inv X [] σ H { s with heap:=h' }:=I0.kept (t':=s.toks) k
 have le:s.heap.objs.size<=s.heap.objs.size+1:=OI _
 exact⟨_,none,t,rfl,I1.kIn,g,_,_,none,H,σ,rfl,I1,I0.fpOk le (I0.hok.fresh le),.inl ⟨_,_,⟨g,rfl,rfl,rfl,rfl,rfl⟩⟩,hE⟩
theorem Ys(hcalm:X.sx=true)(c:Ku X.K C bm)(hbase:bm.contains (.type "BaseException")=true)(hi:MF X.K (.ref C) "__init__" = some (some (.builtin "ValueError.__init__")))(hg:Gl X x)(hm:X.mg x=some (.ref C))(ha:PA (X.thrown EX) (e::es) t)(hdb:(x == ("__debug__" : Str))=false:=by decide)(he:KQ (e::es) X.env=(false,OX e X.env)::KQ es X.env:=by rfl)(hpl:(QK cpos (KQ es X.env)).any (·.1)=false:=by rfl):
 PS (X.thrown EX) (.Raise (some (.Call (.Name x p) (e::es) [] cpos)) none pos) (yC C EX t):=by
 intro pins s σ H D I h
 rw[arm_exec_Raise]
 refine JA (RA ?_)
 show KR _ _ (raiseStmt _ (some (do let v <- OX (.Call (.Name x p) (e::es) [] cpos) X.env;standAt pos;pure v)) none) _ _ _
 refine lW c hbase (I.ok.st hcalm) (JA (Bu ?_ λv s1 z=>JA (RA (JO z))))
 refine OO (Hb I hg hm ?_ hdb)
 refine NR (h₀:=X.base) I.ok.mod.kin c.kp (Bu (ha cpos pins s σ H _ I h) λus s1 ⟨vs,H1,I1,r,z,hE⟩=>⟨I1.kIn,?_⟩) he hpl
 exact cO (us:=us) c hbase hi I1.unwish (by rw[<- r.length];exact z) hE
end
end L2
namespace L2
open PySem PySem.Spec PyProof.Rows
abbrev Cx.pinned(X:Cx)(pins:List (JK×Obj)):Cx:={ X with pn:=pins }
section
variable {X:Cx} {pins:List (JK×Obj)} {σ:St} {H:Hp} {s:JH}
theorem Inv.intoPn(I:Inv X pins σ H s):Inv (X.pinned (X.pn++pins)) [] σ H s:=
 ⟨⟨I.ok.mod,I.ok.kind,I.ok.glob,I.ok.blt,I.ok.above,I.ok.inj,I.ok.has,I.ok.cab,I.ok.hd,I.ok.st,I.ok.frames,I.ok.stk,I.ok.exf,I.ok.bs,I.ok.bsz,I.ok.noex,I.ok.exfs,I.ok.funs,I.ok.frf⟩,I.os,I.bare,I.base,I.loc,I.cell,I.free,I.freeC,λp hp=>I.pin p (by rw[LX] at hp;exact hp),I.hok,I.len⟩
theorem Inv.outPn(I:Inv (X.pinned (X.pn++pins)) [] σ H s):Inv X pins σ H s:=
 ⟨⟨I.ok.mod,I.ok.kind,I.ok.glob,I.ok.blt,I.ok.above,I.ok.inj,I.ok.has,I.ok.cab,I.ok.hd,I.ok.st,I.ok.frames,I.ok.stk,I.ok.exf,I.ok.bs,I.ok.bsz,I.ok.noex,I.ok.exfs,I.ok.funs,I.ok.frf⟩,I.os,I.bare,I.base,I.loc,I.cell,I.free,I.freeC,λp hp=>I.pin p (by rw[LX];exact hp),I.hok,I.len⟩
theorem De.outPn{b:JK}(f:De (X.pinned (X.pn++pins)) [] H b):De X [] H b:=
 ⟨f.1,f.2.1,f.2.2.1,f.2.2.2.1,f.2.2.2.2.1,λp hp=>f.2.2.2.2.2 p (by rw[LX] at hp ⊢;exact MG _ hp)⟩
theorem Wx.outPn{EX:XS}{e:JD}(h:Wx (X.pinned (X.pn++pins)) EX e s):Wx X EX e s:=by
 obtain⟨x,cls,dx,H,σ,he,I,fx,f,hE⟩:=h
 refine⟨x,cls,dx,H,σ,he,I.outPn.pins_of (λp hp=>nomatch hp),fx.outPn,?_,hE⟩
 rcases f with f | ⟨T,fl,oe,oT,vs,ts,fT,r⟩
 ·exact .inl f
 ·exact .inr ⟨T,fl,oe,oT,vs,ts,fT.outPn,r⟩
theorem SP.outPn{D:Ends}{f:Flow}(h:SP (X.pinned (X.pn++pins)) [] D f s):SP X pins D f s:=by
 cases f with
 | next=>obtain⟨σ',H',I,q⟩:=h;exact⟨σ',H',I.outPn,q⟩
 | brk=>obtain⟨σ',H',I,q⟩:=h;exact⟨σ',H',I.outPn,q⟩
 | cont=>obtain⟨σ',H',I,q⟩:=h;exact⟨σ',H',I.outPn,q⟩
 | ret u=>obtain⟨v,σ',H',I,r,q⟩:=h;exact⟨v,σ',H',I.outPn,r,q⟩
end
def Ir(X:Cx)(x:JK)(oe:Obj):Cx:={ X with A:=X.A.mark (some (.ref x)),calm:=false,sx:=false,pn:=(x,oe)::X.pn,xe:=λ_ _=>False }
section
variable {X:Cx} {σ:St} {H:Hp} {s:JH} {x:JK} {oe:Obj}
theorem Inv.suite(I:Inv X [] σ H s)(fx:De X [] H x)(g:s.heap.get? x=some oe)(d:∀v,oe.data ≠ .cell v):Inv (Ir X x oe) [] σ H s:=
 ⟨⟨I.ok.mod,I.ok.kind,I.ok.glob,I.ok.blt,I.ok.above,I.ok.inj,I.ok.has,I.ok.cab,λz=>absurd z JN,λz=>absurd z JN,I.ok.frames,I.ok.stk,I.ok.exf,I.ok.bs,I.ok.bsz,I.ok.noex,I.ok.exfs,I.ok.funs,I.ok.frf⟩,I.os,I.bare,I.base,I.loc,I.cell,I.free,I.freeC,λp hp=>by
  rw[LX] at hp
  rcases JP.mp hp with rfl | hp
  ·exact⟨g,fx.1,fx.2.1,fx.2.2.1,d⟩
  ·exact I.pin p (by rw[LX];exact hp),I.hok,I.len⟩
theorem Inv.unsuite(I:Inv (Ir X x oe) [] σ H s)(hd:X.calm=true->Bp X.A X.base)(ok:X.Ok):Inv X [] σ H s:=
 ⟨ok,I.os,I.bare,I.base,I.loc,I.cell,I.free,I.freeC,λp hp=>I.pin p (by rw[LX] at hp ⊢;exact JQ _ hp),I.hok,I.len⟩
end
def PH(X:Cx)(hs:List SK)(EX:XS)(th:Ends->XS):Prop:=
 ∀(σ:St)(H:Hp)(s:JH)(x:JK)(cls:JD)(dx:Option JK)(T:JK)(oe oT:Obj)(vs ts:Array JD)(D:Ends),Inv X [] σ H s->De X [] H x->De X [] H T->ExcAt s.heap x cls dx T .none oe oT vs ts->th D σ cls dx H ->
  KR (KU X.prog X.w) X.A (handleBy (.ref x) X.env hs) (SP X [] D) (Wx X EX) s
section
variable {X:Cx} {EX:XS} {th:Ends->XS} {hs:List SK} {C:JK} {c:Str} {np pos:Pos} {b₀:OQ} {suite:List OQ} {ts':JK->Obj->TS}
theorem Ze(ow:Own X):PH X [] EX (λ_=>EX):=by
 intro σ H s x cls dx T oe oT vs ts D I fx fT a hE
 refine wpAny_handleBy_nil ?_
 unfold PySem.passOn
 refine JA (KY a.get a.data a.tb ?_)
 rw[if_neg (show ¬ ((JV T == MU)=true) from by simp)]
 unfold setFlight
 refine JA (JA (KY a.get a.data a.tb ?_))
 rw[if_pos (show (JV T != MU)=true from by simp),ow.fr]
 have hsz:3 < ts.size:=(NI.mp a.fl).1
 have d3:=QR a.dataT (·.setIfInBounds 3 (QJ X.env.locals))
 have oth:∀b,b≠T->(s.heap.update T (PX (·.setIfInBounds 3 (QJ X.env.locals)))).get? b=s.heap.get? b:=λb hb=>LP _ _ (LH hb)
 refine MM a.getT a.dataT hsz (wpAny_throw ⟨x,cls,dx,H,σ,rfl,I.fly (ch:=[T]) ⟨λb o _ hc q=>(oth b (by simpa using hc)).trans q,λb o hc q=>⟨o.slots,(oth b (by simpa using hc)).trans q⟩,QP (QN (a:=T) s.heap _).1.symm⟩ (λb hb=>by rw[JL.mp hb];exact fT),fx,
  .inr ⟨T,QJ X.env.locals,oe,_,vs,_,fT,⟨(oth x (LH a.ne)).trans a.get,a.cls,a.dict,a.data,a.tb,a.ne,MS _ a.getT (QX d3),d3,by simp[hsz],a.cx⟩⟩,hE⟩)
theorem gT(hcls:Gl X c)(hm:X.mg c=some (.ref C))(hsu:∀x oe,Hy (Ir X x oe) (b₀::suite) (ts' x oe))(hr:PH X hs EX th)(hdb:(c == ("__debug__" : Str))=false:=by decide):
 PH X (.ExceptHandler (some (.Name c np)) none (b₀::suite) pos::hs) EX (λD σ cls dx H=>∃b,QV X.K cls (.ref C)=some b/\if b=true then ∀x oe,H x=none->oe.cls=cls->oe.dict=dx->(∃ws,oe.data=.fields ws/\ws[2]? = some .none)->ts' x oe D σ H else th D σ cls dx H):=by
 intro σ H s x cls dx T oe oT vs ts D I fx fT a h
 obtain⟨b,hb,h⟩:=h
 have dn:∀v,oe.data ≠ .cell v:=λv z=>by rw[a.data] at z;cases z
 have IS:=I.suite fx a.get dn
 have mk:(X.A.mark (some (.ref x)))=(Ir X x oe).A:=rfl
 refine wpAny_handleBy_cons (codeAny_handlers_test ?_) (by intro q;cases q)
 refine Hb (X:=Ir X x oe) IS hcls hm ?_ hdb
 have lt:PJ (KU X.prog X.w) s.heap (typeOf (.ref x)) cls:=by
  have q:PJ (KU X.prog X.w) s.heap (typeOf (.ref x)) oe.cls:=(PySem.W.Looks.ld a.get).andThen .now
  rw[a.cls] at q
  exact q
 obtain⟨hh,g,d,tk,os⟩:=s
 refine(PySem.W.exm_one I.kIn lt hb).at ?_
 cases b with
 | false=>
  rw[if_neg JN] at h
  exact hr σ H _ x cls dx T oe oT vs ts D I fx fT a h
 | true=>
  rw[if_pos rfl] at h
  refine codeAny_handlers_suite ?_
  refine wH (A:=X.A.mark (some (.ref x))) I fT a λh1 oT1 ts1 I1 a1=>?_
  have I2:=I1.suite fx a1.get dn
  refine MY (hsu x oe [] _ σ H D I2 (h x oe fx.1 a.cls a.dict ⟨vs,a.data,a.cx⟩)) (λf s2 q=>?_) (λ_ _ z=>z.elim)
  cases f with
  | next=>obtain⟨σ',H',J,q⟩:=q;exact⟨σ',H',J.unsuite I.ok.hd I.ok,q⟩
  | brk=>obtain⟨σ',H',J,q⟩:=q;exact⟨σ',H',J.unsuite I.ok.hd I.ok,q⟩
  | cont=>obtain⟨σ',H',J,q⟩:=q;exact⟨σ',H',J.unsuite I.ok.hd I.ok,q⟩
  | ret u=>obtain⟨v,σ',H',J,r,q⟩:=q;exact⟨v,σ',H',J.unsuite I.ok.hd I.ok,r,q⟩
end
def HU(tb:XS->TS)(th:Ends->XS):TS:=λD σ H=>tb (λσ' cls dx H'=>th D σ' cls dx H') D σ H
theorem aA{X:Cx}{W:JD->JH->Prop}{EX:XS}{body:List OQ}{h₀:SK}{hs:List SK}{pos:Pos}{tb:XS->TS}{th:Ends->XS}(ow:Own X)(hW:∀e s,Wx X EX e s->W e s)(hb:∀pn EX1,Hy ((X.pinned pn).thrown EX1) body (tb EX1))(hh:∀pn,PH (X.pinned pn) (h₀::hs) EX th):PS (X.wish W) (.Try body (h₀::hs) [] [] pos) (HU tb th):=by
 intro pins s σ H D I h
 have Ip:=I.unwish.intoPn
 have owp:Own (X.pinned (X.pn++pins)):=⟨ow.ex,ow.st,ow.fr⟩
 refine wpAny_Try_except (MY (hb (X.pn++pins) _ [] s σ H D (Ip.wish _) h) (λf s1 q=>?_) λe s1 z=>?_)
 ·have q':=q.unwish.outPn
  cases f with
  | next=>
   obtain⟨σ',H',J,q⟩:=q'
   exact wpAny_execs_nil ⟨σ',H',J.wish _,q⟩
  | brk=>obtain⟨σ',H',J,q⟩:=q';exact⟨σ',H',J.wish _,q⟩
  | cont=>obtain⟨σ',H',J,q⟩:=q';exact⟨σ',H',J.wish _,q⟩
  | ret u=>obtain⟨v,σ',H',J,r,q⟩:=q';exact⟨v,σ',H',J.wish _,r,q⟩
 ·obtain⟨x,cls,dx,H1,σ1,he,I1,fx,fly,hE⟩:=z
  subst he
  refine lU (X:=X.pinned (X.pn++pins)) owp I1.ok.frames I1 fx fly λh1 T oe oT vs ts I2 fT a1=>?_
  refine wH (X:=X.pinned (X.pn++pins)) (A:=X.A) I2 fT a1 λh2 oT2 ts2 I3 a2=>?_
  refine MY (hh (X.pn++pins) σ1 H1 _ x cls dx T oe oT2 vs ts2 D I3 fx fT a2 hE) (λf s2 q=>?_) λe s2 z=>hW e s2 z.outPn
  have q':=q.outPn
  cases f with
  | next=>obtain⟨σ',H',J,q⟩:=q';exact⟨σ',H',J.wish _,q⟩
  | brk=>obtain⟨σ',H',J,q⟩:=q';exact⟨σ',H',J.wish _,q⟩
  | cont=>obtain⟨σ',H',J,q⟩:=q';exact⟨σ',H',J.wish _,q⟩
  | ret u=>obtain⟨v,σ',H',J,r,q⟩:=q';exact⟨v,σ',H',J.wish _,r,q⟩
end L2
namespace L2
open PySem PySem.Spec PyProof.Rows PySem.W
def rem(H:Hp)(x:JK):Hp:=λb=>if b=x then none else H b
theorem Tz{H:Hp}{x b:JK}(h:b≠x):rem H x b=H b:=if_neg h
theorem Jq{H:Hp}{x:JK}:rem H x x=none:=if_pos rfl
theorem Jj{H:Hp}{x b:JK}(h:H b=none):rem H x b=none:=by
 unfold rem
 split
 ·rfl
 ·exact h
theorem Inv.drop{X:Cx}{pins:List (JK×Obj)}{σ:St}{H:Hp}{s:JH}{x:JK}{φ:MQ->Prop}(I:Inv X pins σ H s)(hx:H x=some (.ext φ)):Inv X pins σ (rem H x) s:=by
 have ne:∀b o,H b=some o->(∀ψ,o ≠ .ext ψ)->b≠x:=λb o e n z=>by
  subst z
  rw[hx] at e
  exact n φ (KW e).symm
 have ne':∀ {b o},H b=some o->(∀ψ,o ≠ .ext ψ)->rem H x b=some o:=λ{b o} e n=>by rw[Tz (ne b o e n)];exact e
 refine⟨I.ok,I.os,I.bare,⟨I.base.keep,I.base.slot,λb u e n hx'=>Jj (I.base.free b u e n hx'),I.base.there,λb xs e=>ne' (I.base.tups b xs e) (λψ z=>nomatch z),λb u v e=>ne' (I.base.frzs b u v e) (λψ z=>nomatch z),λb ps e=>?_⟩,I.loc,I.cell,Jj I.free,λy c e=>Jj (I.freeC y c e),λp hp=>?_,λb u e=>?_,I.len⟩
 ·obtain⟨m,q⟩:=I.base.tbls b ps e
  exact⟨m,ne' q (λψ z=>nomatch z)⟩
 ·obtain⟨e,n,r⟩:=I.pin p hp
  exact⟨e,Jj n,r⟩
 ·by_cases hb:b=x
  ·subst hb
   rw[Jq] at e
   cases e
  ·rw[Tz hb] at e
   exact(I.hok b u e).stay (λ_ _ _ q=>q) (λc q=>ne' q (λψ z=>nomatch z)) λc xs q=>ne' q (λψ z=>nomatch z)
def rN(x C:JK)(dx:Option JK)(t:JK):HO:=.ext λh=>h.get? x=some (Mi C dx t)
theorem lV{P:KC}{w:LL}{H:Hp}{h:MQ}{x C:JK}{dx:Option JK}{t:JK}(e:h.get? x=some (Mi C dx t)):Cg P w H h x (rN x C dx t):=⟨e,⟨_,e⟩,λh1 h2 a k=>k _ a⟩
theorem mX{P:KC}{w:LL}{H:Hp}{h:MQ}{x C:JK}{dx:Option JK}{t:JK}(hok:Kg P w H h)(e:H x=some (rN x C dx t)):h.get? x=some (Mi C dx t):=(hok x _ e).1
theorem Za{h:MQ}{self:JD}{l:List JD}(T:OwnTail h Nu l):refuseLoop self "__setattr__" l=pure ():=by
 induction T with
 | base=>exact PySem.F.store_ValueError.passes self
 | own _ _ _ _ ih=>rw[refuseLoop_ref];exact ih
section
variable {prog:KC} {w:LL} {A:LI} {E:JD->JH->Prop} {s:JH} {K:JC} {C x t:JK} {bm:List JD} {name:Str} {v:JD}
theorem vR{Q:Unit->JH->Prop}(X:K.In s.heap)(c:Ku K C bm)(hs:RU K (.ref C) "__setattr__" = some (some (.builtin "object.__setattr__")))(ht:takerIn K C name=some none)(hh:hasDictIn K C=true)(hx:s.heap.get? x=some (Mi C none t))(h:∀h1 h2 h3,(∀b o,s.heap.get? b=some o->h1.get? b=some o)->h1.Ns1 s.heap.objs.size (λ_=>none)->Heap.SameBut x h1 h2->h2.get? x=some (Mi C (some s.heap.objs.size) t) ->
  Heap.SameBut s.heap.objs.size h2 h3->h3.Ns1 s.heap.objs.size (λy=>if y=name then some v else none)->Q () { s with heap:=h3,toks:=s.toks+2 }):
 KR (KU prog w) A (setAttr (.ref x) name v) Q E s:=by
 have I:InstAt s.heap x (Mi C none t) C none:=⟨hx,rfl,rfl,trivial⟩
 obtain⟨nm,q,N,bs,hdct,sn,sub,ab,col,dd,k0,k1,k2,k3,k5,lk⟩:=c.obj
 have hC:=X C _ lk
 have T:=c.tail _ X
 refine set_plain X I hs ?_
 have SF:=PySem.F.store_object
 obtain⟨cd,hc,hd⟩:=any_some hh
 have hcm:cd.mro=.ref C::bm:=by
  unfold clsIn at hc
  rw[lk] at hc
  cases hc
  rfl
 have ne:cd.mro.isEmpty=false:=by rw[hcm];rfl
 have hob:cd.mro.contains (.type "object")=true:=by rw[hcm,List.contains_cons,T.hasType (X := "object") (b:=true) (by decide +kernel),Bool.or_true]
 have sb:Looks (KU prog w) s.heap (isInstance (.ref x) (.type "object")) true:=I.type.andThen (looks_mroIn X (by unfold mroIn;rw[hc,Option.bind_some,if_neg (by rw[ne];decide),hob]))
 refine codeAny_call_builtin SF.slot.plain SF.entry (@check_slot (KU prog w) _ _ { s with toks:=s.toks+1 } "object.__setattr__" "object" "__setattr__" (.ref x) [.str name s.toks,v] [] _ SF.kind SF.split sb (SF.args (.ref x) (.str name s.toks) v) ?_)
 obtain⟨attr,ha,hr⟩:=Option.bind_eq_some_iff.mp ht
 have hm:Looks (KU prog w) s.heap (mroOf (.ref C)) cd.mro:=(looks_clsIn X hc).andThen .now
 have L3:Looks (KU prog w) s.heap (Builtin.ObjectAttr.storeTaker? attr) none:=by
  cases attr with
  | none=>exact .now
  | some a=>
   obtain⟨b,hb,hb2⟩:=Option.map_eq_some_iff.mp hr
   refine(looks_takesIn X hb).andThen ?_
   cases b with
   | false=>exact .now
   | true=>cases hb2
 rw[osa_eq,refuse_eq]
 refine JA (JA (I.type.here (s:={ s with toks:=s.toks+1 }) (JA (hm.here (s:={ s with toks:=s.toks+1 }) ?_))))
 rw[hcm,refuseLoop_ref,Za T]
 refine JO (JA (I.type.here (s:={ s with toks:=s.toks+1 }) (JA ((looks_findIn X ha).here (s:={ s with toks:=s.toks+1 }) (JA (L3.here (s:={ s with toks:=s.toks+1 }) ?_))))))
 show KR _ _ (Builtin.ObjectAttr.storeInOwnDict (.ref x) (.ref C) (.str name s.toks) name v _) _ _ _
 have hx₁:(s.heap.push { cls:=.type "dict", data:=.dict #[] }).get? x=some (Mi C none t):=JE _ hx
 have hxs:x≠s.heap.objs.size:=KL (JW hx)
 refine JA (JO (JA (JA (wpAny_loadPart hx (JA ((looks_clsIn X hc).here (s:={ s with toks:=s.toks+1 }) ?_))))))
 rw[hd,if_neg (by decide)]
 show KR _ _ (do
  let d <- alloc { cls:=OP "dict", data:=Data.dict #[] }
  update x λo=>{ cls:=o.cls,dict:=some d,data:=o.data,slots:=o.slots }
  dictMade (JV C) x d) _ _ _
 generalize hob1:({ cls:=OP "dict", data:=Data.dict #[] }:Obj)=dob at hx₁
 have g1:(s.heap.push dob).get? s.heap.objs.size=some dob:=JZ _ (by subst hob1;rfl)
 refine JA (wpAny_alloc' (JA (wpAny_update' hx₁ (JO ?_))))
 have n1:(s.heap.push dob).Ns1 s.heap.objs.size (λ_=>none):=Heap.Ns1.of_empty ⟨dob,#[],_,g1,by subst hob1;rfl,λe he=>absurd he (by simp),λ_=>rfl⟩
 have sb2:=QN (a:=x) (s.heap.push dob) (λo=>{ cls:=o.cls,dict:=some s.heap.objs.size,data:=o.data,slots:=o.slots })
 have g2:=MS (λo=>{ cls:=o.cls,dict:=some s.heap.objs.size,data:=o.data,slots:=o.slots }) hx₁ rfl
 show KR _ _ (Builtin.ObjectAttr.storeInDict s.heap.objs.size (.str name s.toks) name v) _ _ _
 unfold Builtin.ObjectAttr.storeInDict Builtin.ObjectAttr.newKeyGuard
 refine JA (JO (JA (wpAny_nsSet1 (n1.sameBut sb2 (LH hxs)) λh' hn' hs'=>?_)))
 obtain⟨oD,esD,epD,hoD,hdD,hcD⟩:=hn'.count (Within.cons name v Within.nil)
 refine JA (wpAny_lookBehind hoD (by rw[hdD];exact pastItsLine_dict (KS hcD (by rw[LN,List.length_nil,KO];omega))) ?_)
 exact JO (h _ _ h' (λb o e=>JE _ e) n1 sb2 g2 hs' hn')
end
structure wC(K:JC)(C:JK)(f:Str):Prop where
 sa:RU K (.ref C) "__setattr__" = some (some (.builtin "object.__setattr__"))
 na:RU K (.ref C) f=some none
 hd:hasDictIn K C=true
 ga:RU K (.ref C) "__getattribute__" = some (some (.builtin "BaseException.__getattribute__"))
 gn:RU K (.ref C) "__getattr__" = some none
 be:mroIn K C (.type "BaseException")=some true
section
variable {prog:KC} {w:LL} {A:LI} {E:JD->JH->Prop} {s:JH} {K:JC} {C x:JK} {name:Str} {v:JD} {ox od:Obj} {expr:Bool}
end
def DS(K:JC)(ta tv:TE)(f:Str):TS:=λD σ H=>tv σ H λy H1=>ta σ H1 λxv H2=>∃x C bm t,xv=.ref x/\H2 x=some (rN x C none t)/\Ku K C bm/\wC K C f /\
 ∀dx,H2 dx=none->dx≠x->D.nx σ (upd (upd H2 x (rN x C (some dx) t)) dx (.xd [(f,y)]))
section
variable {X:Cx} {o e value:Expr} {f:Str} {pos pos':Pos} {ta tv:TE}
theorem tT(ha:PE X o ta)(hv:PE X value tv)(hs:swapsWith value (some (.Attribute o f pos')) pos.line X.env=pure false:=by rfl):PS X (.Assign [.Attribute o f pos'] value pos) (DS X.K ta tv f):=by
 intro pins s σ H D I h
 refine plainObj_wpAny_Assign_Attribute (Bu (hv pins s σ H _ I h) λu s1 ⟨y,H1,I1,ry,q⟩=>Bu (ha pins s1 σ H1 _ I1 q) λov s2 ⟨xv,H2,I2,rx,x,C,bm,t,ex,ea,c,F,q2⟩=>?_) hs
 subst ex
 obtain rfl:ov=JV x:=rx
 have g:=mX I2.hok ea
 have hxs:x≠s2.heap.objs.size:=KL (JW g)
 refine vR I2.kIn c F.sa (Eh.taker F.na) F.hd g λh1 h2 h3 k1 n1 sb2 g2 sb3 n3=>?_
 have k3:∀b u,b≠x->s2.heap.get? b=some u->h3.get? b=some u:=λb u hb z=>(sb3.2 b (KL (JW z))).trans ((sb2.2 b hb).trans (k1 b u z))
 have g3:h3.get? x=some (Mi C (some s2.heap.objs.size) t):=(sb3.2 x hxs).trans g2
 have J2:Inv X pins σ (upd H2 x (rN x C (some s2.heap.objs.size) t)) { s2 with heap:=h3,toks:=s2.toks+2 }:=
  I2.write (x:=x) (e:=x) (h':=h3) (by rw[ea];exact PB) (.inl rfl) k3 ⟨_,g3⟩ (lV g3)
 have fD:De X pins H2 s2.heap.objs.size:=I2.fpOk (JI _) (I2.hok.fresh (JI _))
 have J3:=J2.adopt (D:=s2.heap.objs.size) (o:=.xd [(f,y)]) (by rw[Aj (LH hxs)];exact fD.1) fD.2.1 I2.sz fD.2.2.2.2.1 fD.2.2.2.2.2
  ⟨_,n3,λg'=>by
   by_cases hg:g'=f
   ·subst hg
    show Ho (RF g' [(g',y)]) (if g'=g' then some u else none)
    rw[KN,beq_self_eq_true,if_pos rfl]
    exact ry
   ·show Ho (RF g' [(f,y)]) (if g'=f then some u else none)
    rw[KN,beq_eq_false_iff_ne.mpr hg,if_neg hg]
    exact PB⟩
 exact⟨σ,_,J3,q2 _ (I2.hok.fresh (JI _)) (LH hxs)⟩
end
section
variable {X:Cx} {EX:XS} {C f:JK} {bm:List JD} {fd:LB} {ps:List Str} {sp:Sp} {k:Nat} {x:Str} {p pos cpos:Pos} {e:Expr} {es:List Expr} {t:TA}
def ID:XK:=λ_ _ _=>False
def xG(C:JK)(sp:Sp)(EX:XS)(σ:St)(vs:List V)(H:Hp):Prop:=vs.length<=JM /\
 ∀x tt,H x=none->sp (.ref x::vs) (upd H x (rN x C none tt)) (λv H2=>v=.non/\∃dx,H2 x=some (rN x C dx tt)/\EX σ (.ref C) dx (rem H2 x)) ID
theorem jO(c:Ku X.K C bm)(hi:MF X.K (.ref C) "__init__" = some (some (.ref f)))(hfn:PySem.W.isFn X.K (.ref f)=true)(F:Al X.prog X.w X.K X.mg X.base Bi k f fd ps sp)(hr:Ck (k+1) X.A)(hb:Binds X.K fd ps [])(hcl:X.calm=true){pins:List (JK×Obj)}{σ:St}{H:Hp}{s:JH}{us:List JD}{vs:List V}(I:Inv X pins σ H s)(r:Bb vs us)(h:xG C sp EX σ vs H):
 KR (KU X.prog X.w) X.A (call (.ref C) us) (λv s₁=>∃e dx t,v=.ref e/\X.K.In s₁.heap/\s₁.heap.get? e=some (Mi C dx t)/\Wx X EX (.ref e) s₁) (Wx X EX) s:=by
 obtain⟨hz,h⟩:=h
 obtain⟨nm,q,N,bs,hdct,sn,sub,ab,col,dd,k0,k1,k2,k3,k5,lk⟩:=c.obj
 have I0:=I.pins_of (pins':=[]) (λp hp=>nomatch hp)
 have fx:De X [] H (s.heap.objs.size+1):=I0.fpOk (OI _) (I0.hok.fresh (OI _))
 have hq:=h (s.heap.objs.size+1) s.heap.objs.size fx.1
 have k0':∀b o,s.heap.get? b=some o->((s.heap.push (Ec us)).push (Dp C s.heap.objs.size)).get? b=some o:=λb o e=>JE _ (JE _ e)
 have gx:((s.heap.push (Ec us)).push (Dp C s.heap.objs.size)).get? (s.heap.objs.size+1)=some (Mi C none s.heap.objs.size):=by
  have:=JZ (s.heap.push (Ec us)) (o:=Dp C s.heap.objs.size) rfl
  rwa [OL] at this
 have I1:Inv X [] σ H { s with heap:=(s.heap.push (Ec us)).push (Dp C s.heap.objs.size),toks:=s.toks }:=I0.kept k0'
 have I2:=I1.adopt (D:=s.heap.objs.size+1) (o:=rN (s.heap.objs.size+1) C none s.heap.objs.size) fx.1 fx.2.1 (KS I.sz (OI _)) fx.2.2.2.2.1 fx.2.2.2.2.2 (lV gx)
 have r2:Bb (V.ref (s.heap.objs.size+1)::vs) (JV (s.heap.objs.size+1)::us):=.cons rfl r
 have hl:(JV (s.heap.objs.size+1)::us++[]).length=ps.length:=by
  have e:=r2.length
  rw[F.len _ _ _ _ hq] at e
  rw[LX]
  exact e.symm
 have hbb:=hb _ (JV (s.heap.objs.size+1)::us) I2.kIn hl
 rw[LX] at hbb
 obtain⟨hh,g,d,tk,os⟩:=s
 refine RW (vL QQ (by decide +kernel) QQ (c.tail _ I.kIn) (I.kIn C _ lk) (PySem.W.looks_findIn I.kIn hi) (λself=>PySem.W.bind_fn I.kIn self (beq_iff_eq.mp hfn)) (by rw[<- r.length];exact hz) ?_)
 refine PQ (F.run _ X.stack _ _ ⟨JV (hh.objs.size+1)::us,[]⟩ (JV (hh.objs.size+1)::us) _ _ ID ⟨hr.make C us [],(λz=>nomatch z),I2.ok.hd hcl⟩ (I2.env0.make C us []) hbb r2 hq) λr s' hq'=>?_
 cases r with
 | error e=>exact LZ hq'
 | ok fl=>
  cases fl with
  | ret u=>
   obtain⟨v,H',I3,rv,ev,dx,ex,q3⟩:=I2.after hq'
   subst ev
   have g3:=mX I3.hok ex
   have I4:=I3.drop ex
   refine⟨rv,_,dx,_,rfl,I4.kIn,g3,_,_,dx,_,σ,rfl,I4,⟨Jq,fx.2⟩,.inl ⟨_,_,⟨g3,rfl,rfl,rfl,rfl,rfl⟩⟩,q3⟩
  | next=>exact LZ hq'
  | brk=>exact LZ hq'
  | cont=>exact LZ hq'
def sS(C:JK)(sp:Sp)(EX:XS)(t:TA):TS:=λ_ σ H=>t σ H λvs H1=>xG C sp EX σ vs H1
theorem iD(hcalm:X.sx=true)(c:Ku X.K C bm)(hbase:bm.contains (.type "BaseException")=true)(hi:MF X.K (.ref C) "__init__" = some (some (.ref f)))(hfn:PySem.W.isFn X.K (.ref f)=true)(F:Al X.prog X.w X.K X.mg X.base Bi k f fd ps sp)(hr:Ck (k+1) X.A)(hb:Binds X.K fd ps [])(hg:Gl X x)(hm:X.mg x=some (.ref C))(ha:PA (X.thrown EX) (e::es) t)(hdb:(x == ("__debug__" : Str))=false:=by decide)(he:KQ (e::es) X.env=(false,OX e X.env)::KQ es X.env:=by rfl)(hpl:(QK cpos (KQ es X.env)).any (·.1)=false:=by rfl)(hcl:X.calm=true:=by rfl):
 PS (X.thrown EX) (.Raise (some (.Call (.Name x p) (e::es) [] cpos)) none pos) (sS C sp EX t):=by
 intro pins s σ H D I h
 rw[arm_exec_Raise]
 refine JA (RA ?_)
 show KR _ _ (raiseStmt _ (some (do let v <- OX (.Call (.Name x p) (e::es) [] cpos) X.env;standAt pos;pure v)) none) _ _ _
 refine lW c hbase (I.ok.st hcalm) (JA (Bu ?_ λv s1 z=>JA (RA (JO z))))
 refine OO (Hb I hg hm ?_ hdb)
 refine NR (h₀:=X.base) I.ok.mod.kin c.kp (Bu (ha cpos pins s σ H _ I h) λus s1 ⟨vs,H1,I1,r,q⟩=>⟨I1.kIn,?_⟩) he hpl
 exact jO c hi hfn F hr hb hcl I1.unwish r q
end
section
variable {X:Cx} {pins:List (JK×Obj)} {σ:St} {H:Hp} {s:JH} {M:Model} {A:LI} {E:JD->JH->Prop}
end
section
variable {X:Cx} {σ:St} {H:Hp} {s:JH} {x:JK}
end
section
variable {X:Cx} {EX:XS} {th:Ends->XS} {hs:List SK} {C:JK} {c n:Str} {i:Nat} {np pos:Pos} {b₀:OQ} {suite:List OQ} {tsu:TS}
end
end L2
namespace L2
open PySem PySem.Spec PyProof.Rows PyProof.V PySem.SeqAt
section
variable {X:Cx} {pins:List (JK×Obj)} {σ:St} {H:Hp} {s:JH}
end
end L2
namespace L2
open PySem PySem.Spec PyProof.Rows
def vY(z:Nat)(it a:JK)(n:Int):HO:=.ext λh=>h.IsRevIter it a n/\z<=it
theorem rW{P:KC}{w:LL}{H:Hp}{h:MQ}{z:Nat}{it a:JK}{n:Int}(e:h.IsRevIter it a n)(hz:z<=it):Cg P w H h it (vY z it a n):=⟨⟨e,hz⟩,let ⟨o,g,_⟩:=e;⟨o,g⟩,λh1 h2 ⟨a,b⟩ k=>⟨a.at k,b⟩⟩
theorem Inv.fpOf{X:Cx}{pins:List (JK×Obj)}{σ:St}{H:Hp}{s:JH}{x:JK}{φ:MQ->Prop}(I:Inv X pins σ H s)(hx:H x=some (.ext φ))(hz:X.s₀.heap.objs.size<=x):De X pins (rem H x) x:=by
 have no:∀ {b},H b=none->x≠b:=λ{b} h e=>by subst e;rw[hx] at h;cases h
 refine⟨Jq,no I.free,λhb=>?_,.inr hz,λy c e=>LH (no (I.freeC y c e)),λp hp=>LH (no (I.pin p hp).2.1)⟩
 obtain⟨_,o,ho,_⟩:=I.ok.funs.mem hb
 exact no (I.base.free x o ho (I.ok.frf x hb) λz=>I.ok.exfs x z hb) rfl
theorem uA{H:Hp}{x:JK}{o:HO}(h:H x=none):rem (upd H x o) x=H:=by
 funext b
 by_cases e:b=x
 ·subst e
  rw[Jq,h]
 ·rw[Tz e,Aj e]
section
variable {prog:KC} {w:LL} {A:LI} {E:JD->JH->Prop} {s:JH}
theorem Sy:typeLookup (.type "list_reverseiterator") "__len__" = pure none:=by rw[typeLookup_type,builtinLookup_eq_fast];kernel_rfl
theorem Ye:typeLookup (.type "list_reverseiterator") "__length_hint__" = pure (some (.builtin "list_reverseiterator.__length_hint__")):=by rw[typeLookup_type,builtinLookup_eq_fast];kernel_rfl
theorem Ym{Q:JD->JH->Prop}{it l:JK}{items:Array JD}(hh:A.handled=none)(hit:s.heap.IsRevIter it l ((items.size:Int)-1))(hl:s.heap.IsList l items)(hne:l≠it)(hn:items.size<=JM)(hQ:∀s' acc' c',Moved (s.heap.objs.size::[it]) (λa b=>b=a) { s with heap:=s.heap.push { cls:=.type "list", data:=.seq #[] } } s' ->
  s'.heap.get? s.heap.objs.size=some { cls:=.type "list", dict:=none,data:=.seq acc' c',slots:=#[] }->ItemsOf (λi v=>items[items.size-1-i]? = some v) acc' items.size->Q (.ref s.heap.objs.size) s'):
 KR (KU prog w) A (call (.type "list") [.ref it]) Q E s:=by
 have hiL:it < s.heap.objs.size:=let ⟨_,g,_⟩:=hit;JW g
 have hlL:l < s.heap.objs.size:=let ⟨_,g,_⟩:=hl;JW g
 have hSf:s.heap.objs.size∉[it,l]:=by
  simp only[JP,KG,or_false,not_or]
  exact⟨OC hiL,OC hlL⟩
 have hSI:s.heap.objs.size≠it:=OC hiL
 refine callType_codes (Q₁:=λobj s₁=>obj=.ref s.heap.objs.size/\s₁={ s with heap:=s.heap.push { cls:=.type "list", data:=.seq #[] } }) PySem.F.called_list (PySem.F.typeCall_list_1 _) PySem.F.entry_list_init (code_list_new _ ⟨rfl,rfl⟩) ?_
 rintro obj s₁ ⟨rfl,rfl⟩
 have hS:(s.heap.push { cls:=.type "list", data:=.seq #[] }).get? s.heap.objs.size=some { cls:=.type "list", data:=.seq #[] }:=JZ _ rfl
 refine⟨⟨_,hS,rfl⟩,PySem.F.args_list_init_2 _ _,?_⟩
 have hit1:=hit.at (h':=s.heap.push { cls:=.type "list", data:=.seq #[] }) λo e=>JE _ e
 have hl1:=hl.push { cls:=.type "list", data:=.seq #[] }
 generalize hnew:s.heap.push { cls:=.type "list", data:=.seq #[] }=hp0 at hS hit1 hl1 hQ ⊢
 show KR _ A.in1.in1 (Builtin.List.listItems (.ref s.heap.objs.size) >>= λold=>Builtin.List.listUpdate (.ref s.heap.objs.size) (λ_=>#[]) >>= λ_=>letGo old.toList.reverse >>= λ_=>Builtin.List.listExtendWith (.ref s.heap.objs.size) (.ref it) .none) _ _ _
 refine JA (JA (MX hS rfl (JO ?_)))
 refine JA (m:=Builtin.List.listUpdate (.ref s.heap.objs.size) (λ_=>#[])) (show KR _ _ (updateSeq s.heap.objs.size (λ_=>#[])) _ _ _ from wpAny_updateSeq hS rfl (JA (RT ?_)))
 have hS2:=MS (RX (λ_=>(#[]:Array JD))) hS rfl
 have oth:∀b o,b≠s.heap.objs.size->hp0.get? b=some o->(hp0.update s.heap.objs.size (RX (λ_=>(#[]:Array JD)))).get? b=some o:=λb o hb e=>(LP _ _ (LH hb)).trans e
 have hit2:=hit1.at (h':=hp0.update s.heap.objs.size (RX (λ_=>(#[]:Array JD)))) λo e=>oth it o (LH hSI) e
 have hl2:=hl1.at (h':=hp0.update s.heap.objs.size (RX (λ_=>(#[]:Array JD)))) λo e=>oth l o (KL hlL) e
 generalize hup:hp0.update s.heap.objs.size (RX (λ_=>(#[]:Array JD)))=hp1 at hS2 oth hit2 hl2 ⊢
 have hT:(⟨hp1,s.gens,s.drawn,s.toks,s.os⟩:JH).TypeIs (.ref it) "list_reverseiterator" := hit2.typeIs
 unfold Builtin.List.listExtendWith
 refine JA (wpAny_typeOf hT ?_)
 have h1:Builtin.List.listSameRef (.ref s.heap.objs.size) (.ref it)=false:=by simp[Builtin.List.listSameRef,hSI]
 have h2:(OP "list_reverseiterator" == OP "list")=false:=by decide
 have h3:(OP "list_reverseiterator" == OP "tuple")=false:=by decide
 simp only[h1,h2,h3,Bool.or_false,PM,if_false]
 refine JA (wpAny_pyIter_revIter hit2 (JA (NC ?_)))
 have q1:=Sy
 have q2:=Ye
 have q3:splitId "list_reverseiterator.__length_hint__" = some ("list_reverseiterator","__length_hint__"):=by decide +kernel
 have q4:isSubtype (.type "list_reverseiterator") (.type "list_reverseiterator")=pure true:=by rw[isSubtype_type];kernel_rfl
 unfold Builtin.List.listLengthHint
 refine JA (wpAny_specialOf hT Sy ?_)
 show KR _ _ (specialOf (JV it) (NH "__length_hint__") >>= _) _ _ _
 refine JA (wpAny_specialOf hT Ye ?_)
 simp only[q3]
 refine JA (RS hT q4 ?_)
 simp only[Bool.not_true,PM,if_false]
 rw[if_pos (by decide +kernel),if_neg (by decide +kernel)]
 refine JO ?_
 rw[if_neg (by decide +kernel)]
 have hW:=(Walks.listRev (prog:=prog) (w:=w) (A:=A.in1.in1) (by simpa using hh) it l hne items).toS
 refine JO ⟨RC PySem.F.plain_extend_loop _,codeAny_extend_loopS hW hn _ hSf .none items.size 0 _ _ _ rfl (LG _) ⟨LG _,by simpa using hit2,hl2⟩ hS2 (ItemsOf.nil _) λs' acc' c' hm hS' hacc=>⟨rfl,?_⟩⟩
 refine hQ s' acc' c' ?_ hS' hacc
 have m0:Moved [s.heap.objs.size,it] (λa b=>b=a) (⟨hp0,s.gens,s.drawn,s.toks,s.os⟩:JH) ⟨hp1,s.gens,s.drawn,s.toks,s.os⟩:=⟨λb o hb e=>oth b o (λh=>hb (by rw[h];exact JS)) e,rfl,rfl,rfl,JI _⟩
 exact Moved.trans hW.gtrans m0 hm
end
section
variable {X:Cx}
theorem boot_reversed:PR "reversed" = some (.type "reversed"):=by decide +kernel
theorem Ro:Fj X (.type "reversed") (λxs H Q=>∃a ys,xs=[.ref a]/\Aw X.K H a ys/\∀it,H it=none->Q (.ref it) (upd H it (vY X.s₀.heap.objs.size it a ((ys.length:Int)-1)))):=by
 intro pins s σ H xs us Q I r h
 obtain⟨a,ys,rfl,hq,q⟩:=h
 obtain⟨u,rfl,ru⟩:=vals1 r
 cases ru
 obtain⟨its,rv,p,_⟩:=I.list hq
 refine call_reversed_list p.isList ?_
 have hlen:=rv.length
 refine⟨.ref s.heap.objs.size,_,I.laid (t':=s.toks) (o:=vY X.s₀.heap.objs.size s.heap.objs.size a ((ys.length:Int)-1)) (λb o e=>JE _ e) (JI _) (rW ⟨_,JZ _ rfl,rfl,?_⟩ I.sz),rfl,q _ (I.hok.fresh (JI _))⟩
 show Data.fields #[.ref a,QJ _]=_
 rw[KP,hlen]
theorem Rg(hc:X.sx=true):Fj X (.type "list") (λxs H Q=>∃it a ys,xs=[.ref it]/\H it=some (vY X.s₀.heap.objs.size it a ((ys.length:Int)-1))/\Aw X.K H a ys/\∀l,H l=none->Q (.ref l) (upd (rem H it) l (.lst ys.reverse))):=by
 intro pins s σ H xs us Q I r h
 obtain⟨it,a,ys,rfl,hi,hq,q⟩:=h
 obtain⟨u,rfl,ru⟩:=vals1 r
 cases ru
 obtain⟨its,rv,p,hz⟩:=I.list hq
 have hlen:=rv.length
 obtain⟨hit0,hzi⟩:=(I.hok it _ hi).1
 have hit:s.heap.IsRevIter it a ((its.toArray.size:Int)-1):=by
  rw[KP,<- hlen]
  exact hit0
 have hne:a≠it:=λe=>by
  subst e
  obtain⟨o,g,c,_⟩:=hit
  obtain⟨o',g',c',_⟩:=p.isList
  rw[g] at g'
  cases g'
  rw[c] at c'
  exact absurd c' (by decide)
 refine Ym (I.ok.st hc) hit p.isList hne (by rw[KP];omega) λs' acc' c' hm hS hacc=>?_
 obtain⟨h',g',d',t',os'⟩:=s'
 obtain rfl:os'=s.os:=hm.os
 obtain rfl:d'=s.drawn:=hm.drawn
 obtain rfl:g'=s.gens:=hm.gens
 have k:∀b u,b∉[it]->s.heap.get? b=some u->h'.get? b=some u:=λb u hb e=>hm.heap b u (by
  simp only[JP,KG,or_false,not_or] at hb ⊢
  exact⟨KL (JW e),hb⟩) (JE _ e)
 have I0:=I.drop hi
 have f0:=I.fpOf hi hzi
 have J1:Inv X pins σ (rem H it) { s with heap:=h',toks:=t' }:=I0.turns (ch:=[it]) k λb hb=>by
  rw[JL.mp hb]
  exact f0
 have fD:De X pins H s.heap.objs.size:=I.fpOk (JI _) (I.hok.fresh (JI _))
 have ea:acc'.toList=its.reverse:=by
  obtain⟨hs1,hs2⟩:=hacc
  rw[KP] at hs1 hs2
  refine List.ext_getElem (by rw[OU];simpa using hs1) λj h1 h2=>?_
  rw[OU] at h2
  have e1:=hs2 j acc'.toList[j] (by rw[<- SO,JG h1])
  rw[List.getElem_reverse]
  have e2:its[its.length-1-j]? = some acc'.toList[j]:=by simpa using e1
  exact(JB.mp e2).2.symm
 have rv':Bb ys.reverse acc'.toList:=by
  rw[ea]
  exact rv.reverse
 have J2:=J1.adopt (D:=s.heap.objs.size) (o:=.lst ys.reverse) (Jj fD.1) fD.2.1 I.sz fD.2.2.2.2.1 fD.2.2.2.2.2 ⟨by rw[OU];exact hz,acc'.toList,c',rv',by simpa using hS⟩
 exact⟨.ref s.heap.objs.size,_,J2,rfl,q _ fD.1⟩
end
def Yt(P:KC)(w:LL)(a:JK)(n:Nat):HO:=.ext λh=>∃S,h.SetOf (PD P w) a S n
theorem Ph{P:KC}{w:LL}{h h':MQ}{a:JK}{S:Str->Bool}{n:Nat}(e:h.SetOf (PD P w) a S n)(k:∀o,h.get? a=some o->h'.get? a=some o):h'.SetOf (PD P w) a S n:=by
 obtain⟨o,es,ep,t,g,r⟩:=e
 exact⟨o,es,ep,t,k o g,r⟩
section
variable {prog:KC} {w:LL} {A:LI} {R:Result->JH->Prop} {I:JK} {fp wr:List JK} {G:Array GenState->Array GenState->Prop} {n:Nat} {P:Nat->JD->Prop} {St:Nat->JH->Prop}
theorem qR(W:WalksS prog w A.in1 I fp wr G n P St)(S:JK)(hS:S∉fp)(val:Nat->Str)(hval:∀i v,P i v->∃t,v=.str (val i) t)(hinj:∀i j,i < n->j < n->val i=val j->i=j)(hb:n+1 < scanBound):
 ∀(k i:Nat)(s:JH),n-i=k->i<=n->St i s->(∃f:Str->Bool,s.heap.SetOf (PD prog w) S f i/\∀x,f x=true->∃j,j < i/\x=val j) ->
  (∀s',Moved (S::wr) G s s'->(∃f:Str->Bool,s'.heap.SetOf (PD prog w) S f n)->R (.ok (.ret .none)) s') ->
  RV (KU prog w) A (.builtin "set.update.loop" ⟨[.ref S,.ref I],[]⟩) R s:=by
 have hw:S∉wr:=λh=>hS (W.sub _ h)
 have up:∀b∈wr,b∈S::wr:=λb hb=>JQ _ hb
 intro k
 induction k with
 | zero=>
  intro i s hk hi st ⟨f,hf,_⟩ hR
  obtain rfl:i=n:=by omega
  refine ON PyProof.Rows.F.entry_set_update_loop ?_
  rw[NY QW _]
  refine JA (m:=OW (.ref I)) (W.done s _ _ st λs' hm=>JO (hR s' (hm.mono up) ⟨f,Ph hf λo e=>hm.heap S o hw e⟩))
 | succ k ih=>
  intro i s hk hi st ⟨f,hf,hfv⟩ hR
  have hlt:i < n:=by omega
  refine ON PyProof.Rows.F.entry_set_update_loop ?_
  rw[NY QW _]
  refine JA (m:=OW (.ref I)) (W.item i s _ _ hlt st λv s' hP st' hm=>?_)
  obtain⟨t,rfl⟩:=hval i v hP
  have hf':=Ph (h':=s'.heap) hf λo e=>hm.heap S o hw e
  refine JA (m:=holding [Value.str (val i) t] (setAdd S (.str (val i) t))) (NC ?_)
  unfold setAdd
  refine NC (JA ((PD prog w).pyHash (k:=val i) (PySem.strKind_is _ _ _ _) ?_))
  have hno:f (val i)=false:=by
   cases e:f (val i) with
   | false=>rfl
   | true=>
    obtain⟨j,hj,ej⟩:=hfv _ e
    have:=hinj i j hlt (by omega) ej
    omega
  refine wpAny_setAddHashed_of (knd:=PD prog w) (s:={ s' with toks:=s'.toks+1 }) (PySem.strKind_is _ _ _ _) rfl hf' (by omega) λh' sb h2=>?_
  rw[hno,if_neg JN] at h2
  refine JO ⟨RC QW _,ih (i+1) _ (by omega) hlt (W.frame _ s' _ _ st' (OI _) λb hb o e=>(sb.2 b (λh=>hS (h ▸ hb))).trans e) ⟨_,h2,λx hx=>?_⟩ λs2 m2 f2=>hR s2 ?_ f2⟩
  ·rw[Bool.or_eq_true] at hx
   rcases hx with z | z
   ·obtain⟨j,hj,e⟩:=hfv x z
    exact⟨j,by omega,e⟩
   ·exact⟨i,by omega,of_decide_eq_true z⟩
  ·exact Moved.trans W.gtrans ((hm.mono up).then_heap (OI _) λb o hb e=>(sb.2 b (λh=>hb (by rw[h];exact JS))).trans e) m2
end
section
variable {prog:KC} {w:LL} {A:LI} {E:JD->JH->Prop} {s:JH}
abbrev Gv(led:Bool):Obj:={ cls:=.type "set", dict:=none,data:=.set #[] 0 (.fresh 0 0 led) }
theorem Vu{l:JK}{items:Array JD}{xs:List Str}{Q:JD->JH->Prop}(hh:Bp A s.heap)(hl:s.heap.IsList l items)(hi:∀(i:Nat)(v:JD),items[i]? = some v->∃(x:Str)(t:Tok),xs[i]? = some x/\v=Value.str x t)(hlen:items.size=xs.length)(hnd:xs.Nodup)(hb:xs.length+1 < scanBound)(h:∀h' tk,(∃f:Str->Bool,h'.SetOf (PD prog w) s.heap.objs.size f xs.length)->(∀b o,s.heap.get? b=some o->h'.get? b=some o)->Q (.ref s.heap.objs.size) { s with heap:=h',toks:=tk }):
 KR (KU prog w) A (call (.type "set") [.ref l]) Q E s:=by
 have hlS:l < s.heap.objs.size:=let ⟨_,g,_⟩:=hl;JW g
 obtain⟨c,tl,hmro⟩:=OG.mro
 have hmade:=OG.made
 have hsub:=OG.sub
 refine RW (codeAny_of_tree (show KR _ _ (callAny (.type "set") _) _ _ _ from JO ⟨SL _ (by decide +kernel),ON PySem.F.entry_type_call ?_⟩))
 rw[Around.under_plain (weight_type_call_type "set" [.ref l] []) rfl]
 have h1:=OG.notType
 have h2:=OG.canCreate
 have hct:=PySem.F.typeCall_set_1 (.ref l)
 repeat (any_goals (first | assumption | wp_step))
 refine PQ (code_set_new_1 (.ref l) (E:=E) (Q₁:=λobj s₁=>∃led:Bool,obj=.ref s.heap.objs.size/\s₁={ s with heap:=s.heap.push (Gv led) }) λled=>⟨led,rfl,rfl⟩) λr s₁ hr=>?_
 rcases r with e | (obj | _ | _ | _)<;>first | exact hr | exact hr.elim | skip
 obtain⟨led,rfl,rfl⟩:=hr
 have hS:(s.heap.push (Gv led)).get? s.heap.objs.size=some (Gv led):=JZ _ rfl
 have hT:Shared.TypeIs { s with heap:=s.heap.push (Gv led) } (.ref s.heap.objs.size) "set" := ⟨_,hS,rfl⟩
 have hli:=OG.init.lookup
 have hbi:=OG.init.bind (.ref s.heap.objs.size)
 repeat (any_goals (first | assumption | wp_step))
 refine PQ (codeAny_call_builtin (R:=wants (λr s₂=>r=.none/\∃h' tk,s₂={ s with heap:=h',toks:=tk }/\(∃f:Str->Bool,h'.SetOf (PD prog w) s.heap.objs.size f xs.length)/\(∀b o,s.heap.get? b=some o->h'.get? b=some o)) E) OG.init.plain PySem.F.entry_set_init (check_set_init_1 hT ?_)) λr₂ s₂ hr₂=>?_
 ·have hl1:(s.heap.push (Gv led)).IsList l items:=hl.push _
  obtain⟨⟨ocls,odict,odata,oslots⟩,hol,hcl,nl,hdl⟩:=id hl1
  simp only at hcl hdl
  subst hcl hdl
  have hsls:=PySem.F.sub_list_set
  have hslf:=PySem.F.sub_list_frozenset
  have hne:(OP "list" == OP "dict")=false:=by decide
  unfold Builtin.«set.__init__» noKeywords Builtin.Frozenset.updateFrom
  generalize hPI:pyIter=PI
  wp_walk
  subst hPI
  refine wpAny_pyIter_list hl1 (JA (wpAny_runValue ?_))
  have sz:(s.heap.push (Gv led)).objs.size=s.heap.objs.size+1:=OL _ _
  have hneI:l≠(s.heap.push (Gv led)).objs.size:=by rw[sz];exact KL (SA hlS)
  refine qR ((Pg (A:=A.in1.in1.in1) _ l hneI items).toS) s.heap.objs.size ?_ (λi=>xs.getD i (NH "")) ?_ ?_ (by omega) (items.size-0) 0 _ (by omega) (LG _) ⟨⟨_,JZ _ rfl,rfl,rfl⟩,hl1.push _,hh.ext λb o e=>JE _ (JE _ e)⟩ ⟨λ_=>false,?_,λx hx=>absurd hx JN⟩ ?_
  ·simp only[JP,KG,or_false,not_or,sz]
   exact⟨KL (QC _),OC hlS,λz=>absurd (Bp.lt (A:=A.in1.in1.in1) hh _ z) (PK _)⟩
  ·intro i v hv
   obtain⟨x,t,hx,e⟩:=hi i v hv
   exact⟨t,by rw[e,LF,hx];rfl⟩
  ·intro i j hi' hj' e
   rw[hlen] at hi' hj'
   rw[LF,LF,JG hi',JG hj'] at e
   exact(List.getElem_inj hnd).mp e
  ·exact(setObjOf_fresh (knd:=PD prog w) led).setOf (JE _ hS) (by unfold scanBound;omega)
  ·rintro⟨h',g',d',tk',os'⟩ hm ⟨f,hf⟩
   obtain rfl:g'=s.gens:=hm.gens
   obtain rfl:d'=s.drawn:=hm.drawn
   obtain rfl:os'=s.os:=hm.os
   refine JO (JO ⟨rfl,h',tk',rfl,⟨f,hlen ▸ hf⟩,λb o e=>hm.heap b o ?_ (JE _ (JE _ e))⟩)
   simp only[JP,KG,or_false,not_or,sz]
   exact⟨KL (JW e),KL (SA (JW e))⟩
 ·rcases r₂ with e | (obj | _ | _ | _)<;>first | exact hr₂ | exact hr₂.elim | skip
  obtain⟨rfl,h',tk,rfl,hf,hk⟩:=hr₂
  repeat (any_goals (first | assumption | wp_step))
  exact h _ _ hf hk
end
section
variable {X:Cx}
theorem Rt:PR "set" = some (.type "set"):=by decide +kernel
theorem Jv(hc:X.calm=true):Fj X (.type "set") (λys H Q=>∃(a:JK)(xs:List Str),ys=[.ref a]/\Aw X.K H a (xs.map V.str)/\xs.Nodup/\xs.length+1 < scanBound/\∀p,H p=none->Q (.ref p) (upd H p (Yt X.prog X.w p xs.length))):=by
 intro pins s σ H ys us Q I r h
 obtain⟨a,xs,rfl,hq,hnd,hb,q⟩:=h
 obtain⟨u,rfl,ru⟩:=vals1 r
 cases ru
 obtain⟨its,rv,p,hz⟩:=I.list hq
 have hlen:=rv.length
 rw[JF] at hlen
 refine Vu (xs:=xs) (I.calmS hc) p.isList (λi v hv=>?_) (by rw[KP];exact hlen.symm) hnd hb λh' tk ⟨f,hf⟩ k=>?_
 ·have hv':its[i]? = some v:=by simpa using hv
  have hil:i < xs.length:=by rw[hlen];exact(JB.mp hv').1
  obtain⟨v2,e2,r2⟩:=rv.get (i:=i) (x:=.str xs[i]) (by rw[KJ,JG hil]<;>rfl)
  rw[hv'] at e2
  cases e2
  obtain⟨t,e⟩:=r2
  exact⟨xs[i],t,JG hil,e⟩
 ·obtain⟨o,es,ep,t,g,rr⟩:=id hf
  exact⟨.ref s.heap.objs.size,_,I.laid (t':=tk) (o:=Yt X.prog X.w s.heap.objs.size xs.length) k (JI _) ⟨⟨f,hf⟩,⟨o,g⟩,λh1 h2 ⟨f1,e1⟩ k1=>⟨f1,Ph e1 k1⟩⟩,rfl,q _ (I.hok.fresh (JI _))⟩
theorem Kj:Fj X (.builtin "len") (λys H Q=>∃a n,ys=[.ref a]/\H a=some (Yt X.prog X.w a n)/\Q (.int (n:Nat)) H):=by
 intro pins s σ H ys us Q I r h
 obtain⟨a,n,rfl,ha,q⟩:=h
 obtain⟨u,rfl,ru⟩:=vals1 r
 cases ru
 obtain⟨f,o,es,ep,t,g,hex,hd,_,_,hb,hf,hn⟩:=(I.hok a _ ha).1
 subst hn
 exact call_len_set g hex hd hf (by unfold scanBound at hb;omega) ⟨.int (es.size:Nat),H,I.tok _,⟨_,rfl⟩,q⟩
end
section
variable {X:Cx} {K:JC} {a e:Expr} {ta te:TE}
def HS(K:JC)(ta:TE):TT:=λσ H Q=>ta σ H λx H'=>∃k,sX K x H' k/\Q k H'
theorem oF(ha:PE X a ta)(hK:X.K=K:=by rfl)(he:∀whole,isTrue a X.env whole=(do let v <- whole;standAt a.pos;holding [v] (truthy v)):=by intro _;rfl):PT X a (HS K ta):=by
 subst hK
 exact pO ha he
def tX(K:JC):List V->Hp->VK->Prop:=λxs H Q=>∃p ys,xs=[.ref p]/\(Aw K H p ys∨Co K H p ys)/\∀l,H l=none->Q (.ref l) (upd H l (.lst ys))
theorem Oy(hK:X.K=K:=by rfl):Fj X (.type "list") (tX K):=by
 subst hK
 exact Gd
theorem Wk(hK:X.K=K:=by rfl):EN X (iZ K):=by
 subst hK
 exact Bj
theorem lJ(hK:X.K=K:=by rfl):CQ X (mD K):=by
 subst hK
 exact El
def xU:XS:=λ_ _ _ _=>False
theorem BQ{X:Cx}{e:JD}{s:JH}(h:Wx X xU e s):False:=by
 obtain⟨_,_,_,_,_,_,_,_,_,z⟩:=h
 exact z
end
section
variable {X:Cx}
theorem Td:Jr X (OS .LtE) (λx y H Q=>∃i j,x=.str i/\y=.str j/\Q (.bl (!decide (j.cps.toList < i.cps.toList))) H):=by
 intro pins s σ H x y v u Q I rx ry h
 obtain⟨i,j,rfl,rfl,q⟩:=h
 obtain⟨t,rfl⟩:=rx
 obtain⟨t',rfl⟩:=ry
 exact PySem.P.le_str (Bt I q rfl)
end
def xM(x:Str):It:=⟨λi _=>i < x.cps.size,λi H v H'=>H'=H/\∃c,x.cps[i]? = some c/\v=.str ⟨#[c]⟩,λi _=>x.cps.size<=i⟩
theorem pK{P:KC}{w:LL}{K:JC}{tg:Expr}(x:Str)(t:Tok)(it:JK)(ty:String)(hty:ty = "str_ascii_iterator" ∨ ty = "str_iterator"):
 Turn P w K tg (xM x) [it] it (λi h=>h.IsStrIter it ty x t i) where
 mem:=by simp
 obj:=λi h st b hb=>by
  have e:b=it:=by simpa using hb
  subst e
  obtain⟨o,e,c,d⟩:=st
  exact⟨o,e,λv z=>by rw[d] at z;cases z⟩
 keep:=λi h h' st k=>by
  obtain⟨o,e,c⟩:=st
  exact⟨o,k it (by simp) o e,c⟩
 item:=by
  intro X hP hw hK hc i pins s σ H E I hf st hg
  subst hP hw hK
  obtain⟨f0,f1,f2,f3,f4,f5⟩:=hf it (by simp)
  have hlt:i < x.cps.size:=hg
  have hx:x.cps[i]? = some x.cps[i]:=by simp[hlt]
  rcases hty with rfl | rfl
  ·refine wpAny_pyNext_ascii_item st hx λh' st' sb=>?_
   have I1:Inv X pins σ H { s with heap:=h',toks:=s.toks+1 }:=I.turned (λb o hb e=>(sb.2 b hb).trans e) f0 f1 f3 f4 f5
   obtain⟨o,e,c,d⟩:=id st'
   exact⟨_,rfl,Sx (s:={ s with heap:=h',toks:=s.toks+1 }) e c d (by decide) ⟨.str ⟨#[x.cps[i]]⟩,H,I1,⟨_,rfl⟩,⟨rfl,_,hx,rfl⟩,st',λb hb=>(hf b hb).1⟩⟩
  ·refine wpAny_pyNext_wide_item st hx λh' st' sb=>?_
   have I1:Inv X pins σ H { s with heap:=h',toks:=s.toks+1 }:=I.turned (λb o hb e=>(sb.2 b hb).trans e) f0 f1 f3 f4 f5
   obtain⟨o,e,c,d⟩:=id st'
   exact⟨_,rfl,Sx (s:={ s with heap:=h',toks:=s.toks+1 }) e c d (by decide) ⟨.str ⟨#[x.cps[i]]⟩,H,I1,⟨_,rfl⟩,⟨rfl,_,hx,rfl⟩,st',λb hb=>(hf b hb).1⟩⟩
 done:=by
  intro X hP hw hK hc i pins s σ H E I hf st hg
  subst hP hw hK
  obtain⟨f0,f1,f2,f3,f4,f5⟩:=hf it (by simp)
  have hle:x.cps.size<=i:=hg
  have hx:x.cps[i]? = none:=by simp[hle]
  rcases hty with rfl | rfl
  ·exact pU (I.calmS hc) st hx λh' eb=>⟨rfl,I.turned (t':=s.toks) (λb o hb e=>eb b o hb e) f0 f1 f3 f4 f5⟩
  ·exact vG (I.calmS hc) st hx λh' eb=>⟨rfl,I.turned (t':=s.toks) (λb o hb e=>eb b o hb e) f0 f1 f3 f4 f5⟩
 self:=λ_ _ _ _ _ st h=>by
  rcases hty with rfl | rfl
  ·exact wpAny_pyIter_striter_ascii st h
  ·exact wpAny_pyIter_striter_wide st h
def EZ(tl:TE):TI:=λσ H R=>tl σ H λx H1=>∃z,x=.str z/\R (xM z) H1
theorem AW{X:Cx}{tg l:Expr}{tl:TE}(hl:PE X l tl):PI X tg l (EZ tl):=by
 intro pins s σ H R I h
 refine Bu (hl pins s σ H _ I h) λv s1 ⟨x,H1,I1,r1,q1⟩=>?_
 obtain⟨z,e,q⟩:=q1
 subst e
 obtain⟨t,rfl⟩:=r1
 refine wpAny_pyIter_strU ?_
 refine⟨s1.heap.objs.size,[s1.heap.objs.size],_,_,H1,rfl,I1.kept (t':=s1.toks) λb o e=>JE _ e,pK z t _ (strIterType z) (by unfold strIterType;split;exact .inl rfl;exact .inr rfl),⟨_,JZ _ rfl,rfl,rfl⟩,λb hb=>?_,q⟩
 have e:b=s1.heap.objs.size:=by simpa using hb
 subst e
 exact I1.fpOk (JI _) (I1.hok.fresh (JI _))
theorem ER{x:Str}{g:TG}{tb:TS}{D:Ends}{σ:St}{H:Hp}(Pv:Nat->St->Hp->Prop)(h0:Pv 0 σ H)(hs:∀i c σ H,x.cps[i]? = some c->Pv i σ H->g (.str ⟨#[c]⟩) σ H λσ2 H2=>tb { D with nx:=Pv (i+1),ct:=Pv (i+1),bk:=D.nx } σ2 H2)(hd:∀σ H,Pv x.cps.size σ H->D.nx σ H):
 ∃W:Nat->Nat->St->Hp->Prop,(∃m,W 0 m σ H)/\∀i m σ H,W i m σ H ->
  ((xM x).stop i H/\D.nx σ H)∨((xM x).go i H/\∃N:St->Hp->Prop,(∀σ' H',N σ' H'->∃m',m' < m/\W (i+1) m' σ' H')/\∀y H',(xM x).yld i H y H'->g y σ H' λσ2 H2=>tb { D with nx:=N,ct:=N,bk:=D.nx } σ2 H2):=by
 refine⟨λi m σ H=>m=x.cps.size-i/\i<=x.cps.size/\Pv i σ H,⟨x.cps.size,by simp,LG _,h0⟩,?_⟩
 rintro i m σ H ⟨rfl,hi,p⟩
 by_cases hlt:i < x.cps.size
 ·refine .inr ⟨hlt,Pv (i+1),λσ' H' p'=>⟨x.cps.size-(i+1),by omega,rfl,hlt,p'⟩,λy H' z=>?_⟩
  obtain⟨rfl,c,hc,rfl⟩:=z
  exact hs i c σ _ hc p
 ·have e:i=x.cps.size:=by omega
  subst e
  exact .inl ⟨JI _,hd σ H p⟩
theorem iJ{x:Str}{n:Nat}{fr:List (Str×Nat)}{g:TG}{tc:TT}{te:TE}{σ:St}{H:Hp}{F:List V->Hp->Prop}(Pv:Nat->List V->Hp->Prop)(h0:Pv 0 [] H)(hs:∀i c ys H,x.cps[i]? = some c->Pv i ys H->g (.str ⟨#[c]⟩) (stC n fr σ) H λσ2 H2=>tc σ2 H2 λb H3=>if b=true then te σ2 H3 λy H4=>ys.length < JM/\Pv (i+1) (ys++[y]) H4 else Pv (i+1) ys H3)(hd:∀ys H,Pv x.cps.size ys H->F ys H):Eu n fr g tc te σ (xM x) H F:=by
 refine⟨λi m ys H=>m=x.cps.size-i/\i<=x.cps.size/\Pv i ys H,⟨x.cps.size,by simp,LG _,h0⟩,?_⟩
 rintro i m ys H ⟨rfl,hi,p⟩
 by_cases hlt:i < x.cps.size
 ·refine .inr ⟨hlt,Pv (i+1),λys' H' p'=>⟨x.cps.size-(i+1),by omega,rfl,hlt,p'⟩,λy H' z=>?_⟩
  obtain⟨rfl,c,hc,rfl⟩:=z
  exact hs i c ys _ hc p
 ·have e:i=x.cps.size:=by omega
  subst e
  exact .inl ⟨JI _,hd ys H p⟩
theorem aD{x:Str}{n:Nat}{fr:List (Str×Nat)}{g:TG}{te:TE}{σ:St}{H:Hp}{F:List V->Hp->Prop}(Pv:Nat->List V->Hp->Prop)(h0:Pv 0 [] H)(hs:∀i c ys H,x.cps[i]? = some c->Pv i ys H->g (.str ⟨#[c]⟩) (stC n fr σ) H λσ2 H2=>te σ2 H2 λy H4=>ys.length < JM/\Pv (i+1) (ys++[y]) H4)(hd:∀ys H,Pv x.cps.size ys H->F ys H):Eu n fr g Po te σ (xM x) H F:=iJ Pv h0 (λi c ys H hx p=>hs i c ys H hx p) hd
def rH(C:JK)(m:Str)(sp:Sp)(dvs:List V)(EX:XS)(ta:TE)(t:TA):TE:=λσ H Q=>ta σ H λx H1=>∃a dx fs,x=.ref a/\H1 a=some (.ins C dx fs)/\fs.lookup m=none /\
 t σ H1 λvs H2=>sp (.ref a::(vs++dvs)) H2 Q (EX σ)
section
variable {X:Cx} {EX:XS} {k:Nat} {f C:JK} {fd:LB} {ps:List Str} {sp:Sp} {dvs:List V} {ds:List JD} {x m:Str} {p pos apos:Pos} {e o:Expr} {es:List Expr} {ta:TE} {t:TA}
theorem Et{pl:Sem Bool}(he:PE (X.thrown EX) o ta)(c:Wa X.K C)(hm:Dt X.K C m f)(F:Al X.prog X.w X.K X.mg X.base (Gp X.prog X.w) k f fd ps sp)(hr:Ck k X.A)(hb:Binds X.K fd ps ds)(hd:Bb dvs ds)(ha:PA (X.thrown EX) (e::es) t)(hst:KQ (e::es) X.env=(false,OX e X.env)::KQ es X.env:=by rfl)(hpl:(QK pos (KQ es X.env)).any (·.1)=false:=by rfl)(ht:OX (.Call (.Attribute o m apos) (e::es) [] pos) X.env=(do
  let ov <- OX o X.env
  standAt apos.atName
  let (f,first) <- holding [ov] (getMethod ov m pl)
  callWith pos f first (QK pos (KQ (e::es) X.env)) (backToKw pos (QU [] X.env))):=by rfl)(hcs:X.calm=true/\X.sx=true:=by exact⟨rfl,rfl⟩):
 PE (X.thrown EX) (.Call (.Attribute o m apos) (e::es) [] pos) (rH C m sp dvs EX ta t):=by
 intro pins s σ H Q I h
 refine PF (pl:=pl) (Bu (he pins s σ H _ I h) λu s1 ⟨x,H1,I1,rx,a,dx,fs,ex,ea,l,q⟩=>?_) ht
 subst ex
 obtain rfl:u=JV a:=rx
 refine Ff I1 ea c hm l ?_
 refine NR (first:=[.ref a]) (h₀:=X.base) I.ok.mod.kin hm.kp (Bu (ha pos pins s1 σ H1 _ I1 q) λus s2 ⟨vs,H2,I2,r,q2⟩=>⟨I2.kIn,?_⟩) hst hpl
 exact Vp (us:=.ref a::us) (vs:=.ref a::vs) F hr hb hd hcs I2 (.cons rfl r) q2
theorem jC{pl:Sem Bool}(he:PE (X.thrown EX) o ta)(c:Wa X.K C)(hm:Dt X.K C m f)(F:Al X.prog X.w X.K X.mg X.base (Gp X.prog X.w) k f fd ps sp)(hr:Ck k X.A)(hb:Binds X.K fd ps ds)(hd:Bb dvs ds)(ht:OX (.Call (.Attribute o m apos) [] [] pos) X.env=(do
  let ov <- OX o X.env
  standAt apos.atName
  let (f,first) <- holding [ov] (getMethod ov m pl)
  callWith pos f first (QK pos (KQ [] X.env)) (backToKw pos (QU [] X.env))):=by rfl)(hcs:X.calm=true/\X.sx=true:=by exact⟨rfl,rfl⟩):
 PE (X.thrown EX) (.Call (.Attribute o m apos) [] [] pos) (rH C m sp dvs EX ta Xz):=by
 intro pins s σ H Q I h
 refine PF (pl:=pl) (Bu (he pins s σ H _ I h) λu s1 ⟨x,H1,I1,rx,a,dx,fs,ex,ea,l,q⟩=>?_) ht
 subst ex
 obtain rfl:u=JV a:=rx
 refine Ff I1 ea c hm l ?_
 exact PySem.W.callWith_K0 (first:=[.ref a]) I1.kIn hm.kp (Vp (us:=[.ref a]) (vs:=[.ref a]) F hr hb hd hcs I1 (.cons rfl .nil) q)
end
theorem Inv.swap{X:Cx}{pins:List (JK×Obj)}{σ:St}{H:Hp}{s:JH}{d:JK}{u u':HO}(I:Inv X pins σ H s)(e:H d=some u)(h1:∀y,u ≠ .own y)(h2:∀xs,u ≠ .tup xs)(h3:∀o v,X.H₀ d≠some (.frz o v))(h4:∀ps,u ≠ .tbl ps)(new:Cg X.prog X.w (upd H d u') s.heap d u'):Inv X pins σ (upd H d u') s:=by
 have ne:∀ {b:JK} {o:HO},H b=some o->o≠u->upd H d u' b=some o:=λ{b o} q n=>by
  rw[Aj (λz=>by subst z;rw[e] at q;exact n (KW q).symm)];exact q
 have nn:∀ {b:JK},H b=none->upd H d u' b=none:=λ{b} q=>by
  rw[Aj (λz=>by subst z;rw[e] at q;cases q)];exact q
 refine⟨I.ok,I.os,I.bare,⟨I.base.keep,I.base.slot,λb o q n hx=>nn (I.base.free b o q n hx),I.base.there,λb xs q=>ne (I.base.tups b xs q) (LH (h2 xs)),λb o v q=>?_,λb ps q=>?_⟩,I.loc,I.cell,nn I.free,λx c q=>nn (I.freeC x c q),λp hp=>?_,λb o q=>?_,I.len⟩
 ·have q':=I.base.frzs b o v q
  rw[Aj (λz=>by subst z;exact h3 o v q)];exact q'
 ·obtain⟨m,q'⟩:=I.base.tbls b ps q
  exact⟨m,ne q' (LH (h4 _))⟩
 ·obtain⟨q,n,r⟩:=I.pin p hp
  exact⟨q,nn n,r⟩
 ·by_cases hb:b=d
  ·subst hb;rw[Aa] at q;cases q;exact new
  ·rw[Aj hb] at q
   exact(I.hok b o q).stay (λ_ _ _ z=>z) (λc z=>ne z (LH (h1 _))) λc xs z=>ne z (LH (h2 xs))
def fZ(H₀:Hp)(d:JK):Prop:=∀o v,H₀ d≠some (.frz o v)
section
variable {X:Cx} {pins:List (JK×Obj)} {σ:St} {H:Hp} {s:JH} {d:JK} {kvs:List (Key×V)} {o:Obj}
theorem Inv.freeze(I:Inv X pins σ H s)(e:H d=some (.dK kvs)):fZ X.H₀ d/\∃o,s.heap.get? d=some o/\(∃es ep,o.data=.dict es ep)/\Inv X pins σ (upd H d (.frz o (.dK kvs))) s:=by
 have nf:fZ X.H₀ d:=λo v z=>by
  have:=I.base.frzs d o v z
  rw[e] at this
  cases this
 obtain⟨z,y,vs,r,ob,es,ep,g,c,dd,rest⟩:=(show Cg X.prog X.w H s.heap d (.dK kvs) from I.hok d _ e)
 exact⟨nf,ob,g,⟨es,ep,dd⟩,I.swap e (λ_ z=>nomatch z) (λ_ z=>nomatch z) nf (λ_ z=>nomatch z) ⟨g,z,y,vs,r,ob,es,ep,g,c,dd,rest⟩⟩
theorem Inv.dictAt{es:Array RO}{ep:Nat}(I:Inv X pins σ H s)(e:H d=some (.frz o (.dK kvs)))(hd:o.data=.dict es ep):(d == OE)=false/\∃vs,KV kvs vs/\s.heap.DictAt (Bo X.prog X.w) d vs ep:=by
 obtain⟨g,z,y,vs,r,ob,es',ep',g',c,dd,rest⟩:=(show Cg X.prog X.w H s.heap d (.frz o (.dK kvs)) from I.hok d _ e)
 rw[g] at g'
 cases g'
 rw[hd] at dd
 cases dd
 exact⟨y,vs,r,o,es,g,c,hd,rest⟩
end
theorem xX{P:KC}{w:LL}{k:Key}{u:JD}(h:(Bo P w).is k u=true):RelV (kV k) u:=by
 rcases Cr h with ⟨i,t,rfl,rfl⟩ | ⟨x,t,rfl,rfl⟩
 ·exact⟨t,rfl⟩
 ·exact⟨t,rfl⟩
def BL(d:JK)(o:Obj)(kvs:List (Key×V)):It:=
 ⟨λi H=>H d=some (.frz o (.dK kvs))/\i < kvs.length,λi H v H'=>H'=H/\∃kv,kvs[i]? = some kv/\v=kV kv.1,λi H=>H d=some (.frz o (.dK kvs))/\kvs.length<=i⟩
theorem iL{P:KC}{w:LL}{K:JC}{tg:Expr}{es:Array RO}{ep:Nat}(d it:JK)(o:Obj)(kvs:List (Key×V))(hd:o.data=.dict es ep):
 Turn P w K tg (BL d o kvs) [it] it (λi h=>h.IsKeyIter it d i kvs.length ep) where
 mem:=by simp
 obj:=λi h st b hb=>by
  have e:b=it:=by simpa using hb
  subst e
  obtain⟨o,e,c,d⟩:=st
  exact⟨o,e,λv z=>by rw[d] at z;cases z⟩
 keep:=λi h h' st k=>by
  obtain⟨o,e,c⟩:=st
  exact⟨o,k it (by simp) o e,c⟩
 item:=by
  intro X hP hw hK hc i pins s σ H E I hf st hg
  subst hP hw hK
  obtain⟨f0,f1,f2,f3,f4,f5⟩:=hf it (by simp)
  obtain⟨e,hlt⟩:=hg
  obtain⟨_,vs,r,dd⟩:=I.dictAt e hd
  have hl:kvs.length=vs.length:=NK r
  have hk:kvs[i]? = some kvs[i]:=JG hlt
  obtain⟨⟨k,x⟩,hx,e1,_⟩:=Fh r hk
  have e1':kvs[i].1=k:=e1
  have st':s.heap.IsKeyIter it d i vs.length ep:=by rw[<- hl];exact st
  refine wpAny_pyNext_dict_item st' dd hx λkey h' hkey st2 sb=>?_
  have I1:Inv X pins σ H { s with heap:=h' }:=I.turned (t':=s.toks) (λb o hb e=>(sb.2 b hb).trans e) f0 f1 f3 f4 f5
  obtain⟨oi,ei,ci,di⟩:=id st2
  exact⟨_,rfl,Sx (s:={ s with heap:=h' }) ei ci di (by decide) ⟨kV k,H,I1,xX hkey,⟨rfl,_,hk,by rw[e1']⟩,(by rw[hl];exact st2),λb hb=>(hf b hb).1⟩⟩
 done:=by
  intro X hP hw hK hc i pins s σ H E I hf st hg
  subst hP hw hK
  obtain⟨f0,f1,f2,f3,f4,f5⟩:=hf it (by simp)
  obtain⟨e,hle⟩:=hg
  obtain⟨_,vs,r,dd⟩:=I.dictAt e hd
  have hl:kvs.length=vs.length:=NK r
  have st':s.heap.IsKeyIter it d i vs.length ep:=by rw[<- hl];exact st
  exact vC (I.calmS hc) st' dd (List.getElem?_eq_none_iff.mpr (by omega)) λh' eb=>⟨rfl,I.turned (t':=s.toks) (λb o hb e=>eb b o hb e) f0 f1 f3 f4 f5⟩
 self:=λ_ _ _ _ _ st h=>wpAny_pyIter_keyiter st h
def EL(H₀:Hp)(td:TE):TI:=λσ H R=>td σ H λx H1=>∃d kvs,x=.ref d/\H1 d=some (.dK kvs)/\∀o,fZ H₀ d->R (BL d o kvs) (upd H1 d (.frz o (.dK kvs)))
theorem tQ{X:Cx}{tg l:Expr}{td:TE}(hl:PE X l td):PI X tg l (EL X.H₀ td):=by
 intro pins s σ H R I h
 refine Bu (hl pins s σ H _ I h) λv s1 ⟨x,H1,I1,r1,q1⟩=>?_
 obtain⟨d,kvs,e,hd,q⟩:=q1
 subst e
 cases r1
 obtain⟨nf,o,g,⟨es,ep,dt⟩,I2⟩:=I1.freeze hd
 obtain⟨lo,vs,r,dd⟩:=I2.dictAt Aa dt
 refine wpAny_pyIter_dict lo dd ?_
 have hl:kvs.length=vs.length:=NK r
 refine⟨s1.heap.objs.size,[s1.heap.objs.size],_,_,_,rfl,I2.kept (t':=s1.toks) λb o e=>JE _ e,iL d _ o kvs dt,⟨_,JZ _ rfl,rfl,by rw[hl]<;>rfl⟩,λb hb=>?_,q o nf⟩
 have e:b=s1.heap.objs.size:=by simpa using hb
 subst e
 exact I2.fpOk (JI _) (I2.hok.fresh (JI _))
theorem lZ{d:JK}{o:Obj}{kvs:List (Key×V)}{g:TG}{tb:TS}{D:Ends}{σ:St}{H:Hp}(Pv:Nat->St->Hp->Prop)(h0:Pv 0 σ H)(hl:∀i σ H,i<=kvs.length->Pv i σ H->H d=some (.frz o (.dK kvs)))(hs:∀i kv σ H,kvs[i]? = some kv->Pv i σ H->g (kV kv.1) σ H λσ2 H2=>tb { D with nx:=Pv (i+1),ct:=Pv (i+1),bk:=D.nx } σ2 H2)(hd:∀σ H,Pv kvs.length σ H->D.nx σ H):
 ∃W:Nat->Nat->St->Hp->Prop,(∃m,W 0 m σ H)/\∀i m σ H,W i m σ H ->
  ((BL d o kvs).stop i H/\D.nx σ H)∨((BL d o kvs).go i H/\∃N:St->Hp->Prop,(∀σ' H',N σ' H'->∃m',m' < m/\W (i+1) m' σ' H')/\∀y H',(BL d o kvs).yld i H y H'->g y σ H' λσ2 H2=>tb { D with nx:=N,ct:=N,bk:=D.nx } σ2 H2):=by
 refine⟨λi m σ H=>m=kvs.length-i/\i<=kvs.length/\Pv i σ H,⟨kvs.length,by simp,LG _,h0⟩,?_⟩
 rintro i m σ H ⟨rfl,hi,p⟩
 have q:=hl i σ H hi p
 by_cases hlt:i < kvs.length
 ·refine .inr ⟨⟨q,hlt⟩,Pv (i+1),λσ' H' p'=>⟨kvs.length-(i+1),by omega,rfl,hlt,p'⟩,λy H' z=>?_⟩
  obtain⟨rfl,kv,hc,rfl⟩:=z
  exact hs i kv σ _ hc p
 ·have e:i=kvs.length:=by omega
  subst e
  exact .inl ⟨⟨q,JI _⟩,hd σ H p⟩
theorem Ta{P:KC}{w:LL}:∀ {kvs:List (Key×V)} {vs:List (Key×JD)} {us:List JD},KV kvs vs->us.length=vs.length->(∀(j:Nat)(v:JD),us[j]? = some v->∃k x,vs[j]? = some (k,x)/\(Bo P w).is k v=true)->Bb (kvs.map λkv=>kV kv.1) us
 | _,_,[],.nil,_,_=>.nil
 | _,_,_::_,.nil,e,_=>nomatch e
 | _,_,[],.cons _ _,e,_=>nomatch e
 | (a,_)::kvs,(b,_)::vs,u::us,.cons r t,e,h=>by
  refine .cons ?_ (Ta t (by simpa using e) λj v q=>h (j+1) v (by simpa using q))
  obtain⟨k,x,q,hk⟩:=h 0 u rfl
  have q':(b,_)=(k,x):=KW q
  have e1:a=b:=r.1
  have e2:b=k:=congrArg Prod.fst q'
  show RelV (kV a) u
  rw[e1,e2]
  exact xX hk
theorem Qm{X:Cx}(hc:X.sx=true):Fj X (.type "list") (λxs H Q=>∃d kvs,xs=[.ref d]/\Rd H d (.dK kvs)/\∀l,H l=none->Q (.ref l) (upd H l (.lst (kvs.map λkv=>kV kv.1)))):=by
 intro pins s σ H xs us Q I r h
 obtain⟨d,kvs,rfl,hq,q⟩:=h
 obtain⟨u,rfl,rx⟩:=vals1 r
 cases rx
 obtain⟨hz,lo,vs,rel,dd⟩:=Nc I.hok hq
 obtain⟨ep,hat⟩:=dd.dictAt
 have hl:kvs.length=vs.length:=NK rel
 refine PySem.W.kdl_call (PySem.W.kdl_dict (knd:=Bo X.prog X.w) (kvs:=vs) (ep:=ep) lo) (I.ok.st hc) hat (by rw[<- hl];exact hz) λh' tk acc' c' kp e it=>?_
 have hv:Bb (kvs.map λkv=>kV kv.1) acc'.toList:=Ta (P:=X.prog) (w:=X.w) rel (by rw[RG];exact it.1) λj v z=>it.2 j v (by rw[<- SO];exact z)
 refine⟨.ref s.heap.objs.size,_,I.laid (t':=tk) kp (JI _) (show Cg X.prog X.w _ h' _ (.lst (kvs.map λkv=>kV kv.1)) from ⟨by rw[JF];exact hz,acc'.toList,c',hv,by rw[Array.toArray_toList];exact e⟩),rfl,q _ (I.hok.fresh (JI _))⟩
theorem PE.imp{X:Cx}{e:Expr}{t t':TE}(h:PE X e t)(i:∀σ H Q,t' σ H Q->t σ H Q):PE X e t':=λpins s σ H Q I hw=>h pins s σ H Q I (i σ H Q hw)
theorem Gh{X:Cx}{tail body:List OQ}{G:TS->Prop}(Pr:TS->Prop)(h:∃tt,Hy X tail tt/\Pr tt)(k:∀tt,Hy X tail tt->Pr tt->∃t,Hy X body t/\G t):∃t,Hy X body t/\G t:=let ⟨tt,a,b⟩:=h;k tt a b
def fBody:OQ->List OQ
 | .For _ _ b _ _=>b
 | _=>[]
structure Nr(K:JC)(x qual:Str)(st:OQ)(f:JK)(fd:LB)(T:JK):Prop where
 ex:∃(oc:JD)(od:Option JK)(kV doc pm:JD)(an:Option JK)(cdv ct:JD)(osl:Array (Option JD)),
  fd=PY x qual (Dw st) (Bg st) (Ad st) (.ref T) kV doc pm an cdv ct/\K.lookup f=some ⟨oc,od,.func fd,osl⟩/\PySem.W.codeIn K cdv qual=true
 kp:JR K (.ref f)=true
section
variable {P:KC} {w:LL} {K:JC} {mg:Str->Option JD} {base:MQ}
theorem Nr.ok{x qual:Str}{st:OQ}{f T:JK}{fd:LB}{N ps:List Str}{k:Nat}{sp:Sp}(F:Nr K x qual st f fd T)(S:An N ps (Ad st))(len:∀vs H Q E,sp vs H Q E->vs.length=ps.length)(hbody:∀(cdv:JD)(A:LI)(outer:List Env)(s:JH)(H:Hp)(vs:List V)(Q:VK)(E:XK),Ck k (A.deeper (envOfC qual (Ad st) s.heap.objs.size f cdv))->sp vs H Q E ->
  ∃t,Hy (Ex Bi P w K mg base N qual (Ad st) f cdv A outer s H E).nox (Bg st) t/\t { nx:=λ_ H'=>Q .non H',rt:=Q } (start N vs) H):Al P w K mg base Bi (k+1) f fd ps sp:=by
 obtain⟨oc,od,kV,doc,pm,an,cdv,ct,osl,rfl,lk,hcd⟩:=F.ex
 refine Xg lk hcd S len λA outer s H vs Q E hr hsp=>?_
 obtain⟨t,h,q⟩:=hbody cdv A outer s H vs Q E hr hsp
 exact⟨t,h.nox,q⟩
theorem Nr.binds{x qual:Str}{st:OQ}{f T:JK}{fd:LB}{ps:List Str}{ds:List JD}{o:Obj}{items:Array JD}{n:Nat}(F:Nr K x qual st f fd T)(ho:K.lookup T=some o)(hs:o.data=.seq items n)(m:Nat)(hm:m+ds.length=ps.length)(h:∀(kV doc pm:JD)(an:Option JK)(cdv ct:JD)(us:List JD),us.length=m->∃k:Option (Array JD)->Sem (List (Str×JD)),bindArgs (PY x qual (Dw st) (Bg st) (Ad st) (.ref T) kV doc pm an cdv ct) ⟨us,[]⟩=(seqItems? (.ref T) >>= k)/\k (some items)=pure (ps.zip (us++ds))):Binds K fd ps ds:=by
 obtain⟨oc,od,kV,doc,pm,an,cdv,ct,osl,rfl,lk,hcd⟩:=F.ex
 intro s us KX hl
 obtain⟨k,h1,h2⟩:=h kV doc pm an cdv ct us (by rw[JJ] at hl;omega)
 exact PySem.W.binds_K KX rfl ho hs h1 h2
theorem hJ{x qual:Str}{st:OQ}{f T:JK}{oc:JD}{od an:Option JK}{osl:Array (Option JD)}{kV doc pm cdv ct:JD}(l:K.lookup f=some ⟨oc,od,.func (PY x qual (Dw st) (Bg st) (Ad st) (.ref T) kV doc pm an cdv ct),osl⟩)(c:PySem.W.codeIn K cdv qual=true)(k:JR K (.ref f)=true):Nr K x qual st f (PY x qual (Dw st) (Bg st) (Ad st) (.ref T) kV doc pm an cdv ct) T:=⟨⟨oc,od,kV,doc,pm,an,cdv,ct,osl,rfl,l,c⟩,k⟩
end
def uK(lo:Int)(n:Nat):It:=⟨λi _=>i < n,λi H x H'=>H'=H/\x=.int (lo-i),λi _=>n<=i⟩
theorem iR{P:KC}{w:LL}{K:JC}{tg:Expr}(it:JK)(lo:Int)(n:Nat):Turn P w K tg (uK lo n) [it] it (λi h=>IsRangeIter h it (lo+(i:Nat) * (-1)) ((n:Int)-(i:Nat)) (-1)) where
 mem:=by simp
 obj:=λi h st b hb=>by
  have e:b=it:=by simpa using hb
  subst e
  exact⟨_,st,λv z=>by
   have z':Data.fields _=Data.cell v:=z
   cases z'⟩
 keep:=λi h h' st k=>k it (by simp) _ st
 item:=by
  intro X hP hw hK hc i pins s σ H E I hf st hg
  subst hP hw hK
  obtain⟨f0,f1,f2,f3,f4,f5⟩:=hf it (by simp)
  have W0:True:=trivial
  refine Yr i s _ _ hg st λv h' tk hv st' kk=>?_
  obtain⟨t,rfl⟩:=hv
  have I1:Inv X pins σ H { s with heap:=h',toks:=tk }:=I.turned (λb o hb e=>kk b o (by simpa using hb) e) f0 f1 f3 f4 f5
  refine⟨_,rfl,Sx (s:={ s with heap:=h',toks:=tk }) (n := "range_iterator") st' rfl rfl (by decide) ⟨.int (lo-i),H,I1,⟨t,?_⟩,⟨rfl,rfl⟩,st',λb hb=>(hf b hb).1⟩⟩
  rw[show lo+(i:Int) * (-1)=lo-(i:Int) by omega]
 done:=by
  intro X hP hw hK hc i pins s σ H E I hf st hg
  subst hP hw hK
  obtain⟨f0,f1,f2,f3,f4,f5⟩:=hf it (by simp)
  exact Xx (I.calmS hc) st (by have:n<=i:=hg;omega) λh' eb=>⟨rfl,I.turned (t':=s.toks) (λb o hb e=>eb b o hb e) f0 f1 f3 f4 f5⟩
 self:=λ_ _ _ _ _ st h=>wpAny_pyIter_rangeiter st h
theorem iX(lo hi:Int):SN lo hi (-1)=(((lo-hi).toNat:Nat):Int):=by
 unfold SN
 rw[if_neg (by decide)]
 split<;>simp<;>omega
theorem qJ{a b:Int}(ha : -(2 ^ 62)<=a)(ha':a < 2 ^ 62)(hb : -(2 ^ 62)<=b)(hb':b < 2 ^ 62):Builtin.Range.small a b (-1)=true:=PySem.W.small_down ha ha' hb hb'
section
variable {X:Cx} {tg:Expr}
theorem vD{pins:List (JK×Obj)}{σ:St}{H:Hp}{s:JH}{R:It->Hp->Prop}{E:JD->JH->Prop}{lo hi:Int}{t u v:Tok}{tk:Nat}(I:Inv X pins σ H s)(h1 : -(2 ^ 62)<=lo)(h2:lo < 2 ^ 62)(h3 : -(2 ^ 62)<=hi)(h4:hi < 2 ^ 62)(q:R (uK lo (lo-hi).toNat) H):KR (KU X.prog X.w) X.A (pyIter (.ref s.heap.objs.size)) (HQ X pins σ tg R) E { s with heap:=s.heap.push { cls:=.type "range", data:=.fields #[.int lo t,.int hi u,.int (-1) v] },toks:=tk }:=by
 refine wpAny_pyIter_range (IsRange.new ..) (qJ h1 h2 h3 h4) ?_
 have I1:Inv X pins σ H { s with heap:=s.heap.push { cls:=.type "range", data:=.fields #[.int lo t,.int hi u,.int (-1) v] },toks:=tk }:=I.kept λb o e=>JE _ e
 refine⟨(s.heap.push { cls:=.type "range", data:=.fields #[.int lo t,.int hi u,.int (-1) v] }).objs.size,[(s.heap.push { cls:=.type "range", data:=.fields #[.int lo t,.int hi u,.int (-1) v] }).objs.size],_,_,H,rfl,
  I1.kept (t':=tk) λb o e=>JE _ e,iR _ lo (lo-hi).toNat,?_,λb hb=>?_,q⟩
 ·have e1:lo+((0:Nat):Int) * (-1)=lo:=by simp
  have e2:(((lo-hi).toNat:Nat):Int)-((0:Nat):Int)=SN lo hi (-1):=by rw[iX];simp
  show IsRangeIter _ _ (lo+((0:Nat):Int) * (-1)) ((((lo-hi).toNat:Nat):Int)-((0:Nat):Int)) (-1)
  rw[e1,e2]
  exact JZ _ rfl
 ·have e:b=(s.heap.push { cls:=.type "range", data:=.fields #[.int lo t,.int hi u,.int (-1) v] }).objs.size:=by simpa using hb
  subst e
  exact I1.fpOk (JI _) (I1.hok.fresh (JI _))
def EH(ta:TA):TI:=λσ H R=>ta σ H λvs H1=>∃i j:Int,vs=[.int i,.int j,.int (-1)]/\(-(2 ^ 29)<=i/\i < 2 ^ 29 /\ -(2 ^ 29)<=j/\j < 2 ^ 29)/\R (uK i (i-j).toNat) H1
theorem vW{a b c:Expr}{ta:TA}{p pos:Pos}(hg:Gl X "range")(hm:X.mg "range" = none)(ha:PA X [a,b,c] ta)(hs:KQ [a,b,c] X.env=[(false,OX a X.env),(false,OX b X.env),(false,OX c X.env)]:=by rfl)(hs2:KQ [b,c] X.env=[(false,OX b X.env),(false,OX c X.env)]:=by rfl):
 PI X tg (.Call (.Name "range" p) [a,b,c] [] pos) (EH ta):=by
 intro pins s σ H R I h
 refine Call_ (Ia I hg hm boot_range (ND (Bu (ha pos pins s σ H _ I h) λus s1 ⟨vs,H1,I1,r1,q1⟩=>?_) (by rw[hs,hs2]) (by rw[hs2];rfl)))
 obtain⟨i,j,e,⟨q1,q2,q3,q4⟩,q⟩:=q1
 subst e
 cases r1 with
 | cons r rr=>
  cases rr with
  | cons r' rr=>
   cases rr with
   | cons r'' rr=>
    cases rr
    obtain⟨t,rfl⟩:=r
    obtain⟨t',rfl⟩:=r'
    obtain⟨t'',rfl⟩:=r''
    exact call_range_3 (by decide) (vD I1 (by omega) (by omega) (by omega) (by omega) q) (Or.inl (PyProof.noPylong_small (by decide)))
end
def cD(P:KC)(w:LL)(K:JC)(a:JK)(kvs:List (Key×V)):Prop:=
 ∃(o:Obj)(es:Array RO)(ep:Nat)(vs:List (Key×JD)),K.lookup a=some o/\o.ExactDict/\o.data=.dict es ep/\KeysOf (Bo P w) es/\Pairs (Bo P w) es.toList vs/\(vs.map (·.1)).Nodup/\KV kvs vs/\(a == OE)=false
theorem cD.at_{X:Cx}{pins:List (JK×Obj)}{σ:St}{H:Hp}{s:JH}{a:JK}{kvs:List (Key×V)}(I:Inv X pins σ H s)(d:cD X.prog X.w X.K a kvs):(a == OE)=false/\∃vs,KV kvs vs/\s.heap.DictOf (Bo X.prog X.w) a vs:=by
 obtain⟨o,es,ep,vs,lk,x,da,hk,hp,hn,kv,sm⟩:=d
 exact⟨sm,vs,kv,o,es,ep,I.kIn _ _ lk,x,da,hk,hp,hn⟩
def CD(P:KC)(w:LL)(K:JC)(td ty:TE):TE:=λσ H Q=>td σ H λx H1=>∃a kvs,x=.ref a/\cD P w K a kvs/\ty σ H1 λy H2=>∃k,y=kV k/\Q ((valV kvs k).getD .non) H2
theorem wD{X:Cx}{o e:Expr}{apos cpos:Pos}{td ty:TE}(ho:PE X o td)(he:PE X e ty)(m:M1 X o "get" apos e cpos):PE X (.Call (.Attribute o "get" apos) [e] [] cpos) (CD X.prog X.w X.K td ty):=by
 intro pins s σ H Q I h
 refine wpAny_Call_method m.base m.few m.line RJ QO PySem.F.type_dict_get (Bu (ho pins s σ H _ I h) λu s1 ⟨x,H1,I1,rx,a,kvs,ex,d,q1⟩=>?_)
 subst ex
 obtain rfl:u=JV a:=rx
 obtain⟨sm,vs,kv,dd⟩:=cD.at_ I1 d
 refine⟨dd.typeIs,λb q=>?_,?_⟩
 ·cases q
  obtain⟨ob,_,_,h1,h2,_⟩:=dd
  exact⟨ob,h1,h2.2.1⟩
 rw[m.trees]
 refine PN rfl (Calls.evalArgs_plain (QS (Bu (he pins s1 σ H1 _ I1 q1) λiv s2 ⟨y,H2,I2,ry,k,ey,q2⟩=>Calls.spliced_nil ?_)))
 subst ey
 obtain⟨sm,vs,kv,dd⟩:=cD.at_ I2 d
 refine call_meetsIn QO dd.typeIs PySem.F.entry_dict_get (PySem.F.args_dict_get_2 _ _) (meets_dict_get (Bo X.prog X.w) a (Lj ry) sm) ⟨_,dd.mapOf,?_⟩
 exact⟨_,H2,I2.tok _,(kv.val k).getD (d:=.non) (d':=.none) rfl,q2⟩
section
variable {prog:KC} {w:LL} {A:LI} {E:JD->JH->Prop} {s:JH}
theorem Yy{it t:JK}{i:Nat}{its:Array JD}{x:JD}{Q:JD->JH->Prop}(hi:s.heap.IsTupleIter it t i)(ht:s.heap.IsTuple t its)(hx:its[i]? = some x)(q:∀h',h'.IsTupleIter it t (i+1)->Heap.SameBut it s.heap h'->Q x { s with heap:=h' }):KR (KU prog w) A (LW (.ref it)) Q E s:=by
 obtain⟨o,e1,e2,e3⟩:=id hi
 obtain⟨u,g1,_,k,g2⟩:=ht
 unfold LW
 refine JA (LK (name:=NH "__next__") hi.typeIs RI (MC RI hi.typeIs F.entry_tuple_iterator_next ?_ (F.args_tuple_iterator_next_1 _)))
 change KR (KU prog w) _ (field (JV it) 0 >>= _) _ _ _
 refine JA (KY e1 e3 (x:=JV t) rfl ?_)
 change KR (KU prog w) _ (if (JV t == MU)=true then _ else _) _ _ _
 have nt:¬ ((JV t == MU)=true):=JN
 rw[if_neg nt]
 change KR (KU prog w) _ (field (JV it) 1 >>= _) _ _ _
 refine JA (KY e1 e3 (x:=Value.int i 0) rfl ?_)
 change KR (KU prog w) _ (seqItems? (JV t) >>= _) _ _ _
 refine JA (MX g1 g2 ?_)
 simp only[hx,LR]
 refine JA (MM e1 e3 (by simp) (JO ⟨x,rfl,JO (q _ ⟨_,MS _ e1 (QX (QR e3 _)),(Obj.cls_mapFields ..).trans e2,?_⟩ (QN ..))⟩))
 rw[QR e3]
 simp[QJ]
theorem iA{it t:JK}{i:Nat}{its:Array JD}{Q:JD->JH->Prop}(hh:Bp A s.heap)(hi:s.heap.IsTupleIter it t i)(ht:s.heap.IsTuple t its)(hx:its[i]? = none)(q:∀h' e,OF it s.heap h'->(∃o,h'.get? e=some o/\o.cls=.type "StopIteration")->E (.ref e) { s with heap:=h' }):KR (KU prog w) A (LW (.ref it)) Q E s:=by
 obtain⟨o,e1,e2,e3⟩:=id hi
 obtain⟨u,g1,_,k,g2⟩:=ht
 unfold LW
 refine JA (LK (name:=NH "__next__") hi.typeIs RI (MC RI hi.typeIs F.entry_tuple_iterator_next ?_ (F.args_tuple_iterator_next_1 _)))
 change KR (KU prog w) _ (field (JV it) 0 >>= _) _ _ _
 refine JA (KY e1 e3 (x:=JV t) rfl ?_)
 change KR (KU prog w) _ (if (JV t == MU)=true then _ else _) _ _ _
 have nt:¬ ((JV t == MU)=true):=JN
 rw[if_neg nt]
 change KR (KU prog w) _ (field (JV it) 1 >>= _) _ _ _
 refine JA (KY e1 e3 (x:=Value.int i 0) rfl ?_)
 change KR (KU prog w) _ (seqItems? (JV t) >>= _) _ _ _
 refine JA (MX g1 g2 ?_)
 simp only[hx,LR]
 refine JA (OY (JA (MM e1 e3 (by simp) ?_)))
 exact Dr (hh.in1.upd (Jl e1 e3)) λh' e kp ty=>q h' e (λb o hb g=>kp _ _ ((LP _ _ (LH hb)).trans g)) ty
end
theorem Ra{h:MQ}{it t:JK}{i:Nat}(hit:h.IsTupleIter it t i):∀o vs,h.get? it=some o->o.data=.fields vs->¬ vs[2]? = some .none:=
 let ⟨_,g,_,d⟩:=id hit
 Jl g d
theorem gI{prog:KC}{w:LL}{A:LI}(it t:JK)(ne:t≠it)(its:Array JD):Draws prog w A it (it::t::Ms A) its.size (λi v=>its[i]? = some v) (λi h=>h.IsTupleIter it t i/\h.IsTuple t its/\Bp A h) where
 live:=λ_ _ ⟨⟨o,e,_⟩,_⟩=>⟨o,e⟩
 frame:=λ_ _ _ ⟨h1,⟨o,e,r⟩,hh⟩ k=>⟨h1.at λo e=>k it (by simp) o e,⟨o,k t (by simp) o e,r⟩,hh.keep λb hb o e=>k b (JQ _ (JQ _ hb)) o e⟩
 item:=λi s Q E hi ⟨h1,h2,hh⟩ q=>Yy h1 h2 (x:=its[i]) (by simp[hi]) λh' a b=>q _ h' s.toks (by simp[hi]) ⟨a,(let ⟨o,e,r⟩:=h2;⟨o,b.extBut _ _ ne e,r⟩),hh.but (Ra h1) b.extBut⟩ b
 done:=λs Q E ⟨h1,h2,hh⟩ q=>iA hh h1 h2 (by simp) q
structure Hj(n:JK)(fp1 fp2:List JK):Prop where
 m1:∀c∈fp1,c=n∨(c≠n+1/\c≠n+3/\c≠n+4)
 m2:∀c∈fp2,c=n+1∨(c≠n/\c≠n+3/\c≠n+4)
section
variable {prog:KC} {w:LL} {A:LI} {E:JD->JH->Prop} {s:JH} {n:JK} {fp1 fp2:List JK} {n1 n2:Nat} {P1 P2:Nat->JD->Prop} {S1 S2:Nat->MQ->Prop}
theorem Sn(Z:Hj n fp1 fp2){c:JK}(h:c∈fp1):c≠n+1/\c≠n+3/\c≠n+4:=by
 rcases Z.m1 c h with rfl | r
 ·exact⟨ap c 0 1 (by decide),ap c 0 3 (by decide),ap c 0 4 (by decide)⟩
 ·exact r
theorem Nb(Z:Hj n fp1 fp2){c:JK}(h:c∈fp2):c≠n/\c≠n+3/\c≠n+4:=by
 rcases Z.m2 c h with rfl | r
 ·exact⟨ap n 1 0 (by decide),ap n 1 3 (by decide),ap n 1 4 (by decide)⟩
 ·exact r
theorem kH(Z:Hj n fp1 fp2)(D1:Draws prog w A n fp1 n1 P1 S1)(D2:Draws prog w A (n+1) fp2 n2 P2 S2){a b:JD}{i:Nat}{Q:JD->JH->Prop}(hz:IsZip s.heap (n+4) (n+2) (n+3) .none)(hI:QF s.heap (n+2) (.ref n) (.ref (n+1)))(hO:QF s.heap (n+3) a b)(h1:S1 i s.heap)(h2:S2 i s.heap)(l1:i < n1)(l2:i < n2)(q:∀x y h' tk,P1 i x->P2 i y->IsZip h' (n+4) (n+2) (n+3) (QJ s.heap.objs.size)->QF h' (n+3) x y->S1 (i+1) h'->S2 (i+1) h'->QF h' s.heap.objs.size x y->h'.objs.size=s.heap.objs.size+1 ->
  (∀c o,c≠n+4->c≠n+3->c≠n->c≠n+1->s.heap.get? c=some o->h'.get? c=some o)->Q (.ref s.heap.objs.size) { s with heap:=h',toks:=tk }):
 KR (KU prog w) A (Builtin.«zip.__next__» ⟨[.ref (n+4)],[]⟩) (λfin s'=>∃v,fin=.done (.ret v)/\Q v s') E s:=by
 have d34:n+3≠n+4:=ap n 3 4 (by decide)
 have d04:n≠n+4:=ap n 0 4 (by decide)
 have d14:n+1≠n+4:=ap n 1 4 (by decide)
 have d30:n+3≠n:=ap n 3 0 (by decide)
 have d31:n+3≠n+1:=ap n 3 1 (by decide)
 have d01:n≠n+1:=ap n 0 1 (by decide)
 change KR (KU prog w) _ (field (JV (n+4)) 2 >>= _) _ _ _
 refine JA (KY hz rfl (x:=Value.bool false) rfl ?_)
 change KR (KU prog w) _ (field (JV (n+4)) 3 >>= _) _ _ _
 refine JA (KY hz rfl (x:=JV (n+2)) rfl (JA (MX hI rfl ?_)))
 change KR (KU prog w) _ (MV (JV (n+4)) >>= _) _ _ _
 unfold MV
 refine JA (JA (KY hz rfl (x:=MU) rfl (JO ?_)))
 simp only[if_true]
 refine JA (OY (JA (KY hz rfl (x:=JV (n+3)) rfl (JA (NV hz (by simp) λg1 z1 t1=>?_)))))
 replace z1:IsZip g1 (n+4) (n+2) (n+3) .ellipsis:=z1
 refine JA ?_
 simp only[List.forIn_cons,List.forIn_nil,List.zipIdx_cons,List.zipIdx_nil]
 -- the first one
 refine JA (JA (wpAny_onRaise ?_))
 change KR (KU prog w) _ (LW (JV n) >>= _) _ _ _
 refine JA (D1.item i { s with heap:=g1 } _ _ l1 (D1.frame i _ _ h1 λc hc o e=>t1.extBut _ _ (Sn Z hc).2.2 e) λx g2 k2 px h1' t2=>JO ?_)
 have o2:QF g2 (n+3) a b:=t2.extBut _ _ d30 (t1.extBut _ _ d34 hO)
 refine JA (MX (s:={ s with heap:=g2,toks:=k2 }) o2 rfl (JA (wpAny_updateSeq_pair (s:={ s with heap:=g2,toks:=k2 }) o2 λg3 o3 t3=>?_)))
 replace o3:QF g3 (n+3) x b:=o3
 refine JA (RT (JO ?_))
 -- the second one
 refine JA (JA (wpAny_onRaise ?_))
 change KR (KU prog w) _ (LW (JV (n+1)) >>= _) _ _ _
 refine JA (D2.item i { s with heap:=g3,toks:=k2 } _ _ l2 (D2.frame i _ _ h2 λc hc o e=>t3.extBut _ _ (Nb Z hc).2.1 (t2.extBut _ _ (Nb Z hc).1 (t1.extBut _ _ (Nb Z hc).2.2 e))) λy g4 k4 py h2' t4=>JO ?_)
 have o4:QF g4 (n+3) x b:=t4.extBut _ _ d31 o3
 refine JA (MX (s:={ s with heap:=g4,toks:=k4 }) o4 rfl (JA (wpAny_updateSeq_pair (s:={ s with heap:=g4,toks:=k4 }) o4 λg5 o5 t5=>?_)))
 replace o5:QF g5 (n+3) x y:=o5
 refine JA (RT (JO (JO (JA (MX (s:={ s with heap:=g5,toks:=k4 }) o5 rfl (JA (wpAny_newTuple ?_)))))))
 have sz:g5.objs.size=s.heap.objs.size:=by rw[t5.1,t4.1,t3.1,t2.1,t1.1]
 have z5:IsZip g5 (n+4) (n+2) (n+3) .ellipsis:=t5.extBut _ _ d34.symm (t4.extBut _ _ d14.symm (t3.extBut _ _ d34.symm (t2.extBut _ _ d04.symm z1)))
 have kp:∀c o,c≠n+4->c≠n+3->c≠n->c≠n+1->s.heap.get? c=some o->g5.get? c=some o:=λc o c1 c2 c3 c4 e=>t5.extBut _ _ c2 (t4.extBut _ _ c4 (t3.extBut _ _ c2 (t2.extBut _ _ c3 (t1.extBut _ _ c1 e))))
 have f1:S1 (i+1) g5:=D1.frame _ _ _ h1' λc hc o e=>t5.extBut _ _ (Sn Z hc).2.1 (t4.extBut _ _ (Sn Z hc).1 (t3.extBut _ _ (Sn Z hc).2.1 e))
 have f2:S2 (i+1) g5:=D2.frame _ _ _ h2' λc hc o e=>t5.extBut _ _ (Nb Z hc).2.1 e
 have zl:n+4 < g5.objs.size:=JW z5
 change KR (KU prog w) _ (Builtin.SmallTypes.ownedTupleHandOut (JV (n+4)) (JV g5.objs.size) >>= _) _ _ _
 unfold Builtin.SmallTypes.ownedTupleHandOut
 have z6:IsZip (g5.push { cls:=.type "tuple", data:=.seq #[x,y] }) (n+4) (n+2) (n+3) .ellipsis:=JE _ z5
 refine JA (JA (NV (s:={ s with heap:=g5.push { cls:=.type "tuple", data:=.seq #[x,y] },toks:=k4 }) z6 (by simp) λg7 z7 t7=>?_))
 replace z7:IsZip g7 (n+4) (n+2) (n+3) (QJ g5.objs.size):=z7
 refine NV (s:={ s with heap:=g7,toks:=k4 }) z7 (by simp) λg8 z8 t8=>?_
 replace z8:IsZip g8 (n+4) (n+2) (n+3) (QJ g5.objs.size):=z8
 have up:∀c o,c≠n+4->g5.get? c=some o->g8.get? c=some o:=λc o c1 e=>t8.extBut _ _ c1 (t7.extBut _ _ c1 (JE _ e))
 have tp:QF g8 g5.objs.size x y:=t8.extBut _ _ (OC zl) (t7.extBut _ _ (OC zl) (JZ _ rfl))
 have sz8:g8.objs.size=g5.objs.size+1:=by rw[t8.1,t7.1,OL]
 rw[sz] at z8 tp sz8
 refine JO ⟨_,rfl,?_⟩
 change Q (JV g5.objs.size) _
 rw[sz]
 exact q x y g8 k4 px py z8 (up _ _ d34 o5) (D1.frame _ _ _ f1 λc hc o e=>up c o (Sn Z hc).2.2 e) (D2.frame _ _ _ f2 λc hc o e=>up c o (Nb Z hc).2.2 e) tp sz8 λc o c1 c2 c3 c4 e=>up c o c1 (kp c o c1 c2 c3 c4 e)
theorem pN(Z:Hj n fp1 fp2)(D1:Draws prog w A n fp1 n1 P1 S1)(D2:Draws prog w A (n+1) fp2 n2 P2 S2){a b:JD}{i:Nat}{Q:PySem.Fin->JH->Prop}(hz:IsZip s.heap (n+4) (n+2) (n+3) .none)(hI:QF s.heap (n+2) (.ref n) (.ref (n+1)))(hO:QF s.heap (n+3) a b)(h1:S1 i s.heap)(h2:S2 i s.heap)(l:i=n1∨(i < n1/\i=n2))(q:∀h' e tk,(∀c o,c≠n+4->c≠n+3->c≠n->c≠n+1->s.heap.get? c=some o->h'.get? c=some o)->(∃o,h'.get? e=some o/\o.cls=.type "StopIteration")->E (.ref e) { s with heap:=h',toks:=tk }):
 KR (KU prog w) A (Builtin.«zip.__next__» ⟨[.ref (n+4)],[]⟩) Q E s:=by
 have d34:n+3≠n+4:=ap n 3 4 (by decide)
 have d04:n≠n+4:=ap n 0 4 (by decide)
 have d14:n+1≠n+4:=ap n 1 4 (by decide)
 have d30:n+3≠n:=ap n 3 0 (by decide)
 change KR (KU prog w) _ (field (JV (n+4)) 2 >>= _) _ _ _
 refine JA (KY hz rfl (x:=Value.bool false) rfl ?_)
 change KR (KU prog w) _ (field (JV (n+4)) 3 >>= _) _ _ _
 refine JA (KY hz rfl (x:=JV (n+2)) rfl (JA (MX hI rfl ?_)))
 change KR (KU prog w) _ (MV (JV (n+4)) >>= _) _ _ _
 unfold MV
 refine JA (JA (KY hz rfl (x:=MU) rfl (JO ?_)))
 simp only[if_true]
 refine JA (OY (JA (KY hz rfl (x:=JV (n+3)) rfl (JA (NV hz (by simp) λg1 z1 t1=>?_)))))
 replace z1:IsZip g1 (n+4) (n+2) (n+3) .ellipsis:=z1
 refine JA ?_
 simp only[List.forIn_cons,List.forIn_nil,List.zipIdx_cons,List.zipIdx_nil]
 refine JA (JA (wpAny_onRaise ?_))
 change KR (KU prog w) _ (LW (JV n) >>= _) _ _ _
 have f1:S1 i g1:=D1.frame i _ _ h1 λc hc o e=>t1.extBut _ _ (Sn Z hc).2.2 e
 rcases l with rfl | ⟨l1,rfl⟩
 ·refine JA (D1.done { s with heap:=g1 } _ _ f1 λg2 e t2 he=>?_)
  obtain⟨oe,e1,e2⟩:=he
  have z2:IsZip g2 (n+4) (n+2) (n+3) .ellipsis:=t2 _ _ d04.symm z1
  have ez:e≠n+4:=λz=>by rw[z,z2] at e1;cases e1;simp at e2
  exact NV (s:={ s with heap:=g2 }) z2 (by simp) λg3 _ t3=>q g3 e s.toks (λc o c1 _ c3 _ e'=>t3.extBut _ _ c1 (t2 _ _ c3 (t1.extBut _ _ c1 e'))) ⟨oe,t3.extBut _ _ ez e1,e2⟩
 ·refine JA (D1.item i { s with heap:=g1 } _ _ l1 f1 λx g2 k2 px h1' t2=>JO ?_)
  have o2:QF g2 (n+3) a b:=t2.extBut _ _ d30 (t1.extBut _ _ d34 hO)
  refine JA (MX (s:={ s with heap:=g2,toks:=k2 }) o2 rfl (JA (wpAny_updateSeq_pair (s:={ s with heap:=g2,toks:=k2 }) o2 λg3 o3 t3=>?_)))
  refine JA (RT (JO (JA (JA (wpAny_onRaise ?_)))))
  change KR (KU prog w) _ (LW (JV (n+1)) >>= _) _ _ _
  refine JA (D2.done { s with heap:=g3,toks:=k2 } _ _ (D2.frame i _ _ h2 λc hc o e=>t3.extBut _ _ (Nb Z hc).2.1 (t2.extBut _ _ (Nb Z hc).1 (t1.extBut _ _ (Nb Z hc).2.2 e))) λg4 e t4 he=>?_)
  obtain⟨oe,e1,e2⟩:=he
  have z4:IsZip g4 (n+4) (n+2) (n+3) .ellipsis:=t4 _ _ d14.symm (t3.extBut _ _ d34.symm (t2.extBut _ _ d04.symm z1))
  have ez:e≠n+4:=λz=>by rw[z,z4] at e1;cases e1;simp at e2
  exact NV (s:={ s with heap:=g4,toks:=k2 }) z4 (by simp) λg5 _ t5=>q g5 e k2 (λc o c1 c2 c3 c4 e'=>t5.extBut _ _ c1 (t4 _ _ c4 (t3.extBut _ _ c2 (t2.extBut _ _ c3 (t1.extBut _ _ c1 e'))))) ⟨oe,t5.extBut _ _ ez e1,e2⟩
end
def BD(h:MQ)(a:JK):MQ:=h.push { cls:=.type "tuple_iterator", data:=.fields #[.ref a,.int 0 0] }
def BF(h:MQ)(a b:JK):MQ:=(BD h a).push { cls:=.type "tuple_iterator", data:=.fields #[.ref b,.int 0 0] }
def BB(h:MQ)(a b:JK):MQ:=(BF h a b).push { cls:=.type "tuple", data:=.seq #[.ref h.objs.size,.ref (BD h a).objs.size] }
def DU(h:MQ)(a b:JK):MQ:=(BB h a b).push { cls:=.type "tuple", data:=.seq #[.none,.none] }
def qA(h:MQ)(a b:JK):MQ:=(DU h a b).push { cls:=.type "zip", data:=.fields #[.none,.bool false,.bool false,.ref (BF h a b).objs.size,.ref (BB h a b).objs.size] }
theorem lQ{h:MQ}{t:JK}{its:Array JD}(x:h.IsTuple t its)(o:Obj):(h.push o).IsTuple t its:=let ⟨u,e,r⟩:=x;⟨u,JE o e,r⟩
theorem rA(a b:JK)(xs ys:Array JD):Meets (Builtin.«zip.__new__» ⟨[.type "zip", .ref a,.ref b],[]⟩) (λ_ R s=>s.heap.IsTuple a xs/\s.heap.IsTuple b ys/\R (.ok (.ret (.ref (DU s.heap a b).objs.size))) { s with heap:=qA s.heap a b }):=
 .of_wp λprog w A R s h=>by
  obtain⟨hp,g,d,tk,os⟩:=s
  obtain⟨q1,q2,q⟩:=h
  have hsub:=sub_zip
  have u1:Heap.IsTuple (Shared.heap ⟨hp,g,d,tk,os⟩) a xs:=q1
  have u2:Heap.IsTuple (Shared.heap ⟨hp.push { cls:=.type "tuple_iterator", data:=.fields #[.ref a,.int 0 0] },g,d,tk,os⟩) b ys:=lQ q2 _
  wp_walk using wpAny_pyIter_tuple u1,wpAny_pyIter_tuple u2
  exact⟨_,rfl,q⟩
theorem hX{prog:KC}{w:LL}{A:LI}{E:JD->JH->Prop}{s:JH}{a b:JK}{xs ys:Array JD}{Q:JD->JH->Prop}(q1:s.heap.IsTuple a xs)(q2:s.heap.IsTuple b ys)(q:∀h',IsZip h' (s.heap.objs.size+4) (s.heap.objs.size+2) (s.heap.objs.size+3) .none->QF h' (s.heap.objs.size+2) (.ref s.heap.objs.size) (.ref (s.heap.objs.size+1))->QF h' (s.heap.objs.size+3) .none .none->h'.IsTupleIter s.heap.objs.size a 0->h'.IsTupleIter (s.heap.objs.size+1) b 0 ->
  (∀c o,s.heap.get? c=some o->h'.get? c=some o)->Q (.ref (s.heap.objs.size+4)) { s with heap:=h' }):KR (KU prog w) A (call (.type "zip") [.ref a,.ref b]) Q E s:=by
 refine callType_new F.called_zip (by decide) (F.typeCall_zip_2 _ _) (F.newCall_zip_2 _ _) (λobj=>F.args_object_init_3 obj _ _) F.entry_zip_new (rA a b xs ys) ⟨q1,q2,?_⟩
 have z1:(BD s.heap a).objs.size=s.heap.objs.size+1:=OL ..
 have z2:(BF s.heap a b).objs.size=s.heap.objs.size+2:=(OL ..).trans (by rw[z1])
 have z3:(BB s.heap a b).objs.size=s.heap.objs.size+3:=(OL ..).trans (by rw[z2])
 have z4:(DU s.heap a b).objs.size=s.heap.objs.size+4:=(OL ..).trans (by rw[z3])
 have k4:∀c o,(DU s.heap a b).get? c=some o->(qA s.heap a b).get? c=some o:=λc o e=>JE _ e
 have k3:∀c o,(BB s.heap a b).get? c=some o->(qA s.heap a b).get? c=some o:=λc o e=>k4 c o (JE _ e)
 have k2:∀c o,(BF s.heap a b).get? c=some o->(qA s.heap a b).get? c=some o:=λc o e=>k3 c o (JE _ e)
 have k1:∀c o,(BD s.heap a).get? c=some o->(qA s.heap a b).get? c=some o:=λc o e=>k2 c o (JE _ e)
 have k0:∀c o,s.heap.get? c=some o->(qA s.heap a b).get? c=some o:=λc o e=>k1 c o (JE _ e)
 have g5:(qA s.heap a b).get? (DU s.heap a b).objs.size=some { cls:=.type "zip", data:=.fields #[.none,.bool false,.bool false,.ref (BF s.heap a b).objs.size,.ref (BB s.heap a b).objs.size] }:=JZ _ rfl
 have g4:(qA s.heap a b).get? (BB s.heap a b).objs.size=some { cls:=.type "tuple", data:=.seq #[.none,.none] }:=k4 _ _ (JZ _ rfl)
 have g3:(qA s.heap a b).get? (BF s.heap a b).objs.size=some { cls:=.type "tuple", data:=.seq #[.ref s.heap.objs.size,.ref (BD s.heap a).objs.size] }:=k3 _ _ (JZ _ rfl)
 have g2:(qA s.heap a b).get? (BD s.heap a).objs.size=some { cls:=.type "tuple_iterator", data:=.fields #[.ref b,.int 0 0] }:=k2 _ _ (JZ _ rfl)
 have g1:(qA s.heap a b).get? s.heap.objs.size=some { cls:=.type "tuple_iterator", data:=.fields #[.ref a,.int 0 0] }:=k1 _ _ (JZ _ rfl)
 rw[z4,z2,z3] at g5
 rw[z3] at g4
 rw[z2,z1] at g3
 rw[z1] at g2
 change _/\_
 rw[z4]
 exact⟨⟨_,g5,rfl⟩,q _ g5 g3 g4 ⟨_,g1,rfl,rfl⟩ ⟨_,g2,rfl,rfl⟩ k0⟩
section
variable {prog:KC} {w:LL} {A:LI} {E:JD->JH->Prop} {s:JH} {n:JK} {fp1 fp2:List JK} {n1 n2:Nat} {P1 P2:Nat->JD->Prop} {S1 S2:Nat->MQ->Prop}
theorem aR(Z:Hj n fp1 fp2)(D1:Draws prog w A.in1 n fp1 n1 P1 S1)(D2:Draws prog w A.in1 (n+1) fp2 n2 P2 S2){a b:JD}{i:Nat}{Q:Option JD->JH->Prop}(hz:IsZip s.heap (n+4) (n+2) (n+3) .none)(hI:QF s.heap (n+2) (.ref n) (.ref (n+1)))(hO:QF s.heap (n+3) a b)(h1:S1 i s.heap)(h2:S2 i s.heap)(l1:i < n1)(l2:i < n2)(q:∀x y h' tk,P1 i x->P2 i y->IsZip h' (n+4) (n+2) (n+3) (QJ s.heap.objs.size)->QF h' (n+3) x y->S1 (i+1) h'->S2 (i+1) h'->QF h' s.heap.objs.size x y ->
  (∀c o,c≠n+4->c≠n+3->c≠n->c≠n+1->s.heap.get? c=some o->h'.get? c=some o)->Q (some (.ref s.heap.objs.size)) { s with heap:=h',toks:=tk }):KR (KU prog w) A (OW (.ref (n+4))) Q E s:=by
 have ty:s.TypeIs (.ref (n+4)) "zip" := ⟨_,hz,rfl⟩
 unfold OW
 exact JA (OV (LK (name:=NH "__next__") ty SJ (MC SJ ty F.entry_zip_next (kH Z D1 D2 hz hI hO h1 h2 l1 l2 λx y h' tk a1 a2 a3 a4 a5 a6 a7 a8 a9=>JO (q x y h' tk a1 a2 a3 a4 a5 a6 a7 a9)) (F.args_zip_next_1 _))))
theorem jI(Z:Hj n fp1 fp2)(D1:Draws prog w A.in1 n fp1 n1 P1 S1)(D2:Draws prog w A.in1 (n+1) fp2 n2 P2 S2){a b:JD}{i:Nat}{Q:Option JD->JH->Prop}(hz:IsZip s.heap (n+4) (n+2) (n+3) .none)(hI:QF s.heap (n+2) (.ref n) (.ref (n+1)))(hO:QF s.heap (n+3) a b)(h1:S1 i s.heap)(h2:S2 i s.heap)(l:i=n1∨(i < n1/\i=n2))(q:∀h' tk,(∀c o,c≠n+4->c≠n+3->c≠n->c≠n+1->s.heap.get? c=some o->h'.get? c=some o)->Q none { s with heap:=h',toks:=tk }):KR (KU prog w) A (OW (.ref (n+4))) Q E s:=by
 have ty:s.TypeIs (.ref (n+4)) "zip" := ⟨_,hz,rfl⟩
 unfold OW
 refine JA (OV (LK (name:=NH "__next__") ty SJ (MC SJ ty F.entry_zip_next (pN Z D1 D2 hz hI hO h1 h2 l λh' e tk k he=>?_) (F.args_zip_next_1 _))))
 obtain⟨o,e1,e2⟩:=he
 exact JA (RS (s:={ s with heap:=h',toks:=tk }) (T := "StopIteration") (b:=true) ⟨o,e1,e2⟩ isSubtype_stop (JO (q _ _ k)))
end
def yH(K:JC)(a b:JK):It:=
 ⟨λi H=>∃xs ys x y,Co K H a xs/\Co K H b ys/\xs[i]? = some x/\ys[i]? = some y,
  λi H v H'=>∃T x y,H T=none/\v=.ref T/\H'=upd H T (.tup [x,y])/\(∀xs,Co K H a xs->xs[i]? = some x)/\∀ys,Co K H b ys->ys[i]? = some y,
  λi H=>∃xs ys,Co K H a xs/\Co K H b ys/\(i=xs.length∨(i < xs.length/\i=ys.length))⟩
theorem Wm{h:MQ}{n a b:JK}{i:Nat}{f0 p q:JD}{xs ys:Array JD}(hz:IsZip h (n+4) (n+2) (n+3) f0)(hO:QF h (n+3) p q)(h1:h.IsTupleIter n a i)(h2:h.IsTupleIter (n+1) b i)(l1:h.IsTuple a xs)(l2:h.IsTuple b ys)(na:a≠n+3)(nb:b≠n+3):
 Hj n [n,a] [n+1,b]/\a≠n/\b≠n+1:=by
 obtain⟨o1,e1,c1,_⟩:=l1
 obtain⟨o2,e2,c2,_⟩:=l2
 obtain⟨p1,q1,d1,_⟩:=h1
 obtain⟨p2,q2,d2,_⟩:=h2
 have nz:∀ {c:JK} {o:Obj},h.get? c=some o->o.cls=.type "tuple" -> c≠n+4/\c≠n/\c≠n+1:=λ{c o} e z=>⟨Km e hz (by rw[z];show OP "tuple" ≠ OP "zip"; decide),Km e q1 (by rw[z,d1];decide),Km e q2 (by rw[z,d2];decide)⟩
 obtain⟨a1,a2,a3⟩:=nz e1 c1
 obtain⟨b1,b2,b3⟩:=nz e2 c2
 refine⟨⟨λc hc=>?_,λc hc=>?_⟩,a2,b3⟩
 ·rcases JP.mp hc with r | r
  ·exact .inl r
  ·rw[JL] at r
   subst r
   exact .inr ⟨a3,na,a1⟩
 ·rcases JP.mp hc with r | r
  ·exact .inl r
  ·rw[JL] at r
   subst r
   exact .inr ⟨b2,nb,b1⟩
theorem Hj.more{A:LI}{h:MQ}{n:JK}{fp1 fp2:List JK}(Z:Hj n fp1 fp2)(hh:Bp A h)(n0:∀o vs,h.get? n=some o->o.data=.fields vs->¬ vs[2]? = some .none)(n1:∀o vs,h.get? (n+1)=some o->o.data=.fields vs->¬ vs[2]? = some .none)(n4:∀o vs,h.get? (n+4)=some o->o.data=.fields vs->¬ vs[2]? = some .none)(n3:∀o vs,h.get? (n+3)=some o->o.data=.fields vs->¬ vs[2]? = some .none):Hj n (fp1++Ms A) (fp2++Ms A):=by
 have no:∀c∈Ms A,c≠n/\c≠n+1/\c≠n+3/\c≠n+4:=λc hc=>by
  rcases hh with z | ⟨x,o,vs,a,g,d,e⟩
  ·unfold Ms at hc
   rw[z] at hc
   cases hc
  ·unfold Ms at hc
   rw[a] at hc
   rw[JL.mp hc]
   exact⟨λy=>n0 o vs (y ▸ g) d e,λy=>n1 o vs (y ▸ g) d e,λy=>n3 o vs (y ▸ g) d e,λy=>n4 o vs (y ▸ g) d e⟩
 refine⟨λc hc=>?_,λc hc=>?_⟩
 ·rcases KI.mp hc with r | r
  ·exact Z.m1 c r
  ·exact .inr ⟨(no c r).2.1,(no c r).2.2.1,(no c r).2.2.2⟩
 ·rcases KI.mp hc with r | r
  ·exact Z.m2 c r
  ·exact .inr ⟨(no c r).1,(no c r).2.2.1,(no c r).2.2.2⟩
theorem iG{P:KC}{w:LL}{K:JC}{elts:List Expr}{kk:Nat}{tpos:Pos}(n a b:JK)(na:a≠n+3)(nb:b≠n+3):Turn P w K (.Tuple elts kk tpos) (yH K a b) [n+4,n+2,n+3,n,n+1] (n+4)
 (λi h=>IsZip h (n+4) (n+2) (n+3) .none/\QF h (n+2) (.ref n) (.ref (n+1))/\(∃p q,QF h (n+3) p q)/\h.IsTupleIter n a i/\h.IsTupleIter (n+1) b i) where
 mem:=by simp
 obj:=λi h st c hc=>by
  obtain⟨hz,hTI,⟨p,q,hTO⟩,⟨o1,e1,c1,d1⟩,⟨o2,e2,c2,d2⟩⟩:=st
  simp only[JP,KG,or_false] at hc
  rcases hc with rfl | rfl | rfl | rfl | rfl
  ·exact⟨_,hz,λv z=>nomatch z⟩
  ·exact⟨_,hTI,λv z=>nomatch z⟩
  ·exact⟨_,hTO,λv z=>nomatch z⟩
  ·exact⟨_,e1,λv z=>by rw[d1] at z;cases z⟩
  ·exact⟨_,e2,λv z=>by rw[d2] at z;cases z⟩
 keep:=λi h h' st k=>by
  obtain⟨hz,hTI,⟨p,q,hTO⟩,h1,h2⟩:=st
  exact⟨k _ (by simp) _ hz,k _ (by simp) _ hTI,⟨p,q,k _ (by simp) _ hTO⟩,h1.at λo e=>k _ (by simp) o e,h2.at λo e=>k _ (by simp) o e⟩
 item:=by
  intro X hP hw hK hc i pins s σ H E I hf st hg
  subst hP hw hK
  obtain⟨xs,ys,x,y,hq1,hq2,hx,hy⟩:=hg
  obtain⟨its1,rv1,p1,_⟩:=I.tuple hq1
  obtain⟨its2,rv2,p2,_⟩:=I.tuple hq2
  obtain⟨u1,hu1,ru1⟩:=rv1.get hx
  obtain⟨u2,hu2,ru2⟩:=rv2.get hy
  obtain⟨hz,hTI,⟨pa,pb,hTO⟩,h1,h2⟩:=st
  obtain⟨Z,a0,b1⟩:=Wm hz hTO h1 h2 p1 p2 na nb
  have hd:Bp X.A.in1 s.heap:=I.calmS hc
  have Z:=Z.more hd (Ra h1) (Ra h2) (cF hz) (λo vs g dt _=>by have e:=hTO.symm.trans g;cases e;cases dt)
  refine aR Z (gI n a a0 its1.toArray) (gI (n+1) b b1 its2.toArray) hz hTI hTO ⟨h1,p1,hd⟩ ⟨h2,p2,hd⟩ (by simpa using (JB.mp hu1).1) (by simpa using (JB.mp hu2).1) λv1 v2 h' tk e1 e2 a1 a2 a3 a4 a5 k=>?_
  obtain rfl:u1=v1:=by
   have e1':its1[i]? = some v1:=by simpa using e1
   rw[hu1] at e1'
   exact KW e1'
  obtain rfl:u2=v2:=by
   have e2':its2[i]? = some v2:=by simpa using e2
   rw[hu2] at e2'
   exact KW e2'
  refine⟨_,rfl,wpAny_letOwnedTupleGo_zip (s:={ s with heap:=h',toks:=tk }) a1 λh2' hz2 sb=>?_⟩
  have lt:∀c∈[n+4,n+2,n+3,n,n+1],c≠s.heap.objs.size:=λc hc=>by
   simp only[JP,KG,or_false] at hc
   obtain⟨_,q1,_,_⟩:=id h1
   obtain⟨_,q2,_,_⟩:=id h2
   rcases hc with rfl | rfl | rfl | rfl | rfl
   ·exact KL (JW hz)
   ·exact KL (JW hTI)
   ·exact KL (JW hTO)
   ·exact KL (JW q1)
   ·exact KL (JW q2)
  have kk2:∀c o,c∉[n+4,n+3,n,n+1]->s.heap.get? c=some o->h2'.get? c=some o:=λc o hc e=>by
   simp only[JP,KG,or_false,not_or] at hc
   exact(sb.2 c hc.1).trans (k c o hc.1 hc.2.1 hc.2.2.1 hc.2.2.2 e)
  have I1:Inv X pins σ H { s with heap:=h2',toks:=tk }:=I.turns (t':=tk) (ch:=[n+4,n+3,n,n+1]) kk2 λc hc=>by
   simp only[JP,KG,or_false] at hc
   exact hf c (by simp only[JP,KG,or_false];rcases hc with z | z | z | z<;>simp[z])
  have fT:De X pins H s.heap.objs.size:=I.fpOk (JI _) (I.hok.fresh (JI _))
  have eT:h2'.get? s.heap.objs.size=some { cls:=.type "tuple", data:=.seq #[u1,u2] }:=(sb.2 _ (LH (lt (n+4) (by simp)))).trans a5
  refine⟨.ref s.heap.objs.size,_,I1.adopt (o:=.tup [x,y]) fT.1 fT.2.1 I.sz fT.2.2.2.2.1 fT.2.2.2.2.2 ⟨by show 2<=JM;decide,[u1,u2],.cons ru1 (.cons ru2 .nil),⟨_,eT,rfl,0,rfl⟩⟩,rfl,⟨_,x,y,fT.1,rfl,rfl,λzs hzs=>?_,λzs hzs=>?_⟩,?_,λc hc=>?_⟩
  ·rw[I.tuple_inj hzs hq1];exact hx
  ·rw[I.tuple_inj hzs hq2];exact hy
  ·refine⟨hz2,(sb.2 _ (ap n 2 4 (by decide))).trans (k _ _ (ap n 2 4 (by decide)) (ap n 2 3 (by decide)) (ap n 2 0 (by decide)) (ap n 2 1 (by decide)) hTI),⟨u1,u2,(sb.2 _ (ap n 3 4 (by decide))).trans a2⟩,a3.1.at λo e=>(sb.2 _ (ap n 0 4 (by decide))).trans e,a4.1.at λo e=>(sb.2 _ (ap n 1 4 (by decide))).trans e⟩
  ·rw[Aj (lt c hc)]
   exact(hf c hc).1
 done:=by
  intro X hP hw hK hc i pins s σ H E I hf st hg
  subst hP hw hK
  obtain⟨xs,ys,hq1,hq2,hx⟩:=hg
  obtain⟨its1,rv1,p1,_⟩:=I.tuple hq1
  obtain⟨its2,rv2,p2,_⟩:=I.tuple hq2
  obtain⟨hz,hTI,⟨pa,pb,hTO⟩,h1,h2⟩:=st
  obtain⟨Z,a0,b1⟩:=Wm hz hTO h1 h2 p1 p2 na nb
  have hd:Bp X.A.in1 s.heap:=I.calmS hc
  have Z:=Z.more hd (Ra h1) (Ra h2) (cF hz) (λo vs g dt _=>by have e:=hTO.symm.trans g;cases e;cases dt)
  have l1:=rv1.length
  have l2:=rv2.length
  refine jI Z (gI n a a0 its1.toArray) (gI (n+1) b b1 its2.toArray) hz hTI hTO ⟨h1,p1,hd⟩ ⟨h2,p2,hd⟩ (by simp;omega) λh' tk k=>⟨rfl,?_⟩
  refine I.turns (t':=tk) (ch:=[n+4,n+3,n,n+1]) (λc o hc e=>?_) λc hc=>?_
  ·simp only[JP,KG,or_false,not_or] at hc
   exact k c o hc.1 hc.2.1 hc.2.2.1 hc.2.2.2 e
  ·simp only[JP,KG,or_false] at hc
   exact hf c (by simp only[JP,KG,or_false];rcases hc with z | z | z | z<;>simp[z])
 self:=λ_ _ _ _ _ st h=>wpAny_pyIter_zip st.1 h
def ED(K:JC)(ta:TA):TI:=λσ H R=>ta σ H λvs H1=>∃a b,vs=[.ref a,.ref b]/\(∃xs,Co K H1 a xs)/\(∃ys,Co K H1 b ys)/\R (yH K a b) H1
theorem vK{X:Cx}{elts:List Expr}{kk:Nat}{tpos:Pos}{a b:Expr}{ta:TA}{p pos:Pos}(hg:Gl X "zip")(hm:X.mg "zip" = none)(ha:PA X [a,b] ta)(hs:KQ [a,b] X.env=[(false,OX a X.env),(false,OX b X.env)]:=by rfl)(hs2:KQ [b] X.env=[(false,OX b X.env)]:=by rfl):
 PI X (.Tuple elts kk tpos) (.Call (.Name "zip" p) [a,b] [] pos) (ED X.K ta):=by
 intro pins s σ H R I h
 refine Call_ (Ia I hg hm boot_zip (ND (Bu (ha pos pins s σ H _ I h) λus s1 ⟨vs,H1,I1,r1,q1⟩=>?_) (by rw[hs,hs2]) (by rw[hs2];rfl)))
 obtain⟨a',b',e,⟨xs,hq1⟩,⟨ys,hq2⟩,q⟩:=q1
 subst e
 obtain⟨u,w',rfl,r,r'⟩:=vals2 r1
 cases r
 cases r'
 obtain⟨its1,rv1,p1,_⟩:=I1.tuple hq1
 obtain⟨its2,rv2,p2,_⟩:=I1.tuple hq2
 have lt:∀ {c:JK} {its:Array JD},IsTup s1.heap c its->c≠s1.heap.objs.size+3:=λ{c its} ⟨o,e,_⟩=>KL (LD (JW e) (QD _ _))
 refine hX (show s1.heap.IsTuple a' its1.toArray from p1) (show s1.heap.IsTuple b' its2.toArray from p2) λh' z1 z2 z3 z4 z5 k=>wpAny_pyIter_zip (s:={ s1 with heap:=h' }) z1 ?_
 refine⟨s1.heap.objs.size+4,[s1.heap.objs.size+4,s1.heap.objs.size+2,s1.heap.objs.size+3,s1.heap.objs.size,s1.heap.objs.size+1],_,_,H1,rfl,I1.kept (t':=s1.toks) k,iG s1.heap.objs.size a' b' (lt p1) (lt p2),⟨z1,z2,⟨_,_,z3⟩,z4,z5⟩,λc hc=>?_,q⟩
 have hle:s1.heap.objs.size<=c:=by
  simp only[JP,KG,or_false] at hc
  rcases hc with rfl | rfl | rfl | rfl | rfl
  ·exact kX _ 4
  ·exact kX _ 2
  ·exact kX _ 3
  ·exact kX _ 0
  ·exact kX _ 1
 exact I1.fpOk hle (I1.hok.fresh hle)
theorem Wy{K:JC}{a b:JK}{xs zs:List V}{n:Nat}{fr:List (Str×Nat)}{g:TG}{te:TE}{σ:St}{H:Hp}{F:List V->Hp->Prop}(hlen:xs.length=zs.length)(Pv:Nat->List V->Hp->Prop)(h0:Pv 0 [] H)(hl:∀i ys H,i<=xs.length->Pv i ys H->Co K H a xs/\Co K H b zs)(hs:∀i x z ys H T,xs[i]? = some x->zs[i]? = some z->Pv i ys H->H T=none->g (.ref T) (stC n fr σ) (upd H T (.tup [x,z])) λσ2 H2=>te σ2 H2 λy H4=>ys.length < JM/\Pv (i+1) (ys++[y]) H4)(hd:∀ys H,Pv xs.length ys H->F ys H):Eu n fr g Po te σ (yH K a b) H F:=by
 refine⟨λi m ys H=>m=xs.length-i/\i<=xs.length/\Pv i ys H,⟨xs.length,by simp,LG _,h0⟩,?_⟩
 rintro i m ys H ⟨rfl,hi,p⟩
 obtain⟨q1,q2⟩:=hl i ys H hi p
 by_cases hlt:i < xs.length
 ·have hx:=JG hlt
  have hz:zs[i]? = some (zs[i]'(by omega)):=JG (by omega)
  refine .inr ⟨⟨xs,zs,_,_,q1,q2,hx,hz⟩,Pv (i+1),λys' H' p'=>⟨xs.length-(i+1),by omega,rfl,hlt,p'⟩,λy H' z=>?_⟩
  obtain⟨T,x,z',hT,rfl,rfl,e1,e2⟩:=z
  exact hs i x z' ys H T (e1 _ q1) (e2 _ q2) p hT
 ·have e:i=xs.length:=by omega
  subst e
  exact .inl ⟨⟨xs,zs,q1,q2,.inl rfl⟩,hd ys H p⟩
section
variable {X:Cx} {v e:Expr} {es:List Expr} {ta t:TE} {pos:Pos}
end
section
variable {prog:KC} {w:LL} {A:LI} {R:Result->JH->Prop} {I:JK} {fp wr:List JK} {G:Array GenState->Array GenState->Prop} {n:Nat} {P:Nat->JD->Prop} {St:Nat->JH->Prop}
end
section
variable {prog:KC} {w:LL} {A:LI} {E:JD->JH->Prop} {s:JH}
end
section
variable {X:Cx}
end
end L2
namespace Mg
section
variable {α:Type} [DecidableEq α]
def cnt(rs:List (List α))(x:α):Nat:=(rs.map λr=>r.tail.count x).sum
def pick(f:α->Nat):List (List α)->Option α
 | []=>none
 | []::r=>pick f r
 | (x::_)::r=>if f x=0 then some x else pick f r
def Cw(x:α):List α->List α
 | []=>[]
 | y::r=>if y=x then r else y::r
def Ei:Nat->List (List α)->List α×List (List α)
 | 0,rs=>([],rs)
 | n+1,rs=>match pick (cnt rs) rs with
  | none=>([],rs)
  | some x=>(x::(Ei n (rs.map (Cw x))).1,(Ei n (rs.map (Cw x))).2)
def Fe(rs:List (List α)):Nat:=(rs.map List.length).sum
theorem cnt_nil(x:α):cnt [] x=0:=rfl
theorem cnt_cons(r:List α)(rs:List (List α))(x:α):cnt (r::rs) x=r.tail.count x+cnt rs x:=rfl
theorem cnt_append(rs ss:List (List α))(x:α):cnt (rs++ss) x=cnt rs x+cnt ss x:=by
 unfold cnt
 rw[JT,List.sum_append]
theorem Js{rs:List (List α)}{x:α}:cnt rs x=0 ↔ ∀r∈rs,x∉r.tail:=by
 induction rs with
 | nil=>simp[cnt_nil]
 | cons r rs ih=>
  rw[cnt_cons]
  constructor
  ·intro h q hq
   rcases JP.mp hq with rfl | hq
   ·exact List.count_eq_zero.mp (by omega)
   ·exact ih.mp (by omega) q hq
  ·intro h
   have h1:=List.count_eq_zero.mpr (h r JS)
   have h2:=ih.mpr λq hq=>h q (JQ _ hq)
   omega
theorem Hs{f:α->Nat}{x:α}:∀ {rs:List (List α)},pick f rs=some x->f x=0/\∃r∈rs,∃t,r=x::t
 | [],h=>nomatch h
 | []::r,h=>by
  obtain⟨h1,q,hq,t,e⟩:=Hs (rs:=r) h
  exact⟨h1,q,JQ _ hq,t,e⟩
 | (y::u)::r,h=>by
  unfold pick at h
  by_cases hy:f y=0
  ·rw[if_pos hy] at h
   cases h
   exact⟨hy,_,JS,u,rfl⟩
  ·rw[if_neg hy] at h
   obtain⟨h1,q,hq,t,e⟩:=Hs (rs:=r) h
   exact⟨h1,q,JQ _ hq,t,e⟩
theorem Lp(r:List α)(rs:List (List α)):Fe (r::rs)=r.length+Fe rs:=rfl
theorem Fa(x y:α)(r:List α):Cw x (y::r)=if y=x then r else y::r:=rfl
theorem Xp(x:α)(r:List α):(Cw x r).length<=r.length:=by
 cases r with
 | nil=>exact JI _
 | cons y r=>
  rw[Fa]
  split
  ·exact OI _
  ·exact JI _
theorem Nk(x:α):∀rs:List (List α),Fe (rs.map (Cw x))<=Fe rs
 | []=>JI _
 | r::rs=>by
  rw[LU,Lp,Lp]
  have:=Nk x rs
  have:=Xp x r
  omega
theorem Jo{x:α}{t:List α}:∀ {rs:List (List α)},x::t∈rs->Fe (rs.map (Cw x)) < Fe rs
 | r::rs,h=>by
  rw[LU,Lp,Lp]
  rcases JP.mp h with e | h
  ·subst e
   have h1:=Nk x rs
   have h2:(Cw x (x::t)).length=t.length:=by rw[Fa,if_pos rfl]
   rw[h2,LN]
   omega
  ·have:=Jo h
   have:=Xp x r
   omega
theorem Wq{n:Nat}{rs:List (List α)}(h:pick (cnt rs) rs=none):Ei n rs=([],rs):=by
 cases n with
 | zero=>rfl
 | succ n=>unfold Ei;rw[h]
theorem Pk{n:Nat}{rs:List (List α)}{x:α}(h:pick (cnt rs) rs=some x):Ei (n+1) rs=(x::(Ei n (rs.map (Cw x))).1,(Ei n (rs.map (Cw x))).2):=by
 rw[Ei,h]
theorem Ij(x:α)(r:List α):Cw x (x::r)=r:=by rw[Fa,if_pos rfl]
theorem Qb{x:α}{t:List α}{rs:List (List α)}{f:α->Nat}(h:f x=0):pick f ((x::t)::rs)=some x:=by unfold pick;rw[if_pos h]
end
end Mg
namespace Mg
section
variable {α:Type} [DecidableEq α]
def rests(rows:List (List α))(st:List Nat):List (List α):=List.zipWith (λr n=>r.drop n) rows st
theorem Gg{rows:List (List α)}{st:List Nat}{i:Nat}{r:List α}{n:Nat}(h1:rows[i]? = some r)(h2:st[i]? = some n):(rests rows st)[i]? = some (r.drop n):=by
 unfold rests
 rw[List.getElem?_zipWith,h1,h2]
theorem Ih{rows:List (List α)}{st:List Nat}(h:st.length=rows.length):(rests rows st).length=rows.length:=by
 unfold rests
 rw[List.length_zipWith,h,Nat.min_self]
theorem Cv:∀rows:List (List α),rests rows (KZ rows.length 0)=rows
 | []=>rfl
 | r::rows=>by
  have ih:=Cv rows
  show (r.drop 0)::rests rows (KZ rows.length 0)=r::rows
  rw[ih,List.drop_zero]
theorem Gx{r:List α}{n:Nat}(h:n < r.length):r.drop n=r[n]::r.drop (n+1):=ML h
theorem aJ{f:α->Nat}{rs:List (List α)}{i:Nat}(h:rs[i]? = some []):pick f (rs.drop i)=pick f (rs.drop (i+1)):=by
 obtain⟨hi,e⟩:=JB.mp h
 rw[ML hi,e]
 rfl
theorem cE{f:α->Nat}{rs:List (List α)}{i:Nat}{x:α}{t:List α}(h:rs[i]? = some (x::t)):pick f (rs.drop i)=if f x=0 then some x else pick f (rs.drop (i+1)):=by
 obtain⟨hi,e⟩:=JB.mp h
 rw[ML hi,e]
 rfl
def half(x:α)(rs:List (List α))(i:Nat):List (List α):=(rs.take i).map (Cw x)++rs.drop i
theorem jF(x:α)(rs:List (List α)):half x rs 0=rs:=by unfold half;simp
theorem lS(x:α)(rs:List (List α)){i:Nat}(h:rs.length<=i):half x rs i=rs.map (Cw x):=by
 unfold half
 rw[LJ h,NX h,LX]
theorem Ks{x:α}{rs:List (List α)}{i:Nat}{r:List α}(h:rs[i]? = some r):half x rs i=(rs.take i).map (Cw x)++r::rs.drop (i+1)/\half x rs (i+1)=(rs.take i).map (Cw x)++Cw x r::rs.drop (i+1):=by
 obtain⟨hi,e⟩:=JB.mp h
 unfold half
 constructor
 ·rw[ML hi,e]
 ·rw[MD,h,JT]
  simp
theorem rE{x:α}{rs:List (List α)}{i:Nat}{r:List α}(h:rs[i]? = some r)(y:α):cnt (half x rs (i+1)) y+r.tail.count y=cnt (half x rs i) y+(Cw x r).tail.count y:=by
 obtain⟨e1,e2⟩:=Ks (x:=x) h
 rw[e1,e2,cnt_append,cnt_append,cnt_cons,cnt_cons]
 omega
theorem iV{rows:List (List α)}{st:List Nat}{i n:Nat}{r:List α}(h1:rows[i]? = some r)(hi:i < st.length):rests rows (st.set i n)=(rests rows st).set i (r.drop n):=by
 apply List.ext_getElem?
 intro j
 unfold rests
 rw[List.getElem?_zipWith]
 by_cases hj:i=j
 ·subst hj
  have hi2:i < rows.length:=(JB.mp h1).1
  rw[NW hi,h1,NW (by rw[List.length_zipWith];omega)]
 ·rw[NJ hj,NJ hj,List.getElem?_zipWith]
theorem Ki{rs:List (List α)}{i:Nat}{r:List α}(h:rs[i]? = some r):Fe (rs.take (i+1))=Fe (rs.take i)+r.length:=by
 unfold Fe
 rw[MD,h,JT,List.sum_append]
 simp
theorem Xb(rs:List (List α))(i:Nat):Fe (rs.take i)<=Fe rs:=by
 have e:Fe rs=Fe (rs.take i)+Fe (rs.drop i):=by
  unfold Fe
  rw[<- List.sum_append,<- JT,List.take_append_drop]
 omega
theorem Rl{rs:List (List α)}{i:Nat}{r:List α}(h:rs[i]? = some r)(x:α):cnt (rs.take (i+1)) x=cnt (rs.take i) x+r.tail.count x:=by
 unfold cnt
 rw[MD,h,JT,List.sum_append]
 simp
theorem Jc{r:List α}{j:Nat}{y:α}(h:r[j]? = some y)(x:α):(r.take (j+1)).count x=(r.take j).count x+if x=y then 1 else 0:=by
 rw[MD,h,List.count_append]
 by_cases e:x=y
 ·subst e
  rw[if_pos rfl]
  simp
 ·rw[if_neg e]
  have:¬ y=x:=λz=>e z.symm
  simp[this]
end
end Mg
namespace Mg
section
variable {α:Type} [DecidableEq α]
theorem lK{x:α}{rs:List (List α)}{i:Nat}{r:List α}(h:rs[i]? = some r):(half x rs i).set i (Cw x r)=half x rs (i+1):=by
 obtain⟨e1,e2⟩:=Ks (x:=x) h
 have hi:i < rs.length:=(JB.mp h).1
 have hl:((rs.take i).map (Cw x)).length=i:=by rw[JF,NN];omega
 rw[e1,e2,List.set_append_right _ _ (by rw[hl];exact JI _),hl,Nat.sub_self]
 rfl
theorem kG{x:α}{rs:List (List α)}{i:Nat}{r:List α}(h:rs[i]? = some r)(e:Cw x r=r):half x rs (i+1)=half x rs i:=by
 obtain⟨e1,e2⟩:=Ks (x:=x) h
 rw[e1,e2,e]
end
end Mg
namespace Nm
open PySem PyProof.Rows
def Ek:Str := "abcdefghijklmnopqrstuvwxyz"
def fill(c:Int):Str:=SH (Ek++Ek) (some (c % 26)) (some (c % 26+c / 26 % 19))
def place(c:Int):Int:=c / 494 % (((fill c).length:Int)+1)
def sign(k:Int):Str:=⟨#[97+k.toNat]⟩
def Fw(k c:Int):Str:=SH (fill c) none (some (place c))++sign (k / 26 % 26)++sign (k % 26)++SH (fill c) (some (place c)) none
def jS(x:Str):Prop:=1<=x.length/\x.length<=20/\∀c∈x.cps.toList,97<=c/\c<=122
theorem Ni:Ek.length=26:=by decide +kernel
theorem Ng:Ek.cps.toList=(SD 26).map (97 + ·):=by decide +kernel
theorem len_app(a b:Str):(a++b).length=a.length+b.length:=by
 show (a.cps++b.cps).size=_
 rw[Array.size_append]
 rfl
theorem app_list(a b:Str):(a++b).cps.toList=a.cps.toList++b.cps.toList:=by
 show (a.cps++b.cps).toList=_
 rw[Array.toList_append]
theorem len_list(a:Str):a.length=a.cps.toList.length:=by
 show a.cps.size=_
 rw[RG]
theorem vB{x:Str}{i j:Int}(h0:0<=i)(h1:i<=j)(h2:j<=x.length):(SH x (some i) (some j)).cps.toList=(x.cps.toList.drop i.toNat).take (j-i).toNat:=by
 have e:=eq_of_beq (slice_closesL h0 h1 h2)
 rw[e]
theorem AD{x:Str}{j:Int}(h0:0<=j)(h2:j<=x.length):(SH x none (some j)).cps.toList=x.cps.toList.take j.toNat:=by
 have e:=eq_of_beq (slice_closes_toL h0 h2)
 rw[e]
 simp
theorem pF{x:Str}{i:Int}(h0:0<=i)(h2:i<=x.length):(SH x (some i) none).cps.toList=x.cps.toList.drop i.toNat:=by
 have e:=eq_of_beq (slice_closes_fromL h0 h2 rfl)
 rw[e]
 show (x.cps.toList.drop i.toNat).take ((x.length:Int)-i).toNat=_
 refine LJ ?_
 rw[MR,<- len_list]
 omega
theorem Yn(c:Int):(fill c).cps.toList=((Ek++Ek).cps.toList.drop (c % 26).toNat).take (c / 26 % 19).toNat:=by
 have a1:=LY c (show (26:Int)≠0 by decide)
 have a2:=LV c (show (0:Int) < 26 by decide)
 have b1:=LY (c / 26) (show (19:Int)≠0 by decide)
 have b2:=LV (c / 26) (show (0:Int) < 19 by decide)
 unfold fill
 rw[vB a1 (by omega) (by rw[len_app,Ni];omega)]
 congr 2
 omega
theorem Xu(c:Int):(fill c).length<=18:=by
 rw[len_list,Yn,NN]
 have b1:=LY (c / 26) (show (19:Int)≠0 by decide)
 have b2:=LV (c / 26) (show (0:Int) < 19 by decide)
 omega
theorem Pn(c:Int):∀x∈(fill c).cps.toList,97<=x/\x<=122:=λx hx=>by
 rw[Yn,app_list,Ng] at hx
 have h:=PP (List.mem_of_mem_take hx)
 have h':x∈(SD 26).map (97 + ·):=by
  rcases KI.mp h with z | z<;>exact z
 obtain⟨i,hi,rfl⟩:=LM.mp h'
 have:=List.mem_range.mp hi
 omega
theorem qO(c:Int):0<=place c/\place c<=(fill c).length:=by
 unfold place
 have b1:=LY (c / 494) (show (((fill c).length:Int)+1)≠0 by omega)
 have b2:=LV (c / 494) (show (0:Int) < (((fill c).length:Int)+1) by omega)
 omega
theorem Ky(k c:Int):(Fw k c).cps.toList=(fill c).cps.toList.take (place c).toNat++[97+(k / 26 % 26).toNat]++[97+(k % 26).toNat]++(fill c).cps.toList.drop (place c).toNat:=by
 obtain⟨h0,h1⟩:=qO c
 unfold Fw
 rw[app_list,app_list,app_list,AD h0 h1,pF h0 h1]
 rfl
theorem kZ(k c:Int):(Fw k c).length=(fill c).length+2:=by
 rw[len_list,Ky]
 simp only[JJ,NN,MR,JU]
 rw[len_list]
 omega
theorem gG(k c:Int):jS (Fw k c):=by
 have h1:=kZ k c
 have h2:=Xu c
 refine⟨by omega,by omega,λx hx=>?_⟩
 rw[Ky] at hx
 have k1:=LY (k / 26) (show (26:Int)≠0 by decide)
 have k2:=LV (k / 26) (show (0:Int) < 26 by decide)
 have k3:=LY k (show (26:Int)≠0 by decide)
 have k4:=LV k (show (0:Int) < 26 by decide)
 rcases KI.mp hx with hx | hx
 ·rcases KI.mp hx with hx | hx
  ·rcases KI.mp hx with hx | hx
   ·exact Pn c x (List.mem_of_mem_take hx)
   ·have:=JL.mp hx
    omega
  ·have:=JL.mp hx
   omega
 ·exact Pn c x (PP hx)
theorem Xl{k j c:Int}(h0:0<=k)(h1:k < 676)(h2:0<=j)(h3:j < 676)(h:Fw k c=Fw j c):k=j:=by
 have e:=congrArg (λx:Str=>x.cps.toList) h
 rw[Ky,Ky,OB,OB,OB,OB] at e
 have e2:=List.append_cancel_left e
 have e3:(97+(k / 26 % 26).toNat)=(97+(j / 26 % 26).toNat)/\(97+(k % 26).toNat)=(97+(j % 26).toNat):=by
  simpa using e2
 omega
theorem rX(c:Nat):(!decide (([c]:List Nat) < [97]))=decide (97<=c):=by
 by_cases h:97<=c
 ·rw[decide_eq_true h]
  have:¬ ([c]:List Nat) < [97]:=λz=>by
   rcases SI.mp z with z | ⟨_,z⟩
   ·omega
   ·exact absurd z (List.not_lt_nil _)
  rw[decide_eq_false this];rfl
 ·rw[decide_eq_false h]
  have:([c]:List Nat) < [97]:=SI.mpr (.inl (by omega))
  rw[decide_eq_true this];rfl
theorem rV(c:Nat):(!decide (([122]:List Nat) < [c]))=decide (c<=122):=by
 by_cases h:c<=122
 ·rw[decide_eq_true h]
  have:¬ ([122]:List Nat) < [c]:=λz=>by
   rcases SI.mp z with z | ⟨_,z⟩
   ·omega
   ·exact absurd z (List.not_lt_nil _)
  rw[decide_eq_false this];rfl
 ·rw[decide_eq_false h]
  have:([122]:List Nat) < [c]:=SI.mpr (.inl (by omega))
  rw[decide_eq_true this];rfl
end Nm
namespace Ah
inductive Ld where
 | none | go (p:Nat)
inductive Stp where
 | ld (l:Ld) | ei (a b:Ld) | oth
inductive Nd where
 | ans (n:Nat) | una (n:Nat) | nev | need (p:Nat)
 deriving DecidableEq
abbrev Mp:=Nat->Option Nd
def Hx(m:Mp):Ld->Nd
 | .none=>.una 0
 | .go p=>(m p).getD (.need p)
def Nt(c:Nat):Nd->Nd
 | .ans n=>.ans (c+n)
 | .una n=>.una (c+n)
 | .nev=>.nev
 | .need p=>.need p
def rL(x y:Nd):Nd:=match x with
 | .una n=>Nt n y
 | .ans n=>.ans n
 | .nev=>.nev
 | .need p=>.need p
def Rf(m:Mp):Stp->Nd
 | .ld l=>Hx m l
 | .ei a b=>rL (Hx m a) (Hx m b)
 | .oth=>.ans 0
def rowE(m:Mp):Nat->List Stp->Nd
 | c,[]=>.ans c
 | c,s::t=>match Rf m s with
  | .ans n=>rowE m (c+n) t
  | .una n=>.una (c+n)
  | .nev=>.nev
  | .need p=>.need p
def Out(x:Nd):Prop:=x=.nev ∨ ∃p,x=.need p
section
variable {m m':Mp} {B:Nd->Prop}
theorem Tl(h:∀q,m q=m' q∨B ((m q).getD (.need q))):∀l,Hx m l=Hx m' l∨B (Hx m l)
 | .none=>.inl rfl
 | .go p=>by
  rcases h p with e | e
  ·left
   show (m p).getD _=(m' p).getD _
   rw[e]
  ·exact .inr e
theorem uO(hB:∀x,B x->Out x)(h:∀q,m q=m' q∨B ((m q).getD (.need q))):∀s,Rf m s=Rf m' s∨B (Rf m s)
 | .ld l=>Tl h l
 | .oth=>.inl rfl
 | .ei a b=>by
  show rL (Hx m a) (Hx m b)=rL (Hx m' a) (Hx m' b)∨B (rL (Hx m a) (Hx m b))
  rcases Tl h a with ea | ea
  ·rw[<- ea]
   cases x:Hx m a with
   | una n=>
    rcases Tl h b with eb | eb
    ·rw[<- eb];exact .inl rfl
    ·right
     rcases hB _ eb with z | ⟨p,z⟩<;>rw[z] at eb ⊢<;>exact eb
   | ans n=>exact .inl rfl
   | nev=>exact .inl rfl
   | need p=>exact .inl rfl
  ·right
   rcases hB _ ea with z | ⟨p,z⟩<;>rw[z] at ea ⊢<;>exact ea
theorem Qu(hB:∀x,B x->Out x)(h:∀q,m q=m' q∨B ((m q).getD (.need q))):∀(r:List Stp)(c:Nat),rowE m c r=rowE m' c r∨B (rowE m c r)
 | [],_=>.inl rfl
 | s::t,c=>by
  rcases uO hB h s with es | es
  ·unfold rowE
   rw[<- es]
   cases x:Rf m s with
   | ans n=>exact Qu hB h t (c+n)
   | una n=>exact .inl rfl
   | nev=>exact .inl rfl
   | need p=>exact .inl rfl
  ·right
   unfold rowE
   rcases hB _ es with z | ⟨p,z⟩<;>rw[z] at es ⊢<;>exact es
def Good(m m':Mp):Prop:=∀x e,m x=some e->e ≠ .nev->m' x=some e
theorem Lg(hG:Good m m')(r:List Stp)(c:Nat):rowE m c r=rowE m' c r∨rowE m c r=.nev ∨ ∃p,rowE m c r=.need p/\m' p≠none:=by
 refine Qu (m:=m) (m':=m') (B:=λy=>y=.nev ∨ ∃p,y=.need p/\m' p≠none) (λx hx=>?_) (λq=>?_) r c
 ·rcases hx with z | ⟨p,z,_⟩
  ·exact .inl z
  ·exact .inr ⟨p,z⟩
 ·cases e:m q with
  | none=>
   cases e':m' q with
   | none=>exact .inl rfl
   | some y=>exact .inr (.inr ⟨q,rfl,by rw[e'];exact nofun⟩)
  | some y=>
   by_cases hy:y=.nev
   ·exact .inr (.inl hy)
   ·exact .inl (hG q y e hy).symm
theorem gD(hs:∀x e,m x=some e->m' x=some e){r:List Stp}{c:Nat}(h:rowE m c r=.nev):rowE m' c r=.nev:=by
 have key:rowE m c r=rowE m' c r ∨ ∃p,rowE m c r=.need p:=Qu (m:=m) (m':=m') (B:=λy=>∃p,y=.need p) (λx hx=>.inr hx) (λq=>by
  cases e:m q with
  | none=>exact .inr ⟨q,rfl⟩
  | some y=>exact .inl (hs q y e).symm) r c
 rcases key with e | ⟨p,e⟩
 ·rw[<- e];exact h
 ·rw[h] at e;cases e
def Gq(m:Mp):Prop:=∀x p,m x≠some (.need p)
def ldsL:Ld->List Nat
 | .none=>[]
 | .go p=>[p]
def Qa:Stp->List Nat
 | .ld l=>ldsL l
 | .ei a b=>ldsL a++ldsL b
 | .oth=>[]
theorem Uw(hn:Gq m){p:Nat}:∀ {l:Ld},Hx m l=.need p->m p=none/\p∈ldsL l
 | .none,h=>nomatch h
 | .go q,h=>by
  have h:(m q).getD (.need q)=.need p:=h
  cases e:m q with
  | none=>
   rw[e] at h
   cases h
   exact⟨e,JL.mpr rfl⟩
  | some y=>
   rw[e] at h
   have h:y=.need p:=h
   subst h
   exact absurd e (hn q p)
theorem lY{c:Nat}{e:Nd}{p:Nat}(h:Nt c e=.need p):e=.need p:=by
 cases e<;>first | exact h | cases h
theorem rR(hn:Gq m){p:Nat}:∀ {s:Stp},Rf m s=.need p->m p=none/\p∈Qa s
 | .ld l,h=>Uw hn h
 | .oth,h=>nomatch h
 | .ei a b,h=>by
  have h:rL (Hx m a) (Hx m b)=.need p:=h
  cases x:Hx m a with
  | una n=>
   rw[x] at h
   obtain⟨h1,h2⟩:=Uw hn (lY h)
   exact⟨h1,JX _ h2⟩
  | ans n=>rw[x] at h;cases h
  | nev=>rw[x] at h;cases h
  | need q=>
   rw[x] at h
   cases h
   obtain⟨h1,h2⟩:=Uw hn x
   exact⟨h1,MG _ h2⟩
theorem Qh(hn:Gq m){p:Nat}:∀ {r:List Stp} {c:Nat},rowE m c r=.need p->m p=none/\∃s∈r,p∈Qa s
 | [],_,h=>nomatch h
 | s::t,c,h=>by
  unfold rowE at h
  cases x:Rf m s with
  | ans n=>
   rw[x] at h
   obtain⟨h1,u,hu,h2⟩:=Qh hn (r:=t) h
   exact⟨h1,u,JQ _ hu,h2⟩
  | una n=>rw[x] at h;cases h
  | nev=>rw[x] at h;cases h
  | need q=>
   rw[x] at h
   cases h
   obtain⟨h1,h2⟩:=rR hn x
   exact⟨h1,s,JS ..,h2⟩
theorem Tt{m:Mp}:∀ {r:List Stp} {c:Nat},(∀k,rowE m c r=.ans k->c<=k)/\∀k,rowE m c r=.una k->c<=k
 | [],c=>⟨λk h=>by cases h;exact JI _,λk h=>nomatch h⟩
 | s::t,c=>by
  unfold rowE
  cases x:Rf m s with
  | ans n=>
   obtain⟨h1,h2⟩:=Tt (m:=m) (r:=t) (c:=c+n)
   exact⟨λk h=>KS (QD _ _) (h1 k h),λk h=>KS (QD _ _) (h2 k h)⟩
  | una n=>exact⟨(λk h=>nomatch h),λk h=>by cases h;exact QD _ _⟩
  | nev=>exact⟨(λk h=>nomatch h),λk h=>nomatch h⟩
  | need q=>exact⟨(λk h=>nomatch h),λk h=>nomatch h⟩
def fN(p:Nat)(e:Nd):Nd:=if e=.need p then .nev else e
def setM(m:Mp)(q:Nat)(e:Nd):Mp:=λx=>if x=q then some e else m x
theorem Cq{q:Nat}{e:Nd}:setM m q e q=some e:=if_pos rfl
theorem Bh{q x:Nat}{e:Nd}(h:x≠q):setM m q e x=m x:=if_neg h
theorem cL(hn:Gq m){p:Nat}(hp:m p=none):∀l,Hx (setM m p .nev) l=fN p (Hx m l)
 | .none=>by show Nd.una 0=fN p (.una 0);unfold fN;rw[if_neg (by exact nofun)]
 | .go q=>by
  show (setM m p .nev q).getD (.need q)=fN p ((m q).getD (.need q))
  unfold fN
  by_cases h:q=p
  ·subst h
   rw[Cq,hp]
   show Nd.nev=if Nd.need q=Nd.need q then Nd.nev else Nd.need q
   rw[if_pos rfl]
  ·rw[Bh h]
   cases e:m q with
   | none=>
    show Nd.need q=if Nd.need q=Nd.need p then Nd.nev else Nd.need q
    rw[if_neg (λz=>h (Nd.need.inj z))]
   | some y=>
    show y=if y=Nd.need p then Nd.nev else y
    rw[if_neg (λz=>hn q p (by rw[e,z]))]
theorem zO{p c:Nat}(e:Nd):Nt c (fN p e)=fN p (Nt c e):=by
 cases e with
 | need q=>
  by_cases h:q=p
  ·subst h
   unfold fN
   rw[if_pos rfl]
   show Nd.nev=if Nd.need q=Nd.need q then Nd.nev else Nd.need q
   rw[if_pos rfl]
  ·unfold fN
   rw[if_neg (λz=>h (Nd.need.inj z))]
   show Nd.need q=if Nd.need q=Nd.need p then Nd.nev else Nd.need q
   rw[if_neg (λz=>h (Nd.need.inj z))]
 | ans n=>rfl
 | una n=>rfl
 | nev=>rfl
theorem yF(hn:Gq m){p:Nat}(hp:m p=none):∀s,Rf (setM m p .nev) s=fN p (Rf m s)
 | .ld l=>cL hn hp l
 | .oth=>rfl
 | .ei a b=>by
  show rL (Hx _ a) (Hx _ b)=fN p (rL (Hx m a) (Hx m b))
  rw[cL hn hp a,cL hn hp b]
  cases x:Hx m a with
  | una n=>
   show Nt n (fN p (Hx m b))=fN p (Nt n (Hx m b))
   exact zO _
  | ans n=>rfl
  | nev=>rfl
  | need q=>
   by_cases h:q=p
   ·subst h
    have e:fN q (.need q)=.nev:=if_pos rfl
    rw[e]
    exact e.symm
   ·have e:fN p (.need q)=.need q:=if_neg (λz=>h (Nd.need.inj z))
    rw[e]
    exact e.symm
theorem dX(hn:Gq m){p:Nat}(hp:m p=none):∀(r:List Stp)(c:Nat),rowE (setM m p .nev) c r=fN p (rowE m c r)
 | [],_=>rfl
 | s::t,c=>by
  unfold rowE
  rw[yF hn hp s]
  cases x:Rf m s with
  | ans n=>exact dX hn hp t (c+n)
  | una n=>rfl
  | nev=>rfl
  | need q=>
   by_cases h:q=p
   ·subst h
    have e:fN q (.need q)=.nev:=if_pos rfl
    rw[e]
   ·have e:fN p (.need q)=.need q:=if_neg (λz=>h (Nd.need.inj z))
    rw[e]
end
def er(m:Mp)(ps:List Nat):Mp:=λq=>if q∈ps then none else m q
theorem Nl{m:Mp}{ps:List Nat}{q:Nat}(h:q∈ps):er m ps q=none:=if_pos h
theorem Gn{m:Mp}{ps:List Nat}{q:Nat}(h:q∉ps):er m ps q=m q:=if_neg h
theorem Om{m:Mp}{ps:List Nat}{q:Nat}{e:Nd}(h:er m ps q=some e):q∉ps/\m q=some e:=by
 by_cases z:q∈ps
 ·rw[Nl z] at h;cases h
 ·rw[Gn z] at h;exact⟨z,h⟩
def Ls(row:Nat->List Stp)(m:Mp):List Nat->Prop
 | []=>True
 | [_]=>True
 | p::q::r=>rowE (er m [p]) 1 (row q)=.need p/\Ls row m (q::r)
theorem Ls.good{row:Nat->List Stp}{m m':Mp}(h:Good m m'):∀ {ps:List Nat},Ls row m ps->Ls row m' ps
 | [],_=>trivial
 | [_],_=>trivial
 | p::q::r,c=>by
  refine⟨?_,Ls.good h c.2⟩
  have hG:Good (er m [p]) (er m' [p]):=λx e hx he=>by
   obtain⟨h1,h2⟩:=Om hx
   rw[Gn h1]
   exact h x e h2 he
  rcases Lg hG (row q) 1 with z | z | ⟨y,z,hy⟩
  ·rw[<- z];exact c.1
  ·rw[c.1] at z;cases z
  ·rw[c.1] at z
   cases z
   exact absurd (Nl (JL.mpr rfl)) hy
theorem Ls.tail{row:Nat->List Stp}{m:Mp}{p:Nat}:∀ {ps:List Nat},Ls row m (p::ps)->Ls row m ps
 | [],_=>trivial
 | _::_,c=>c.2
structure Tr(row:Nat->List Stp)(n:Nat)(m:Mp)(ps:List Nat):Prop where
 nd:ps.Nodup
 lt:∀p∈ps,p < n
 tl:∀p∈ps.tail,m p=some .nev
 hd:∀p,ps.head? = some p->m p=none∨m p=some .nev
 ky:∀p e,m p=some e->p < n
 nn:Gq m
 ch:Ls row m ps
 ph:(∀x e,m x=some e->x∉ps->rowE (er m ps) 1 (row x)=e)∨((∀x e,m x=some e->x∉ps->rowE m 1 (row x)=e)/\∀q,ps.head? = some q->m q=some .nev/\rowE m 1 (row q)=.nev)
structure Told(row:Nat->List Stp)(n:Nat)(m:Mp):Prop where
 ky:∀p e,m p=some e->p < n
 nn:Gq m
 fo:∀x e,m x=some e->rowE m 1 (row x)=e
theorem AM(m:Mp):er m []=m:=by
 funext q
 exact Gn (by simp)
theorem Tr.done{row:Nat->List Stp}{n:Nat}{m:Mp}(h:Tr row n m []):Told row n m:=by
 refine⟨h.ky,h.nn,λx e hx=>?_⟩
 rcases h.ph with p | ⟨p,_⟩
 ·have:=p x e hx (by simp)
  rw[AM] at this
  exact this
 ·exact p x e hx (by simp)
theorem Told.start{row:Nat->List Stp}{n:Nat}{m:Mp}(T:Told row n m){p:Nat}(hp:m p=none)(hl:p < n):Tr row n m [p]:=by
 refine⟨by simp,λq hq=>?_,(λq hq=>nomatch hq),λq hq=>?_,T.ky,T.nn,trivial,.inl λx e hx hn=>?_⟩
 ·rw[JL] at hq
  subst hq
  exact hl
 ·cases hq
  exact .inl hp
 ·have z:er m [p]=m:=by
   funext q
   by_cases c:q=p
   ·subst c
    rw[Nl (JL.mpr rfl),hp]
   ·exact Gn (λw=>c (JL.mp w))
  rw[z]
  exact T.fo x e hx
section
variable {row:Nat->List Stp} {n:Nat} {m:Mp} {q:Nat} {ps:List Nat}
theorem Tr.nevs(P:Tr row n m (q::ps)):∀x∈q::ps,setM m q .nev x=some .nev:=by
 intro x hx
 by_cases h:x=q
 ·subst h;exact Cq
 ·rw[Bh h]
  rcases JP.mp hx with z | z
  ·exact absurd z h
  ·exact P.tl x z
theorem Tr.goodN(P:Tr row n m (q::ps)):Good m (setM m q .nev):=λx e hx he=>by
 by_cases h:x=q
 ·subst h
  rcases P.hd _ rfl with z | z
  ·rw[z] at hx;cases hx
  ·rw[z] at hx
   cases hx
   exact absurd rfl he
 ·rw[Bh h];exact hx
theorem Tr.nnN(P:Tr row n m (q::ps)):Gq (setM m q .nev):=λx p h=>by
 by_cases z:x=q
 ·subst z;rw[Cq] at h;cases h
 ·rw[Bh z] at h;exact P.nn x p h
theorem Tr.kyS(P:Tr row n m (q::ps))(e:Nd):∀p x,setM m q e p=some x->p < n:=λp x h=>by
 by_cases z:p=q
 ·rw[z];exact P.lt q (JS ..)
 ·rw[Bh z] at h;exact P.ky p x h
theorem Tr.push(P:Tr row n m (q::ps)){p:Nat}(he:rowE (setM m q .nev) 1 (row q)=.need p)(hl:p < n):setM m q .nev p=none/\Tr row n (setM m q .nev) (p::q::ps):=by
 have hp:=(Qh P.nnN he).1
 refine⟨hp,?_⟩
 have hnin:p∉q::ps:=λz=>by
  have:=P.nevs p z
  rw[hp] at this
  cases this
 have e1:er (setM m q .nev) [p]=setM m q .nev:=by
  funext x
  by_cases c:x=p
  ·subst c;rw[Nl (JL.mpr rfl),hp]
  ·exact Gn (λw=>c (JL.mp w))
 refine⟨LQ.mpr ⟨hnin,P.nd⟩,λx hx=>?_,λx hx=>P.nevs x hx,λx hx=>?_,P.kyS _,P.nnN,⟨by rw[e1];exact he,P.ch.good P.goodN⟩,?_⟩
 ·rcases JP.mp hx with z | z
  ·rw[z];exact hl
  ·exact P.lt x z
 ·cases hx
  exact .inl hp
 ·left
  rcases P.ph with ph | ⟨ph,top⟩
  ·intro x e hx hxn
   have hx1:x∉q::ps:=λz=>hxn (JQ _ z)
   have hxq:x≠q:=λz=>hx1 (z ▸ JS ..)
   rw[Bh hxq] at hx
   have e2:er (setM m q .nev) (p::q::ps)=er m (q::ps):=by
    funext y
    by_cases c:y∈q::ps
    ·rw[Nl c,Nl (JQ _ c)]
    ·have cq:y≠q:=λz=>c (z ▸ JS ..)
     by_cases c2:y=p
     ·subst c2
      rw[Nl (JS ..),Gn c]
      rw[Bh cq] at hp
      exact hp.symm
     ·rw[Gn c,Gn (λz=>(JP.mp z).elim c2 c),Bh cq]
   rw[e2]
   exact ph x e hx hx1
  ·obtain⟨t1,t2⟩:=top q rfl
   have e3:setM m q .nev=m:=by
    funext x
    by_cases c:x=q
    ·subst c;rw[Cq,t1]
    ·exact Bh c
   rw[e3,t2] at he
   cases he
theorem Tr.pop(P:Tr row n m (q::ps)){e:Nd}(he:rowE (setM m q .nev) 1 (row q)=e)(hne:∀p,e ≠ .need p):Tr row n (setM m q e) ps:=by
 have hq:q∉ps:=(LQ.mp P.nd).1
 have nn:Gq (setM m q e):=λx p h=>by
  by_cases z:x=q
  ·subst z;rw[Cq] at h;exact hne p (KW h)
  ·rw[Bh z] at h;exact P.nn x p h
 have hin:∀x∈ps,m x=some .nev:=P.tl
 have hG:Good m (setM m q e):=λx y hx hy=>by
  by_cases h:x=q
  ·subst h
   rcases P.hd _ rfl with z | z
   ·rw[z] at hx;cases hx
   ·rw[z] at hx
    cases hx
    exact absurd rfl hy
  ·rw[Bh h];exact hx
 refine⟨(LQ.mp P.nd).2,λx hx=>P.lt x (JQ _ hx),λx hx=>?_,λx hx=>?_,P.kyS _,nn,P.ch.tail.good hG,?_⟩
 ·have hx:=List.mem_of_mem_tail hx
  have hxq:x≠q:=λz=>hq (by rw[<- z];exact hx)
  rw[Bh hxq]
  exact hin x hx
 ·have hx:x∈ps:=List.mem_of_mem_head? (by rw[hx];exact rfl)
  have hxq:x≠q:=λz=>hq (by rw[<- z];exact hx)
  rw[Bh hxq]
  exact .inr (hin x hx)
 ·by_cases hv:e=.nev
  ·subst hv
   right
   have sub:∀x y,er m (q::ps) x=some y->setM m q .nev x=some y:=λx y h=>by
    obtain⟨h1,h2⟩:=Om h
    have hxq:x≠q:=λz=>h1 (by rw[z];exact JS ..)
    rw[Bh hxq]
    exact h2
   constructor
   ·intro x y hx hxn
    by_cases c:x=q
    ·subst c
     rw[Cq] at hx
     cases hx
     exact he
    ·rw[Bh c] at hx
     have hx1:x∉q::ps:=λz=>(JP.mp z).elim c hxn
     rcases P.ph with ph | ⟨ph,top⟩
     ·have r:=ph x y hx hx1
      by_cases hy:y=.nev
      ·subst hy
       exact gD sub r
      ·rcases Lg (m:=er m (q::ps)) (m':=setM m q .nev) (λa b h _=>sub a b h) (row x) 1 with z | z | ⟨p,z,_⟩
       ·rw[<- z];exact r
       ·rw[r] at z;exact absurd z hy
       ·rw[r] at z;rw[z] at hx;exact absurd hx (P.nn x p)
     ·obtain⟨t1,t2⟩:=top q rfl
      have e3:setM m q .nev=m:=by
       funext x
       by_cases c:x=q
       ·subst c;rw[Cq,t1]
       ·exact Bh c
      rw[e3]
      exact ph x y hx hx1
   ·intro x hx
    cases ps with
    | nil=>cases hx
    | cons y r=>
     cases hx
     have hyq:x≠q:=λz=>hq (z ▸ JS ..)
     refine⟨by rw[Bh hyq];exact hin x (JS ..),?_⟩
     have c1:=P.ch.1
     have hz:er m [q] q=none:=Nl (JL.mpr rfl)
     have hnn:Gq (er m [q]):=λa b h=>P.nn a b (Om h).2
     have e4:setM (er m [q]) q .nev=setM m q .nev:=by
      funext a
      by_cases c:a=q
      ·subst c;rw[Cq,Cq]
      ·rw[Bh c,Bh c,Gn (λw=>c (JL.mp w))]
     rw[<- e4,dX hnn hz,c1]
     exact if_pos rfl
  ·left
   have phA:∀x y,m x=some y->x∉q::ps->rowE (er m (q::ps)) 1 (row x)=y:=by
    rcases P.ph with ph | ⟨ph,top⟩
    ·exact ph
    ·obtain⟨t1,t2⟩:=top q rfl
     have e3:setM m q .nev=m:=by
      funext x
      by_cases c:x=q
      ·subst c;rw[Cq,t1]
      ·exact Bh c
     rw[e3,t2] at he
     exact absurd he.symm hv
   have sub:∀x y,er m (q::ps) x=some y->er (setM m q e) ps x=some y:=λx y h=>by
    obtain⟨h1,h2⟩:=Om h
    have hxq:x≠q:=λz=>h1 (by rw[z];exact JS ..)
    rw[Gn (λz=>h1 (JQ _ z)),Bh hxq]
    exact h2
   intro x y hx hxn
   by_cases c:x=q
   ·subst c
    rw[Cq] at hx
    cases hx
    have hG2:Good (setM m x .nev) (er (setM m x e) ps):=λa b ha hb=>by
     by_cases c:a∈x::ps
     ·rw[P.nevs a c] at ha
      cases ha
      exact absurd rfl hb
     ·have ca:a≠x:=λz=>c (z ▸ JS ..)
      rw[Bh ca] at ha
      rw[Gn (λz=>c (JQ _ z)),Bh ca]
      exact ha
    rcases Lg hG2 (row x) 1 with z | z | ⟨p,z,_⟩
    ·rw[<- z];exact he
    ·rw[he] at z;exact absurd z hv
    ·rw[he] at z;exact absurd z (hne p)
   ·rw[Bh c] at hx
    have hx1:x∉q::ps:=λz=>(JP.mp z).elim c hxn
    have r:=phA x y hx hx1
    by_cases hy:y=.nev
    ·subst hy
     exact gD sub r
    ·rcases Lg (m:=er m (q::ps)) (m':=er (setM m q e) ps) (λa b h _=>sub a b h) (row x) 1 with z | z | ⟨p,z,_⟩
     ·rw[<- z];exact r
     ·rw[r] at z;exact absurd z hy
     ·rw[r] at z;rw[z] at hx;exact absurd hx (P.nn x p)
end
def cnt(m:Mp)(n:Nat):Nat:=(SD n).countP λp=>(m p).isSome
theorem cQ(m:Mp)(n:Nat):cnt m n<=n:=by
 have:=List.countP_le_length (p:=λp=>(m p).isSome) (l:=SD n)
 rw[List.length_range] at this
 exact this
theorem Lf(m:Mp)(n:Nat):cnt m (n+1)=cnt m n+(if (m n).isSome then 1 else 0):=by
 unfold cnt
 rw[List.range_succ,List.countP_append,List.countP_singleton]
theorem Oi{m m':Mp}:∀ {n:Nat},(∀p,p < n->(m p).isSome=(m' p).isSome)->cnt m n=cnt m' n
 | 0,_=>rfl
 | n+1,h=>by
  rw[Lf,Lf,Oi λp hp=>h p (SA hp),h n (QC n)]
theorem gO{m:Mp}{n q:Nat}{e:Nd}(h:(m q).isSome=true):cnt (setM m q e) n=cnt m n:=Oi λp _=>by
 by_cases c:p=q
 ·subst c;rw[Cq,h];rfl
 ·rw[Bh c]
theorem Vs{m:Mp}{q:Nat}{e:Nd}(h:m q=none):∀ {n:Nat},q < n->cnt (setM m q e) n=cnt m n+1
 | 0,hl=>absurd hl (Nat.not_lt_zero _)
 | n+1,hl=>by
  rw[Lf,Lf]
  by_cases c:q=n
  ·subst c
   rw[Cq,h,Oi (m:=setM m q e) (m':=m) λp hp=>by rw[Bh (KL hp)]]
   rfl
  ·rw[Vs h (Nat.lt_of_le_of_ne (Nat.le_of_lt_succ hl) c),Bh (LH c)]
   omega
theorem Told.nil(row:Nat->List Stp)(n:Nat):Told row n λ_=>none:=⟨(λ_ _ h=>nomatch h),(λ_ _ h=>nomatch h),(λ_ _ h=>nomatch h)⟩
end Ah
namespace Bk
open PySem L2 Mg
def top(i:Nat):OQ:=PySem.Challenge.pw_elderline_k16_whole_house_ahead.main.body.getD i (.Pass ⟨0,0,0,0⟩)
abbrev Nn:OQ:=top 3
abbrev Qv:OQ:=top 4
abbrev Ik:OQ:=top 5
abbrev Iq:OQ:=top 6
abbrev Fk:OQ:=top 7
abbrev Iv:OQ:=top 8
abbrev Nz:OQ:=top 22
abbrev Zl:OQ:=top 23
abbrev Vk:OQ:=top 24
abbrev cW:OQ:=top 25
abbrev oU:OQ:=top 27
abbrev Pd:OQ:=top 28
abbrev Gi:OQ:=top 32
abbrev Fx:OQ:=top 35
abbrev Lk:OQ:=top 36
abbrev Xj:OQ:=top 37
abbrev Wd:OQ:=top 38
abbrev pY:OQ:=top 39
abbrev Ql:OQ:=top 40
abbrev Wu:OQ:=top 41
abbrev Xy:OQ:=top 43
abbrev Oo:OQ:=top 46
abbrev Oq:OQ:=top 47
abbrev Tn:OQ:=top 48
abbrev Pe:OQ:=top 53
abbrev Vx:OQ:=top 54
abbrev pC:OQ:=top 55
abbrev xY:OQ:=top 56
abbrev Oz:OQ:=top 58
abbrev lD:OQ:=top 59
abbrev Ej:OQ:=top 60
abbrev Zo:OQ:=top 61
abbrev He:OQ:=top 62
abbrev Oa:OQ:=top 63
abbrev Vl:OQ:=top 64
abbrev Zi:OQ:=top 65
abbrev cN:OQ:=top 66
abbrev Fq:OQ:=top 67
abbrev Pb:OQ:=inClass (top 18) 0
abbrev bD:OQ:=inClass (top 50) 0
abbrev cX:OQ:=inClass (top 51) 0
abbrev Ii:OQ:=inClass (top 51) 1
abbrev Zm:OQ:=inClass (top 51) 3
abbrev yZ:OQ:=inClass (top 51) 6
abbrev Zh:OQ:=inClass (top 51) 7
abbrev pD:OQ:=inClass (top 51) 9
abbrev aY:OQ:=inClass (top 51) 10
abbrev Zy:OQ:=inClass (top 30) 0
abbrev Zc:OQ:=inClass (top 30) 1
abbrev mU:OQ:=inClass (top 30) 2
abbrev cC:OQ:=inClass (top 33) 0
abbrev Qf:OQ:=inClass (top 33) 1
abbrev Ll:OQ:=inClass (top 33) 2
abbrev Oh:OQ:=inClass (top 33) 3
abbrev Pc:OQ:=inClass (top 33) 4
structure Txt(mg:Str->Option JD):Prop where
 len:mg "len" = none
 zip:mg "zip" = none
 enum:mg "enumerate" = none
 any:mg "any" = none
 range:mg "range" = none
 isi:mg "isinstance" = none
 list:mg "list" = none
 str:mg "str" = none
 all:mg "all" = none
 rev:mg "reversed" = none
 set:mg "set" = none
 tup:mg "tuple" = none
 int:mg "int" = none
 bool:mg "bool" = none
 vErr:mg "ValueError" = none
def Az(r:List Str):List V:=r.map V.str
theorem Av(r:List Str):(Az r).length=r.length:=JF _
theorem Ic{r:List Str}{i:Nat}{v:V}(h:(Az r)[i]? = some v):∃x,r[i]? = some x/\v=.str x:=by
 unfold Az at h
 rw[KJ] at h
 cases e:r[i]? with
 | none=>rw[e] at h;cases h
 | some x=>rw[e] at h;exact⟨x,rfl,(KW h).symm⟩
theorem Mm{r:List Str}{i:Nat}{x:Str}(h:r[i]? = some x):(Az r)[i]? = some (.str x):=by
 unfold Az
 rw[KJ,h]<;>rfl
structure Cz(H:Hp)(ra:JK)(as:List JK)(rows:List (List Str)):Prop where
 lst:H ra=some (.lst (as.map V.ref))
 len:as.length=rows.length
 row:∀(i:Nat)(a:JK)(r:List Str),as[i]? = some a->rows[i]? = some r->H a=some (.lst (Az r))
theorem Cz.same{H H':Hp}{ra:JK}{as:List JK}{rows:List (List Str)}(R:Cz H ra as rows)(h:Am H H'):Cz H' ra as rows:=⟨h _ _ R.lst,R.len,λi a r h1 h2=>h _ _ (R.row i a r h1 h2)⟩
theorem Ea{as:List JK}{i:Nat}{v:V}(h:(as.map V.ref)[i]? = some v):∃a,as[i]? = some a/\v=.ref a:=by
 rw[KJ] at h
 cases e:as[i]? with
 | none=>rw[e] at h;cases h
 | some x=>rw[e] at h;exact⟨x,rfl,(KW h).symm⟩
theorem Cz.get{H:Hp}{ra:JK}{as:List JK}{rows:List (List Str)}(R:Cz H ra as rows){i:Nat}{a:JK}(h:as[i]? = some a):∃r,rows[i]? = some r/\H a=some (.lst (Az r)):=by
 have hi:i < rows.length:=by rw[<- R.len];exact(JB.mp h).1
 exact⟨rows[i],JG hi,R.row i a _ h (JG hi)⟩
def Je(st:List Nat):List V:=st.map λn:Nat=>V.int (n:Int)
theorem Hg(st:List Nat):(Je st).length=st.length:=JF _
theorem Ts{st:List Nat}{i:Nat}{v:V}(h:(Je st)[i]? = some v):∃n:Nat,st[i]? = some n/\v=.int n:=by
 unfold Je at h
 rw[KJ] at h
 cases e:st[i]? with
 | none=>rw[e] at h;cases h
 | some x=>rw[e] at h;exact⟨x,rfl,(KW h).symm⟩
theorem qM{st:List Nat}{i n:Nat}(h:st[i]? = some n):(Je st)[i]? = some (.int n):=by
 unfold Je
 rw[KJ,h]<;>rfl
def Yw(kvs:List (Key×V))(f:Str->Nat):Prop:=∀x:Str,(valV kvs (KD x:Key)).getD (V.int 0)=V.int (f x)
theorem Yw.put{kvs:List (Key×V)}{f g:Str->Nat}{x:Str}{n:Int}(h:Yw kvs f)(hx:n=(g x:Int))(hg:∀y,¬ y=x->g y=f y):Yw (putK kvs (KD x:Key) (.int n)) g:=λy=>by
 rw[Fp]
 by_cases e:y=x
 ·subst e
  rw[if_pos rfl,hx]
  all_goals rfl
 ·rw[if_neg (λz:(KD y:Key)=KD x=>e (KD.inj z)),h y,hg y e]
theorem Yw.pos{kvs:List (Key×V)}{f:Str->Nat}{x:Str}(h:Yw kvs f)(hx:0 < f x):valV kvs (KD x:Key)=some (.int (f x)):=by
 have q:=h x
 cases e:valV kvs (KD x:Key) with
 | none=>
  rw[e] at q
  have q':(0:Int)=(f x:Int):=V.int.inj q
  omega
 | some v=>
  rw[e] at q
  exact congrArg some q
theorem Ub{kvs:List (Key×V)}{k:Key}{u v:V}(h:valV kvs k=some u):(putK kvs k v).length=kvs.length:=by
 unfold putK
 rw[Ey,h,if_pos (show (some u).isSome=true from rfl),JF]
theorem Ag{H:Hp}{p:JK}(h:H p=none)(o:HO):Am H (upd H p o):=λb u q=>by rw[Aj (Ai q h)];exact q
theorem lay{H:Hp}{l:JK}(h:H l=none)(o:HO):∃H',upd H l o=H'/\Am H H'/\H' l=some o:=⟨_,rfl,Ag h o,Aa⟩
theorem yV(xs:List V):Ga xs (some 1) none=xs.tail:=by
 unfold Ga
 rw[HT.sIx_none]
 have e:HT.sIx xs.length 0 (some 1)=min 1 xs.length:=HT.sIx_nat xs.length 0 1
 rw[e]
 cases xs with
 | nil=>rfl
 | cons x r=>
  have e2:min 1 (x::r).length=1:=by rw[LN];omega
  rw[e2]
  simp
theorem Nw(xs:List V)(n:Nat)(h:n<=xs.length):Ga xs (some (n:Int)) none=xs.drop n:=by
 unfold Ga
 rw[HT.sIx_none,HT.sIx_nat,Nat.min_eq_left h]
 rw[LJ (by rw[MR];omega)]
def Qd:Sp:=λvs H Q _=>∃(ra:JK)(as:List JK)(rows:List (List Str)),vs=[.ref ra]/\Cz H ra as rows/\Fe rows<=1000000 /\
 ∀(d:JK)(kvs:List (Key×V))(H':Hp),H d=none->Am H H'->H' d=some (.dK kvs)->Yw kvs (cnt rows)->kvs.length<=Fe rows->Q (.ref d) H'
structure StAt(H:Hp)(rows:List (List Str))(sa ba:JK)(st:List Nat)(kvs:List (Key×V)):Prop where
 lst:H sa=some (.lst (Je st))
 len:st.length=rows.length
 dic:H ba=some (.dK kvs)
def Xd:Option Str->V
 | some x=>.str x
 | none=>.non
def aI:Sp:=λvs H Q _=>∃(ra sa ba:JK)(as:List JK)(rows:List (List Str))(st:List Nat)(kvs:List (Key×V))(g:Str->Nat),vs=[.ref ra,.ref sa,.ref ba]/\Cz H ra as rows/\StAt H rows sa ba st kvs/\Yw kvs g /\
 ∀H',Am H H'->Q (Xd (pick g (rests rows st))) H'
def Zu:Sp:=λvs H Q _=>∃(x:Str)(ra sa ba:JK)(as:List JK)(rows:List (List Str))(st:List Nat)(kvs:List (Key×V)),vs=[.str x,.ref ra,.ref sa,.ref ba]/\Cz H ra as rows/\StAt H rows sa ba st kvs /\
 (∀(i:Nat)(r:List Str)(n:Nat),rows[i]? = some r->st[i]? = some n->n<=r.length)/\Yw kvs (cnt (rests rows st))/\kvs.length<=1000000/\sa≠ra/\(∀a∈as,a≠sa) /\
 ∀(st':List Nat)(kvs':List (Key×V))(H':Hp),StAt H' rows sa ba st' kvs'->rests rows st'=(rests rows st).map (Cw x)->(∀(i:Nat)(r:List Str)(n:Nat),rows[i]? = some r->st'[i]? = some n->n<=r.length) ->
  Yw kvs' (cnt (rests rows st'))->kvs'.length=kvs.length->(∀b o,H b=some o->b≠sa->b≠ba->H' b=some o)->Q .non H'
section
variable {P:KC} {w:LL} {K:JC} {mg:Str->Option JD} {base:MQ} {f:JK} {fd:LB}
theorem Lw:An ["rows","behind","row","name"] ["rows"] (Ad Lk):=Ez (by decide +kernel)
theorem Ru(F:Dj K "counts_behind" "counts_behind" Lk f fd)(T:Txt mg):Al P w K mg base Bi 1 f fd ["rows"] Qd:=by
 refine F.ok Lw (λvs H Q E h=>?_) (λcdv A outer s H vs Q E hr h=>?_)
 ·obtain⟨ra,as,rows,rfl,_⟩:=h
  rfl
 obtain⟨ra,as,rows,rfl,R,ht,q⟩:=h
 have hu:=Fm hr
 refine⟨_,Ac (Bv 1 Lw.nd Hn)
  (Ac (Eg MJ rfl (Dk (pv 0)) (Dg 2 Lw.nd)
   (Af (Eg MJ rfl (Dk (Cj El (pv 2) (Cy Ae) Dx)) (Dg 3 Lw.nd)
    (Af (Gc hu (pv 1) (pv 3) (Aq Cm (Jh hu (pv 1) (pv 3) Ae ⟨rfl,rfl,rfl,rfl⟩) Ae) rfl)))))
  (Af (Ao (pv 1)))),?_⟩
 intro d hd
 have s0:Am H (upd H d (.dK [])):=Ag hd _
 refine⟨_,rfl,ra,rfl,⟨_,Aw.of (s0 _ _ R.lst)⟩,Fo (K:=K) (a:=ra) (xs:=as.map V.ref) (λi σ H2=>∃(kvs:List (Key×V))(v3 v4:Option V),σ=[some (.ref ra),some (.ref d),v3,v4]/\Am H H2/\H2 d=some (.dK kvs)/\Yw kvs (cnt (rows.take i))/\kvs.length<=Fe (rows.take i))
  ⟨[],none,none,rfl,s0,Aa,λx=>rfl,LG _⟩ (λi σ H2 _ ⟨_,_,_,_,s2,_⟩=>Aw.of (s2 _ _ R.lst)) ?_ ?_⟩
 ·rintro i y σ H2 hi ⟨kvs,v3,v4,rfl,s2,hd2,B,hl⟩
  obtain⟨a,ha,rfl⟩:=Ea hi
  obtain⟨r,hr',er⟩:=R.get ha
  refine⟨_,rfl,_,rfl,a,_,rfl,Aw.of (s2 _ _ er),λp hp=>?_⟩
  rw[yV]
  have npd:p≠d:=λe=>by rw[e] at hp;rw[hd2] at hp;cases hp
  refine⟨p,rfl,⟨_,Aw.of Aa⟩,Fo (K:=K) (a:=p) (xs:=(Az r).tail) (λj σ H3=>∃(kvs:List (Key×V))(v4:Option V),σ=[some (.ref ra),some (.ref d),some (.ref a),v4]/\Am H H3/\H3 p=some (.lst (Az r).tail)/\H3 d=some (.dK kvs)/\Yw kvs (λx=>cnt (rows.take i) x+(r.tail.take j).count x)/\kvs.length<=Fe (rows.take i)+j)
   ⟨kvs,v4,rfl,s2.trans (Ag hp _),Aa,by rw[Aj (LH npd)];exact hd2,λx=>by rw[B x];simp,Nat.le_add_right_of_le hl⟩ (λj σ H3 _ ⟨_,_,_,_,e,_⟩=>Aw.of e) ?_ ?_⟩
  ·rintro j y σ H3 hj ⟨kvs,v4,rfl,s3,ep,ed,B,hl⟩
   have hj':(Az r.tail)[j]? = some y:=by
    unfold Az at hj ⊢
    rw[List.map_tail]
    exact hj
   obtain⟨x,hx,rfl⟩:=Ic hj'
   refine⟨_,rfl,d,rfl,.inl ⟨kvs,.inl ed⟩,_,rfl,_,Er.k (k:=KD x) ed,_,_,B x,rfl,_,rfl,_,rfl,d,_,rfl,Kv.k (k:=KD x) ed (QL hl ?_),?_⟩
   ·have h1:=Xb rows (i+1)
    rw[Ki hr'] at h1
    have h2:j < r.tail.length:=(JB.mp hx).1
    rw[List.length_tail] at h2
    rw[KO]
    omega
   ·refine⟨_,_,rfl,λb o e=>?_,by rw[Aj npd];exact ep,Aa,B.put ?_ λz hz=>?_,KS (Dm _ _ _) (by omega)⟩
    ·rw[Aj (Ai e hd)];exact s3 b o e
    ·show ((cnt (rows.take i) x+(r.tail.take j).count x:Nat):Int)+1=((cnt (rows.take i) x+(r.tail.take (j+1)).count x:Nat):Int)
     rw[Jc hx,if_pos rfl]
     omega
    ·show cnt (rows.take i) z+(r.tail.take (j+1)).count z=cnt (rows.take i) z+(r.tail.take j).count z
     rw[Jc hx,if_neg hz]
     omega
  ·rintro σ H3 ⟨kvs,v4,rfl,s3,ep,ed,B,hl⟩
   have hlen:(Az r).tail.length=r.tail.length:=by unfold Az;rw[<- List.map_tail,JF]
   rw[hlen] at B hl
   refine⟨kvs,_,_,rfl,s3,ed,λx=>?_,?_⟩
   ·rw[B x,Rl hr',LJ (JI _)]
   ·rw[Ki hr']
    rw[List.length_tail] at hl
    omega
 ·rintro σ H2 ⟨kvs,v3,v4,rfl,s2,hd2,B,hl⟩
  have hlen:(as.map V.ref).length=rows.length:=by rw[JF,R.len]
  rw[hlen,LJ (JI _)] at B hl
  exact⟨_,rfl,q d kvs H2 hd s2 hd2 B hl⟩
end
theorem Va{r:List Str}{n:Nat}(h:n < r.length):Jb (Az r) (n:Int)=some (.str r[n]):=Bc (Mm (JG h))
section
variable {P:KC} {w:LL} {K:JC} {mg:Str->Option JD} {base:MQ} {f:JK} {fd:LB}
theorem Zz:An ["rows","starts","behind","row","start"] ["rows","starts","behind"] (Ad Xj):=Ez (by decide +kernel)
theorem eG(F:Dj K "free_name" "free_name" Xj f fd)(T:Txt mg):Al P w K mg base Bi 1 f fd ["rows","starts","behind"] aI:=by
 refine F.ok Zz (λvs H Q E h=>?_) (λcdv A outer s H vs Q E hr h=>?_)
 ·obtain⟨ra,sa,ba,as,rows,st,kvs,g,rfl,_⟩:=h
  rfl
 obtain⟨ra,sa,ba,as,rows,st,kvs,g,rfl,R,S,B,q⟩:=h
 have hu:=Fm hr
 refine⟨_,Ac (Eg MJ rfl (Ui rfl T.zip (Em (pv 0) (pv 1))) (Ji rfl (Ce (Dg 3 Zz.nd) (Ce (Dg 4 Zz.nd) Hf)))
  (Af (Ay (PW.pt (Qn (Ar Qx (pv 4) (Bw T.len (pv 3)) (Au _)) (Lc (Ar Cc (Jh hu (pv 2) (As Bj (pv 3) (pv 4) (λ_ _=>rfl)) Ae ⟨rfl,rfl,rfl,rfl⟩) Ae (Au _)))))
   (Af (Ao (As Bj (pv 3) (pv 4) (λ_ _=>rfl)))) Ap)))
  (Af (Ao lM)),?_⟩
 refine⟨_,rfl,_,rfl,ra,sa,rfl,⟨_,Aw.of R.lst⟩,⟨_,Aw.of S.lst⟩,tM (K:=K) (a:=ra) (b:=sa) (xs:=as.map V.ref) (ys:=Je st) (by rw[JF,Hg,S.len,R.len])
  (λi σ H2=>∃v3 v4:Option V,σ=[some (.ref ra),some (.ref sa),some (.ref ba),v3,v4]/\Am H H2/\pick g (rests rows st)=pick g ((rests rows st).drop i)) ⟨none,none,rfl,Am.refl _,rfl⟩
  (λi σ H2 _ ⟨_,_,_,s2,_⟩=>⟨Aw.of (s2 _ _ R.lst),Aw.of (s2 _ _ S.lst)⟩) ?_ ?_⟩
 ·rintro i x y σ H2 Tp hx hy ⟨v3,v4,rfl,s2,hp⟩ hT
  obtain⟨a,ha,rfl⟩:=Ea hx
  obtain⟨n,hn,rfl⟩:=Ts hy
  obtain⟨r,hr',er⟩:=R.get ha
  have s3:Am H (upd H2 Tp (.tup [.ref a,.int n])):=s2.trans (Ag hT _)
  have hrs:=Gg hr' hn
  refine⟨Tp,_,rfl,Co.of Aa,rfl,_,_,rfl,_,_,rfl,rfl,?_⟩
  refine⟨_,rfl,_,rfl,a,_,rfl,.inl (Aw.of (s3 _ _ er)),_,_,rfl,rfl,_,rfl,?_⟩
  refine Br (λc=>?_) (λc=>?_)
  ·have c':(n:Int) < ((Az r).length:Int):=of_decide_eq_true c
   rw[Av] at c'
   have c2:n < r.length:=by omega
   refine⟨_,rfl,ba,rfl,.inl ⟨kvs,.inl (s3 _ _ S.dic)⟩,_,rfl,_,rfl,a,_,_,_,rfl,rfl,Aw.of (s3 _ _ er),Va c2,_,Er.k (k:=KD r[n]) (s3 _ _ S.dic),?_⟩
   rw[B r[n]]
   refine⟨rfl,_,rfl,?_⟩
   have hd:pick g ((rests rows st).drop i)=if g r[n]=0 then some r[n] else pick g ((rests rows st).drop (i+1)):=by
    rw[Gx c2] at hrs
    exact cE hrs
   refine Br (λc3=>?_) (λc3=>?_)
   ·have c4:V.int (g r[n]:Int)=V.int 0:=of_decide_eq_true c3
    have c5:g r[n]=0:=by
     have:=V.int.inj c4
     omega
    refine⟨_,rfl,_,rfl,a,_,_,_,rfl,rfl,Aw.of (s3 _ _ er),Va c2,?_⟩
    have qq:=q _ s3
    rw[hp,hd,if_pos c5] at qq
    exact qq
   ·have c4:¬ V.int (g r[n]:Int)=V.int 0:=of_decide_eq_false (NG.mpr c3)
    have c5:¬ g r[n]=0:=λz=>c4 (by rw[z]<;>rfl)
    rw[if_neg c5] at hd
    exact⟨_,_,rfl,s3,hp.trans hd⟩
  ·have c':¬ (n:Int) < ((Az r).length:Int):=of_decide_eq_false (NG.mpr c)
   rw[Av] at c'
   refine Eb ?_
   have hd:pick g ((rests rows st).drop i)=pick g ((rests rows st).drop (i+1)):=by
    rw[NX (by omega)] at hrs
    exact aJ hrs
   exact⟨_,_,rfl,s3,hp.trans hd⟩
 ·rintro σ H2 ⟨v3,v4,rfl,s2,hp⟩
  have qq:=q H2 s2
  rw[hp,NX (by rw[Ih S.len,JF,R.len];exact JI _)] at qq
  exact qq
theorem Uv:An ["name","rows","starts","behind","index","row","start"] ["name","rows","starts","behind"] (Ad Wd):=Ez (by decide +kernel)
theorem gA(F:Dj K "take_out" "take_out" Wd f fd)(T:Txt mg):Al P w K mg base Bi 1 f fd ["name","rows","starts","behind"] Zu:=by
 refine F.ok Uv (λvs H Q E h=>?_) (λcdv A outer s H vs Q E hr h=>?_)
 ·obtain⟨x,ra,sa,ba,as,rows,st,kvs,rfl,_⟩:=h
  rfl
 obtain⟨x,ra,sa,ba,as,rows,st,kvs,rfl,R,S,hb,B,hk,nsr,nsa,q⟩:=h
 have hu:=Fm hr
 refine⟨_,Af (Eg MJ rfl (vT rfl T.enum (Du (pv 1))) (Ji rfl (Ce (Dg 4 Uv.nd) (Ce (Dg 5 Uv.nd) Hf)))
  (Ac (Bv 6 Uv.nd (As Bj (pv 2) (pv 4) (λ_ _=>rfl)))
  (Af (Ay (PW.pt (Qn (Ar Qx (pv 6) (Bw T.len (pv 5)) (Au _)) (Lc (Ar Cc (As Bj (pv 5) (pv 6) (λ_ _=>rfl)) (pv 0) (Au _)))))
   (Ac (xZ (Aq Cm (pv 6) Ae) (AE (pv 2) (pv 4) set_list))
   (Af (Ay (Ar Qx (Aq Cm (pv 6) Ae) (Bw T.len (pv 5)) (Au _))
    (Af (Gc hu (pv 3) (As Bj (pv 5) (Aq Cm (pv 6) Ae) (λ_ _=>rfl)) (Aq Jg (Io hu (pv 3) (As Bj (pv 5) (Aq Cm (pv 6) Ae) (λ_ _=>rfl)) (λ_ _=>rfl)) Ae) rfl)) Ap))) Ap)))),?_⟩
 have hba:ba≠sa:=Cd S.dic S.lst (by intro z;cases z)
 have hra:ra≠ba:=Cd R.lst S.dic (by intro z;cases z)
 have naa:∀(i:Nat)(a:JK),as[i]? = some a->a≠sa/\a≠ba:=λi a ha=>⟨nsa a (JY ha),by
  obtain⟨r,_,er⟩:=R.get ha
  exact Cd er S.dic (by intro z;cases z)⟩
 refine⟨_,rfl,ra,rfl,⟨_,Aw.of R.lst⟩,qY (K:=K) (a:=ra) (xs:=as.map V.ref)
  (λi σ H2=>∃(v4 v5 v6:Option V)(st2:List Nat)(kvs2:List (Key×V)),σ=[some (.str x),some (.ref ra),some (.ref sa),some (.ref ba),v4,v5,v6]/\(∀b o,H b=some o->b≠sa->b≠ba->H2 b=some o)/\StAt H2 rows sa ba st2 kvs2 /\
   rests rows st2=half x (rests rows st) i/\(∀(j:Nat)(r:List Str)(n:Nat),rows[j]? = some r->st2[j]? = some n->n<=r.length)/\Yw kvs2 (cnt (rests rows st2))/\kvs2.length=kvs.length/\∀j,i<=j->st2[j]? = st[j]?)
  ⟨none,none,none,st,kvs,rfl,λb o e _ _=>e,S,(jF _ _).symm,hb,B,rfl,λ_ _=>rfl⟩
  (λi σ H2 _ ⟨_,_,_,_,_,_,k,_⟩=>Aw.of (k _ _ R.lst (LH nsr) hra)) ?_ ?_⟩
 ·rintro i y σ H2 Tp hx ⟨v4,v5,v6,st2,kvs2,rfl,k2,S2,h2,hb2,B2,hl2,hst⟩ hT
  obtain⟨a,ha,rfl⟩:=Ea hx
  obtain⟨r,hr',er⟩:=R.get ha
  obtain⟨na1,na2⟩:=naa i a ha
  have hi:i < st2.length:=by rw[S2.len];exact(JB.mp hr').1
  obtain⟨n,hn⟩:∃n,st2[i]? = some n:=⟨st2[i],JG hi⟩
  have hn0:st[i]? = some n:=by rw[<- hst i (JI _)];exact hn
  have hle:n<=r.length:=hb2 i r n hr' hn
  have hrs:=Gg hr' hn0
  have hrs2:=Gg hr' hn
  have eT:∀b o,H2 b=some o->(upd H2 Tp (.tup [.int i,.ref a])) b=some o:=λb o e=>Ag hT _ b o e
  have ea:(upd H2 Tp (.tup [.int i,.ref a])) a=some (.lst (Az r)):=eT _ _ (k2 _ _ er na1 na2)
  have es:(upd H2 Tp (.tup [.int i,.ref a])) sa=some (.lst (Je st2)):=eT _ _ S2.lst
  have ed:(upd H2 Tp (.tup [.int i,.ref a])) ba=some (.dK kvs2):=eT _ _ S2.dic
  have k3:∀b o,H b=some o->b≠sa->b≠ba->(upd H2 Tp (.tup [.int i,.ref a])) b=some o:=λb o e n1 n2=>eT _ _ (k2 b o e n1 n2)
  have hil:jW (Je st2).length (i:Int)=some i:=by
   unfold jW
   rw[Hg,if_pos (by omega),if_pos (by omega)]
   simp
  refine⟨Tp,_,rfl,Co.of Aa,rfl,_,_,rfl,_,_,rfl,rfl,?_⟩
  refine⟨_,rfl,_,rfl,sa,_,_,_,rfl,rfl,Aw.of es,Bc (qM hn),?_⟩
  refine⟨_,rfl,_,rfl,a,_,rfl,.inl (Aw.of ea),_,_,rfl,rfl,_,rfl,?_⟩
  have stay:Cw x (r.drop n)=r.drop n->StAt (upd H2 Tp (.tup [.int i,.ref a])) rows sa ba st2 kvs2/\rests rows st2=half x (rests rows st) (i+1):=λe=>⟨⟨es,S2.len,ed⟩,by rw[h2,kG hrs e]⟩
  refine Br (λc=>?_) (λc=>?_)
  ·have c':(n:Int) < ((Az r).length:Int):=of_decide_eq_true c
   rw[Av] at c'
   have c2:n < r.length:=by omega
   refine⟨_,rfl,_,rfl,a,_,_,_,rfl,rfl,Aw.of ea,Va c2,_,rfl,rfl,_,rfl,?_⟩
   refine Br (λc3=>?_) (λc3=>?_)
   ·have c4:V.str r[n]=V.str x:=of_decide_eq_true c3
    have c5:r[n]=x:=V.str.inj c4
    have hdr:Cw x (r.drop n)=r.drop (n+1):=by rw[Gx c2,c5,Ij]
    -- starts[index]=start+1
    refine⟨_,rfl,_,_,rfl,rfl,_,rfl,_,rfl,sa,_,_,_,rfl,rfl,es,hil,?_⟩
    have e1:(Je st2).set i (.int ((n:Int)+1))=Je (st2.set i (n+1)):=by
     unfold Je
     rw[List.map_set]
     rfl
    rw[e1]
    have hnew:rests rows (st2.set i (n+1))=half x (rests rows st) (i+1):=by
     rw[iV hr' hi,h2,<- hdr,lK hrs]
    have eT4:∀b o,b≠sa->(upd H2 Tp (.tup [.int i,.ref a])) b=some o->(upd (upd H2 Tp (.tup [.int i,.ref a])) sa (.lst (Je (st2.set i (n+1))))) b=some o:=λb o hne e=>by rw[Aj hne];exact e
    have hb3:∀(j:Nat)(r':List Str)(m:Nat),rows[j]? = some r'->(st2.set i (n+1))[j]? = some m->m<=r'.length:=λj r' m h1 h3=>by
     by_cases hj:i=j
     ·subst hj
      rw[NW hi] at h3
      cases h3
      rw[hr'] at h1
      cases h1
      omega
     ·rw[NJ hj] at h3
      exact hb2 j r' m h1 h3
    have hst3:∀j,i+1<=j->(st2.set i (n+1))[j]? = st[j]?:=λj hj=>by rw[NJ (by omega)];exact hst j (by omega)
    have hc:=rE (x:=x) hrs
    rw[hdr] at hc
    refine⟨_,rfl,_,_,rfl,rfl,_,rfl,a,_,rfl,.inl (Aw.of (eT4 _ _ na1 ea)),_,_,rfl,rfl,_,rfl,?_⟩
    refine Br (λc6=>?_) (λc6=>?_)
    ·have c7:(n:Int)+1 < ((Az r).length:Int):=of_decide_eq_true c6
     rw[Av] at c7
     have c8:n+1 < r.length:=by omega
     have e2:((n:Int)+1)=((n+1:Nat):Int):=by omega
     have hat:Jb (Az r) ((n:Int)+1)=some (.str r[n+1]):=by rw[e2];exact Va c8
     have ht1:(r.drop n).tail=r[n+1]::r.drop (n+2):=by rw[Gx c2,List.tail_cons,Gx c8]
     have ht2:(r.drop (n+1)).tail=r.drop (n+2):=by rw[Gx c8,List.tail_cons]
     rw[ht1,ht2] at hc
     have hpos:0 < cnt (rests rows st2) r[n+1]:=by
      have:=hc r[n+1]
      rw[List.count_cons_self] at this
      rw[h2]
      omega
     have hv:=B2.pos hpos
     refine⟨_,rfl,_,rfl,_,rfl,_,_,rfl,rfl,a,_,_,_,rfl,rfl,Aw.of (eT4 _ _ na1 ea),hat,ba,.int (cnt (rests rows st2) r[n+1]),rfl,?_,_,_,rfl,rfl,_,rfl,_,rfl,_,rfl,_,_,rfl,rfl,a,_,_,_,rfl,rfl,Aw.of (eT4 _ _ na1 ea),hat,ba,_,rfl,Kv.k (k:=KD r[n+1]) (eT4 _ _ hba ed) (by rw[hl2,KO];omega),?_⟩
     ·exact hv ▸ Er.k (k:=KD r[n+1]) (eT4 _ _ hba ed)
     ·refine⟨_,_,_,st2.set i (n+1),_,rfl,λb o e n1 n2=>by rw[Aj n2];exact eT4 _ _ n1 (k3 b o e n1 n2),⟨by rw[Aj (LH hba),Aa],by rw[List.length_set];exact S2.len,Aa⟩,hnew,hb3,B2.put ?_ λz hz=>?_,(Ub hv).trans hl2,hst3⟩
      ·have:=hc r[n+1]
       rw[List.count_cons_self] at this
       rw[hnew,h2]
       omega
      ·have:=hc z
       rw[List.count_cons_of_ne (λe=>hz e.symm)] at this
       rw[hnew,h2]
       omega
    ·have c7:¬ (n:Int)+1 < ((Az r).length:Int):=of_decide_eq_false (NG.mpr c6)
     rw[Av] at c7
     have hd0:r.drop (n+1)=[]:=NX (by omega)
     have ht1:(r.drop n).tail=[]:=by rw[Gx c2,List.tail_cons,hd0]
     rw[ht1,hd0] at hc
     refine⟨_,_,_,st2.set i (n+1),kvs2,rfl,λb o e n1 n2=>eT4 _ _ n1 (k3 b o e n1 n2),⟨Aa,by rw[List.length_set];exact S2.len,eT4 _ _ hba ed⟩,hnew,hb3,λz=>?_,hl2,hst3⟩
     rw[B2 z,hnew,h2]
     have:=hc z
     simp only[List.tail_nil,List.count_nil,Nat.add_zero] at this
     rw[this]
   ·have c4:¬ V.str r[n]=V.str x:=of_decide_eq_false (NG.mpr c3)
    have c5:¬ r[n]=x:=λz=>c4 (by rw[z])
    obtain⟨z1,z2⟩:=stay (by rw[Gx c2,Fa,if_neg c5])
    exact⟨_,_,_,st2,kvs2,rfl,k3,z1,z2,hb2,B2,hl2,λj hj=>hst j (by omega)⟩
  ·have c':¬ (n:Int) < ((Az r).length:Int):=of_decide_eq_false (NG.mpr c)
   rw[Av] at c'
   refine Eb ?_
   obtain⟨z1,z2⟩:=stay (by rw[NX (by omega)]<;>rfl)
   exact⟨_,_,_,st2,kvs2,rfl,k3,z1,z2,hb2,B2,hl2,λj hj=>hst j (by omega)⟩
 ·rintro σ H2 ⟨v4,v5,v6,st2,kvs2,rfl,k2,S2,h2,hb2,B2,hl2,hst⟩
  rw[lS _ _ (by rw[Ih S.len,JF,R.len];exact JI _)] at h2
  exact q st2 kvs2 H2 S2 h2 hb2 B2 hl2 k2
end
end Bk
namespace Bk
open PySem L2 Mg Nm
def Mx(K:JC):Sp:=λvs H Q _=>∃(a:JK)(ns:List Int)(k:Nat),vs=[.ref a,.int (k:Int)]/\Aw K H a (ns.map V.int)/\Q (.int (ns.getD k 0)) H
def Qi:Sp:=λvs H Q _=>∃k c:Int,vs=[.int k,.int c]/\Q (.str (Fw k c)) H
theorem Sk{i:Int}(h0:0<=i)(h1:i < 26):Jb Ek.cps.toList i=some (97+i.toNat):=by
 obtain⟨n,rfl⟩:=NF h0
 refine Bc ?_
 rw[Ng,KJ,List.getElem?_range (by omega)]
 simp
theorem sl52:(52:Nat)<=JM:=by rw[KO];decide
section
variable {P:KC} {w:LL} {K:JC} {mg:Str->Option JD} {base:MQ} {f:JK} {fd:LB}
theorem zS:An ["_law_script","_law_k"] ["_law_script","_law_k"] (Ad Oz):=Ez (by decide +kernel)
theorem sK(F:Dj K "_law_cell_at" "_law_cell_at" Oz f fd)(T:Txt mg):Al P w K mg base Bi 1 f fd ["_law_script","_law_k"] (Mx K):=by
 refine F.ok zS (λvs H Q E h=>?_) (λcdv A outer s H vs Q E hr h=>?_)
 ·obtain⟨a,ns,k,rfl,_⟩:=h
  rfl
 obtain⟨a,ns,k,rfl,S,q⟩:=h
 refine⟨_,Ac (Ay (Ar Qx (pv 1) (Bw T.len (pv 0)) (Au _)) (Af (Ao (As Bj (pv 0) (pv 1) (λ_ _=>rfl)))) Ap) (Af (Ao Ae)),?_⟩
 refine⟨_,rfl,_,rfl,a,_,rfl,.inl S,_,_,rfl,rfl,_,rfl,?_⟩
 refine Br (λc=>?_) (λc=>?_)
 ·have c':(k:Int) < ((ns.map V.int).length:Int):=of_decide_eq_true c
  rw[JF] at c'
  have c2:k < ns.length:=by omega
  refine⟨_,rfl,_,rfl,a,_,_,_,rfl,rfl,S,Bc (v:=.int ns[k]) (by rw[KJ,JG c2]<;>rfl),?_⟩
  have e:ns.getD k 0=ns[k]:=by rw[LF,JG c2];rfl
  rw[e] at q
  exact q
 ·have c':¬ (k:Int) < ((ns.map V.int).length:Int):=of_decide_eq_false (NG.mpr c)
  rw[JF] at c'
  have e:ns.getD k 0=0:=by rw[LF,List.getElem?_eq_none (by omega)];rfl
  rw[e] at q
  exact q
theorem Hw(K:JC)(n:String):QG K (.type n) (.type n)=some true:=by
 unfold QG
 exact if_pos (by simp)
end
def Gb(x:Str):Bool:=decide (1<=x.length) && decide (x.length<=20) && x.cps.toList.all λc=>decide (97<=c) && decide (c<=122)
theorem Tv{x:Str}(h:jS x):Gb x=true:=by
 obtain⟨h1,h2,h3⟩:=h
 unfold Gb
 rw[decide_eq_true h1,decide_eq_true h2,RQ,RQ,QE]
 intro c hc
 obtain⟨a,b⟩:=h3 c hc
 rw[decide_eq_true a,decide_eq_true b]
 rfl
def PV(v:V):Prop:=(∃i,v=.int i) ∨ ∃x,v=.str x/\x.length<=JM
def DI:V->Bool
 | .str x=>Gb x
 | _=>false
def Gk:Sp:=λvs H Q _=>∃v:V,vs=[v]/\PV v/\∀H',Am H H'->Q (.bl (DI v)) H'
theorem Im{K:JC}{H:Hp}:∀ks:List Bool,Xh K H (ks.map V.bl) ks
 | []=>.nil
 | k::ks=>.cons rfl (Im ks)
section
variable {P:KC} {w:LL} {K:JC} {mg:Str->Option JD} {base:MQ} {f fM fC fF fT:JK} {fd dM dC dF dT:LB}
theorem HR:(["sign"]:List Str).Nodup:=by decide +kernel
theorem pJ:An ["value"] ["value"] (Ad Nz):=Ez (by decide +kernel)
theorem Sd(F:Dj K "is_name" "is_name" Nz f fd)(T:Txt mg):Al P w K mg base Bi 1 f fd ["value"] Gk:=by
 refine F.ok pJ (λvs H Q E h=>?_) (λcdv A outer s H vs Q E hr h=>?_)
 ·obtain⟨v,rfl,_⟩:=h
  rfl
 obtain⟨v,rfl,hv,q⟩:=h
 refine⟨_,Af (Ao (Kp (Bz Eo rfl T.isi MW (Em (pv 0) (Ib (v:=.ty "str") rfl T.str PyProof.Rows.boot_str rfl)))
  (Kp (Pm Pl Pl Ae (Bz Lr rfl T.len PySem.boot_len (Du (pv 0))) Ae)
  (Vi (Bz (Pq rfl) rfl T.all Mt (Du (Hh (Ad Nz) ["value"] ["sign"] [] rfl (AW (pv 0)) (Bm (i:=0) (by decide)) (λ_ _ _ _ _ _=>⟨Dg 0 HR,Ds,
   Pm Td Td Ba (pv 0) Ba⟩)))))))),?_⟩
 rcases hv with ⟨i,rfl⟩ | ⟨x,rfl,hx⟩
 ·exact⟨_,rfl,_,_,_,_,rfl,.int _,(show QG K (.type "int") (.type "str")=some false from rfl),_,rfl,Eb (q _ (Am.refl _))⟩
 replace q:∀H',Am H H'->Q (.bl (Gb x)) H':=q
 refine⟨_,rfl,_,_,_,_,rfl,.str _,Hw K "str", _,rfl,Ju ?_⟩
 refine⟨_,rfl,x,rfl,hx,_,_,rfl,rfl,_,rfl,Br (λc1=>?_) (λc1=>?_)⟩
 rotate_left
 ·have h1:¬ 1<=x.length:=λz=>c1 (decide_eq_true (by omega))
  have e:Gb x=false:=by unfold Gb;rw[decide_eq_false h1,QZ,QZ]
  rw[e] at q
  exact⟨_,rfl,Eb (q _ (Am.refl _))⟩
 have h1:1<=x.length:=by have:=of_decide_eq_true c1;omega
 refine⟨_,_,rfl,rfl,_,rfl,Br (λc2=>?_) (λc2=>?_)⟩
 rotate_left
 ·have h2:¬ x.length<=20:=λz=>c2 (decide_eq_true (by omega))
  have e:Gb x=false:=by unfold Gb;rw[decide_eq_false h2,Bool.and_false,QZ]
  rw[e] at q
  exact q _ (Am.refl _)
 have h2:x.length<=20:=by have:=of_decide_eq_true c2;omega
 have ea:("a" : Str).cps.toList=[97]:=by decide +kernel
 have ez:("z" : Str).cps.toList=[122]:=by decide +kernel
 refine⟨_,rfl,x,rfl,aD (λi ys H2=>H2=H/\ys=((x.cps.toList.take i).map λc=>decide (97<=c) && decide (c<=122)).map V.bl) ⟨rfl,rfl⟩ ?_ ?_⟩
 ·rintro i c ys H2 hc ⟨rfl,rfl⟩
  have ga:(!decide ((⟨#[c]⟩:Str).cps.toList < ("a" : Str).cps.toList))=decide (97<=c):=by rw[ea];exact rX c
  have gz:(!decide (("z" : Str).cps.toList < (⟨#[c]⟩:Str).cps.toList))=decide (c<=122):=by rw[ez];exact rV c
  have hc':x.cps.toList[i]? = some c:=by rw[SO];exact hc
  have hil:i < x.cps.toList.length:=(JB.mp hc').1
  have hxl:x.length=x.cps.toList.length:=len_list x
  have hlen:(((x.cps.toList.take i).map λc=>decide (97<=c) && decide (c<=122)).map V.bl).length < JM:=by
   rw[JF,JF,NN,KO]
   omega
  have htk:x.cps.toList.take (i+1)=x.cps.toList.take i++[c]:=by rw[MD,hc'];rfl
  refine⟨_,rfl,_,_,rfl,rfl,_,rfl,Br (λk=>?_) (λk=>?_)⟩
  ·refine⟨_,_,rfl,rfl,hlen,rfl,?_⟩
   have k':decide (97<=c)=true:=ga.symm.trans k
   rw[htk,JT,JT]
   refine congrArg (_ ++ ·) ?_
   show [V.bl (!decide (("z" : Str).cps.toList < (⟨#[c]⟩:Str).cps.toList))]=[V.bl (decide (97<=c) && decide (c<=122))]
   rw[gz,k',RQ]
  ·refine⟨hlen,rfl,?_⟩
   have k':decide (97<=c)=false:=by
    rw[<- ga]
    exact NG.mpr k
   rw[htk,JT,JT]
   refine congrArg (_ ++ ·) ?_
   show [V.bl false]=[V.bl (decide (97<=c) && decide (c<=122))]
   rw[k',QZ]
 ·rintro ys H2 ⟨rfl,rfl⟩ p hp
  refine⟨p,_,_,rfl,Aw.of Aa,Im _,?_⟩
  have e:Gb x=((x.cps.toList.take x.cps.size).map λc=>decide (97<=c) && decide (c<=122)).all id:=by
   unfold Gb
   rw[decide_eq_true h1,decide_eq_true h2,RQ,RQ,LJ (by simp),List.all_map]
   rfl
  rw[e] at q
  exact q _ (Ag hp _)
theorem Cz.snoc{H H':Hp}{ra q ea:JK}{as:List JK}{rows:List (List Str)}{el:List Str}(R:Cz H ra as rows)(s:Am H H')(e:H' ea=some (.lst (Az el)))(l:H' q=some (.lst ((as++[ea]).map V.ref))):Cz H' q (as++[ea]) (rows++[el]):=by
 refine⟨l,by rw[JJ,JJ,R.len];rfl,λi a r h1 h2=>?_⟩
 by_cases hi:i < as.length
 ·rw[KH hi] at h1
  rw[KH (by rw[<- R.len];exact hi)] at h2
  exact s _ _ (R.row i a r h1 h2)
 ·have hl:i < (as++[ea]).length:=(JB.mp h1).1
  rw[JJ,JU] at hl
  obtain rfl:i=as.length:=by omega
  rw[KA] at h1
  cases h1
  rw[R.len,KA] at h2
  cases h2
  exact e
end
def hF(ea oa ba:JK):List (Str×V):=[("elder_row", .ref ea),("order_row", .ref oa),("bodies", .ref ba)]
def bF(d:JK):List (Str×V):=[("by_name", .ref d)]
theorem Rw(d:JK):(bF d).lookup ("by_name" : Str)=some (.ref d):=by
 unfold bF
 rw[KN,beq_self_eq_true]
theorem Gr(d:JK){m:Str}(h:(m == ("by_name" : Str))=false):(bF d).lookup m=none:=by
 unfold bF
 rw[KN,h]
 rfl
theorem CP(ea oa ba:JK):(hF ea oa ba).lookup ("order_row" : Str)=some (.ref oa):=by
 unfold hF
 rw[KN,show (("order_row" : Str) == "elder_row")=false by decide +kernel,KN,beq_self_eq_true]
theorem nL(ea oa ba:JK):(hF ea oa ba).lookup ("bodies" : Str)=some (.ref ba):=by
 unfold hF
 rw[KN,show (("bodies" : Str) == "elder_row")=false by decide +kernel,KN,show (("bodies" : Str) == "order_row")=false by decide +kernel,KN,beq_self_eq_true]
theorem zY(ea oa ba:JK):Ep "bodies" (.ref ba) (Ep "order_row" (.ref oa) (Ep "elder_row" (.ref ea) []))=hF ea oa ba:=by
 show Ep "bodies" (.ref ba) (if ("elder_row" : Str) = "order_row" then [(("elder_row" : Str),V.ref oa)] else (("elder_row" : Str),V.ref ea)::Ep "order_row" (.ref oa) [])=hF ea oa ba
 rw[if_neg (by decide +kernel)]
 show (if ("elder_row" : Str) = "bodies" then _ else (("elder_row" : Str),V.ref ea)::(if ("order_row" : Str) = "bodies" then _ else (("order_row" : Str),V.ref oa)::[(("bodies" : Str),V.ref ba)]))=hF ea oa ba
 rw[if_neg (by decide +kernel),if_neg (by decide +kernel)]
 rfl
structure Ent where
 nm:Str
 at_:JK
 dx:JK
 ea:JK
 oa:JK
 ba:JK
 el:List Str
 od:List Str
 bd:List (Key×V)
structure Xi(CH:JK)(H:Hp)(e:Ent):Prop where
 ob:H e.at_=some (.ins CH e.dx (hF e.ea e.oa e.ba))
 el:H e.ea=some (.lst (Az e.el))
 od:H e.oa=some (.lst (Az e.od))
 bd:H e.ba=some (.dK e.bd)
theorem Xi.same{CH:JK}{H H':Hp}{e:Ent}(E:Xi CH H e)(h:Am H H'):Xi CH H' e:=⟨h _ _ E.ob,h _ _ E.el,h _ _ E.od,h _ _ E.bd⟩
def qW(L:List Ent):List (Key×V):=L.map λe=>((KD e.nm:Key),V.ref e.at_)
def Hl(L:List Ent)(x:Str):Option Ent:=L.find? λe=>decide (e.nm=x)
theorem Ur(L:List Ent)(x:Str):valV (qW L) (KD x:Key)=(Hl L x).map λe=>V.ref e.at_:=by
 unfold qW Hl
 induction L with
 | nil=>rfl
 | cons e L ih=>
  rw[LU]
  by_cases h:e.nm=x
  ·rw[Cu (show ((KD e.nm:Key),V.ref e.at_).1=KD x by rw[h]),QH (by rw[decide_eq_true h])]
   rfl
  ·rw[Ct (λz=>h (KD.inj z)),ih,QI (by rw[decide_eq_false h];exact JN)]
theorem Fy{L:List Ent}{x:Str}{e:Ent}(h:Hl L x=some e):e∈L/\e.nm=x:=⟨List.mem_of_find?_eq_some h,of_decide_eq_true (List.find?_some (p:=λe:Ent=>decide (e.nm=x)) h)⟩
theorem nB{L:List Ent}{x:Str}(h:∀e∈L,e.nm≠x):Hl L x=none:=List.find?_eq_none.mpr λe he=>by rw[decide_eq_false (h e he)];exact JN
theorem Me{L:List Ent}{e:Ent}(nd:(L.map (·.nm)).Nodup)(h:e∈L):Hl L e.nm=some e:=by
 unfold Hl
 induction L with
 | nil=>cases h
 | cons a L ih=>
  rw[LU,LQ] at nd
  rcases JP.mp h with rfl | h'
  ·rw[QH (by rw[decide_eq_true rfl])]
  ·rw[QI,ih nd.2 h']
   have:a.nm≠e.nm:=λz=>nd.1 (by rw[z];exact List.mem_map_of_mem h')
   rw[decide_eq_false this]
   exact JN
structure Be(CB CH:JK)(H:Hp)(p d:JK)(L:List Ent):Prop where
 ob:∃dx,H p=some (.ins CB dx (bF d))
 dc:H d=some (.dK (qW L))
 en:∀e∈L,Xi CH H e
 nb:∀e∈L,e.ba≠d
 nd:(L.map (·.nm)).Nodup
 nn:(L.map (·.ba)).Nodup
theorem Be.same{CB CH:JK}{H H':Hp}{p d:JK}{L:List Ent}(B:Be CB CH H p d L)(h:Am H H'):Be CB CH H' p d L:=
 ⟨let ⟨dx,e⟩:=B.ob;⟨dx,h _ _ e⟩,h _ _ B.dc,λe he=>(B.en e he).same h,B.nb,B.nd,B.nn⟩
theorem Be.get{CB CH:JK}{H:Hp}{p d:JK}{L:List Ent}{x:Str}{e:Ent}(B:Be CB CH H p d L)(h:Hl L x=some e):Er H d (.str x) (some (.ref e.at_)):=by
 have:=Er.k (k:=(KD x:Key)) B.dc
 rw[Ur,h] at this
 exact this
theorem Be.no{CB CH:JK}{H:Hp}{p d:JK}{L:List Ent}{x:Str}(B:Be CB CH H p d L)(h:Hl L x=none):Er H d (.str x) none:=by
 have:=Er.k (k:=(KD x:Key)) B.dc
 rw[Ur,h] at this
 exact this
structure Gz(K:JC)(mg:Str->Option JD)(CB CH:JK):Prop where
 clB:Wa K CB
 clH:Wa K CH
 nBy:Eh K CB "by_name"
 nEl:Eh K CH "elder_row"
 nOd:Eh K CH "order_row"
 nBd:Eh K CH "bodies"
 mgB:mg "Book" = some (.ref CB)
 mgH:mg "House" = some (.ref CH)
def Ve(CB:JK):Sp:=λvs H Q _=>∃(p dx:JK),vs=[.ref p]/\H p=some (.ins CB dx [])/\∀d,H d=none->Q .non (upd (upd H d (.dK [])) p (.ins CB dx (bF d)))
def Kw(CH:JK):Sp:=λvs H Q _=>∃(p ea oa dx:JK),vs=[.ref p,.ref ea,.ref oa]/\H p=some (.ins CH dx [])/\∀(b:JK)(H':Hp),H b=none->H' p=some (.ins CH dx (hF ea oa b))->H' b=some (.dK [])->(∀c o,H c=some o->c≠p->H' c=some o)->Q .non H'
def Iy(CB CH:JK):Sp:=λvs H Q _=>∃(p d:JK)(L:List Ent)(x:Str)(e:Ent),vs=[.ref p,.str x]/\Be CB CH H p d L/\Hl L x=some e/\Q (.ref e.at_) H
def Ig(CB CH:JK):Sp:=λvs H Q _=>∃(p d:JK)(L:List Ent)(x:Str)(e:Ent),vs=[.ref p,.str x]/\Be CB CH H p d L/\Hl L x=some e/\∀l,H l=none->Q (.ref l) (upd H l (.lst (Az e.od)))
section
variable {P:KC} {w:LL} {K:JC} {mg:Str->Option JD} {base:MQ} {f fH CB CH:JK} {fd dH:LB}
theorem uX:An ["self"] ["self"] (Ad cX):=Ez (by decide +kernel)
theorem qH(F:Dj K "__init__" "Book.__init__" cX f fd)(T:Gz K mg CB CH):Al P w K mg base Bi 1 f fd ["self"] (Ve CB):=by
 refine F.ok uX (λvs H Q E h=>?_) (λcdv A outer s H vs Q E hr h=>?_)
 ·obtain⟨p,dx,rfl,_⟩:=h
  rfl
 obtain⟨p,dx,rfl,hp,k⟩:=h
 refine⟨_,Af (Gj (pv 0) Hn rfl),?_⟩
 intro d hd
 have npd:p≠d:=Ai hp hd
 refine⟨_,rfl,p,CB,dx,[],rfl,(by rw[Aj npd];exact hp),T.clB,T.nBy,(by show 0 < 1000;decide),?_⟩
 exact k d hd
theorem rZ:An ["self","elder_row","order_row"] ["self","elder_row","order_row"] (Ad bD):=Ez (by decide +kernel)
theorem Yj(F:Dj K "__init__" "House.__init__" bD f fd)(T:Gz K mg CB CH):Al P w K mg base Bi 1 f fd ["self","elder_row","order_row"] (Kw CH):=by
 refine F.ok rZ (λvs H Q E h=>?_) (λcdv A outer s H vs Q E hr h=>?_)
 ·obtain⟨p,ea,oa,dx,rfl,_⟩:=h
  rfl
 obtain⟨p,ea,oa,dx,rfl,hp,k⟩:=h
 refine⟨_,Ac (Gj (pv 0) (pv 1) rfl) (Ac (Gj (pv 0) (pv 2) rfl) (Af (Gj (pv 0) Hn rfl))),?_⟩
 refine⟨_,rfl,_,rfl,p,CH,dx,[],rfl,hp,T.clH,T.nEl,(by show 0 < 1000;decide),?_⟩
 refine⟨_,rfl,_,rfl,p,CH,dx,_,rfl,Aa,T.clH,T.nOd,(by show 1 < 1000;decide),?_⟩
 intro b hb
 have hb2:p≠b:=λz=>by rw[<- z,Aa] at hb;cases hb
 have hb':H b=none:=by rw[Aj (LH hb2),Aj (LH hb2)] at hb;exact hb
 refine⟨_,rfl,p,CH,dx,_,rfl,(by rw[Aj hb2];exact Aa),T.clH,T.nBd,?_,?_⟩
 ·exact QL (Fi _ _ _) (by show 2 < 1000;decide)
 ·refine k b _ hb' (by rw[Aa,zY]) (by rw[Aj (LH hb2),Aa]) λc o e hc=>?_
  rw[Aj hc,Aj (Ai e hb'),Aj hc,Aj hc]
  exact e
theorem sU:An ["self","name"] ["self","name"] (Ad aY):=Ez (by decide +kernel)
theorem Xm(F:Dj K "house" "Book.house" aY f fd)(T:Gz K mg CB CH):Al P w K mg base Bi 1 f fd ["self","name"] (Iy CB CH):=by
 refine F.ok sU (λvs H Q E h=>?_) (λcdv A outer s H vs Q E hr h=>?_)
 ·obtain⟨p,d,L,x,e,rfl,_⟩:=h
  rfl
 obtain⟨p,d,L,x,e,rfl,B,he,q⟩:=h
 have hu:=Fm hr
 obtain⟨dx,hp⟩:=B.ob
 refine⟨_,Ac (Ay (Fs (Kf hu (pv 1) (Cp (pv 0) rfl))) Bs Ap) (Af (Ao (Io hu (Cp (pv 0) rfl) (pv 1) (λ_ _=>rfl)))),?_⟩
 refine⟨_,rfl,_,rfl,p,CB,dx,_,_,rfl,hp,T.clB,T.nBy,Rw d,d,_,rfl,B.get he,_,rfl,Eb ?_⟩
 exact⟨_,rfl,p,CB,dx,_,_,rfl,hp,T.clB,T.nBy,Rw d,_,rfl,d,_,rfl,B.get he,q⟩
theorem tP:An ["self","name"] ["self","name"] (Ad Zm):=Ez (by decide +kernel)
theorem Yi(F:Dj K "order" "Book.order" Zm f fd)(T:Gz K mg CB CH)(Tx:Txt mg)(GH:Al P w K mg base Bi 1 fH dH ["self","name"] (Iy CB CH))(bH:Binds K dH ["self","name"] [])(mH:Dt K CB "house" fH):Al P w K mg base Bi 2 f fd ["self","name"] (Ig CB CH):=by
 refine F.ok tP (λvs H Q E h=>?_) (λcdv A outer s H vs Q E hr h=>?_)
 ·obtain⟨p,d,L,x,e,rfl,_⟩:=h
  rfl
 obtain⟨p,d,L,x,e,rfl,B,he,q⟩:=h
 obtain⟨dx,hp⟩:=B.ob
 have E:=B.en e (Fy he).1
 refine⟨_,Af (Ao (Dl Gd rfl Tx.list NL (Du (Cp (Ee (pv 0) T.clB mH GH hr bH .nil Dh (Du (pv 1))) rfl)))),?_⟩
 exact⟨_,rfl,p,dx,_,rfl,hp,Gr d (by decide +kernel),_,rfl,p,d,L,x,e,rfl,B,he,e.at_,CH,e.dx,_,_,rfl,E.ob,T.clH,T.nOd,CP _ _ _,e.oa,_,rfl,.inl (Aw.of E.od),q⟩
end
end Bk
namespace Bk
open PySem L2 Mg
def Pz:Sp:=λvs H Q _=>∃(ra la:JK)(as:List JK)(rows:List (List Str))(n:Nat),vs=[.ref ra,.ref la]/\Cz H ra as rows/\Fe rows<=1000/\rows.length<=1000/\(∀r∈(Ei n rows).2,r=[]) /\
 ∀(p:JK)(H':Hp),H p=none->Am H H'->H' p=some (.lst (Az (Ei n rows).1))->Q (.ref p) H'
theorem nU(n:Nat):(KZ n (V.int 0))=Je (KZ n 0):=by
 unfold Je
 rw[List.map_replicate]
 rfl
theorem Qk{K:JC}{H:Hp}:∀ps:List JK,(∀p∈ps,H p=some (.lst []))->Xh K H (ps.map V.ref) (KZ ps.length false)
 | [],_=>.nil
 | p::ps,h=>.cons (.inl ⟨[],Aw.of (h p JS),rfl⟩) (Qk ps λq hq=>h q (JQ _ hq))
theorem iP(n:Nat):(KZ n false).any id=false:=by
 induction n with
 | zero=>rfl
 | succ n ih=>rw[List.replicate_succ,List.any_cons,ih];rfl
section
variable {P:KC} {w:LL} {K:JC} {mg:Str->Option JD} {base:MQ} {f fC fF fT:JK} {fd dC dF dT:LB}
abbrev eB:List Str:=["rows","labels","starts","behind","joined","name","rests"]
theorem IK:(["row"]:List Str).Nodup:=by decide +kernel
theorem IH:(["row","start"]:List Str).Nodup:=by decide +kernel
theorem Gy:An ["rows","labels","starts","behind","joined","name","rests"] ["rows","labels"] (Ad Fx):=Ez (by decide +kernel)
theorem iU(F:Dj K "merged" "merged" Fx f fd)(T:Txt mg)(FC:Dj K "counts_behind" "counts_behind" Lk fC dC)(bC:Binds K dC ["rows"] [])(mC:mg "counts_behind" = some (.ref fC))(FF:Dj K "free_name" "free_name" Xj fF dF)(bF:Binds K dF ["rows","starts","behind"] [])(mF:mg "free_name" = some (.ref fF))(FT:Dj K "take_out" "take_out" Wd fT dT)(bT:Binds K dT ["name","rows","starts","behind"] [])(mT:mg "take_out" = some (.ref fT)):Al P w K mg base Bi 2 f fd ["rows","labels"] Pz:=by
 have GC:Al P w K mg base Bi 1 fC dC ["rows"] Qd:=Ru FC T
 have GF:Al P w K mg base Bi 1 fF dF ["rows","starts","behind"] aI:=eG FF T
 have GT:Al P w K mg base Bi 1 fT dT ["name","rows","starts","behind"] Zu:=gA FT T
 refine F.ok Gy (λvs H Q E h=>?_) (λcdv A outer s H vs Q E hr h=>?_)
 ·obtain⟨ra,la,as,rows,n,rfl,_⟩:=h
  rfl
 obtain⟨ra,la,as,rows,n,rfl,R,ht,hrl,hend,q⟩:=h
 refine⟨_,Ac (Dd (i:=2) (Ad Fx) eB ["row"] [] rfl Gy.nd rfl rfl (Dk (pv 0)) (Bm (i:=0) (by decide)) (λ_ _ _ _ _ _=>⟨Dg 0 IK,Ds,Ae⟩))
  (Ac (Bv 3 Gy.nd (Di GC hr rfl mC FC.kp bC .nil Dh (Du (pv 0))))
  (Ac (Bv 4 Gy.nd (Df Fu))
  (Ac (Bv 5 Gy.nd (Di GF hr rfl mF FF.kp bF .nil Dh (Ja (pv 0) (pv 2) (pv 3))))
  (Ac (Lz MJ (Fs (Uq (pv 5)))
   (Ac (Bx (Lu MK MO MN Ed (pv 4) (Du (pv 5))))
   (Ac (Bx (Di GT hr rfl mT FT.kp bT .nil Dh (rO (pv 5) (pv 0) (pv 2) (pv 3))))
   (Af (Bv 5 Gy.nd (Di GF hr rfl mF FF.kp bF .nil Dh (Ja (pv 0) (pv 2) (pv 3))))))))
  (Ac (Dd (i:=6) (Ad Fx) eB ["row","start"] [] rfl Gy.nd rfl rfl (Ui rfl T.zip (Em (pv 0) (pv 2))) (Kb (K:=K) (Cs (Bm (i:=0) (by decide)) (Cs (Bm (i:=1) (by decide)) Ht)))
   (λ_ _ _ _ _ _=>⟨Ji (n:=2) rfl (Ce (Dg 0 IH) (Ce (Dg 1 IH) Hf)),Ds,Cj (r:=mD K) El (pv 0) (Cy (pv 1)) Dx⟩))
  (Ac (Ay (Fv (Bz (Wt rfl) rfl T.any Sh (Du (pv 6)))) Bs Ap)
  (Af (Ao (pv 4))))))))),?_⟩
 -- starts=[0 for row in rows]
 refine⟨_,rfl,ra,rfl,⟨_,Aw.of R.lst⟩,Dz (K:=K) (a:=ra) (xs:=as.map V.ref) (λi ys H2=>H2=H/\ys=KZ i (V.int 0)) ⟨rfl,rfl⟩ (λi ys H2 _ h=>by rw[h.1];exact Aw.of R.lst) ?_ ?_⟩
 ·rintro i y ys H2 hi ⟨rfl,rfl⟩
  refine⟨?_,rfl,?_⟩
  ·have hi':=(JB.mp hi).1
   rw[JF,R.len] at hi'
   rw[NQ,KO]
   omega
  ·exact SR.symm
 rintro ys H2 ⟨rfl,rfl⟩ sa hsa
 rw[JF,R.len,nU]
 have s1:Am H2 (upd H2 sa (.lst (Je (KZ rows.length 0)))):=Ag hsa _
 -- behind=counts_behind(rows)
 refine⟨_,rfl,ra,as,rows,rfl,R.same s1,by omega,λba kvs H3 hba s2 eb B hl=>?_⟩
 -- joined=[]
 refine⟨(by show 0<=JM;decide),λja hja=>?_⟩
 have s3:Am H3 (upd H3 ja (.lst [])):=Ag hja _
 have hsa3:H3 sa=some (.lst (Je (KZ rows.length 0))):=s2 _ _ Aa
 have n_sj:sa≠ja:=Ai hsa3 hja
 have n_bj:ba≠ja:=Ai eb hja
 have n_sb:sa≠ba:=Cd hsa3 eb (by intro z;cases z)
 have st0:StAt (upd H3 ja (.lst [])) rows sa ba (KZ rows.length 0) kvs:=⟨s3 _ _ hsa3,NQ,s3 _ _ eb⟩
 have sH:Am H2 (upd H3 ja (.lst [])):=s1.trans (s2.trans s3)
 have hba2:H2 ba=none:=s1.free hba
 have hja2:H2 ja=none:=s1.free (s2.free hja)
 have nsr:sa≠ra:=LH (Ai R.lst hsa)
 have nsa:∀a∈as,a≠sa:=λa ha=>by
  obtain⟨i,hi⟩:=MI ha
  obtain⟨r,_,er⟩:=R.get hi
  exact Ai er hsa
 -- name=free_name(rows,starts,behind)
 refine⟨_,rfl,_,rfl,_,rfl,ra,sa,ba,as,rows,_,kvs,cnt rows,rfl,R.same sH,st0,B,λH4 s4=>?_⟩
 rw[Cv]
 have hb0:∀(i:Nat)(r:List Str)(m:Nat),rows[i]? = some r->(KZ rows.length 0)[i]? = some m->m<=r.length:=λi r m _ h2=>by
  rw[QA] at h2
  split at h2
  ·cases h2;exact LG _
  ·cases h2
 -- while name is not None
 refine⟨λm σ H5=>∃(joined:List Str)(st:List Nat)(kvs:List (Key×V))(k:Nat)(v6:Option V),σ=[some (.ref ra),some (.ref la),some (.ref sa),some (.ref ba),some (.ref ja),some (Xd (pick (cnt (rests rows st)) (rests rows st))),v6] /\
  Am H2 H5/\H5 ja=some (.lst (Az joined))/\StAt H5 rows sa ba st kvs/\(∀(i:Nat)(r:List Str)(m:Nat),rows[i]? = some r->st[i]? = some m->m<=r.length)/\Yw kvs (cnt (rests rows st))/\kvs.length<=1000 /\
  (joined++(Ei k (rests rows st)).1=(Ei n rows).1/\(Ei k (rests rows st)).2=(Ei n rows).2)/\m=Fe (rests rows st)/\joined.length+Fe (rests rows st)<=Fe rows,
  ⟨_,[],KZ rows.length 0,kvs,n,none,by rw[Cv];rfl,sH.trans s4,s4 _ _ Aa,⟨s4 _ _ st0.lst,st0.len,s4 _ _ st0.dic⟩,hb0,by rw[Cv];exact B,by omega,by rw[Cv];exact⟨rfl,rfl⟩,rfl,by rw[Cv];simp⟩,?_⟩
 rintro m σ H5 ⟨joined,st,kvs,k,v6,rfl,s5,ej,S,hb,B,hl,⟨e1,e2⟩,rfl,hj⟩
 refine⟨_,rfl,_,rfl,?_⟩
 cases hp:pick (cnt (rests rows st)) (rests rows st) with
 | some x=>
  refine Ju ?_
  obtain⟨hx0,r0,hr0,t0,er0⟩:=Hs hp
  have hlt:Fe ((rests rows st).map (Cw x)) < Fe (rests rows st):=Jo (by rw[<- er0];exact hr0)
  refine⟨λσ' H'=>∃m',m' < Fe (rests rows st)/\∃(joined:List Str)(st:List Nat)(kvs:List (Key×V))(k:Nat)(v6:Option V),σ'=[some (.ref ra),some (.ref la),some (.ref sa),some (.ref ba),some (.ref ja),some (Xd (pick (cnt (rests rows st)) (rests rows st))),v6] /\
   Am H2 H'/\H' ja=some (.lst (Az joined))/\StAt H' rows sa ba st kvs/\(∀(i:Nat)(r:List Str)(m:Nat),rows[i]? = some r->st[i]? = some m->m<=r.length)/\Yw kvs (cnt (rests rows st))/\kvs.length<=1000 /\
   (joined++(Ei k (rests rows st)).1=(Ei n rows).1/\(Ei k (rests rows st)).2=(Ei n rows).2)/\m'=Fe (rests rows st)/\joined.length+Fe (rests rows st)<=Fe rows,λσ' H' h=>h,?_⟩
  -- joined.append(name)
  refine⟨_,rfl,.inl ⟨rfl,_,Aw.of ej⟩,_,rfl,ja,_,_,rfl,rfl,ej,by rw[Av,KO];omega,?_⟩
  have ejx:Az joined++[V.str x]=Az (joined++[x]):=by unfold Az;rw[JT];rfl
  have hup:∀b o,b≠ja->H5 b=some o->(upd H5 ja (.lst (Az joined++[V.str x]))) b=some o:=λb o hne e=>by rw[Aj hne];exact e
  have s6:Am H2 (upd H5 ja (.lst (Az joined++[V.str x]))):=λb o e=>hup b o (Ai e hja2) (s5 b o e)
  -- take_out(name,rows,starts,behind)
  refine⟨_,rfl,_,rfl,_,rfl,_,rfl,x,ra,sa,ba,as,rows,st,kvs,rfl,R.same s6,⟨hup _ _ n_sj S.lst,S.len,hup _ _ n_bj S.dic⟩,hb,B,by omega,nsr,nsa,λst' kvs' H6 S6 h6 hb6 B6 hl6 k6=>?_⟩
  have s7:Am H2 H6:=λb o e=>k6 b o (s6 b o e) (Ai e hsa) (Ai e hba2)
  -- name=free_name(rows,starts,behind)
  refine⟨_,rfl,_,rfl,_,rfl,ra,sa,ba,as,rows,st',kvs',_,rfl,R.same s7,S6,B6,λH7 s8=>?_⟩
  obtain⟨k',rfl⟩:∃k',k=k'+1:=by
   cases k with
   | zero=>
    have z:=hend r0 (by rw[<- e2];exact hr0)
    rw[er0] at z
    cases z
   | succ k'=>exact⟨k',rfl⟩
  rw[Pk hp] at e1 e2
  refine⟨_,?_,joined++[x],st',kvs',k',v6,rfl,s7.trans s8,s8 _ _ ?_,⟨s8 _ _ S6.lst,S6.len,s8 _ _ S6.dic⟩,hb6,B6,by omega,⟨?_,?_⟩,rfl,?_⟩
  ·rw[h6];exact hlt
  ·rw[<- ejx]
   exact k6 _ _ Aa (LH n_sj) (LH n_bj)
  ·rw[h6,OB];exact e1
  ·rw[h6];exact e2
  ·rw[h6,JJ,JU];omega
 | none=>
  refine Eb ?_
  rw[Wq hp] at e1 e2
  have e1':joined=(Ei n rows).1:=by rw[<- e1,LX]
  have e2':rests rows st=(Ei n rows).2:=e2
  have hall:∀(i:Nat)(r:List Str)(j:Nat),rows[i]? = some r->st[i]? = some j->r.drop j=[]:=λi r j h1 h2=>hend _ (by rw[<- e2'];exact JY (Gg h1 h2))
  -- rests=[row[start:] for row,start in zip(rows,starts)]
  have R5:=R.same s5
  refine⟨_,rfl,_,rfl,ra,sa,rfl,⟨_,Aw.of R5.lst⟩,⟨_,Aw.of S.lst⟩,Qj (K:=K) (a:=ra) (b:=sa) (xs:=as.map V.ref) (zs:=Je st) (by rw[JF,Hg,S.len,R.len])
   (λi ys H6=>Am H5 H6/\∃ps:List JK,ys=ps.map V.ref/\ps.length=i/\∀p∈ps,H6 p=some (.lst [])) ⟨Am.refl _,[],rfl,rfl,λp hp=>nomatch hp⟩ (λi ys H6 _ h=>⟨Aw.of (h.1 _ _ R5.lst),Aw.of (h.1 _ _ S.lst)⟩) ?_ ?_⟩
  ·rintro i y z ys H6 Tp hy hz ⟨s6,ps,rfl,hps,hpl⟩ hT
   obtain⟨a,ha,rfl⟩:=Ea hy
   obtain⟨j,hj',rfl⟩:=Ts hz
   obtain⟨r,hr',er⟩:=R5.get ha
   have s9:Am H5 (upd H6 Tp (.tup [.ref a,.int j])):=s6.trans (Ag hT _)
   refine⟨Tp,_,rfl,Co.of Aa,rfl,_,_,rfl,_,_,rfl,rfl,?_⟩
   refine⟨_,rfl,_,rfl,_,rfl,a,_,rfl,Aw.of (s9 _ _ er),λp hp'=>?_⟩
   have hc:Ga (Az r) (some (j:Int)) none=[]:=by
    rw[Nw _ _ (by rw[Av];exact hb i r j hr' hj')]
    unfold Az
    rw[<- RL,hall i r j hr' hj']
    rfl
   rw[hc]
   refine⟨?_,s9.trans (Ag hp' _),ps++[p],by rw[JT];rfl,by rw[JJ,hps];rfl,λp' hp2=>?_⟩
   ·have:=(JB.mp hr').1
    rw[JF,hps,KO]
    omega
   ·rcases KI.mp hp2 with z | z
    ·have e:=Ag hT (.tup [.ref a,.int j]) _ _ (hpl p' z)
     exact Ag hp' _ _ _ e
    ·have e:p'=p:=by simpa using z
     subst e
     exact Aa
  ·rintro ys H6 ⟨s6,ps,rfl,hps,hpl⟩ qa hqa
   -- if any(rests)
   have s9:=Ag (H:=H6) hqa (.lst (ps.map V.ref))
   refine⟨_,rfl,qa,_,_,rfl,Aw.of Aa,Qk ps λp hp'=>s9 _ _ (hpl p hp'),?_⟩
   rw[iP]
   refine⟨_,rfl,Eb ?_⟩
   -- return joined
   refine⟨_,rfl,q ja _ hja2 (s5.trans (s6.trans s9)) ?_⟩
   rw[<- e1']
   exact s9 _ _ (s6 _ _ ej)
end
end Bk
namespace Bk
open PySem L2 Mg Nm
section
variable {P:KC} {w:LL} {K:JC} {mg:Str->Option JD} {base:MQ} {f fM fC fF fT:JK} {fd dM dC dF dT:LB}
def Zb:Sp:=λvs H Q _=>∃(x:Str)(ea oa:JK)(as:List JK)(el:List Str)(rows:List (List Str))(n:Nat),vs=[.str x,.ref ea,.ref oa]/\H ea=some (.lst (Az el))/\Cz H oa as rows/\Fe (rows++[el])<=900/\rows.length<=900/\el.length<=900/\(∀r∈(Ei n (rows++[el])).2,r=[])/\(Ei n (rows++[el])).1.length<=900 /\
 ∀(p:JK)(H':Hp),H p=none->Am H H'->H' p=some (.lst (Az (x::(Ei n (rows++[el])).1)))->Q (.ref p) H'
theorem yE:An ["name","elders","orders"] ["name","elders","orders"] (Ad Xy):=Ez (by decide +kernel)
theorem sW(F:Dj K "made_order" "made_order" Xy f fd)(T:Txt mg)(GM:Al P w K mg base Bi 2 fM dM ["rows","labels"] Pz)(kM:JR K (.ref fM)=true)(bM:Binds K dM ["rows","labels"] [])(mM:mg "merged" = some (.ref fM)):
 Al P w K mg base Bi 3 f fd ["name","elders","orders"] Zb:=by
 refine F.ok yE (λvs H Q E h=>?_) (λcdv A outer s H vs Q E hr h=>?_)
 ·obtain⟨x,ea,oa,as,el,rows,n,rfl,_⟩:=h
  rfl
 obtain⟨x,ea,oa,as,el,rows,n,rfl,eel,R,ht,hrl,hell,hrun,hjl,q⟩:=h
 refine⟨_,Af (Ao (Aq Jp (Df (Du (pv 0))) (Cf GM hr mM kM bM (Em (Aq Jp (pv 2) (Df (Du (pv 1)))) (Aq Jp (pv 1) (Df (Du (pv 0)))))))),?_⟩
 have hlR:as.length=rows.length:=R.len
 refine⟨_,rfl,by show 1<=JM;decide,λl1 hl1=>?_⟩
 have s1:=Ag hl1 (.lst [V.str x])
 refine⟨_,rfl,_,rfl,by show 1<=JM;decide,λl2 hl2=>?_⟩
 have s2:=Ag hl2 (.lst [V.ref ea])
 refine⟨oa,l2,_,_,rfl,rfl,s2 _ _ (s1 _ _ R.lst),Aa,by rw[JF,KO,JU];omega,λl3 hl3=>?_⟩
 have s3:=Ag hl3 (.lst (as.map V.ref++[V.ref ea]))
 refine⟨_,rfl,_,rfl,by show 1<=JM;decide,λl4 hl4=>?_⟩
 have s4:=Ag hl4 (.lst [V.str x])
 have sA:=s1.trans (s2.trans (s3.trans s4))
 refine⟨ea,l4,_,_,rfl,rfl,sA _ _ eel,Aa,by rw[Av,KO,JU];omega,λl5 hl5=>?_⟩
 have s5:=Ag hl5 (.lst (Az el++[V.str x]))
 have sB:=sA.trans s5
 have e3:=s5 _ _ (s4 _ _ (Aa (H:=upd (upd H l1 (.lst [V.str x])) l2 (.lst [V.ref ea])) (a:=l3) (o:=.lst (as.map V.ref++[V.ref ea]))))
 have R5:=R.snoc sB (sB _ _ eel) (q:=l3) (by rw[JT];exact e3)
 have n1:=s5 _ _ (s4 _ _ (s3 _ _ (s2 _ _ (Aa (H:=H) (a:=l1) (o:=.lst [V.str x])))))
 refine⟨l3,l5,as++[ea],rows++[el],n,rfl,R5,by omega,by rw[JJ,JU];omega,hrun,λp H6 hp s6 ep=>?_⟩
 refine⟨l1,p,_,_,rfl,rfl,s6 _ _ n1,ep,by rw[Av,KO,JU];omega,λz hz=>?_⟩
 exact q z _ (sB.free (s6.free hz)) (sB.trans (s6.trans (Ag hz _))) Aa
end
def Hand(H:Hp)(v:V)(el:List Str):Prop:=(v=.non/\el=[]) ∨ ∃a,v=.ref a/\H a=some (.lst (Az el))
theorem Hand.same{H H':Hp}{v:V}{el:List Str}(h:Hand H v el)(s:Am H H'):Hand H' v el:=by
 rcases h with h | ⟨a,e,h⟩
 ·exact .inl h
 ·exact .inr ⟨a,e,s _ _ h⟩
def iH(L:List Ent)(y:Str):List Str:=((Hl L y).map (·.od)).getD []
theorem gK{L:List Ent}{y:Str}{e:Ent}(h:Hl L y=some e):iH L y=e.od:=by
 unfold iH
 rw[h]
 rfl
def rowsOf(L:List Ent)(el:List Str):List (List Str):=el.map (iH L)++[el]
structure gM(H:Hp)(e:Ent):Prop where
 at_:H e.at_=none
 ea:H e.ea=none
 oa:H e.oa=none
 ba:H e.ba=none
structure Xc(CB CH:JK)(H:Hp)(p d:JK)(L:List Ent)(x:Str)(el:List Str)(n:Nat):Prop where
 bk:Be CB CH H p d L
 nm:Gb x=true
 nl:x.length<=JM
 new:Hl L x=none
 els:∀y∈el,∃e,Hl L y=some e
 nd:el.Nodup
 ell:el.length<=60
 ll:L.length<=100
 Fe:Fe (rowsOf L el)<=900
 run:∀r∈(Ei n (rowsOf L el)).2,r=[]
 jl:(Ei n (rowsOf L el)).1.length<=900
def BV(H:Hp)(L:List Ent)(x:Str)(el:List Str)(n:Nat)(e:Ent):Prop:=e.nm=x/\e.el=el/\e.od=x::(Ei n (rowsOf L el)).1/\e.bd=[]/\gM H e
def Oj(CB CH:JK):Sp:=λvs H Q _=>∃(p d:JK)(L:List Ent)(x:Str)(v:V)(el:List Str)(n:Nat),vs=[.ref p,.str x,v]/\Xc CB CH H p d L x el n/\Hand H v el /\
 ∀(e:Ent)(H':Hp),BV H L x el n e->Be CB CH H' p d (L++[e])->(∀b o,H b=some o->b≠d->H' b=some o)->Q .non H'
theorem Be.add{CB CH:JK}{H H':Hp}{p d:JK}{L:List Ent}{e:Ent}(B:Be CB CH H p d L)(hn:Hl L e.nm=none)(fr:H e.ba=none)(E:Xi CH H' e)(hd:H' d=some (.dK (putK (qW L) (KD e.nm) (.ref e.at_))))(k:∀b o,H b=some o->b≠d->H' b=some o):Be CB CH H' p d (L++[e]):=by
 obtain⟨dx,hp⟩:=B.ob
 have npd:p≠d:=Cd hp B.dc (by intro z;cases z)
 refine⟨⟨dx,k _ _ hp npd⟩,?_,?_,?_,?_,?_⟩
 ·rw[hd,Qw _ (by rw[Ur,hn];rfl)]
  unfold qW
  rw[JT]
  rfl
 ·intro a ha
  rcases KI.mp ha with h | h
  ·have A:=B.en a h
   exact⟨k _ _ A.ob (Cd A.ob B.dc (by intro z;cases z)),k _ _ A.el (Cd A.el B.dc (by intro z;cases z)),k _ _ A.od (Cd A.od B.dc (by intro z;cases z)),k _ _ A.bd (B.nb a h)⟩
  ·rw[JL] at h
   subst h
   exact E
 ·intro a ha
  rcases KI.mp ha with h | h
  ·exact B.nb a h
  ·rw[JL] at h
   subst h
   exact LH (Ai B.dc fr)
 ·rw[JT,OA]
  refine⟨B.nd,by simp,λa ha b hb=>?_⟩
  obtain⟨c,hc,rfl⟩:=LM.mp ha
  have hb':b=e.nm:=by simpa using hb
  subst hb'
  intro z
  have:=List.find?_eq_none.mp hn c hc
  exact this (decide_eq_true z)
 ·rw[JT,OA]
  refine⟨B.nn,by simp,λa ha b hb=>?_⟩
  obtain⟨c,hc,rfl⟩:=LM.mp ha
  have hb':b=e.ba:=by simpa using hb
  subst hb'
  exact Ai (B.en c hc).bd fr
section
variable {P:KC} {w:LL} {K:JC} {mg:Str->Option JD} {base:MQ} {f fO fN fM fI CB CH T0:JK} {fd dO dN dM dI:LB}
abbrev oS:List Str:=["self","name","elders","elder_row","orders"]
theorem DV:(["elder","self"]:List Str).Nodup:=by decide +kernel
theorem Jz:An ["self","name","elders","elder_row","orders"] ["self","name","elders"] (Ad Ii):=Ez (by decide +kernel)
theorem qL(F:Nr K "found" "Book.found" Ii f fd T0)(T:Gz K mg CB CH)(Tx:Txt mg)(GO:Al P w K mg base Bi 2 fO dO ["self","name"] (Ig CB CH))(bO:Binds K dO ["self","name"] [])(mO:Dt K CB "order" fO)(GN:Al P w K mg base Bi 1 fN dN ["value"] Gk)(kN:JR K (.ref fN)=true)(bN:Binds K dN ["value"] [])(mN:mg "is_name" = some (.ref fN))(GM:Al P w K mg base Bi 3 fM dM ["name","elders","orders"] Zb)(kM:JR K (.ref fM)=true)(bM:Binds K dM ["name","elders","orders"] [])(mM:mg "made_order" = some (.ref fM))(GI:Al P w K mg base Bi 1 fI dI ["self","elder_row","order_row"] (Kw CH))(bI:Binds K dI ["self","elder_row","order_row"] [])(MH:Mk K CH fI):Al P w K mg base Bi 4 f fd ["self","name","elders"] (Oj CB CH):=by
 refine F.ok Jz (λvs H Q E h=>?_) (λcdv A outer s H vs Q E hr h=>?_)
 ·obtain⟨p,d,L,x,v,el,n,rfl,_⟩:=h
  rfl
 obtain⟨p,d,L,x,v,el,n,rfl,⟨B,hok,hxl,hno,hel,hnd,hell,hll,htot,hrun,hjl⟩,hand,q⟩:=h
 have hu:=Fm hr
 have hr1:=hr.mono (j:=1) (by decide)
 have hr2:=hr.mono (j:=2) (by decide)
 obtain⟨dx,hp⟩:=B.ob
 refine⟨_,Ac (Ay (Hi (Fv (Cf GN hr1 mN kN bN (Du (pv 1))))) Bs Ap)
  (Ac (Ay (Fs (pP hu (pv 1) (Cp (pv 0) rfl))) Bs Ap)
  (Ac (Bv 3 Jz.nd (PE.imp (t':=λσ H Q=>∃v el,σ[2]? = some (some v)/\Hand H v el/\∀l,H l=none->Q (.ref l) (upd H l (.lst (Az el)))) (Xs (Fs (cG (pv 2))) (Df Fu) (Dl (Oy (K:=K)) rfl Tx.list NL (Du (pv 2))))
   (λσ H Q ⟨v,el,h1,h2,h3⟩=>?imp)))
  (Ac (Dd (i:=4) (Ad Ii) oS ["elder"] [("self", 0)] rfl Jz.nd rfl rfl (Dk (pv 3)) (Bm (i:=0) (by decide)) (λ_ _ _ _ _ _=>⟨Dg 0 DV,Ds,Ee (pv 1) T.clB mO GO hr2 bO .nil Dh (Du (pv 0))⟩))
  (Ac (Ay (Ar Qx (Bz Kj rfl Tx.len PySem.boot_len (Du (Dl (Jv rfl) rfl Tx.set Rt (Du (pv 3))))) (Bw Tx.len (pv 3)) (Au _)) Bs Ap)
  (Af (Gc hu (Cp (pv 0) rfl) (pv 1) (Oe MH GI hr2 rfl T.mgH bI .nil Dh (Em (pv 3) (Cf GM hr mM kM bM (Ja (pv 1) (pv 3) (pv 4))))) rfl)))))),?_⟩
 case imp=>
  refine⟨_,h1,_,rfl,?_⟩
  rcases h2 with ⟨rfl,rfl⟩ | ⟨a,rfl,ea⟩
  ·exact Ju ⟨by show 0<=JM;decide,h3⟩
  ·exact Eb ⟨_,h1,a,_,rfl,.inl (Aw.of ea),h3⟩
 -- is_name(name)
 refine⟨_,rfl,.str x,rfl,.inr ⟨x,rfl,hxl⟩,λH1 s1=>?_⟩
 rw[show DI (.str x)=true from hok]
 refine⟨_,rfl,Eb ?_⟩
 -- name in self.by_name
 have B1:=B.same s1
 refine⟨_,rfl,_,rfl,p,CB,dx,_,_,rfl,s1 _ _ hp,T.clB,T.nBy,Rw d,d,_,rfl,B1.no hno,_,rfl,Eb ?_⟩
 -- elder_row
 refine⟨v,el,rfl,hand.same s1,λla hla=>?_⟩
 have s2:=Ag hla (.lst (Az el))
 have sA:=s1.trans s2
 have hla0:H la=none:=s1.free hla
 have ela:(upd H1 la (.lst (Az el))) la=some (.lst (Az el)):=Aa
 generalize upd H1 la (.lst (Az el))=H2 at *
 -- orders
 refine⟨_,rfl,la,rfl,⟨_,Aw.of ela⟩,Dz (K:=K) (a:=la) (xs:=Az el) (λi ys H3=>Am H2 H3/\∃ps:List JK,ys=ps.map V.ref/\ps.length=i/\∀(j:Nat)(a:JK)(r:List Str),ps[j]? = some a->(el.map (iH L))[j]? = some r->H3 a=some (.lst (Az r)))
  ⟨Am.refl _,[],rfl,rfl,λj a r h=>by simp at h⟩ (λi ys H3 _ h=>Aw.of (h.1 _ _ ela)) ?_ ?_⟩
 ·rintro i y ys H3 hi ⟨s3,ps,rfl,hps,hpl⟩
  obtain⟨z,hz,rfl⟩:=Ic hi
  obtain⟨e,he⟩:=hel z (JY hz)
  have sB:=sA.trans s3
  have hil:i < el.length:=(JB.mp hz).1
  refine⟨_,rfl,p,dx,_,rfl,sB _ _ hp,Gr d (by decide +kernel),_,rfl,p,d,L,z,e,rfl,B.same sB,he,λl hl=>?_⟩
  have s4:=Ag hl (.lst (Az e.od))
  refine⟨by rw[JF,hps,KO];omega,s3.trans s4,ps++[l],by rw[JT];rfl,by rw[JJ,hps];rfl,λj a r h1 h2=>?_⟩
  by_cases hj:j < ps.length
  ·rw[KH hj] at h1
   exact s4 _ _ (hpl j a r h1 h2)
  ·have hjl:j < (ps++[l]).length:=(JB.mp h1).1
   rw[JJ,JU] at hjl
   obtain rfl:j=ps.length:=by omega
   rw[KA] at h1
   cases h1
   rw[KJ,hps,hz] at h2
   cases h2
   rw[gK he]
   exact Aa
 rintro ys H3 ⟨s3,ps,rfl,hps,hpl⟩ qa hqa
 rw[Av] at hps
 have s4:=Ag hqa (.lst (ps.map V.ref))
 have R:Cz (upd H3 qa (.lst (ps.map V.ref))) qa ps (el.map (iH L)):=⟨Aa,by rw[hps,JF],λi a r h1 h2=>s4 _ _ (hpl i a r h1 h2)⟩
 have sB:=s3.trans s4
 have sC:=sA.trans sB
 generalize upd H3 qa (.lst (ps.map V.ref))=H4 at *
 -- len(set(elder_row)) < len(elder_row)
 refine⟨_,rfl,la,el,rfl,Aw.of (sB _ _ ela),hnd,by show el.length+1 < 4096;omega,λsa hsa=>?_⟩
 have s5:=Ag hsa (Yt P w sa el.length)
 refine⟨sa,_,rfl,Aa,_,rfl,la,_,rfl,.inl (Aw.of (s5 _ _ (sB _ _ ela))),_,_,rfl,rfl,_,rfl,Br (λc=>?_) (λ_=>?_)⟩
 ·have:=of_decide_eq_true c
  rw[Av] at this
  omega
 have sD:=sC.trans s5
 have R5:=R.same s5
 have ela5:=s5 _ _ (sB _ _ ela)
 -- self.by_name[name]=House(elder_row,made_order(name,elder_row,orders))
 refine⟨_,rfl,_,rfl,_,rfl,_,rfl,x,la,qa,ps,el,el.map (iH L),n,rfl,ela5,R5,htot,by rw[JF];omega,by omega,hrun,hjl,λoa H6 hoa s6 eoa=>?_⟩
 intro hx hdx nx ndx nex
 have sE:=sD.trans s6
 have s7:Am H6 (upd (upd H6 hdx (.own hx)) hx (.ins CH hdx [])):=λb o e=>by
  rw[Aj (Ai e nx),Aj (Ai e ndx)]
  exact e
 refine⟨hx,la,oa,hdx,rfl,Aa,λba H7 hba e1 e2 kp=>⟨rfl,?_⟩⟩
 have s8:Am H6 H7:=λb o e=>kp b o (s7 b o e) (Ai e nx)
 have sF:=sE.trans s8
 have B7:=B.same sF
 refine⟨_,rfl,p,CB,dx,_,_,rfl,sF _ _ hp,T.clB,T.nBy,Rw d,_,rfl,d,_,rfl,Kv.k (k:=(KD x:Key)) B7.dc (by unfold qW;rw[JF,KO];omega),?_⟩
 have hla6:H6 la=some (.lst (Az el)):=s6 _ _ ela5
 have hba6:H6 ba=none:=s7.free hba
 have nlx:la≠hx:=Ai hla6 nx
 have frE:gM H ⟨x,hx,hdx,la,oa,ba,el,x::(Ei n (rowsOf L el)).1,[]⟩:=⟨sE.free nx,hla0,sD.free hoa,sE.free hba6⟩
 have k8:∀b o,H b=some o->b≠d->(upd H7 d (.dK (putK (qW L) (KD x:Key) (.ref hx)))) b=some o:=λb o e hb=>by rw[Aj hb];exact sF _ _ e
 have nd_of:∀b,H b=none->b≠d:=λb hb=>LH (Ai B.dc hb)
 refine q ⟨x,hx,hdx,la,oa,ba,el,x::(Ei n (rowsOf L el)).1,[]⟩ _ ⟨rfl,rfl,rfl,rfl,frE⟩ (B.add (e:=⟨x,hx,hdx,la,oa,ba,el,x::(Ei n (rowsOf L el)).1,[]⟩) hno frE.ba ⟨?_,?_,?_,?_⟩ Aa k8) k8
 ·rw[Aj (nd_of _ frE.at_)];exact e1
 ·rw[Aj (nd_of _ frE.ea)];exact s8 _ _ hla6
 ·rw[Aj (nd_of _ frE.oa)];exact s8 _ _ eoa
 ·rw[Aj (nd_of _ frE.ba)];exact e2
end
def big:Int:=10 ^ 30
def rT(lo hi:Int):V->Bool
 | .int i=>decide (lo<=i) && decide (i<=hi)
 | _=>false
def Ew(kd:Str)(v:V):Bool:=if kd = "word" then DI v else if kd = "shift" then rT 0 64 v else if kd = "divisor" then rT (-big) big v && !decide (v=.int 0) else rT (-big) big v
def Lq:Sp:=λvs H Q _=>∃(v:V)(lo hi:Int),vs=[v,.int lo,.int hi]/\PV v/\Q (.bl (rT lo hi v)) H
def Mb:Sp:=λvs H Q _=>∃v:V,vs=[v]/\PV v/\Q (.bl (rT (-big) big v)) H
def cT:Sp:=λvs H Q _=>∃(v:V)(kd:Str),vs=[v,.str kd]/\PV v/\∀H',Am H H'->Q (.bl (Ew kd v)) H'
section
variable {P:KC} {w:LL} {K:JC} {mg:Str->Option JD} {base:MQ} {f fW fA fN fP fS aP:JK} {fd dW dA dN dP dS:LB}
theorem wB:An ["value","least","most"] ["value","least","most"] (Ad Zl):=Ez (by decide +kernel)
theorem nS(F:Dj K "is_whole" "is_whole" Zl f fd)(T:Txt mg):Al P w K mg base Bi 1 f fd ["value","least","most"] Lq:=by
 refine F.ok wB (λvs H Q E h=>?_) (λcdv A outer s H vs Q E hr h=>?_)
 ·obtain⟨v,lo,hi,rfl,_⟩:=h
  rfl
 obtain⟨v,lo,hi,rfl,hv,q⟩:=h
 refine⟨_,Af (Ao (Kp (Bz Eo rfl T.isi MW (Em (pv 0) (Ib (v:=.ty "int") rfl T.int PyProof.Rows.boot_int rfl)))
  (Kp (zB (Bz Eo rfl T.isi MW (Em (pv 0) (Ib (v:=.ty "bool") rfl T.bool PyProof.Rows.boot_bool rfl))))
  (Vi (Pm Pl Pl (pv 1) (pv 0) (pv 2)))))),?_⟩
 rcases hv with ⟨i,rfl⟩ | ⟨x,rfl,hx⟩
 ·refine⟨_,rfl,_,_,_,_,rfl,.int _,Hw K "int", _,rfl,Ju ?_⟩
  refine⟨_,rfl,_,_,_,_,rfl,.int _,(show QG K (.type "int") (.type "bool")=some false from rfl),_,rfl,_,rfl,Ju ?_⟩
  refine⟨_,rfl,_,rfl,_,_,rfl,rfl,_,rfl,Br (λc=>?_) (λc=>?_)⟩
  ·refine⟨_,rfl,_,_,rfl,rfl,?_⟩
   have e:rT lo hi (.int i)=decide (i<=hi):=by
    show (decide (lo<=i) && decide (i<=hi))=_
    rw[c,RQ]
   rw[e] at q
   exact q
  ·have e:rT lo hi (.int i)=false:=by
    show (decide (lo<=i) && decide (i<=hi))=_
    rw[NG.mpr c,QZ]
   rw[e] at q
   exact q
 ·exact⟨_,rfl,_,_,_,_,rfl,.str _,(show QG K (.type "str") (.type "int")=some false from rfl),_,rfl,Eb q⟩
theorem nZ:An ["value"] ["value"] (Ad Vk):=Ez (by decide +kernel)
theorem jG(F:Dj K "is_amount" "is_amount" Vk f fd)(T:Txt mg)(GW:Al P w K mg base Bi 1 fW dW ["value","least","most"] Lq)(kW:JR K (.ref fW)=true)(bW:Binds K dW ["value","least","most"] [])(mW:mg "is_whole" = some (.ref fW)):Al P w K mg base Bi 2 f fd ["value"] Mb:=by
 refine F.ok nZ (λvs H Q E h=>?_) (λcdv A outer s H vs Q E hr h=>?_)
 ·obtain⟨v,rfl,_⟩:=h
  rfl
 obtain⟨v,rfl,hv,q⟩:=h
 refine⟨_,Af (Ao (Cf GW hr mW kW bW (Ja (pv 0) (Jt Gs (Aq Ug Ae Ae)) (Aq Ug Ae Ae)))),?_⟩
 exact⟨_,rfl,_,_,rfl,rfl,⟨by decide,by decide,by decide⟩,_,rfl,_,_,rfl,rfl,⟨by decide,by decide,by decide⟩,v,-big,big,rfl,hv,q⟩
theorem zL:An ["part","kind"] ["part","kind"] (Ad Tn):=Ez (by decide +kernel)
theorem uV(F:Dj K "is_part" "is_part" Tn f fd)(T:Txt mg)(GW:Al P w K mg base Bi 1 fW dW ["value","least","most"] Lq)(kW:JR K (.ref fW)=true)(bW:Binds K dW ["value","least","most"] [])(mW:mg "is_whole" = some (.ref fW))(GA:Al P w K mg base Bi 2 fA dA ["value"] Mb)(kA:JR K (.ref fA)=true)(bA:Binds K dA ["value"] [])(mA:mg "is_amount" = some (.ref fA))(GN:Al P w K mg base Bi 1 fN dN ["value"] Gk)(kN:JR K (.ref fN)=true)(bN:Binds K dN ["value"] [])(mN:mg "is_name" = some (.ref fN)):Al P w K mg base Bi 3 f fd ["part","kind"] cT:=by
 refine F.ok zL (λvs H Q E h=>?_) (λcdv A outer s H vs Q E hr h=>?_)
 ·obtain⟨v,kd,rfl,_⟩:=h
  rfl
 obtain⟨v,kd,rfl,hv,q⟩:=h
 have hr1:=hr.mono (j:=1) (by decide)
 refine⟨_,Ac (Ay (Ar Cc (pv 1) Ba (Au _)) (Af (Ao (Cf GN hr1 mN kN bN (Du (pv 0))))) Ap)
  (Ac (Ay (Ar Cc (pv 1) Ba (Au _)) (Af (Ao (Cf GW hr1 mW kW bW (Ja (pv 0) Ae Ae)))) Ap)
  (Ac (Ay (Ar Cc (pv 1) Ba (Au _)) (Af (Ao (Kp (Cf GA hr mA kA bA (Du (pv 0))) (Vi (fJ Sw (pv 0) Ae (Au _)))))) Ap)
  (Af (Ao (Cf GA hr mA kA bA (Du (pv 0))))))),?_⟩
 unfold Ew at q
 have de:∀ {a b:Str},decide (V.str a=V.str b)=true->a=b:=λh=>V.str.inj (of_decide_eq_true h)
 have dn:∀ {a b:Str},¬ decide (V.str a=V.str b)=true->¬ a=b:=λh e=>h (by rw[e];exact decide_eq_true rfl)
 refine⟨_,rfl,rfl,_,rfl,Br (λc=>?_) (λc=>?_)⟩
 ·rw[if_pos (de c)] at q
  exact⟨_,rfl,v,rfl,hv,q⟩
 rw[if_neg (dn c)] at q
 refine⟨_,rfl,rfl,_,rfl,Br (λc=>?_) (λc=>?_)⟩
 ·rw[if_pos (de c)] at q
  exact⟨_,rfl,v,0,64,rfl,hv,q _ (Am.refl _)⟩
 rw[if_neg (dn c)] at q
 refine⟨_,rfl,rfl,_,rfl,Br (λc=>?_) (λc=>?_)⟩
 ·rw[if_pos (de c)] at q
  refine⟨_,rfl,v,rfl,hv,_,rfl,Br (λc2=>?_) (λc2=>?_)⟩
  ·rw[c2,RQ] at q
   rcases hv with ⟨i,rfl⟩ | ⟨x,rfl,_⟩
   ·exact⟨_,rfl,rfl,q _ (Am.refl _)⟩
   ·cases c2
  ·rw[NG.mpr c2,QZ] at q
   exact q _ (Am.refl _)
 rw[if_neg (dn c)] at q
 exact⟨_,rfl,v,rfl,hv,q _ (Am.refl _)⟩
theorem oX:(["part","kind"]:List Str).Nodup:=by decide +kernel
theorem AF:(["step"]:List Str).Nodup:=by decide +kernel
structure Tab(P:KC)(w:LL)(K:JC)(aP:JK)(ks:List (Str×JK×List Str)):Prop where
 dic:cD P w K aP (ks.map λp=>((KD p.1:Key),V.ref p.2.1))
 tup:∀p∈ks,∀H:Hp,Co K H p.2.1 (Az p.2.2)
def kindsOf(ks:List (Str×JK×List Str))(kd:Str):Option (JK×List Str):=(ks.find? λp=>decide (p.1=kd)).map (·.2)
theorem uJ(ks:List (Str×JK×List Str))(kd:Str):valV (ks.map λp=>((KD p.1:Key),V.ref p.2.1)) (KD kd:Key)=(kindsOf ks kd).map λq=>V.ref q.1:=by
 unfold kindsOf
 induction ks with
 | nil=>rfl
 | cons e L ih=>
  rw[LU]
  by_cases h:e.1=kd
  ·rw[Cu (show ((KD e.1:Key),V.ref e.2.1).1=KD kd by rw[h]),QH (by rw[decide_eq_true h])]
   rfl
  ·rw[Ct (λz=>h (KD.inj z)),ih,QI (by rw[decide_eq_false h];exact JN)]
theorem iK{ks:List (Str×JK×List Str)}{kd:Str}{a:JK}{r:List Str}(h:kindsOf ks kd=some (a,r)):∃p∈ks,p.2=(a,r):=by
 unfold kindsOf at h
 cases e:ks.find? λp=>decide (p.1=kd) with
 | none=>rw[e] at h;cases h
 | some p=>
  rw[e] at h
  exact⟨p,List.mem_of_find?_eq_some e,KW h⟩
def Hv(ks:List (Str×JK×List Str))(kd:Str)(ps:List V):Prop:=∃a r,kindsOf ks kd=some (a,r)/\ps.length=r.length/\∀(i:Nat)(v:V)(k:Str),ps[i]? = some v->r[i]? = some k->Ew k v=true
def cJ(K:JC)(ks:List (Str×JK×List Str)):Sp:=λvs H Q _=>∃(t:JK)(kd:Str)(ps:List V),vs=[.ref t]/\Co K H t (.str kd::ps)/\H t=some (.tup (.str kd::ps))/\Hv ks kd ps/\(∀v∈ps,PV v)/\ps.length<=100/\∀H',Am H H'->Q (.bl true) H'
theorem EA(x:V)(xs:List V):Ga (x::xs) (some 1) none=xs:=by rw[yV];rfl
theorem pB:An ["value","kinds"] ["value"] (Ad Oq):=Ez (by decide +kernel)
theorem tG{ks:List (Str×JK×List Str)}(F:Dj K "is_step" "is_step" Oq f fd)(T:Txt mg)(Tb:Tab P w K aP ks)(mP:mg "PARTS" = some (.ref aP))(GP:Al P w K mg base Bi 3 fP dP ["part","kind"] cT)(kP:JR K (.ref fP)=true)(bP:Binds K dP ["part","kind"] [])(mPt:mg "is_part" = some (.ref fP)):Al P w K mg base Bi 4 f fd ["value"] (cJ K ks):=by
 refine F.ok pB (λvs H Q E h=>?_) (λcdv A outer s H vs Q E hr h=>?_)
 ·obtain⟨t,kd,ps,rfl,_⟩:=h
  rfl
 obtain⟨t,kd,ps,rfl,ht,ht',⟨a,r,hk,hl,hg⟩,hpv,hps,q⟩:=h
 refine⟨_,Ac (Ay (PW.pt (Xt (Hi (Fv (Bz Eo rfl T.isi MW (Em (pv 0) (Ib (v:=.ty "tuple") rfl T.tup PyProof.Rows.boot_tuple rfl)))))
  (Xt (Ar Cc (Bw T.len (pv 0)) Ae (Au _))
  (Zq (Hi (Fv (Bz Eo rfl T.isi MW (Em (As Ax (pv 0) Ae (λ_ _=>rfl)) (Ib (v:=.ty "str") rfl T.str PyProof.Rows.boot_str rfl))))))))) Bs Ap)
  (Ac (Bv 1 pB.nd (wD (dZ (v:=.ref aP) rfl mP rfl) (As Ax (pv 0) Ae (λ_ _=>rfl)) ⟨rfl,rfl,rfl,rfl⟩))
  (Ac (Ay (PW.pt (Xt (Fs (cG (pv 1))) (Zq (Ar Sw (Bw T.len (pv 0)) (Aq Cm Ae (Bw T.len (pv 1))) (Au _))))) Bs Ap)
  (Af (Ao (Bz (Pq rfl) rfl T.all Mt (Du (Hh (Ad Oq) ["value","kinds"] ["part","kind"] [] rfl (vK rfl T.zip (Em (Cj yI (pv 0) (Cy Ae) Dx) (pv 1))) (Kb (K:=K) (Cs (Bm (i:=0) (by decide)) (Cs (Bm (i:=1) (by decide)) Ht)))
   (λ_ _ _ _ _ _=>⟨Ji (n:=2) rfl (Ce (Dg 0 oX) (Ce (Dg 1 oX) Hf)),Ds,Cf GP hr mPt kP bP (Em (pv 0) (pv 1))⟩)))))))),?_⟩
 have at0:Jb (V.str kd::ps) 0=some (.str kd):=Bc (j:=0) rfl
 obtain⟨pr,hpr,epr⟩:=iK hk
 have hr0:∀H:Hp,Co K H a (Az r):=λH=>by
  have:=Tb.tup pr hpr H
  rw[epr] at this
  exact this
 refine⟨_,rfl,_,_,_,_,rfl,.tup ht',Hw K "tuple", _,rfl,Eb ?_⟩
 refine⟨_,rfl,t,_,rfl,.inr ht,rfl,_,rfl,Br (λc=>?_) (λ_=>?_)⟩
 ·have:=V.int.inj (of_decide_eq_true c)
  rw[LN] at this
  omega
 refine⟨_,rfl,t,_,_,_,rfl,rfl,ht,at0,_,_,_,_,rfl,.str _,Hw K "str", _,rfl,Eb ?_⟩
 -- kinds=PARTS.get(value[0])
 refine⟨aP,_,rfl,Tb.dic,_,rfl,t,_,_,_,rfl,rfl,ht,at0,KD kd,rfl,?_⟩
 rw[uJ,hk]
 refine⟨_,rfl,_,rfl,Eb ?_⟩
 refine⟨_,rfl,t,_,rfl,.inr ht,_,rfl,a,_,rfl,.inr (hr0 _),_,_,rfl,rfl,rfl,_,rfl,?_⟩
 have hlen:(V.int ((V.str kd::ps).length:Int))=V.int (1+((Az r).length:Int)):=by rw[LN,Av,hl];congr 1;omega
 refine gZ hlen ?_
 -- all([is_part(part,kind) for part,kind in zip(value[1:],kinds)])
 refine⟨_,rfl,_,rfl,t,_,rfl,ht,?_,λp hp=>?_⟩
 ·intro z
  have z1:=z.1
  rw[show HT.sIx (V.str kd::ps).length 0 (some 1)=min 1 (V.str kd::ps).length from HT.sIx_nat _ _ 1,LN] at z1
  omega
 rw[EA]
 have s1:=Ag hp (.tup ps)
 refine⟨_,rfl,p,a,rfl,⟨_,Co.of Aa⟩,⟨_,hr0 _⟩,Wy (K:=K) (a:=p) (b:=a) (xs:=ps) (zs:=Az r) (by rw[Av];exact hl) (λi ys H2=>Am (upd H p (.tup ps)) H2/\ys=(KZ i true).map V.bl) ⟨Am.refl _,rfl⟩ (λi ys H2 _ h=>⟨Co.of (h.1 _ _ Aa),hr0 _⟩) ?_ ?_⟩
 ·rintro i x z ys H2 Tp hx hz ⟨s2,rfl⟩ hT
  obtain⟨k,hk',rfl⟩:=Ic hz
  have s3:=Ag hT (.tup [x,.str k])
  refine⟨Tp,_,rfl,Co.of Aa,rfl,_,_,rfl,_,_,rfl,rfl,?_⟩
  have hil:i < ps.length:=(JB.mp hx).1
  refine⟨_,rfl,_,rfl,x,k,rfl,hpv x (JY hx),λH3 s4=>?_⟩
  rw[hg i x k hx hk']
  refine⟨by rw[JF,NQ,KO];omega,s2.trans (s3.trans s4),?_⟩
  rw[SR,JT]
  rfl
 ·rintro ys H2 ⟨s2,rfl⟩ l hl'
  refine⟨l,_,KZ ps.length true,rfl,Aw.of Aa,Im _,?_⟩
  have e:(KZ ps.length true).all id=true:=by simp
  rw[e]
  exact q _ (s1.trans (s2.trans (Ag hl' _)))
def Dq(H:Hp)(ts:List JK)(ss:List (Str×List V)):Prop:=ts.length=ss.length/\∀(i:Nat)(t:JK)(p:Str×List V),ts[i]? = some t->ss[i]? = some p->H t=some (.tup (.str p.1::p.2))
theorem Dq.same{H H':Hp}{ts:List JK}{ss:List (Str×List V)}(h:Dq H ts ss)(s:Am H H'):Dq H' ts ss:=⟨h.1,λi t p a b=>s _ _ (h.2 i t p a b)⟩
def Mq(ks:List (Str×JK×List Str))(ss:List (Str×List V)):Prop:=ss.length<=30/\∀p∈ss,Hv ks p.1 p.2/\(∀v∈p.2,PV v)/\p.2.length<=100
def Pf(ks:List (Str×JK×List Str)):Sp:=λvs H Q _=>∃(l:JK)(ts:List JK)(ss:List (Str×List V)),vs=[.ref l]/\H l=some (.lst (ts.map V.ref))/\Dq H ts ss/\Mq ks ss/\∀H',Am H H'->Q (.bl true) H'
theorem nP:An ["value"] ["value"] (Ad Oo):=Ez (by decide +kernel)
theorem jD{ks:List (Str×JK×List Str)}(F:Dj K "is_body" "is_body" Oo f fd)(T:Txt mg)(GS:Al P w K mg base Bi 4 fS dS ["value"] (cJ K ks))(kS:JR K (.ref fS)=true)(bS:Binds K dS ["value"] [])(mS:mg "is_step" = some (.ref fS)):Al P w K mg base Bi 5 f fd ["value"] (Pf ks):=by
 refine F.ok nP (λvs H Q E h=>?_) (λcdv A outer s H vs Q E hr h=>?_)
 ·obtain⟨l,ts,ss,rfl,_⟩:=h
  rfl
 obtain⟨l,ts,ss,rfl,el,⟨hts,hat⟩,⟨hs30,hgs⟩,q⟩:=h
 refine⟨_,Af (Ao (Kp (Bz Eo rfl T.isi MW (Em (pv 0) (Ib (v:=.ty "list") rfl T.list NL rfl)))
  (Kp (fJ Pl (Bw T.len (pv 0)) Ae (Au _))
  (Vi (Bz (Pq rfl) rfl T.all Mt (Du (Hh (Ad Oo) ["value"] ["step"] [] rfl (Dk (pv 0)) (Bm (i:=0) (by decide)) (λ_ _ _ _ _ _=>⟨Dg 0 AF,Ds,
   Cf GS hr mS kS bS (Du (pv 0))⟩)))))))),?_⟩
 refine⟨_,rfl,_,_,_,_,rfl,.lst el,Hw K "list", _,rfl,Ju ?_⟩
 refine⟨_,rfl,l,_,rfl,.inl (Aw.of el),_,_,rfl,rfl,_,rfl,Br (λ_=>?_) (λc=>absurd (decide_eq_true (by rw[JF];omega)) c)⟩
 refine⟨_,rfl,l,rfl,⟨_,Aw.of el⟩,Dz (K:=K) (a:=l) (xs:=ts.map V.ref) (λi ys H2=>Am H H2/\ys=(KZ i true).map V.bl) ⟨Am.refl _,rfl⟩ (λi ys H2 _ h=>Aw.of (h.1 _ _ el)) ?_ ?_⟩
 ·rintro i y ys H2 hi ⟨s2,rfl⟩
  obtain⟨t,ht,rfl⟩:=Ea hi
  have hil:i < ss.length:=by rw[<- hts];exact(JB.mp ht).1
  have hp:=JG hil
  have et:=s2 _ _ (hat i t _ ht hp)
  obtain⟨g1,g2,g3⟩:=hgs _ (OJ hil)
  refine⟨_,rfl,t,_,_,rfl,Co.of et,et,g1,g2,g3,λH3 s3=>⟨by rw[JF,NQ,KO];omega,s2.trans s3,?_⟩⟩
  rw[SR,JT]
  rfl
 ·rintro ys H2 ⟨s2,rfl⟩ p hp
  refine⟨p,_,KZ (ts.map V.ref).length true,rfl,Aw.of Aa,Im _,?_⟩
  have e:(KZ (ts.map V.ref).length true).all id=true:=by simp
  rw[e]
  exact q _ (s2.trans (Ag hp _))
end
end Bk
namespace Rk
open PySem
def Ab(b:Nat)(n:Int):Prop:=n.natAbs<=2 ^ b
theorem lA{b c:Nat}(h:b<=c):2 ^ b<=2 ^ c:=Nat.pow_le_pow_right (by decide) h
theorem Ab.mono{b c:Nat}{n:Int}(h:Ab b n)(hc:b<=c):Ab c n:=KS h (lA hc)
theorem pG{n:Int}(h0 : -(10 ^ 30)<=n)(h1:n<=10 ^ 30):Ab 100 n:=by
 unfold Ab
 have e:(2:Nat) ^ 100=1267650600228229401496703205376:=by decide
 have e2:(10:Int) ^ 30=1000000000000000000000000000000:=by decide
 rw[e2] at h0 h1
 rw[e]
 omega
theorem Ab.add{b:Nat}{x y:Int}(hx:Ab b x)(hy:Ab b y):Ab (b+1) (x+y):=by
 unfold Ab at *
 have:=Int.natAbs_add_le x y
 rw[Nat.pow_succ]
 omega
theorem Ab.neg{b:Nat}{x:Int}(hx:Ab b x):Ab b (-x):=by
 unfold Ab at *
 rw[Int.natAbs_neg]
 exact hx
theorem Ab.sub{b:Nat}{x y:Int}(hx:Ab b x)(hy:Ab b y):Ab (b+1) (x-y):=by
 rw[Int.sub_eq_add_neg]
 exact hx.add hy.neg
theorem Ab.mul{b c:Nat}{x y:Int}(hx:Ab b x)(hy:Ab c y):Ab (b+c) (x * y):=by
 unfold Ab at *
 rw[Int.natAbs_mul,Nat.pow_add]
 exact Nat.mul_le_mul hx hy
theorem Ab.ediv{b:Nat}{x y:Int}(hx:Ab b x):Ab b (x / y):=KS (Int.natAbs_ediv_le_natAbs x y) hx
theorem Ab.fdiv{b:Nat}{x y:Int}(hx:Ab b x):Ab (b+1) (x.fdiv y):=by
 have h:=hx.ediv (y:=y)
 have hp:0 < 2 ^ b:=Nat.pow_pos (by decide)
 unfold Ab at *
 rw[Int.fdiv_eq_ediv,Nat.pow_succ]
 split<;>omega
theorem Ab.up{b k:Nat}{x:Int}(hx:Ab b x):Ab (b+k) (x * 2 ^ k):=by
 refine hx.mul ?_
 unfold Ab
 rw[Int.natAbs_pow]
 exact JI _
def In(b:Nat)(n:Int):Prop:=-((2 ^ b:Nat):Int)<=n/\n < ((2 ^ b:Nat):Int)
theorem Ab.inn{b:Nat}{x:Int}(h:Ab b x):In (b+1) x:=by
 have hp:0 < 2 ^ b:=Nat.pow_pos (by decide)
 unfold Ab at h
 unfold In
 rw[Nat.pow_succ]
 generalize 2 ^ b=p at *
 omega
theorem In.ab{b:Nat}{x:Int}(h:In b x):Ab b x:=by
 unfold In at h
 unfold Ab
 generalize 2 ^ b=p at *
 omega
theorem In.not{b:Nat}{x:Int}(h:In b x):In b (OM x):=by
 unfold In at *
 unfold OM
 generalize 2 ^ b=p at *
 omega
theorem In.nat{b:Nat}{x:Int}(h:In b x):x.toNat < 2 ^ b:=by
 have hp:0 < 2 ^ b:=Nat.pow_pos (by decide)
 unfold In at h
 generalize 2 ^ b=p at *
 omega
theorem nW{x:Int}{m:Nat}(h:0<=x):(0:Int)<=x-((x.toNat &&& m:Nat):Int)/\x-((x.toNat &&& m:Nat):Int)<=x:=by
 have:=Nat.and_le_left (n:=x.toNat) (m:=m)
 omega
theorem In.and{b:Nat}{x y:Int}(hx:In b x)(hy:In b y):In b (Builtin.bitAnd x y):=by
 have h1:=hx.not.nat
 have h2:=hy.not.nat
 have hl:=Nat.and_le_left (n:=x.toNat) (m:=y.toNat)
 have ho:=Nat.or_lt_two_pow h1 h2
 unfold Builtin.bitAnd
 by_cases h:0<=x<;>by_cases g:0<=y
 ·rw[decide_eq_true h,decide_eq_true g]
  unfold In at *
  show -_<=((x.toNat &&& y.toNat:Nat):Int)/\((x.toNat &&& y.toNat:Nat):Int) < _
  generalize 2 ^ b=p at *
  omega
 ·rw[decide_eq_true h,decide_eq_false g]
  have:=nW (m:=(OM y).toNat) h
  unfold In at *
  show -_<=x-((x.toNat &&& (OM y).toNat:Nat):Int)/\x-((x.toNat &&& (OM y).toNat:Nat):Int) < _
  generalize 2 ^ b=p at *
  omega
 ·rw[decide_eq_false h,decide_eq_true g]
  have:=nW (m:=(OM x).toNat) g
  unfold In at *
  show -_<=y-((y.toNat &&& (OM x).toNat:Nat):Int)/\y-((y.toNat &&& (OM x).toNat:Nat):Int) < _
  generalize 2 ^ b=p at *
  omega
 ·rw[decide_eq_false h,decide_eq_false g]
  show In b (OM (((OM x).toNat ||| (OM y).toNat:Nat):Int))
  refine In.not ?_
  unfold In
  generalize 2 ^ b=p at *
  omega
theorem In.or{b:Nat}{x y:Int}(hx:In b x)(hy:In b y):In b (Builtin.bitOr x y):=(hx.not.and hy.not).not
theorem In.xor{b:Nat}{x y:Int}(hx:In b x)(hy:In b y):Ab (b+1) (Builtin.bitXor x y):=(hx.or hy).ab.sub (hx.and hy).ab
theorem Ab.bits{b:Nat}{n:Int}(h:Ab b n):Builtin.Int.intBits n<=b+1:=by
 unfold Builtin.Int.intBits
 split
 ·exact LG _
 ·next hz=>
  have hn:n.natAbs≠0:=by
   intro z
   apply hz
   have:n=0:=by omega
   rw[this];rfl
  have:n.natAbs.log2 < b+1:=(Nat.log2_lt hn).mpr (by
   have hp:0 < 2 ^ b:=Nat.pow_pos (by decide)
   unfold Ab at h
   rw[Nat.pow_succ]
   omega)
  omega
theorem Ab.log{b:Nat}{n:Int}(h:Ab b n):n.natAbs.log2 < b+1:=by
 rcases Nat.eq_zero_or_pos n.natAbs with h0 | hp
 ·rw[h0];exact QL (by decide) (Nat.succ_pos b)
 ·refine(Nat.log2_lt (OC hp)).mpr ?_
  have hp:0 < 2 ^ b:=Nat.pow_pos (by decide)
  unfold Ab at h
  rw[Nat.pow_succ]
  omega
end Rk
namespace L2
open PySem PySem.Spec PyProof.Rows Rk
section
variable {X:Cx}
def DE(i j:Int):Prop:=∃b,Ab b i/\Ab b j/\b<=1000000
theorem wV{b:Nat}(h:b<=1000000):b+1<=2 ^ 20:=by
 have e:(2:Nat) ^ 20=1048576:=by decide
 omega
theorem vJ:Jr X (QM .Mult) (rI DE λi j=>.int (i * j)):=vQ λ_ _ _ _ _ _ _ hc q=>
 let ⟨b,h1,h2,h3⟩:=hc
 mul_int q (IntMulOk.of_bits (KS h1.bits (wV h3)) (KS h2.bits (wV h3)))
def DA(i j:Int):Prop:=j≠0/\Ab 8000 j
theorem Yc:Jr X (QM .FloorDiv) (rI DA λi j=>.int (i.fdiv j)):=vQ λ_ _ _ _ _ _ _ hc q=>floordiv_int hc.1 q (.inl (PyProof.noPylong_of_log2 (Nat.lt_trans hc.2.log (by decide))))
def DN(i j:Int):Prop:=0<=j/\j<=1000/\Ab 1000000 i
theorem sY:Jr X (QM .LShift) (rI DN λi j=>.int (i * 2 ^ j.toNat)):=vQ λ_ _ _ _ _ _ _ hc q=>lshift_int hc.1 (by
 have h:=hc.2.2.bits
 have h2:=hc.2.1
 have e:(2:Int) ^ 27=134217728:=by decide
 omega) q
end
def Yo:List Expr->Option (List Str)
 | []=>some []
 | .Constant (.str x) _ _::es=>(Yo es).map (x :: ·)
 | _=>none
def eQ(vs:List V):TA:=λ_ H Q=>Q vs H
theorem Il{X:Cx}:∀ {es:List Expr} {xs:List Str},Yo es=some xs->PA X es (eQ (xs.map V.str))
 | [],xs,h=>by
  cases h
  exact Fu
 | e::es,xs,h=>by
  cases e with
  | Constant c j p=>
   cases c with
   | str x=>
    have h':(Yo es).map (x :: ·)=some xs:=h
    cases e:Yo es with
    | none=>
     rw[e] at h'
     cases h'
    | some ys=>
     rw[e] at h'
     cases h'
     exact Fz Ba (Il e)
   | _=>cases h
  | _=>cases h
structure CJ(X:Cx)(st:OQ)(t:TS):Prop where
 ok:PS X st t
structure FV(X:Cx)(es:List Expr)(t:TA):Prop where
 ok:PA X es t
theorem Wl{X:Cx}{es:List Expr}{xs:List Str}(h:Yo es=some xs):FV X es (eQ (xs.map V.str)):=⟨Il h⟩
theorem tV{X:Cx}{i:Nat}{x:Str}{es:List Expr}{t:TA}{pos pos' p2:Pos}(hN:X.N.Nodup)(hi:X.N[i]? = some x)(hx:Loc X.env.scope x)(h:FV X es t)(hf:X.fn x=true∨X.env.scope.names.lookup x=some .local):CJ X (.Assign [.Name x pos'] (.List es p2) pos) (Wp (pS t) (Kk i)):=⟨Mr hN hi hx (Df h.ok) rfl hf⟩
theorem eK{X:Cx}{st:OQ}{rest:List OQ}{t:TS}{G:TS->Prop}(h1:CJ X st t)(h2:∃u,Hy X rest u/\G (DT t u)):∃t',Hy X (st::rest) t'/\G t':=let ⟨u,a,b⟩:=h2;⟨_,Ac h1.ok a,b⟩
theorem vN{X:Cx}{K:JC}{e:Expr}{ta:TE}{f:Str}{pos:Pos}(he:PE X e ta)(hb:RD e f X.env (OX e X.env)=OX e X.env)(hK:X.K=K:=by rfl):PE X (.Attribute e f pos) (CV K ta f):=by
 subst hK
 exact Cp he hb
def IC(K:JC)(C:JK)(tsu:TS)(th:Ends->XS):Ends->XS:=λD σ cls dx H=>∃b,QV K cls (.ref C)=some b/\if b=true then tsu D σ H else th D σ cls dx H
theorem Ps{X:Cx}{K:JC}{EX:XS}{th:Ends->XS}{hs:List SK}{C:JK}{c:Str}{np pos:Pos}{b₀:OQ}{suite:List OQ}{tsu:TS}(hcls:Gl X c)(hm:X.mg c=some (.ref C))(hsu:∀x oe,Hy (Ir X x oe) (b₀::suite) tsu)(hr:PH X hs EX th)(hK:X.K=K:=by rfl)(hdb:(c == ("__debug__" : Str))=false:=by decide):
 PH X (.ExceptHandler (some (.Name c np)) none (b₀::suite) pos::hs) EX (IC K C tsu th):=by
 subst hK
 intro σ H s x cls dx T oe oT vs ts D I fx fT a h
 refine gT (ts':=λ_ _=>tsu) hcls hm hsu hr hdb σ H s x cls dx T oe oT vs ts D I fx fT a ?_
 obtain⟨b,hb,h⟩:=h
 refine⟨b,hb,?_⟩
 cases b with
 | true=>rw[if_pos rfl] at h ⊢;exact λ_ _ _ _ _ _=>h
 | false=>rw[if_neg JN] at h ⊢;exact h
end L2
namespace Bk
open PySem L2 Mg Nm Rk
inductive Sm
 | say
 | op (kd:Str) (a:Int)
def Qq:List Str:=["put","plus","times","over","both","any","odd","up","down","part"]
structure wR(kd:Str)(a:Int):Prop where
 mem:kd∈Qq
 lo : -big<=a
 hi:a<=big
 dv:kd = "over" ∨ kd = "part" -> a≠0
 sh:kd = "up" ∨ kd = "down" -> 0<=a/\a<=64
def CN:Sm->Prop
 | .say=>True
 | .op kd a=>wR kd a
def Sm.pr:Sm->Str×List V
 | .say=>("say", [])
 | .op kd a=>(kd,[V.int a])
def xR(kd:Str)(a n:Int):Int:=if kd = "put" then a else if kd = "plus" then n+a else if kd = "times" then n * a else if kd = "over" then n.fdiv a else if kd = "both" then Builtin.bitAnd n a else if kd = "any" then Builtin.bitOr n a else if kd = "odd" then Builtin.bitXor n a else if kd = "up" then n * 2 ^ a.toNat else n / 2 ^ a.toNat
def Sm.out:Sm->Int->List Int
 | .say,n=>[n]
 | .op kd a,n=>if kd = "part" then [n.fmod a] else []
def Sm.nx:Sm->Int->Int
 | .say,n=>n
 | .op kd a,n=>if kd = "part" then n.fdiv a else xR kd a n
theorem wR.ab{kd:Str}{a:Int}(h:wR kd a):Ab 100 a:=pG h.lo h.hi
theorem AA{kd:Str}{a n:Int}{b:Nat}(h:wR kd a)(hk:kd ≠ "part")(hn:Ab b n)(hb:100<=b):Ab (b+101) (xR kd a n):=by
 have ha:=h.ab.mono hb
 have m:b+1<=b+101:=by omega
 unfold xR
 split
 ·exact ha.mono (by omega)
 split
 ·exact(hn.add ha).mono m
 split
 ·exact(hn.mul h.ab).mono (by omega)
 split
 ·exact hn.fdiv.mono m
 split
 ·exact(hn.inn.and ha.inn).ab.mono m
 split
 ·exact(hn.inn.or ha.inn).ab.mono m
 split
 ·exact(hn.inn.xor ha.inn).mono (by omega)
 split
 ·next hu=>exact hn.up.mono (by have:=h.sh (.inl hu);omega)
 ·exact hn.ediv.mono (by omega)
theorem Sm.nx_ab{s:Sm}{n:Int}{b:Nat}(h:CN s)(hn:Ab b n)(hb:100<=b):Ab (b+101) (s.nx n):=by
 cases s with
 | say=>exact hn.mono (by omega)
 | op kd a=>
  show Ab (b+101) (if kd = "part" then n.fdiv a else xR kd a n)
  split
  ·exact hn.fdiv.mono (by omega)
  ·next hk=>exact AA h hk hn hb
theorem uG(s:Sm)(n:Int):(s.out n).length<=1:=by
 cases s with
 | say=>exact JI _
 | op kd a=>
  show (if kd = "part" then [n.fmod a] else []).length<=1
  split
  ·exact JI _
  ·exact LG _
def Wb(ns:List Int):List V:=ns.map V.int
theorem Ob(ns:List Int):(Wb ns).length=ns.length:=JF _
theorem Um(a b:List Int):Wb (a++b)=Wb a++Wb b:=JT
def Mh:Sp:=λvs H Q _=>∃(n:Int)(kd:Str)(a:Int)(b:Nat),vs=[.int n,.str kd,.int a]/\wR kd a/\kd ≠ "part" /\ Ab b n/\b<=900000/\Q (.int (xR kd a n)) H
def Uk:Sp:=λvs H Q _=>∃(t sa:JK)(n:Int)(s:Sm)(ns:List Int)(b:Nat),vs=[.ref t,.int n,.ref sa]/\H t=some (.tup (.str s.pr.1::s.pr.2))/\CN s/\Ab b n/\b<=900000/\H sa=some (.lst (Wb ns))/\ns.length<=100000 /\
 ∀H',H' sa=some (.lst (Wb (ns++s.out n)))->(∀c,c≠sa->H' c=H c)->Q (.int (s.nx n)) H'
theorem Bq{a b:Str}(h:decide (V.str a=V.str b)=true):a=b:=V.str.inj (of_decide_eq_true h)
theorem Dc{a b:Str}(h:¬ decide (V.str a=V.str b)=true):¬ a=b:=λe=>h (by rw[e];exact decide_eq_true rfl)
section
variable {P:KC} {w:LL} {K:JC} {mg:Str->Option JD} {base:MQ} {f fC:JK} {fd dC:LB}
theorem jZ:An ["number","sort","amount"] ["number","sort","amount"] (Ad Pd):=Ez (by decide +kernel)
theorem cH(F:Dj K "changed" "changed" Pd f fd)(T:Txt mg):Al P w K mg base Bi 1 f fd ["number","sort","amount"] Mh:=by
 refine F.ok jZ (λvs H Q E h=>?_) (λcdv A outer s H vs Q E hr h=>?_)
 ·obtain⟨n,kd,a,b,rfl,_⟩:=h
  rfl
 obtain⟨n,kd,a,b,rfl,ok,hk,hn,hb,q⟩:=h
 refine⟨_,Ac (Ay (Ar Cc (pv 1) Ba (Au _)) (Af (Ao (pv 2))) Ap)
  (Ac (Ay (Ar Cc (pv 1) Ba (Au _)) (Af (Ao (Aq Cm (pv 0) (pv 2)))) Ap)
  (Ac (Ay (Ar Cc (pv 1) Ba (Au _)) (Af (Ao (Aq vJ (pv 0) (pv 2)))) Ap)
  (Ac (Ay (Ar Cc (pv 1) Ba (Au _)) (Af (Ao (Aq Yc (pv 0) (pv 2)))) Ap)
  (Ac (Ay (Ar Cc (pv 1) Ba (Au _)) (Af (Ao (Aq AO (pv 0) (pv 2)))) Ap)
  (Ac (Ay (Ar Cc (pv 1) Ba (Au _)) (Af (Ao (Aq DO (pv 0) (pv 2)))) Ap)
  (Ac (Ay (Ar Cc (pv 1) Ba (Au _)) (Af (Ao (Aq zF (pv 0) (pv 2)))) Ap)
  (Ac (Ay (Ar Cc (pv 1) Ba (Au _)) (Af (Ao (Aq sY (pv 0) (pv 2)))) Ap)
  (Af (Ao (Aq BA (pv 0) (pv 2))))))))))),?_⟩
 unfold xR at q
 refine⟨_,rfl,rfl,_,rfl,Br (λc=>?_) (λc=>?_)⟩
 ·rw[if_pos (Bq c)] at q
  exact⟨_,rfl,q⟩
 have c1:=Dc c
 rw[if_neg c1] at q
 refine⟨_,rfl,rfl,_,rfl,Br (λc=>?_) (λc=>?_)⟩
 ·rw[if_pos (Bq c)] at q
  exact⟨_,rfl,_,rfl,_,_,rfl,rfl,q⟩
 have c2:=Dc c
 rw[if_neg c2] at q
 refine⟨_,rfl,rfl,_,rfl,Br (λc=>?_) (λc=>?_)⟩
 ·rw[if_pos (Bq c)] at q
  exact⟨_,rfl,_,rfl,_,_,rfl,rfl,⟨max b 100,hn.mono (Nat.le_max_left _ _),ok.ab.mono (Nat.le_max_right _ _),by omega⟩,q⟩
 have c3:=Dc c
 rw[if_neg c3] at q
 refine⟨_,rfl,rfl,_,rfl,Br (λc=>?_) (λc=>?_)⟩
 ·have c':=Bq c
  rw[if_pos c'] at q
  exact⟨_,rfl,_,rfl,_,_,rfl,rfl,⟨ok.dv (.inl c'),ok.ab.mono (by decide)⟩,q⟩
 have c4:=Dc c
 rw[if_neg c4] at q
 refine⟨_,rfl,rfl,_,rfl,Br (λc=>?_) (λc=>?_)⟩
 ·rw[if_pos (Bq c)] at q
  exact⟨_,rfl,_,rfl,_,_,rfl,rfl,q⟩
 have c5:=Dc c
 rw[if_neg c5] at q
 refine⟨_,rfl,rfl,_,rfl,Br (λc=>?_) (λc=>?_)⟩
 ·rw[if_pos (Bq c)] at q
  exact⟨_,rfl,_,rfl,_,_,rfl,rfl,q⟩
 have c6:=Dc c
 rw[if_neg c6] at q
 refine⟨_,rfl,rfl,_,rfl,Br (λc=>?_) (λc=>?_)⟩
 ·rw[if_pos (Bq c)] at q
  exact⟨_,rfl,_,rfl,_,_,rfl,rfl,q⟩
 have c7:=Dc c
 rw[if_neg c7] at q
 refine⟨_,rfl,rfl,_,rfl,Br (λc=>?_) (λc=>?_)⟩
 ·have c':=Bq c
  rw[if_pos c'] at q
  have z:=ok.sh (.inl c')
  exact⟨_,rfl,_,rfl,_,_,rfl,rfl,⟨z.1,by omega,hn.mono (by omega)⟩,q⟩
 have c8:=Dc c
 rw[if_neg c8] at q
 have hd:kd = "down" := by
  have m:=ok.mem
  unfold Qq at m
  simp only[JP,KG,or_false] at m
  rcases m with h | h | h | h | h | h | h | h | h | h
  ·exact absurd h c1
  ·exact absurd h c2
  ·exact absurd h c3
  ·exact absurd h c4
  ·exact absurd h c5
  ·exact absurd h c6
  ·exact absurd h c7
  ·exact absurd h c8
  ·exact h
  ·exact absurd h hk
 exact⟨_,rfl,_,rfl,_,_,rfl,rfl,(ok.sh (.inr hd)).1,q⟩
theorem AQ:An ["step","number","said"] ["step","number","said"] (Ad oU):=Ez (by decide +kernel)
theorem uP(F:Dj K "reckoned" "reckoned" oU f fd)(T:Txt mg)(GC:Al P w K mg base Bi 1 fC dC ["number","sort","amount"] Mh)(kC:JR K (.ref fC)=true)(bC:Binds K dC ["number","sort","amount"] [])(mC:mg "changed" = some (.ref fC)):Al P w K mg base Bi 2 f fd ["step","number","said"] Uk:=by
 refine F.ok AQ (λvs H Q E h=>?_) (λcdv A outer s H vs Q E hr h=>?_)
 ·obtain⟨t,sa,n,s,ns,b,rfl,_⟩:=h
  rfl
 obtain⟨t,sa,n,s,ns,b,rfl,ht,ok,hn,hb,hs,hl,q⟩:=h
 refine⟨_,Ac (Ay (Ar Cc (As Ax (pv 0) Ae (λ_ _=>rfl)) Ba (Au _))
  (Ac (Bx (Lu MK MO MN Ed (pv 2) (Du (pv 1)))) (Af (Ao (pv 1)))) Ap)
  (Ac (Ay (Ar Cc (As Ax (pv 0) Ae (λ_ _=>rfl)) Ba (Au _))
   (Ac (Bx (Lu MK MO MN Ed (pv 2) (Du (Aq uT (pv 1) (As Ax (pv 0) Ae (λ_ _=>rfl))))))
   (Af (Ao (Aq Yc (pv 1) (As Ax (pv 0) Ae (λ_ _=>rfl)))))) Ap)
  (Af (Ao (Cf GC hr mC kC bC (Ja (pv 1) (As Ax (pv 0) Ae (λ_ _=>rfl)) (As Ax (pv 0) Ae (λ_ _=>rfl))))))),?_⟩
 have hls:(Wb ns).length < JM:=by rw[Ob,KO];omega
 cases s with
 | say=>
  have at0:Jb [V.str "say"] 0=some (.str "say"):=Bc (j:=0) rfl
  refine⟨_,rfl,t,_,_,_,rfl,rfl,Co.of ht,at0,rfl,_,rfl,Ju ?_⟩
  refine⟨_,rfl,.inl ⟨rfl,_,Aw.of hs⟩,_,rfl,sa,_,_,rfl,rfl,hs,hls,?_⟩
  refine⟨_,rfl,q _ ?_ λc hc=>Aj hc⟩
  rw[Aa,Um]
  rfl
 | op kd a=>
  have at0:Jb [V.str kd,V.int a] 0=some (.str kd):=Bc (j:=0) rfl
  have at1:Jb [V.str kd,V.int a] 1=some (.int a):=Bc (j:=1) rfl
  have okA:wR kd a:=ok
  have ns_:kd ≠ "say" := λz=>by
   have m:=okA.mem
   rw[z] at m
   revert m
   decide +kernel
  refine⟨_,rfl,t,_,_,_,rfl,rfl,Co.of ht,at0,rfl,_,rfl,Br (λc=>absurd (Bq c) ns_) (λ_=>?_)⟩
  refine⟨_,rfl,t,_,_,_,rfl,rfl,Co.of ht,at0,rfl,_,rfl,Br (λc=>?_) (λc=>?_)⟩
  ·have c':=Bq c
   have a0:=okA.dv (.inr c')
   have e1:(Sm.op kd a).out n=[n.fmod a]:=if_pos c'
   have e2:(Sm.op kd a).nx n=n.fdiv a:=if_pos c'
   rw[e1,e2] at q
   refine⟨_,rfl,.inl ⟨rfl,_,Aw.of hs⟩,_,rfl,_,rfl,t,_,_,_,rfl,rfl,Co.of ht,at1,_,_,rfl,rfl,a0,sa,_,_,rfl,rfl,hs,hls,?_⟩
   have nts:t≠sa:=Cd ht hs (by intro z;cases z)
   refine⟨_,rfl,_,rfl,t,_,_,_,rfl,rfl,Co.of (by rw[Aj nts];exact ht),at1,_,_,rfl,rfl,⟨a0,okA.ab.mono (by decide)⟩,?_⟩
   refine q _ ?_ λc hc=>Aj hc
   rw[Aa,Um]
   rfl
  ·have c':=Dc c
   have e1:(Sm.op kd a).out n=[]:=if_neg c'
   have e2:(Sm.op kd a).nx n=xR kd a n:=if_neg c'
   rw[e1,e2] at q
   refine⟨_,rfl,_,rfl,t,_,_,_,rfl,rfl,Co.of ht,at0,_,rfl,t,_,_,_,rfl,rfl,Co.of ht,at1,n,kd,a,b,rfl,okA,c',hn,hb,?_⟩
   exact q H (by rw[LX];exact hs) λc _=>rfl
end
end Bk
namespace L2
open PySem PySem.Spec PyProof.Rows PySem.W
section
variable {prog:KC} {w:LL} {A:LI} {E:JD->JH->Prop} {s:JH} {K:JC} {C x:JK} {ox:Obj} {odo:Option Obj}
end
end L2
namespace L2
open PySem PySem.Spec PyProof.Rows
structure Si(k:Nat)(A:LI):Prop where
 dp:A.depth+3 * k+5 < recursionLimit
 un:A.units+16 * k+200 < cLine
theorem Ck.caught{k:Nat}{A:LI}(r:Ck k A)(v:Option JD):Si k (A.mark v):=⟨r.dp,r.un⟩
theorem Si.calmed{k:Nat}{A:LI}(r:Si k A):Ck k { A with handled:=none }:=⟨r.dp,r.un⟩
abbrev Cx.stirred(X:Cx):Cx:={ X with calm:=false,sx:=false }
structure Ry(P:KC)(w:LL)(K:JC)(mg:Str->Option JD)(base:MQ)(k:Nat)(f:JK)(fd:LB)(ps:List Str)(sp:Sp):Prop where
 len:∀vs H Q E,sp vs H Q E->vs.length=ps.length
 run:∀(A:LI)(outer:List Env)(s:JH)(H:Hp)(args:Args)(us:List JD)(vs:List V)(Q:VK)(E:XK),Si k A->Uo P w K mg base A outer s H->BindsTo s fd args (ps.zip us)->Bb vs us->sp vs H Q E ->
  RV (KU P w) A (.call (.ref f) args) (CR Bi outer P w H s Q E) s
section
variable {X:Cx} {k:Nat} {f:JK} {fd:LB} {ps:List Str} {sp:Sp} {dvs:List V} {ds:List JD} {E:XK} {x:Str} {p pos:Pos} {e:Expr} {es:List Expr} {t:TA}
end
section
variable {P:KC} {w:LL} {K:JC} {mg:Str->Option JD} {base:MQ}
theorem Dj.okN{x qual:Str}{st:OQ}{f:JK}{fd:LB}{N ps:List Str}{k:Nat}{sp:Sp}(F:Dj K x qual st f fd)(S:An N ps (Ad st))(len:∀vs H Q E,sp vs H Q E->vs.length=ps.length)(hbody:∀(cdv:JD)(A:LI)(outer:List Env)(s:JH)(H:Hp)(vs:List V)(Q:VK)(E:XK),Si k (A.deeper (envOfC qual (Ad st) s.heap.objs.size f cdv))->sp vs H Q E ->
  ∃t,Hy (Ex Bi P w K mg base N qual (Ad st) f cdv A outer s H E).stirred.nox (Bg st) t/\t { nx:=λ_ H'=>Q .non H',rt:=Q } (start N vs) H):Ry P w K mg base (k+1) f fd ps sp:=by
 obtain⟨oc,od,kV,doc,pm,an,cdv,ct,osl,rfl,lk,hcd⟩:=F.ex
 refine⟨len,λA outer s H args us vs Q E hr e0 hb r hsp=>?_⟩
 have hl:=len _ _ _ _ hsp
 have KX:K.In s.heap:=e0.mod.kin.keeps λb o e=>(e0.bs b o e).1
 have lim:s.heap.NoLimit:=e0.mod.nolimit.keeps λb o e=>(e0.bs b o e).1
 have hkind:∀y∈ps.zip us,(Ad st).names.lookup y.1=some .local∨((Ad st).names.lookup y.1=some .cell/\((cellsFrom (s.heap.objs.size+1) (Ad st).names []).lookup y.1).isSome=true):=λ⟨n,v⟩ hy=>by
  rcases S.par n (List.of_mem_zip hy).1 with q | q
  ·exact .inl q
  ·exact .inr ⟨q,PySem.W.cellsFrom_some _ _ _ (.inl q)⟩
 refine codeAny_call_function hr.calmed.depth (KX _ _ lk) rfl S.co S.gen rfl (PySem.W.codeRec_of KX hcd) (hb _ _ _ _ ?_)
 refine wpAny_newFunctionEnv_cells S.kind hkind λenv he s1 x=>?_
 subst he
 refine⟨lim.keeps x.toInCall.keep,codeAny_func ?_⟩
 obtain⟨t,ht,hq⟩:=hbody cdv A outer s H vs Q E ⟨(hr.calmed.deeper (envOfC qual (Ad st) s.heap.objs.size f cdv)).dp,(hr.calmed.deeper (envOfC qual (Ad st) s.heap.objs.size f cdv)).un⟩ hsp
 have J:=Ss (CX:=Bi) (E:=E) (A:={ A with handled:=none }) S (λz=>nomatch z) (.inl rfl) ⟨e0.frames,e0.mod,e0.bs,e0.bsz,e0.funs,e0.frf,e0.hok,e0.bare⟩ hl r x
 have I:Inv (Ex Bi P w K mg base N qual (Ad st) f cdv A outer s H E).stirred [] (start N vs) H s1:=
  ⟨⟨J.ok.mod,J.ok.kind,J.ok.glob,J.ok.blt,J.ok.above,J.ok.inj,J.ok.has,J.ok.cab,λz=>absurd z JN,λz=>absurd z JN,J.ok.frames,J.ok.stk,J.ok.exf,J.ok.bs,J.ok.bsz,J.ok.noex,J.ok.exfs,J.ok.funs,J.ok.frf⟩,J.os,J.bare,J.base,J.loc,J.cell,J.free,J.freeC,J.pin,J.hok,J.len⟩
 refine MY (ht.nox [] s1 (start N vs) H _ I hq) (λfl s' hs=>?_) λe s' hs=>hs
 have fin:∀ {σ':St} {H':Hp} {v:V} {u:JD},Inv (Ex Bi P w K mg base N qual (Ad st) f cdv A outer s H E).stirred [] σ' H' s'->RelV v u->Q v H'->CE outer P w H s Q u s':=
  λ{σ' H' v u} J rv q=>⟨v,H',J.os,J.bare,J.base,J.hok,rv,q⟩
 cases fl with
 | ret u=>
  obtain⟨v,σ',H',J,rv,q⟩:=hs
  exact fin J rv q
 | next=>
  obtain⟨σ',H',J,q⟩:=hs
  exact fin (v:=V.non) (u:=MU) J rfl q
 | brk=>
  obtain⟨_,_,_,q⟩:=hs
  exact LZ q
 | cont=>
  obtain⟨_,_,_,q⟩:=hs
  exact LZ q
end
section
variable {X:Cx} {k:Nat} {f C:JK} {fd:LB} {ps:List Str} {sp:Sp} {dvs:List V} {ds:List JD} {m:Str} {pos apos:Pos} {e o:Expr} {es:List Expr} {ta:TE} {t:TA}
theorem nY{pl:Sem Bool}(he:PE X o ta)(c:Wa X.K C)(hm:Dt X.K C m f)(F:Ry X.prog X.w X.K X.mg X.base k f fd ps sp)(hr:Si k X.A)(hb:Binds X.K fd ps ds)(hd:Bb dvs ds)(ha:PA X (e::es) t)(hst:KQ (e::es) X.env=(false,OX e X.env)::KQ es X.env:=by rfl)(hpl:(QK pos (KQ es X.env)).any (·.1)=false:=by rfl)(ht:OX (.Call (.Attribute o m apos) (e::es) [] pos) X.env=(do let ov <- OX o X.env;standAt apos.atName;let (f,first) <- holding [ov] (getMethod ov m pl);callWith pos f first (QK pos (KQ (e::es) X.env)) (backToKw pos (QU [] X.env))):=by rfl):
 PE X (.Call (.Attribute o m apos) (e::es) [] pos) (rK C m sp dvs E0 ta t):=by
 intro pins s σ H Q I h
 refine PF (pl:=pl) (Bu (he pins s σ H _ I h) λu s1 ⟨x,H1,I1,rx,a,dx,fs,ex,ea,l,q⟩=>?_) ht
 subst ex
 obtain rfl:u=JV a:=rx
 refine Ff I1 ea c hm l ?_
 refine NR (first:=[.ref a]) (h₀:=X.base) I.ok.mod.kin hm.kp (Bu (ha pos pins s1 σ H1 _ I1 q) λus s2 ⟨vs,H2,I2,r,q2⟩=>⟨I2.kIn,?_⟩) hst hpl
 have r2:Bb ((.ref a::vs)++dvs) ((.ref a::us)++ds):=Bb.append (.cons rfl r) hd
 have hl:((.ref a::us)++ds).length=ps.length:=by rw[<- r2.length];exact F.len _ _ _ _ q2
 refine RW (PQ (F.run X.A X.stack s2 H2 ⟨.ref a::us,[]⟩ ((.ref a::us)++ds) ((.ref a::vs)++dvs) Q E0 hr I2.env0 (hb s2 (.ref a::us) I2.kIn hl) r2 q2) λr s' hq=>?_)
 cases r with
 | error e=>exact LZ hq
 | ok fl=>
  cases fl with
  | ret u=>exact I2.after hq
  | next=>exact LZ hq
  | brk=>exact LZ hq
  | cont=>exact LZ hq
end
end L2
namespace Bk
open PySem L2 Mg Nm Rk
def tF(k:Int)(sa:JK):List (Str×V):=[("left", .int k),("said", .ref sa)]
theorem gB(k:Int)(sa:JK):(tF k sa).lookup ("left" : Str)=some (.int k):=by
 unfold tF
 rw[KN,beq_self_eq_true]
theorem Og(k:Int)(sa:JK):(tF k sa).lookup ("said" : Str)=some (.ref sa):=by
 unfold tF
 rw[KN,show (("said" : Str) == "left")=false by decide +kernel,KN,beq_self_eq_true]
theorem xB{k:Int}{sa:JK}{m:Str}(h:∀x∈(["left","said"]:List Str),m≠x):(tF k sa).lookup m=none:=by
 unfold tF
 rw[KN,beq_false_of_ne (h _ (by simp)),KN,beq_false_of_ne (h _ (by simp))]
 rfl
theorem zQ(k:Int)(sa:JK):Ep "said" (.ref sa) (Ep "left" (.int k) [])=tF k sa:=by
 show (if ("left" : Str) = "said" then _ else (("left" : Str),V.int k)::[(("said" : Str),V.ref sa)])=_
 rw[if_neg (by decide +kernel)]
 rfl
theorem aQ(k j:Int)(sa:JK):Ep "left" (.int j) (tF k sa)=tF j sa:=by
 show (if ("left" : Str) = "left" then (("left" : Str),V.int j)::[(("said" : Str),V.ref sa)] else _)=_
 rw[if_pos rfl]
 rfl
theorem bX(k:Int)(sa sb:JK):Ep "said" (.ref sb) (tF k sa)=tF k sb:=by
 show (if ("left" : Str) = "said" then _ else (("left" : Str),V.int k)::(if ("said" : Str) = "said" then [(("said" : Str),V.ref sb)] else _))=_
 rw[if_neg (by decide +kernel),if_pos rfl]
 rfl
structure Vb(K:JC)(mg:Str->Option JD)(CT:JK):Prop where
 cl:Wa K CT
 nLeft:Eh K CT "left"
 nSaid:Eh K CT "said"
 mgT:mg "Tally" = some (.ref CT)
structure Zv(K:JC)(mg:Str->Option JD)(CU CS:JK)(bU bS:List JD):Prop where
 exU:Ku K CU bU
 baU:bU.contains (.type "BaseException")=true
 inU:MF K (.ref CU) "__init__" = some (some (.builtin "ValueError.__init__"))
 mgU:mg "Unanswered" = some (.ref CU)
 exS:Ku K CS bS
 baS:bS.contains (.type "BaseException")=true
 inS:MF K (.ref CS) "__init__" = some (some (.builtin "ValueError.__init__"))
 mgS:mg "Spent" = some (.ref CS)
 uu:QV K (.ref CU) (.ref CU)=some true
 su:QV K (.ref CS) (.ref CU)=some false
structure Rj(M H:Hp)(CT tq dt sa:JK)(k:Nat)(sd:List Int):Prop where
 same:Am M H
 mq:M tq=none
 ms:M sa=none
 hq:H tq=some (.ins CT dt (tF (k:Int) sa))
 hs:H sa=some (.lst (Wb sd))
theorem Rj.upd{M H H':Hp}{CT tq dt sa:JK}{k:Nat}{sd sd':List Int}(C:Rj M H CT tq dt sa k sd)(h1:H' sa=some (.lst (Wb sd')))(h2:∀c,c≠sa->H' c=H c):Rj M H' CT tq dt sa k sd':=by
 have nqs:tq≠sa:=Cd C.hq C.hs (by intro z;cases z)
 refine⟨λb o e=>?_,C.mq,C.ms,by rw[h2 tq nqs];exact C.hq,h1⟩
 have:b≠sa:=λz=>by rw[z,C.ms] at e;cases e
 rw[h2 b this]
 exact C.same b o e
section
variable (CT CS:JK)
def Ua:Sp:=λvs H Q _=>∃(q dx:JK)(k:Int),vs=[.ref q,.int k]/\H q=some (.ins CT dx [])/\∀(sa:JK)(H':Hp),H sa=none->H' q=some (.ins CT dx (tF k sa))->H' sa=some (.lst [])->(∀c o,H c=some o->c≠q->H' c=some o)->Q .non H'
def Ol:Sp:=λvs H Q E=>∃(M:Hp)(tq dt sa:JK)(k:Nat)(sd:List Int),vs=[.ref tq]/\Rj M H CT tq dt sa k sd/\(k=0->∀H':Hp,Am M H'->E (.ref CS) none H')/\∀k',k=k'+1->∀H':Hp,Rj M H' CT tq dt sa k' sd->Q .non H'
def Vh:Sp:=λvs H Q _=>∃(M:Hp)(tq dt sa:JK)(k:Nat)(sd t:List Int),vs=[.ref tq,.int (sd.length:Int)]/\Rj M H CT tq dt sa k (sd++t)/\∀(H':Hp)(sb:JK),Rj M H' CT tq dt sb k sd->Q .non H'
end
section
variable {P:KC} {w:LL} {K:JC} {mg:Str->Option JD} {base:MQ} {f CT CU CS:JK} {fd:LB} {bU bS:List JD}
theorem sJ:An ["self","left"] ["self","left"] (Ad Zy):=Ez (by decide +kernel)
theorem qD(F:Dj K "__init__" "Tally.__init__" Zy f fd)(T:Vb K mg CT):Al P w K mg base Bi 1 f fd ["self","left"] (Ua CT):=by
 refine F.ok sJ (λvs H Q E h=>?_) (λcdv A outer s H vs Q E hr h=>?_)
 ·obtain⟨q,dx,k,rfl,_⟩:=h
  rfl
 obtain⟨q,dx,k,rfl,hq,g⟩:=h
 refine⟨_,Ac (Gj (pv 0) (pv 1) rfl) (Af (Gj (pv 0) (Df Fu) rfl)),?_⟩
 refine⟨_,rfl,_,rfl,q,CT,dx,[],rfl,hq,T.cl,T.nLeft,(by show 0 < 1000;decide),?_⟩
 refine⟨by show 0<=JM;decide,λsa hsa=>?_⟩
 have nq:q≠sa:=λz=>by rw[<- z,Aa] at hsa;cases hsa
 have hsa':H sa=none:=by rw[Aj (LH nq)] at hsa;exact hsa
 refine⟨_,rfl,q,CT,dx,_,rfl,(by rw[Aj nq];exact Aa),T.cl,T.nSaid,QL (Fi _ _ _) (by show 1 < 1000;decide),?_⟩
 refine g sa _ hsa' (by rw[Aa,zQ]) (by rw[Aj (LH nq),Aa]) λc o e hc=>?_
 rw[Aj hc,Aj (Ai e hsa'),Aj hc]
 exact e
theorem uM:An ["self"] ["self"] (Ad Zc):=Ez (by decide +kernel)
theorem oE(F:Dj K "enter" "Tally.enter" Zc f fd)(T:Vb K mg CT)(X:Zv K mg CU CS bU bS):Al P w K mg base (Gp P w) 1 f fd ["self"] (Ol CT CS):=by
 refine F.okX uM (λvs H Q E h=>?_) (λcdv A outer s H vs Q E hr h=>?_)
 ·obtain⟨M,tq,dt,sa,k,sd,rfl,_⟩:=h
  rfl
 obtain⟨M,tq,dt,sa,k,sd,rfl,C,g0,g1⟩:=h
 refine⟨_,Ac (Ay (Ar Cc (Cp (pv 0) rfl) Ae (Au _)) (Af (Ys rfl X.exS X.baS X.inS rfl X.mgS (Du Ba))) Ap)
  (Af (Gj (pv 0) (Aq Jg (Cp (pv 0) rfl) Ae) rfl)),?_⟩
 refine⟨_,rfl,tq,CT,dt,_,_,rfl,C.hq,T.cl,T.nLeft,gB _ _,rfl,_,rfl,Br (λc=>?_) (λc=>?_)⟩
 ·have hk0:(k:Int)=0:=V.int.inj (of_decide_eq_true c)
  exact⟨by show 1<=JM;decide,g0 (by omega) H C.same⟩
 obtain⟨k',rfl⟩:∃k',k=k'+1:=by
  cases k with
  | zero=>exact absurd (decide_eq_true rfl) c
  | succ k'=>exact⟨k',rfl⟩
 refine⟨_,rfl,tq,CT,dt,_,_,rfl,C.hq,T.cl,T.nLeft,gB _ _,_,_,rfl,rfl,_,rfl,tq,CT,dt,_,rfl,C.hq,T.cl,T.nLeft,(by show 2 < 1000;decide),?_⟩
 rw[aQ]
 have ek:((k'+1:Nat):Int)-1=(k':Int):=by omega
 rw[ek]
 have nsq:sa≠tq:=Cd C.hs C.hq (by intro z;cases z)
 refine g1 k' rfl _ ⟨λb' o hb=>?_,C.mq,C.ms,Aa,by rw[Aj nsq];exact C.hs⟩
 rw[Aj (λz=>by rw[z,C.mq] at hb;cases hb)]
 exact C.same _ _ hb
theorem AH:An ["self","length"] ["self","length"] (Ad mU):=Ez (by decide +kernel)
theorem tI(F:Dj K "take_back" "Tally.take_back" mU f fd)(T:Vb K mg CT):Ry P w K mg base 1 f fd ["self","length"] (Vh CT):=by
 refine F.okN AH (λvs H Q E h=>?_) (λcdv A outer s H vs Q E hr h=>?_)
 ·obtain⟨M,tq,dt,sa,k,sd,t,rfl,_⟩:=h
  rfl
 obtain⟨M,tq,dt,sa,k,sd,t,rfl,C,g⟩:=h
 refine⟨_,Af (Gj (pv 0) (Cj El (Cp (pv 0) rfl) Dx (Cy (pv 1))) rfl),?_⟩
 refine⟨_,rfl,tq,CT,dt,_,_,rfl,C.hq,T.cl,T.nSaid,Og _ _,_,rfl,_,rfl,sa,_,rfl,Aw.of C.hs,λsb hsb=>?_⟩
 have hcut:Ga (Wb (sd++t)) none (some (sd.length:Int))=Wb sd:=by
  unfold Ga
  rw[show HT.sIx (Wb (sd++t)).length (Wb (sd++t)).length (some (sd.length:Int))=min sd.length (Wb (sd++t)).length from HT.sIx_nat _ _ _]
  show ((Wb (sd++t)).drop 0).take (min sd.length (Wb (sd++t)).length-0)=Wb sd
  rw[List.drop_zero,Nat.sub_zero,Um,JJ,Ob,Nat.min_eq_left (QD _ _),List.take_left']
  exact Ob sd
 rw[hcut]
 have nqb:tq≠sb:=Ai C.hq hsb
 refine⟨_,rfl,tq,CT,dt,_,rfl,by rw[Aj nqb];exact C.hq,T.cl,T.nSaid,(by show 2 < 1000;decide),?_⟩
 rw[bX]
 refine g _ sb ⟨λb' o hb=>?_,C.mq,C.same.free hsb,Aa,by rw[Aj (LH nqb)];exact Aa⟩
 have h1:b'≠tq:=λz=>by rw[z,C.mq] at hb;cases hb
 rw[Aj h1,Aj (Ai (C.same _ _ hb) hsb)]
 exact C.same _ _ hb
end
end Bk
namespace Bk
open PySem L2 Mg Nm
def Mc(W:List (Str×JK)):List (Key×V):=W.map λp=>((KD p.1:Key),V.ref p.2)
theorem Uz(W:List (Str×JK)):(Mc W).length=W.length:=JF _
theorem mZ(W:List (Str×JK)):((Mc W).map λkv=>kV kv.1)=Az (W.map (·.1)):=by
 unfold Mc Az
 rw[List.map_map,List.map_map]
 rfl
theorem Tw(W:List (Str×JK))(x:Str):valV (Mc W) (KD x:Key)=(W.find? λp=>decide (p.1=x)).map λp=>V.ref p.2:=by
 unfold Mc
 induction W with
 | nil=>rfl
 | cons e L ih=>
  rw[LU]
  by_cases h:e.1=x
  ·rw[Cu (show ((KD e.1:Key),V.ref e.2).1=KD x by rw[h]),QH (by rw[decide_eq_true h])]
   rfl
  ·rw[Ct (λz=>h (KD.inj z)),ih,QI (by rw[decide_eq_false h];exact JN)]
def nA(CB CH:JK):Sp:=λvs H Q _=>∃(p d:JK)(L:List Ent)(x:Str)(e:Ent)(W:List (Str×JK)),vs=[.ref p,.str x]/\Be CB CH H p d L/\Hl L x=some e/\e.bd=Mc W/\∀l,H l=none->Q (.ref l) (upd H l (.lst (Az (W.map (·.1)))))
def La(CB CH:JK)(ks:List (Str×JK×List Str)):Sp:=λvs H Q _=>∃(p d l:JK)(L:List Ent)(x y:Str)(e:Ent)(ts:List JK)(ss:List (Str×List V)),vs=[.ref p,.str x,.str y,.ref l]/\Be CB CH H p d L/\Hl L x=some e/\Gb y=true/\y.length<=JM/\H l=some (.lst (ts.map V.ref))/\Dq H ts ss/\Mq ks ss/\e.bd.length<=1000 /\
 ∀(la:JK)(H':Hp),H la=none->H' la=some (.lst (ts.map V.ref))->H' e.ba=some (.dK (putK e.bd (KD y:Key) (.ref la)))->(∀b o,H b=some o->b≠e.ba->H' b=some o)->Q .non H'
def Qo(CB CH:JK):Sp:=λvs H Q _=>∃(p d:JK)(L:List Ent)(x y:Str)(e:Ent),vs=[.ref p,.str x,.str y]/\Be CB CH H p d L/\Hl L x=some e /\
 ((valV e.bd (KD y:Key)=none/\Q .non H) ∨ ∃(la:JK)(xs:List V),valV e.bd (KD y:Key)=some (.ref la)/\H la=some (.lst xs)/\∀l,H l=none->Q (.ref l) (upd H l (.lst xs)))
section
variable {P:KC} {w:LL} {K:JC} {mg:Str->Option JD} {base:MQ} {f fH fN fB CB CH:JK} {fd dH dN dB:LB} {ks:List (Str×JK×List Str)}
theorem pV:An ["self","name","word","bodies"] ["self","name","word"] (Ad pD):=Ez (by decide +kernel)
theorem uC(F:Dj K "body" "Book.body" pD f fd)(T:Gz K mg CB CH)(Tx:Txt mg)(GH:Al P w K mg base Bi 1 fH dH ["self","name"] (Iy CB CH))(bH:Binds K dH ["self","name"] [])(mH:Dt K CB "house" fH):Al P w K mg base Bi 2 f fd ["self","name","word"] (Qo CB CH):=by
 refine F.ok pV (λvs H Q E h=>?_) (λcdv A outer s H vs Q E hr h=>?_)
 ·obtain⟨p,d,L,x,y,e,rfl,_⟩:=h
  rfl
 obtain⟨p,d,L,x,y,e,rfl,B,he,q⟩:=h
 obtain⟨dx,hp⟩:=B.ob
 have hu:=Fm hr
 have E:=B.en e (Fy he).1
 refine⟨_,Ac (Bv 3 pV.nd (Cp (Ee (pv 0) T.clB mH GH hr bH .nil Dh (Du (pv 1))) rfl))
  (Ac (Ay (Fs (Kf hu (pv 2) (pv 3))) (Af (Ao lM)) Ap)
  (Af (Ao (Dl Gd rfl Tx.list NL (Du (Io hu (pv 3) (pv 2) (λ_ _=>rfl))))))),?_⟩
 refine⟨_,rfl,p,dx,_,rfl,hp,Gr d (by decide +kernel),_,rfl,p,d,L,x,e,rfl,B,he,e.at_,CH,e.dx,_,_,rfl,E.ob,T.clH,T.nBd,nL _ _ _,?_⟩
 refine⟨_,rfl,_,rfl,e.ba,_,rfl,Er.k (k:=KD y) E.bd,_,rfl,?_⟩
 rcases q with ⟨hv,q⟩ | ⟨la,xs,hv,hla,q⟩
 ·rw[hv]
  exact Ju q
 ·rw[hv]
  refine Eb ?_
  have g:=Er.k (k:=(KD y:Key)) E.bd
  rw[hv] at g
  exact⟨_,rfl,_,rfl,e.ba,_,rfl,g,la,_,rfl,.inl (Aw.of hla),q⟩
theorem gS:An ["self","name","word","body","house"] ["self","name","word","body"] (Ad Zh):=Ez (by decide +kernel)
theorem pT(F:Dj K "teach" "Book.teach" Zh f fd)(T:Gz K mg CB CH)(Tx:Txt mg)(GH:Al P w K mg base Bi 1 fH dH ["self","name"] (Iy CB CH))(bH:Binds K dH ["self","name"] [])(mH:Dt K CB "house" fH)(GN:Al P w K mg base Bi 1 fN dN ["value"] Gk)(kN:JR K (.ref fN)=true)(bN:Binds K dN ["value"] [])(mN:mg "is_name" = some (.ref fN))(GB:Al P w K mg base Bi 5 fB dB ["value"] (Pf ks))(kB:JR K (.ref fB)=true)(bB:Binds K dB ["value"] [])(mB:mg "is_body" = some (.ref fB)):Al P w K mg base Bi 6 f fd ["self","name","word","body"] (La CB CH ks):=by
 refine F.ok gS (λvs H Q E h=>?_) (λcdv A outer s H vs Q E hr h=>?_)
 ·obtain⟨p,d,l,L,x,y,e,ts,ss,rfl,_⟩:=h
  rfl
 obtain⟨p,d,l,L,x,y,e,ts,ss,rfl,B,he,hy,hyl,el,hst,hgd,hbl,q⟩:=h
 obtain⟨dx,hp⟩:=B.ob
 have hu:=Fm hr
 have hr1:=hr.mono (j:=1) (by decide)
 have E:=B.en e (Fy he).1
 refine⟨_,Ac (Bv 4 gS.nd (Ee (pv 0) T.clB mH GH hr1 bH .nil Dh (Du (pv 1))))
  (Ac (Ay (Hi (Fv (Cf GN hr1 mN kN bN (Du (pv 2))))) Bs Ap)
  (Ac (Ay (Hi (Fv (Cf GB hr mB kB bB (Du (pv 3))))) Bs Ap)
  (Af (Gc hu (Cp (pv 4) rfl) (pv 2) (Dl Gd rfl Tx.list NL (Du (pv 3))) rfl)))),?_⟩
 refine⟨_,rfl,p,dx,_,rfl,hp,Gr d (by decide +kernel),_,rfl,p,d,L,x,e,rfl,B,he,?_⟩
 refine⟨_,rfl,.str y,rfl,.inr ⟨y,rfl,hyl⟩,λH1 s1=>?_⟩
 rw[show DI (.str y)=true from hy]
 refine⟨_,rfl,Eb ?_⟩
 refine⟨_,rfl,l,ts,ss,rfl,s1 _ _ el,hst.same s1,hgd,λH2 s2=>⟨_,rfl,Eb ?_⟩⟩
 have s3:=s1.trans s2
 refine⟨_,rfl,l,_,rfl,.inl (Aw.of (s3 _ _ el)),λla hla=>?_⟩
 have s4:=Ag hla (.lst (ts.map V.ref))
 have s5:=s3.trans s4
 refine⟨_,rfl,e.at_,CH,e.dx,_,_,rfl,s5 _ _ E.ob,T.clH,T.nBd,nL _ _ _,_,rfl,e.ba,_,rfl,Kv.k (k:=(KD y:Key)) (s5 _ _ E.bd) (by rw[KO];omega),?_⟩
 have nlb:la≠e.ba:=LH (Ai (s3 _ _ E.bd) hla)
 exact q la _ (s3.free hla) (by rw[Aj nlb];exact Aa) Aa λb o hb hne=>by rw[Aj hne];exact s5 _ _ hb
end
end Bk
namespace Bk
open PySem L2 Mg Nm Rk
def Tu:Sp:=λvs H Q _=>∃n c:Int,vs=[.int n,.int c] /\ -big<=n/\n<=big/\0<=c/\c<=40/\Q .non H
theorem eC{lo hi n:Int}(h0:lo<=n)(h1:n<=hi):rT lo hi (.int n)=true:=by
 show (decide (lo<=n) && decide (n<=hi))=true
 rw[decide_eq_true h0,decide_eq_true h1]
 rfl
def aF(p ra tq:JK):List (Str×V):=[("book", .ref p),("row", .ref ra),("tally", .ref tq)]
theorem sO(p ra tq:JK):(aF p ra tq).lookup ("book" : Str)=some (.ref p):=by
 unfold aF
 rw[KN,beq_self_eq_true]
theorem qU(p ra tq:JK):(aF p ra tq).lookup ("row" : Str)=some (.ref ra):=by
 unfold aF
 rw[KN,show (("row" : Str) == "book")=false by decide +kernel,KN,beq_self_eq_true]
theorem Jw(p ra tq:JK):(aF p ra tq).lookup ("tally" : Str)=some (.ref tq):=by
 unfold aF
 rw[KN,show (("tally" : Str) == "book")=false by decide +kernel,KN,show (("tally" : Str) == "row")=false by decide +kernel,KN,beq_self_eq_true]
theorem Na{p ra tq:JK}{m:Str}(h:∀x∈(["book","row","tally"]:List Str),m≠x):(aF p ra tq).lookup m=none:=by
 unfold aF
 rw[KN,beq_false_of_ne (h _ (by simp)),KN,beq_false_of_ne (h _ (by simp)),KN,beq_false_of_ne (h _ (by simp))]
 rfl
theorem zX(p ra tq:JK):Ep "tally" (.ref tq) (Ep "row" (.ref ra) (Ep "book" (.ref p) []))=aF p ra tq:=by
 have e1:Ep "row" (.ref ra) (Ep "book" (.ref p) [])=[(("book" : Str),V.ref p),("row", .ref ra)]:=by
  show (if ("book" : Str) = "row" then _ else (("book" : Str),V.ref p)::[(("row" : Str),V.ref ra)])=_
  rw[if_neg (by decide +kernel)]
 rw[e1]
 show (if ("book" : Str) = "tally" then _ else (("book" : Str),V.ref p)::(if ("row" : Str) = "tally" then _ else (("row" : Str),V.ref ra)::[(("tally" : Str),V.ref tq)]))=_
 rw[if_neg (by decide +kernel),if_neg (by decide +kernel)]
 rfl
structure Xk(K:JC)(mg:Str->Option JD)(CA:JK):Prop where
 cl:Wa K CA
 nBook:Eh K CA "book"
 nRow:Eh K CA "row"
 nTally:Eh K CA "tally"
 mgA:mg "Asking" = some (.ref CA)
def Uy(CA:JK):Sp:=λvs H Q _=>∃(q p ra tq dx:JK),vs=[.ref q,.ref p,.ref ra,.ref tq]/\H q=some (.ins CA dx [])/\∀H':Hp,H' q=some (.ins CA dx (aF p ra tq))->(∀c o,H c=some o->c≠q->H' c=some o)->Q .non H'
section
variable {P:KC} {w:LL} {K:JC} {mg:Str->Option JD} {base:MQ} {f fW fA CA:JK} {fd dW dA:LB}
theorem uF:An ["number","count"] ["number","count"] (Ad cW):=Ez (by decide +kernel)
theorem oI(F:Dj K "check_question" "check_question" cW f fd)(T:Txt mg)(GW:Al P w K mg base Bi 1 fW dW ["value","least","most"] Lq)(kW:JR K (.ref fW)=true)(bW:Binds K dW ["value","least","most"] [])(mW:mg "is_whole" = some (.ref fW))(GA:Al P w K mg base Bi 2 fA dA ["value"] Mb)(kA:JR K (.ref fA)=true)(bA:Binds K dA ["value"] [])(mA:mg "is_amount" = some (.ref fA)):Al P w K mg base Bi 3 f fd ["number","count"] Tu:=by
 refine F.ok uF (λvs H Q E h=>?_) (λcdv A outer s H vs Q E hr h=>?_)
 ·obtain⟨n,c,rfl,_⟩:=h
  rfl
 obtain⟨n,c,rfl,n0,n1,c0,c1,q⟩:=h
 have hr1:=hr.mono (j:=1) (by decide)
 refine⟨_,Ac (Ay (Hi (Fv (Cf GA hr mA kA bA (Du (pv 0))))) Bs Ap)
  (Af (Ay (Hi (Fv (Cf GW hr1 mW kW bW (Ja (pv 1) Ae Ae)))) Bs Ap)),?_⟩
 refine⟨_,rfl,.int n,rfl,.inl ⟨n,rfl⟩,?_⟩
 rw[eC n0 n1]
 refine⟨_,rfl,Eb ?_⟩
 refine⟨_,rfl,.int c,0,40,rfl,.inl ⟨c,rfl⟩,?_⟩
 rw[eC c0 c1]
 exact⟨_,rfl,Eb q⟩
theorem vP:An ["self","book","row","tally"] ["self","book","row","tally"] (Ad cC):=Ez (by decide +kernel)
theorem nR(F:Dj K "__init__" "Asking.__init__" cC f fd)(T:Xk K mg CA):Al P w K mg base Bi 1 f fd ["self","book","row","tally"] (Uy CA):=by
 refine F.ok vP (λvs H Q E h=>?_) (λcdv A outer s H vs Q E hr h=>?_)
 ·obtain⟨q,p,ra,tq,dx,rfl,_⟩:=h
  rfl
 obtain⟨q,p,ra,tq,dx,rfl,hq,g⟩:=h
 refine⟨_,Ac (Gj (pv 0) (pv 1) rfl) (Ac (Gj (pv 0) (pv 2) rfl) (Af (Gj (pv 0) (pv 3) rfl))),?_⟩
 refine⟨_,rfl,_,rfl,q,CA,dx,[],rfl,hq,T.cl,T.nBook,(by show 0 < 1000;decide),?_⟩
 refine⟨_,rfl,_,rfl,q,CA,dx,_,rfl,Aa,T.cl,T.nRow,(by show 1 < 1000;decide),?_⟩
 refine⟨_,rfl,_,rfl,q,CA,dx,_,rfl,Aa,T.cl,T.nTally,QL (Fi _ _ _) (by show 2 < 1000;decide),?_⟩
 refine g _ (by rw[Aa,zX]) λc o e hc=>?_
 rw[Aj hc,Aj hc,Aj hc]
 exact e
end
inductive Stp
 | sm (s:Sm)
 | onw
 | ask (w:Str)
 | tri (w o:Str)
def nH:Stp->Prop
 | .sm s=>CN s
 | _=>True
def Stp.pr:Stp->Str×List V
 | .sm s=>s.pr
 | .onw=>("onwards", [])
 | .ask w=>("ask", [V.str w])
 | .tri w o=>("try", [V.str w,V.str o])
inductive Res
 | ok (n:Int) (k:Nat) (sd:List Int)
 | una (k:Nat) (sd:List Int)
 | spent
abbrev Ha:=Str->Nat->Int->Nat->List Int->Res
def Np(R:Ha)(y z:Str)(n:Int)(k:Nat)(sd:List Int):Res:=match R y 0 n k sd with
 | .una k' _=>R z 0 n k' sd
 | .ok a b c=>.ok a b c
 | .spent=>.spent
def Hd(R:Ha)(w:Str)(ix:Nat)(n:Int)(k:Nat)(sd:List Int):Stp->Res
 | .sm s=>.ok (s.nx n) k (sd++s.out n)
 | .onw=>R w (ix+1) n k sd
 | .ask y=>R y 0 n k sd
 | .tri y z=>Np R y z n k sd
def Dv(R:Ha)(w:Str)(ix:Nat):List Stp->Int->Nat->List Int->Res
 | [],n,k,sd=>.ok n k sd
 | s::ss,n,k,sd=>match Hd R w ix n k sd s with
  | .ok n' k' sd'=>Dv R w ix ss n' k' sd'
  | .una k' sd'=>.una k' sd'
  | .spent=>.spent
abbrev Ci:=Str->Str->Option (List Stp)
def findF(B:Ci)(w:Str):Nat->List Str->Option (Nat×List Stp)
 | _,[]=>none
 | i,y::ys=>match B y w with
  | some b=>some (i,b)
  | none=>findF B w (i+1) ys
def inS(R:Ha)(w:Str)(n:Int)(k:Nat)(sd:List Int)(ix:Nat)(body:List Stp):Res:=match k with
 | 0=>.spent
 | k'+1=>Dv R w ix body n k' sd
def HK(R:Ha)(B:Ci)(rs:List Str):Ha:=λw pl n k sd=>match findF B w pl (rs.drop pl) with
 | none=>.una k sd
 | some (ix,body)=>inS R w n k sd ix body
def En(B:Ci)(rs:List Str):Nat->Ha
 | 0=>λ_ _ _ _ _=>.spent
 | m+1=>HK (En B rs m) B rs
def Goes(b c k:Nat)(sd:List Int):Res->Prop
 | .ok n k' sd'=>k'<=k/\Ab (b+3200 * (k-k')) n/\∃t,sd'=sd++t/\t.length<=c+31 * (k-k')
 | .una k' sd'=>k'<=k/\∃t,sd'=sd++t/\t.length<=c+31 * (k-k')
 | .spent=>True
def GoodR(R:Ha):Prop:=∀y pl n k sd b,Ab b n->100<=b->Goes b 0 k sd (R y pl n k sd)
theorem Goes.step{b c b' c' k k':Nat}{sd t:List Int}{r:Res}(h:Goes b' c' k' (sd++t) r)(hk:k'<=k)(hb:b'<=b+3200 * (k-k'))(hc:c'+t.length<=c+31 * (k-k')):Goes b c k sd r:=by
 cases r with
 | ok n k2 sd2=>
  obtain⟨h1,h2,t2,h3,h4⟩:=h
  refine⟨by omega,h2.mono (by omega),t++t2,by rw[h3,OB],by rw[JJ];omega⟩
 | una k2 sd2=>
  obtain⟨h1,t2,h3,h4⟩:=h
  exact⟨by omega,t++t2,by rw[h3,OB],by rw[JJ];omega⟩
 | spent=>trivial
theorem oV{R:Ha}(hR:GoodR R){y z:Str}{n:Int}{k:Nat}{sd:List Int}{b:Nat}(hn:Ab b n)(hb:100<=b):Goes b 0 k sd (Np R y z n k sd):=by
 have h:=hR y 0 n k sd b hn hb
 unfold Np
 cases e:R y 0 n k sd with
 | ok a c d=>rw[e] at h;exact h
 | spent=>trivial
 | una k' sd'=>
  rw[e] at h
  have h2:=hR z 0 n k' sd b hn hb
  refine Goes.step (t:=[]) (b':=b) (c':=0) (by rw[LX];exact h2) h.1 (by omega) (by simp)
theorem Sj{R:Ha}(hR:GoodR R){w:Str}{ix:Nat}{n:Int}{k:Nat}{sd:List Int}{b:Nat}{s:Stp}(hs:nH s)(hn:Ab b n)(hb:100<=b):Goes (b+101) 1 k sd (Hd R w ix n k sd s):=by
 have up:∀ {r:Res},Goes b 0 k sd r->Goes (b+101) 1 k sd r:=λ{r} h=>Goes.step (t:=[]) (b':=b) (c':=0) (k':=k) (by rw[LX];exact h) (JI _) (by omega) (by simp)
 cases s with
 | sm s=>exact⟨JI _,by rw[Nat.sub_self];exact Sm.nx_ab hs hn hb,_,rfl,by have:=uG s n;omega⟩
 | onw=>exact up (hR _ _ _ _ _ _ hn hb)
 | ask y=>exact up (hR _ _ _ _ _ _ hn hb)
 | tri y z=>exact up (oV hR hn hb)
theorem Pt{R:Ha}(hR:GoodR R){w:Str}{ix:Nat}:∀ {ss:List Stp} {n:Int} {k:Nat} {sd:List Int} {b:Nat},(∀s∈ss,nH s)->Ab b n->100<=b->Goes (b+101 * ss.length) ss.length k sd (Dv R w ix ss n k sd)
 | [],n,k,sd,b,_,hn,_=>⟨JI _,by rw[Nat.sub_self];exact hn,[],by rw[LX],LG _⟩
 | s::ss,n,k,sd,b,hs,hn,hb=>by
  have h:=Sj hR (w:=w) (ix:=ix) (k:=k) (sd:=sd) (hs s JS) hn hb
  show Goes (b+101 * (ss.length+1)) (ss.length+1) k sd (match Hd R w ix n k sd s with
   | .ok n' k' sd'=>Dv R w ix ss n' k' sd'
   | .una k' sd'=>.una k' sd'
   | .spent=>.spent)
  cases e:Hd R w ix n k sd s with
  | ok n' k' sd'=>
   rw[e] at h
   obtain⟨h1,h2,t,rfl,h4⟩:=h
   have ih:=Pt hR (w:=w) (ix:=ix) (k:=k') (sd:=sd++t) (λs hs'=>hs s (JQ _ hs')) h2 (by omega)
   exact ih.step h1 (by omega) (by omega)
  | una k' sd'=>
   rw[e] at h
   obtain⟨h1,t,h3,h4⟩:=h
   exact⟨h1,t,h3,by omega⟩
  | spent=>trivial
theorem Xv{B:Ci}{w:Str}:∀ {ys:List Str} {i ix:Nat} {body:List Stp},findF B w i ys=some (ix,body)->∃y∈ys,B y w=some body
 | [],_,_,_,h=>by cases h
 | y::ys,i,ix,body,h=>by
  cases e:B y w with
  | some b=>
   have h':findF B w i (y::ys)=some (i,b):=by show (match B y w with | some b=>some (i,b) | none=>findF B w (i+1) ys)=_;rw[e]
   rw[h'] at h
   cases h
   exact⟨y,JS,e⟩
  | none=>
   have h':findF B w i (y::ys)=findF B w (i+1) ys:=by show (match B y w with | some b=>some (i,b) | none=>findF B w (i+1) ys)=_;rw[e]
   rw[h'] at h
   obtain⟨z,hz,hb⟩:=Xv h
   exact⟨z,JQ _ hz,hb⟩
def FG(B:Ci)(rs:List Str):Prop:=∀y∈rs,∀w ss,B y w=some ss->(∀s∈ss,nH s)/\ss.length<=30
theorem Qy{B:Ci}{rs:List Str}(hB:FG B rs):∀m,GoodR (En B rs m)
 | 0=>λ_ _ _ _ _ _ _ _=>trivial
 | m+1=>λw pl n k sd b hn hb=>by
  show Goes b 0 k sd (match findF B w pl (rs.drop pl) with
   | none=>.una k sd
   | some (ix,body)=>inS (En B rs m) w n k sd ix body)
  cases e:findF B w pl (rs.drop pl) with
  | none=>exact⟨JI _,[],by rw[LX],by simp⟩
  | some p=>
   obtain⟨ix,body⟩:=p
   obtain⟨y,hy,hb2⟩:=Xv e
   obtain⟨o1,o2⟩:=hB y (PP hy) w body hb2
   cases k with
   | zero=>trivial
   | succ k=>
    have h:=Pt (Qy hB m) (w:=w) (ix:=ix) (k:=k) (sd:=sd) o1 hn hb
    exact Goes.step (t:=[]) (b':=b+101 * body.length) (c':=body.length) (k':=k) (by rw[LX];exact h) (by omega) (by omega) (by simp;omega)
def mask(H:Hp)(q sa:JK):Hp:=λb=>if b=q∨b=sa then none else H b
theorem Yh{H:Hp}{q sa:JK}:Am (mask H q sa) H:=λb o e=>by
 unfold mask at e
 split at e
 ·cases e
 ·exact e
theorem Ot{H:Hp}{q sa b:JK}{o:HO}(e:H b=some o)(h1:b≠q)(h2:b≠sa):mask H q sa b=some o:=by
 unfold mask
 rw[if_neg (λz=>z.elim h1 h2)]
 exact e
theorem Rj.masked{M H:Hp}{CT tq dt sa:JK}{k:Nat}{sd:List Int}(C:Rj M H CT tq dt sa k sd):Rj (mask H tq sa) H CT tq dt sa k sd/\Am M (mask H tq sa):=by
 refine⟨⟨Yh,?_,?_,C.hq,C.hs⟩,λb o e=>Ot (C.same b o e) (λz=>?_) (λz=>?_)⟩
 ·unfold mask
  rw[if_pos (.inl rfl)]
 ·unfold mask
  rw[if_pos (.inr rfl)]
 ·rw[z,C.mq] at e;cases e
 ·rw[z,C.ms] at e;cases e
structure Xe(CA CB CH:JK)(M:Hp)(q dx tq p d ra:JK)(L:List Ent)(rs:List Str)(B:Ci):Prop where
 ob:M q=some (.ins CA dx (aF p ra tq))
 bk:Be CB CH M p d L
 row:M ra=some (.lst (Az rs))
 rl:rs.length<=1000
 hs:∀y∈rs,∃e,Hl L y=some e
 no:∀y∈rs,∀e w,Hl L y=some e->B y w=none->valV e.bd (KD w:Key)=none
 yes:∀y∈rs,∀e w ss,Hl L y=some e->B y w=some ss->∃(la:JK)(ts:List JK),valV e.bd (KD w:Key)=some (.ref la)/\M la=some (.lst (ts.map V.ref))/\Dq M ts (ss.map Stp.pr)
 ok:FG B rs
theorem Xe.same{CA CB CH:JK}{M M':Hp}{q dx tq p d ra:JK}{L:List Ent}{rs:List Str}{B:Ci}(U:Xe CA CB CH M q dx tq p d ra L rs B)(s:Am M M'):Xe CA CB CH M' q dx tq p d ra L rs B:=
 ⟨s _ _ U.ob,U.bk.same s,s _ _ U.row,U.rl,U.hs,U.no,λy hy e w ss h1 h2=>let ⟨la,ts,a,b,c⟩:=U.yes y hy e w ss h1 h2;⟨la,ts,a,s _ _ b,c.same s⟩,U.ok⟩
def Ut(M:Hp)(CT CU CS tq dt:JK)(Q:VK)(E:XK):Res->Prop
 | .ok n k sd=>∀(H':Hp)(sa:JK),Rj M H' CT tq dt sa k sd->Q (.int n) H'
 | .una k sd=>∀(H':Hp)(sa:JK),Rj M H' CT tq dt sa k sd->E (.ref CU) none H'
 | .spent=>∀H':Hp,Am M H'->E (.ref CS) none H'
structure Fits(b:Nat)(n:Int)(k:Nat)(sd:List Int):Prop where
 ab:Ab b n
 lo:100<=b
 hi:b+3200 * (k+1)<=800000
 len:sd.length+31 * (k+1)<=90000
section
variable (CA CT CB CH CU CS:JK)
def Qz(m:Nat):Sp:=λvs H Q E=>∃(M:Hp)(q dx p d ra tq dt sa:JK)(L:List Ent)(rs:List Str)(B:Ci)(w:Str)(pl:Nat)(n:Int)(k:Nat)(sd:List Int)(b:Nat),
 vs=[.ref q,.str w,.int (pl:Int),.int n]/\Xe CA CB CH M q dx tq p d ra L rs B/\Rj M H CT tq dt sa k sd/\k < m/\pl<=2000/\Fits b n k sd/\Ut M CT CU CS tq dt Q E (En B rs m w pl n k sd)
def wJ(m:Nat):Sp:=λvs H Q E=>∃(M:Hp)(q dx p d ra tq dt sa:JK)(L:List Ent)(rs:List Str)(B:Ci)(y z:Str)(n:Int)(k:Nat)(sd:List Int)(b:Nat),
 vs=[.ref q,.str y,.str z,.int n]/\Xe CA CB CH M q dx tq p d ra L rs B/\Rj M H CT tq dt sa k sd/\k < m/\Fits b n k sd/\Ut M CT CU CS tq dt Q E (Np (En B rs m) y z n k sd)
def wG(m:Nat):Sp:=λvs H Q E=>∃(M:Hp)(q dx p d ra tq dt sa t:JK)(L:List Ent)(rs:List Str)(B:Ci)(w:Str)(ix:Nat)(n:Int)(k:Nat)(sd:List Int)(b:Nat)(s:Stp),
 vs=[.ref q,.ref t,.str w,.int (ix:Int),.int n]/\Xe CA CB CH M q dx tq p d ra L rs B/\Rj M H CT tq dt sa k sd/\M t=some (.tup (.str s.pr.1::s.pr.2))/\nH s/\k < m/\ix < 2000/\Fits b n k sd/\Ut M CT CU CS tq dt Q E (Hd (En B rs m) w ix n k sd s)
def xD(m:Nat):Sp:=λvs H Q E=>∃(M:Hp)(q dx p d ra tq dt sa l:JK)(L:List Ent)(rs:List Str)(B:Ci)(w:Str)(ix:Nat)(n:Int)(k:Nat)(sd:List Int)(b:Nat)(ts:List JK)(ss:List Stp),
 vs=[.ref q,.ref l,.str w,.int (ix:Int),.int n]/\Xe CA CB CH M q dx tq p d ra L rs B/\Rj M H CT tq dt sa k sd/\M l=some (.lst (ts.map V.ref))/\Dq M ts (ss.map Stp.pr)/\(∀s∈ss,nH s)/\ss.length<=30/\k<=m/\ix < 2000/\Fits b n k sd/\Ut M CT CU CS tq dt Q E (inS (En B rs m) w n k sd ix ss)
end
theorem Kz{s:Sm}(h:CN s){x:Str}(hx:x∉(("say" : Str)::Qq)):s.pr.1≠x:=λz=>hx (z ▸ (by
 cases s with
 | say=>exact JS
 | op kd a=>exact JQ _ (wR.mem h)))
section
variable {P:KC} {w:LL} {K:JC} {mg:Str->Option JD} {base:MQ} {f fR fB fE fO fC fI fQ fT fN CA CT CB CH CU CS:JK} {fd dR dB dE dO dC dI dQ dT dN:LB} {bU bS:List JD}
theorem jJ:An ["self","step","word","index","number"] ["self","step","word","index","number"] (Ad Oh):=Ez (by decide +kernel)
theorem zI{m:Nat}(F:Dj K "behind" "Asking.behind" Oh f fd)(T:Xk K mg CA)(TT:Vb K mg CT)(GR:Al P w K mg base Bi 2 fR dR ["step","number","said"] Uk)(kR:JR K (.ref fR)=true)(bR:Binds K dR ["step","number","said"] [])(mR:mg "reckoned" = some (.ref fR))(GQ:Al P w K mg base (Gp P w) (4 * m+3) fQ dQ ["self","word","place","number"] (Qz CA CT CB CH CU CS m))(bQ:Binds K dQ ["self","word","place","number"] [])(mQ:Dt K CA "asked" fQ)(GT:Al P w K mg base (Gp P w) (4 * m+4) fT dT ["self","word","other","number"] (wJ CA CT CB CH CU CS m))(bT:Binds K dT ["self","word","other","number"] [])(mT:Dt K CA "tried" fT):
 Al P w K mg base (Gp P w) (4 * m+5) f fd ["self","step","word","index","number"] (wG CA CT CB CH CU CS m):=by
 refine F.okX jJ (λvs H Q E h=>?_) (λcdv A outer s H vs Q E hr h=>?_)
 ·obtain⟨M,q,dx,p,d,ra,tq,dt,sa,t,L,rs,B,w,ix,n,k,sd,b,s,rfl,_⟩:=h
  rfl
 obtain⟨M,q,dx,p,d,ra,tq,dt,sa,t,L,rs,B,w,ix,n,k,sd,b,s,rfl,U,C,ht,ok,hk,hix,ft,g⟩:=h
 have hr2:=hr.mono (j:=2) (by omega)
 have hr3:=hr.mono (j:=4 * m+3) (by omega)
 refine⟨_,Ac (Ay (Ar Cc (As Ax (pv 1) Ae (λ_ _=>rfl)) Ba (Au _)) (Af (Ao (Et (pv 0) T.cl mQ GQ hr3 bQ .nil (Ja (pv 2) (Aq Cm (pv 3) Ae) (pv 4))))) Ap)
  (Ac (Ay (Ar Cc (As Ax (pv 1) Ae (λ_ _=>rfl)) Ba (Au _)) (Af (Ao (Et (pv 0) T.cl mQ GQ hr3 bQ .nil (Ja (As Ax (pv 1) Ae (λ_ _=>rfl)) Ae (pv 4))))) Ap)
  (Ac (Ay (Ar Cc (As Ax (pv 1) Ae (λ_ _=>rfl)) Ba (Au _)) (Af (Ao (Et (pv 0) T.cl mT GT hr bT .nil (Ja (As Ax (pv 1) Ae (λ_ _=>rfl)) (As Ax (pv 1) Ae (λ_ _=>rfl)) (pv 4))))) Ap)
  (Af (Ao (Cf GR hr2 mR kR bR (Ja (pv 1) (pv 4) (Cp (Cp (pv 0) rfl) rfl))))))),?_⟩
 have at0:Jb (V.str s.pr.1::s.pr.2) 0=some (.str s.pr.1):=Bc (j:=0) rfl
 have htH:=C.same _ _ ht
 refine⟨_,rfl,t,_,_,_,rfl,rfl,Co.of htH,at0,rfl,_,rfl,Br (λc=>?_) (λc1=>?_)⟩
 ·have hs:s=.onw:=by
   cases s with
   | sm s=>exact absurd (Bq c) (Kz ok (by decide +kernel))
   | onw=>rfl
   | ask w=>exact absurd (Bq c) (show ¬ ("ask" : Str) = "onwards" by decide +kernel)
   | tri w o=>exact absurd (Bq c) (show ¬ ("try" : Str) = "onwards" by decide +kernel)
  subst hs
  have e1:(ix:Int)+1=((ix+1:Nat):Int):=by omega
  refine⟨_,rfl,q,dx,_,rfl,C.same _ _ U.ob,Na (by decide +kernel),_,rfl,_,rfl,_,_,rfl,rfl,_,rfl,?_⟩
  exact⟨M,q,dx,p,d,ra,tq,dt,sa,L,rs,B,w,ix+1,n,k,sd,b,by rw[<- e1];rfl,U,C,hk,by omega,ft,g⟩
 refine⟨_,rfl,t,_,_,_,rfl,rfl,Co.of htH,at0,rfl,_,rfl,Br (λc=>?_) (λc2=>?_)⟩
 ·obtain⟨y,rfl⟩:∃y,s=.ask y:=by
   cases s with
   | sm s=>exact absurd (Bq c) (Kz ok (by decide +kernel))
   | onw=>exact absurd (Bq c) (by decide +kernel)
   | ask w=>exact⟨w,rfl⟩
   | tri w o=>exact absurd (Bq c) (show ¬ ("try" : Str) = "ask" by decide +kernel)
  have at1:Jb [V.str "ask", V.str y] 1=some (.str y):=Bc (j:=1) rfl
  refine⟨_,rfl,q,dx,_,rfl,C.same _ _ U.ob,Na (by decide +kernel),_,rfl,t,_,_,_,rfl,rfl,Co.of htH,at1,_,rfl,?_⟩
  exact⟨M,q,dx,p,d,ra,tq,dt,sa,L,rs,B,y,0,n,k,sd,b,rfl,U,C,hk,by omega,ft,g⟩
 refine⟨_,rfl,t,_,_,_,rfl,rfl,Co.of htH,at0,rfl,_,rfl,Br (λc=>?_) (λc3=>?_)⟩
 ·obtain⟨y,z,rfl⟩:∃y z,s=.tri y z:=by
   cases s with
   | sm s=>exact absurd (Bq c) (Kz ok (by decide +kernel))
   | onw=>exact absurd (Bq c) (by decide +kernel)
   | ask w=>exact absurd (Bq c) (show ¬ ("ask" : Str) = "try" by decide +kernel)
   | tri w o=>exact⟨w,o,rfl⟩
  have at1:Jb [V.str "try", V.str y,V.str z] 1=some (.str y):=Bc (j:=1) rfl
  have at2:Jb [V.str "try", V.str y,V.str z] 2=some (.str z):=Bc (j:=2) rfl
  refine⟨_,rfl,q,dx,_,rfl,C.same _ _ U.ob,Na (by decide +kernel),_,rfl,t,_,_,_,rfl,rfl,Co.of htH,at1,_,rfl,t,_,_,_,rfl,rfl,Co.of htH,at2,_,rfl,?_⟩
  exact⟨M,q,dx,p,d,ra,tq,dt,sa,L,rs,B,y,z,n,k,sd,b,rfl,U,C,hk,ft,g⟩
 obtain⟨s',rfl⟩:∃s',s=.sm s':=by
  cases s with
  | sm s=>exact⟨s,rfl⟩
  | onw=>exact absurd rfl (Dc c1)
  | ask w=>exact absurd rfl (Dc c2)
  | tri w o=>exact absurd rfl (Dc c3)
 have f2:=ft.hi
 have f3:=ft.len
 refine⟨_,rfl,_,rfl,_,rfl,q,CA,dx,_,_,rfl,C.same _ _ U.ob,T.cl,T.nTally,Jw _ _ _,tq,CT,dt,_,_,rfl,C.hq,TT.cl,TT.nSaid,Og _ _,t,sa,n,s',sd,b,rfl,htH,ok,ft.ab,by omega,C.hs,by omega,λH' h1 h2=>?_⟩
 exact g H' sa (C.upd h1 h2)
theorem eE:An ["self","word","other","number","said_before"] ["self","word","other","number"] (Ad Pc):=Ez (by decide +kernel)
theorem zZ{m:Nat}(F:Dj K "tried" "Asking.tried" Pc f fd)(T:Xk K mg CA)(TT:Vb K mg CT)(Tx:Txt mg)(X:Zv K mg CU CS bU bS)(GQ:Al P w K mg base (Gp P w) (4 * m+3) fQ dQ ["self","word","place","number"] (Qz CA CT CB CH CU CS m))(bQ:Binds K dQ ["self","word","place","number"] [])(mQ:Dt K CA "asked" fQ)(GN:Ry P w K mg base 1 fN dN ["self","length"] (Vh CT))(bN:Binds K dN ["self","length"] [])(mN:Dt K CT "take_back" fN):
 Al P w K mg base (Gp P w) (4 * m+4) f fd ["self","word","other","number"] (wJ CA CT CB CH CU CS m):=by
 refine F.okX eE (λvs H Q E h=>?_) (λcdv A outer s H vs Q E hr h=>?_)
 ·obtain⟨M,q,dx,p,d,ra,tq,dt,sa,L,rs,B,y,z,n,k,sd,b,rfl,_⟩:=h
  rfl
 obtain⟨M,q,dx,p,d,ra,tq,dt,sa,L,rs,B,y,z,n,k,sd,b,rfl,U,C,hk,ft,g⟩:=h
 have hr1:=hr.mono (j:=1) (by omega)
 refine⟨_,Ac (Bv 4 eE.nd (Bw Tx.len (Cp (Cp (pv 0) rfl) rfl)))
  (Ac (aA (X:=Ex (Gp P w) P w K mg base ["self","word","other","number","said_before"] "Asking.tried" (Ad Pc) f cdv A outer s H E) (EX:=λ_=>E) Kl (λ_ _ h=>h) (λpn EX1=>Af (Ao (Et (pv 0) T.cl mQ GQ hr bQ .nil (Ja (pv 1) Ae (pv 3)))))
   (λpn=>Ps (K:=K) rfl X.mgU (λx oe=>Af (Bx (nY (vN (K:=K) (pv 0) rfl) TT.cl mN GN (hr1.caught _) bN .nil (Du (pv 4))))) (Ze ⟨rfl,rfl,rfl⟩)))
  (Af (Ao (Et (pv 0) T.cl mQ GQ hr bQ .nil (Ja (pv 2) Ae (pv 3)))))),?_⟩
 have hgo:=Qy U.ok m y 0 n k sd b ft.ab ft.lo
 unfold Np at g
 refine⟨_,rfl,q,CA,dx,_,_,rfl,C.same _ _ U.ob,T.cl,T.nTally,Jw _ _ _,tq,CT,dt,_,_,rfl,C.hq,TT.cl,TT.nSaid,Og _ _,sa,_,rfl,.inl (Aw.of C.hs),?_⟩
 refine⟨_,rfl,q,dx,_,rfl,C.same _ _ U.ob,Na (by decide +kernel),_,rfl,_,rfl,?_⟩
 refine⟨M,q,dx,p,d,ra,tq,dt,sa,L,rs,B,y,0,n,k,sd,b,rfl,U,C,hk,by omega,ft,?_⟩
 cases e:En B rs m y 0 n k sd with
 | ok a c t=>
  rw[e] at g
  exact g
 | spent=>
  rw[e] at g
  exact λH' hs=>⟨false,X.su,Eb (g H' hs)⟩
 | una k' sd'=>
  rw[e] at g hgo
  obtain⟨hk',t,rfl,_⟩:=hgo
  intro H' sa' C'
  refine⟨true,X.uu,Ju ?_⟩
  refine⟨_,rfl,q,CA,dx,_,_,rfl,C'.same _ _ U.ob,T.cl,T.nTally,Jw _ _ _,tq,dt,_,rfl,C'.hq,xB (by decide +kernel),_,rfl,?_⟩
  refine⟨M,tq,dt,sa',k',sd,t,by rw[Ob];rfl,C',λH2 sb C2=>?_⟩
  refine⟨_,rfl,q,dx,_,rfl,C2.same _ _ U.ob,Na (by decide +kernel),_,rfl,_,rfl,?_⟩
  have f1:=ft.hi
  have f2:=ft.len
  exact⟨M,q,dx,p,d,ra,tq,dt,sb,L,rs,B,z,0,n,k',sd,b,rfl,U,C2,by omega,by omega,⟨ft.ab,ft.lo,by omega,by omega⟩,g⟩
theorem Kt:An ["self","body","word","index","number","step"] ["self","body","word","index","number"] (Ad Ll):=Ez (by decide +kernel)
theorem zW{m:Nat}(F:Dj K "entered" "Asking.entered" Ll f fd)(T:Xk K mg CA)(TT:Vb K mg CT)(X:Zv K mg CU CS bU bS)(GB:Al P w K mg base (Gp P w) (4 * m+5) fB dB ["self","step","word","index","number"] (wG CA CT CB CH CU CS m))(bB:Binds K dB ["self","step","word","index","number"] [])(mB:Dt K CA "behind" fB)(GT:Al P w K mg base (Gp P w) 1 fT dT ["self"] (Ol CT CS))(bT:Binds K dT ["self"] [])(mT:Dt K CT "enter" fT):
 Al P w K mg base (Gp P w) (4 * m+6) f fd ["self","body","word","index","number"] (xD CA CT CB CH CU CS m):=by
 refine F.okX Kt (λvs H Q E h=>?_) (λcdv A outer s H vs Q E hr h=>?_)
 ·obtain⟨M,q,dx,p,d,ra,tq,dt,sa,l,L,rs,B,w,ix,n,k,sd,b,ts,ss,rfl,_⟩:=h
  rfl
 obtain⟨M,q,dx,p,d,ra,tq,dt,sa,l,L,rs,B,w,ix,n,k,sd,b,ts,ss,rfl,U,C,hl,hst,hok,h30,hk,hix,ft,g⟩:=h
 have hr1:=hr.mono (j:=1) (by omega)
 refine⟨_,Ac (Bx (jC (Cp (pv 0) rfl) TT.cl mT GT hr1 bT .nil))
  (Ac (Eg (Wx.passesOwn Kl) rfl (Dk (pv 1)) (Dg 5 Kt.nd)
   (Af (Bv 4 Kt.nd (Et (pv 0) T.cl mB GB hr bB .nil (rO (pv 5) (pv 2) (pv 3) (pv 4))))))
  (Af (Ao (pv 4)))),?_⟩
 refine⟨_,rfl,q,CA,dx,_,_,rfl,C.same _ _ U.ob,T.cl,T.nTally,Jw _ _ _,tq,dt,_,rfl,C.hq,xB (by decide +kernel),?_⟩
 refine⟨M,tq,dt,sa,k,sd,rfl,C,λhk0=>?_,λk' hk' H1 C1=>?_⟩
 ·subst hk0
  exact g
 subst hk'
 replace g:Ut M CT CU CS tq dt Q E (Dv (En B rs m) w ix ss n k' sd):=g
 have f1:=ft.hi
 have f2:=ft.len
 have f3:=ft.lo
 refine⟨_,rfl,l,rfl,⟨_,Aw.of (C1.same _ _ hl)⟩,Fo (K:=K) (a:=l) (xs:=ts.map V.ref) (λi σ H2=>∃(v5:Option V)(n1:Int)(k1:Nat)(sd1:List Int)(sa1:JK),σ=[some (.ref q),some (.ref l),some (.str w),some (.int (ix:Int)),some (.int n1),v5]/\Rj M H2 CT tq dt sa1 k1 sd1/\k1<=k'/\Ab (b+101 * i+3200 * (k'-k1)) n1/\sd1.length<=sd.length+i+31 * (k'-k1)/\Dv (En B rs m) w ix (ss.drop i) n1 k1 sd1=Dv (En B rs m) w ix ss n k' sd)
  ⟨none,n,k',sd,sa,rfl,C1,JI _,ft.ab.mono (by omega),by omega,rfl⟩ (λi σ H2 _ ⟨_,_,_,_,_,_,C2,_⟩=>Aw.of (C2.same _ _ hl)) ?_ ?_⟩
 ·rintro i v σ H2 hi ⟨v5,n1,k1,sd1,sa1,rfl,C2,hk1,hab,hsl,hdr⟩
  obtain⟨t,ht,rfl⟩:=Ea hi
  have hil:i < ss.length:=by
   have:=(JB.mp ht).1
   rw[hst.1,JF] at this
   exact this
  have es:ss[i]? = some ss[i]:=JG hil
  have ep:(ss.map Stp.pr)[i]? = some (ss[i]).pr:=by rw[KJ,es];rfl
  have et:=hst.2 i t _ ht ep
  have ok:=hok _ (OJ hil)
  have edr:ss.drop i=ss[i]::ss.drop (i+1):=ML hil
  rw[edr] at hdr
  generalize ss[i]=s at *
  have hsg:=Sj (Qy U.ok m) (w:=w) (ix:=ix) (k:=k1) (sd:=sd1) ok hab (by omega)
  have hdr2:(match Hd (En B rs m) w ix n1 k1 sd1 s with
   | .ok n' k' sd'=>Dv (En B rs m) w ix (ss.drop (i+1)) n' k' sd'
   | .una k' sd'=>.una k' sd'
   | .spent=>.spent)=Dv (En B rs m) w ix ss n k' sd:=hdr
  refine⟨_,rfl,q,dx,_,rfl,C2.same _ _ U.ob,Na (by decide +kernel),_,rfl,_,rfl,_,rfl,_,rfl,?_⟩
  refine⟨M,q,dx,p,d,ra,tq,dt,sa1,t,L,rs,B,w,ix,n1,k1,sd1,_,s,rfl,U,C2,et,ok,by omega,hix,⟨hab,by omega,by omega,by omega⟩,?_⟩
  cases e:Hd (En B rs m) w ix n1 k1 sd1 s with
  | ok n2 k2 sd2=>
   rw[e] at hsg hdr2
   obtain⟨g1,g2,t2,rfl,g4⟩:=hsg
   intro H3 sa3 C3
   exact⟨_,n2,k2,_,sa3,rfl,C3,by omega,g2.mono (by omega),by rw[JJ];omega,hdr2⟩
  | una k2 sd2=>
   rw[e] at hdr2
   rw[<- hdr2] at g
   exact g
  | spent=>
   rw[e] at hdr2
   rw[<- hdr2] at g
   exact g
 ·rintro σ H2 ⟨v5,n1,k1,sd1,sa1,rfl,C2,hk1,hab,hsl,hdr⟩
  have el:(ts.map V.ref).length=ss.length:=by rw[JF,hst.1,JF]
  rw[el,List.drop_length] at hdr
  rw[<- hdr] at g
  exact⟨_,rfl,g H2 sa1 C2⟩
theorem Ut.mono{M M2:Hp}{tq dt:JK}{Q:VK}{E:XK}{r:Res}(h:Ut M CT CU CS tq dt Q E r)(s:Am M M2):Ut M2 CT CU CS tq dt Q E r:=by
 have cm:∀ {H':Hp} {sa:JK} {k:Nat} {sd:List Int},Rj M2 H' CT tq dt sa k sd->Rj M H' CT tq dt sa k sd:=λC=>⟨s.trans C.same,s.free C.mq,s.free C.ms,C.hq,C.hs⟩
 cases r with
 | ok n k sd=>exact λH' sa C=>h H' sa (cm C)
 | una k sd=>exact λH' sa C=>h H' sa (cm C)
 | spent=>exact λH' hs=>h H' (s.trans hs)
theorem Zs{B:Ci}{w:Str}{i:Nat}{y:Str}{ys:List Str}:findF B w i (y::ys)=match B y w with | some b=>some (i,b) | none=>findF B w (i+1) ys:=rfl
theorem Kx:An ["self","word","place","number","index","body"] ["self","word","place","number"] (Ad Qf):=Ez (by decide +kernel)
theorem AN{m:Nat}(F:Dj K "asked" "Asking.asked" Qf f fd)(T:Xk K mg CA)(TB:Gz K mg CB CH)(Tx:Txt mg)(X:Zv K mg CU CS bU bS)(GE:Al P w K mg base (Gp P w) (4 * m+6) fE dE ["self","body","word","index","number"] (xD CA CT CB CH CU CS m))(bE:Binds K dE ["self","body","word","index","number"] [])(mE:Dt K CA "entered" fE)(GB:Al P w K mg base Bi 2 fB dB ["self","name","word"] (Qo CB CH))(bB:Binds K dB ["self","name","word"] [])(mB:Dt K CB "body" fB):Al P w K mg base (Gp P w) (4 * (m+1)+3) f fd ["self","word","place","number"] (Qz CA CT CB CH CU CS (m+1)):=by
 refine F.okX Kx (λvs H Q E h=>?_) (λcdv A outer s H vs Q E hr h=>?_)
 ·obtain⟨M,q,dx,p,d,ra,tq,dt,sa,L,rs,B,w,pl,n,k,sd,b,rfl,_⟩:=h
  rfl
 obtain⟨M,q,dx,p,d,ra,tq,dt,sa,L,rs,B,w,pl,n,k,sd,b,rfl,U,C,hk,hpl,ft,g⟩:=h
 have hr2:=hr.mono (j:=2) (by omega)
 obtain⟨bx,hp⟩:=U.bk.ob
 refine⟨_,Ac (Eg (Wx.passesOwn Kl) rfl (iM rfl Tx.range (Em (pv 2) (Bw Tx.len (Cp (pv 0) rfl)))) (Dg 4 Kx.nd)
  (Ac (Bv 5 Kx.nd (Ee (Cp (pv 0) rfl) TB.clB mB GB hr2 bB .nil Dh (Em (As Bj (Cp (pv 0) rfl) (pv 4) (λ_ _=>rfl)) (pv 1))))
  (Af (Ay (Fs (Uq (pv 5))) (Af (Ao (Et (pv 0) T.cl mE GE hr bE .nil (rO (pv 5) (pv 1) (pv 4) (pv 3))))) Ap))))
  (Af (Ys rfl X.exU X.baU X.inU rfl X.mgU (Du Ba))),?_⟩
 have hrow:=C.same _ _ U.row
 have hrl:=U.rl
 have hlen:((Az rs).length:Int)=(rs.length:Int):=by rw[Av]
 refine⟨_,rfl,_,rfl,q,CA,dx,_,_,rfl,C.same _ _ U.ob,T.cl,T.nRow,qU _ _ _,ra,_,rfl,.inl (Aw.of hrow),_,_,rfl,⟨by omega,by omega,by omega,by omega⟩,Hm (n:=(((Az rs).length:Int)-(pl:Int)).toNat) (λi σ H2=>∃v4 v5:Option V,σ=[some (.ref q),some (.str w),some (.int (pl:Int)),some (.int n),v4,v5]/\H2=H/\findF B w (pl+i) (rs.drop (pl+i))=findF B w pl (rs.drop pl)) ⟨none,none,rfl,rfl,rfl⟩ ?_ ?_⟩
 ·rintro i σ H2 hi ⟨v4,v5,rfl,rfl,hf⟩
  have hil:pl+i < rs.length:=by omega
  have e0:(pl:Int)+(i:Int)=((pl+i:Nat):Int):=by omega
  rw[e0]
  have edr:rs.drop (pl+i)=rs[pl+i]::rs.drop (pl+i+1):=ML hil
  have hy:=OJ hil
  have aty:Jb (Az rs) ((pl+i:Nat):Int)=some (.str rs[pl+i]):=Bc (Mm (JG hil))
  rw[edr,Zs] at hf
  generalize rs[pl+i]=y at *
  obtain⟨e,he⟩:=U.hs y hy
  have hpH:=C.same _ _ hp
  refine⟨_,rfl,q,CA,dx,_,_,rfl,C.same _ _ U.ob,T.cl,T.nBook,sO _ _ _,p,bx,_,rfl,hpH,Gr d (by decide +kernel),?_⟩
  refine⟨_,rfl,q,CA,dx,_,_,rfl,C.same _ _ U.ob,T.cl,T.nRow,qU _ _ _,_,rfl,ra,_,_,_,rfl,rfl,Aw.of hrow,aty,_,rfl,?_⟩
  cases hB:B y w with
  | none=>
   rw[hB] at hf
   refine⟨p,d,L,y,w,e,rfl,U.bk.same C.same,he,.inl ⟨U.no y hy e w he hB,?_⟩⟩
   exact⟨_,rfl,_,rfl,Eb ⟨_,_,rfl,rfl,hf⟩⟩
  | some ss=>
   rw[hB] at hf
   obtain⟨la,ts,hv,hla,hst⟩:=U.yes y hy e w ss he hB
   obtain⟨o1,o2⟩:=U.ok y hy w ss hB
   refine⟨p,d,L,y,w,e,rfl,U.bk.same C.same,he,.inr ⟨la,_,hv,C.same _ _ hla,λl hl=>?_⟩⟩
   refine⟨_,rfl,_,rfl,Ju ?_⟩
   have s1:=Ag hl (.lst (ts.map V.ref))
   have C1:Rj M (upd H2 l (.lst (ts.map V.ref))) CT tq dt sa k sd:=⟨C.same.trans s1,C.mq,C.ms,s1 _ _ C.hq,s1 _ _ C.hs⟩
   obtain⟨C2,s2⟩:=C1.masked
   have hlM:mask (upd H2 l (.lst (ts.map V.ref))) tq sa l=some (.lst (ts.map V.ref)):=Ot Aa (LH (Ai C.hq hl)) (LH (Ai C.hs hl))
   refine⟨_,rfl,q,dx,_,rfl,C1.same _ _ U.ob,Na (by decide +kernel),_,rfl,_,rfl,_,rfl,_,rfl,?_⟩
   refine⟨_,q,dx,p,d,ra,tq,dt,sa,l,L,rs,B,w,pl+i,n,k,sd,b,ts,ss,rfl,U.same s2,C2,hlM,hst.same s2,o1,o2,by omega,by omega,ft,?_⟩
   refine Ut.mono ?_ s2
   have hg:En B rs (m+1) w pl n k sd=inS (En B rs m) w n k sd (pl+i) ss:=by
    show (match findF B w pl (rs.drop pl) with
     | none=>Res.una k sd
     | some (ix,body)=>inS (En B rs m) w n k sd ix body)=_
    rw[<- hf]
   rw[hg] at g
   exact g
 ·rintro σ H2 ⟨v4,v5,rfl,rfl,hf⟩
  have hd0:rs.drop (pl+(((Az rs).length:Int)-(pl:Int)).toNat)=[]:=NX (by omega)
  rw[hd0] at hf
  have hg:En B rs (m+1) w pl n k sd=.una k sd:=by
   show (match findF B w pl (rs.drop pl) with
    | none=>Res.una k sd
    | some (ix,body)=>inS (En B rs m) w n k sd ix body)=_
   rw[<- hf]
   rfl
  rw[hg] at g
  exact⟨by show 1<=JM;decide,g H2 sa C⟩
theorem tO(F:Dj K "asked" "Asking.asked" Qf f fd):Al P w K mg base (Gp P w) 3 f fd ["self","word","place","number"] (Qz CA CT CB CH CU CS 0):=by
 refine F.okX (k:=2) Kx (λvs H Q E h=>?_) (λcdv A outer s H vs Q E hr h=>?_)
 ·obtain⟨M,q,dx,p,d,ra,tq,dt,sa,L,rs,B,w,pl,n,k,sd,b,rfl,_⟩:=h
  rfl
 obtain⟨M,q,dx,p,d,ra,tq,dt,sa,L,rs,B,w,pl,n,k,sd,b,rfl,U,C,hk,_⟩:=h
 omega
theorem eR(FQ:Dj K "asked" "Asking.asked" Qf fQ dQ)(bQ:Binds K dQ ["self","word","place","number"] [])(mQ:Dt K CA "asked" fQ)(FE:Dj K "entered" "Asking.entered" Ll fE dE)(bE:Binds K dE ["self","body","word","index","number"] [])(mE:Dt K CA "entered" fE)(FB:Dj K "behind" "Asking.behind" Oh fB dB)(bB:Binds K dB ["self","step","word","index","number"] [])(mB:Dt K CA "behind" fB)(FT:Dj K "tried" "Asking.tried" Pc fT dT)(bT:Binds K dT ["self","word","other","number"] [])(mT:Dt K CA "tried" fT){fV:JK}{dV:LB}(GN:Ry P w K mg base 1 fN dN ["self","length"] (Vh CT))(bN:Binds K dN ["self","length"] [])(mN:Dt K CT "take_back" fN)(GV:Al P w K mg base (Gp P w) 1 fV dV ["self"] (Ol CT CS))(bV:Binds K dV ["self"] [])(mV:Dt K CT "enter" fV)(T:Xk K mg CA)(TT:Vb K mg CT)(TB:Gz K mg CB CH)(Tx:Txt mg)(X:Zv K mg CU CS bU bS)(GR:Al P w K mg base Bi 2 fR dR ["step","number","said"] Uk)(kR:JR K (.ref fR)=true)(bR:Binds K dR ["step","number","said"] [])(mR:mg "reckoned" = some (.ref fR))(GY:Al P w K mg base Bi 2 fC dC ["self","name","word"] (Qo CB CH))(bY:Binds K dC ["self","name","word"] [])(mY:Dt K CB "body" fC):∀m,Al P w K mg base (Gp P w) (4 * m+3) fQ dQ ["self","word","place","number"] (Qz CA CT CB CH CU CS m)
 | 0=>tO FQ
 | m+1=>by
  have GQ:=eR FQ bQ mQ FE bE mE FB bB mB FT bT mT GN bN mN GV bV mV T TT TB Tx X GR kR bR mR GY bY mY m
  have GT:=zZ FT T TT Tx X GQ bQ mQ GN bN mN
  have GB:=zI FB T TT GR kR bR mR GQ bQ mQ GT bT mT
  have GE:=zW FE T TT X GB bB mB GV bV mV
  exact AN FQ T TB Tx X GE bE mE GY bY mY
end
def AI(k:Nat):Res->Prop
 | .ok _ k' _=>k'<=k
 | .una k' _=>k'<=k
 | .spent=>True
theorem AI.mono{k k':Nat}(h:k<=k'):∀ {r:Res},AI k r->AI k' r
 | .ok _ _ _,z=>KS z h
 | .una _ _,z=>KS z h
 | .spent,_=>trivial
def Wn(R:Ha):Prop:=∀w pl n k sd,AI k (R w pl n k sd)
theorem zM{R:Ha}(h:Wn R){y z:Str}{n:Int}{k:Nat}{sd:List Int}:AI k (Np R y z n k sd):=by
 have h1:=h y 0 n k sd
 unfold Np
 cases e:R y 0 n k sd with
 | ok a b c=>rw[e] at h1;exact h1
 | una k' s'=>rw[e] at h1;exact(h z 0 n k' sd).mono h1
 | spent=>trivial
theorem Vt{R:Ha}(h:Wn R){w:Str}{ix:Nat}{n:Int}{k:Nat}{sd:List Int}:∀s,AI k (Hd R w ix n k sd s)
 | .sm _=>JI _
 | .onw=>h _ _ _ _ _
 | .ask _=>h _ _ _ _ _
 | .tri _ _=>zM h
theorem Yu{R:Ha}(h:Wn R){w:Str}{ix:Nat}:∀ {ss:List Stp} {n:Int} {k:Nat} {sd:List Int},AI k (Dv R w ix ss n k sd)
 | [],_,_,_=>JI _
 | s::ss,n,k,sd=>by
  have h1:=Vt h (w:=w) (ix:=ix) (n:=n) (k:=k) (sd:=sd) s
  unfold Dv
  cases e:Hd R w ix n k sd s with
  | ok a k' c=>rw[e] at h1;exact(Yu h).mono h1
  | una k' c=>rw[e] at h1;exact h1
  | spent=>trivial
theorem Gf(B:Ci)(rs:List Str)(m:Nat)(w:Str)(pl:Nat)(n:Int)(k:Nat)(sd:List Int):En B rs (m+1) w pl n k sd=match findF B w pl (rs.drop pl) with
 | none=>.una k sd
 | some (ix,body)=>inS (En B rs m) w n k sd ix body:=rfl
theorem Vv(B:Ci)(rs:List Str):∀m,Wn (En B rs m)
 | 0=>λ_ _ _ _ _=>trivial
 | m+1=>λw pl n k sd=>by
  rw[Gf]
  cases findF B w pl (rs.drop pl) with
  | none=>exact JI _
  | some p=>
   obtain⟨ix,body⟩:=p
   cases k with
   | zero=>trivial
   | succ k=>exact(Yu (Vv B rs m)).mono (OI k)
def Agree(k:Nat)(R R':Ha):Prop:=∀w pl n j sd,j<=k->R w pl n j sd=R' w pl n j sd
theorem Agree.le{k k':Nat}{R R':Ha}(h:Agree k R R')(hk:k'<=k):Agree k' R R':=λw pl n j sd hj=>h w pl n j sd (KS hj hk)
theorem zP{R R':Ha}{k:Nat}(h:Agree k R R')(hl:Wn R){y z:Str}{n:Int}{sd:List Int}:Np R y z n k sd=Np R' y z n k sd:=by
 unfold Np
 rw[<- h y 0 n k sd (JI _)]
 have h1:=hl y 0 n k sd
 cases e:R y 0 n k sd with
 | ok a b c=>rfl
 | una k' s'=>rw[e] at h1;exact h z 0 n k' sd h1
 | spent=>rfl
theorem wA{R R':Ha}{k:Nat}(h:Agree k R R')(hl:Wn R){w:Str}{ix:Nat}{n:Int}{sd:List Int}:∀s,Hd R w ix n k sd s=Hd R' w ix n k sd s
 | .sm _=>rfl
 | .onw=>h _ _ _ _ _ (JI _)
 | .ask _=>h _ _ _ _ _ (JI _)
 | .tri _ _=>zP h hl
theorem Rb{R R':Ha}(hl:Wn R){w:Str}{ix:Nat}:∀ {ss:List Stp} {n:Int} {k:Nat} {sd:List Int},Agree k R R'->Dv R w ix ss n k sd=Dv R' w ix ss n k sd
 | [],_,_,_,_=>rfl
 | s::ss,n,k,sd,h=>by
  unfold Dv
  rw[<- wA h hl s]
  have h1:=Vt hl (w:=w) (ix:=ix) (n:=n) (k:=k) (sd:=sd) s
  cases e:Hd R w ix n k sd s with
  | ok a k' c=>rw[e] at h1;exact Rb hl (h.le h1)
  | una k' c=>rfl
  | spent=>rfl
theorem rF(B:Ci)(rs:List Str):∀(k m m':Nat),k < m->k < m'->Agree k (En B rs m) (En B rs m')
 | k,0,_,h,_=>absurd h (Nat.not_lt_zero _)
 | k,_,0,_,h=>absurd h (Nat.not_lt_zero _)
 | k,m+1,m'+1,h,h'=>λw pl n j sd hj=>by
  rw[Gf,Gf]
  cases findF B w pl (rs.drop pl) with
  | none=>rfl
  | some p=>
   obtain⟨ix,body⟩:=p
   cases j with
   | zero=>rfl
   | succ j=>exact Rb (Vv B rs m) (rF B rs j m m' (by omega) (by omega))
termination_by k m m'=>m
def rS(B:Ci)(rs:List Str):Ha:=λw pl n k sd=>En B rs (k+1) w pl n k sd
theorem lT(B:Ci)(rs:List Str){m k:Nat}{w:Str}{pl:Nat}{n:Int}{sd:List Int}(h:k < m):En B rs m w pl n k sd=rS B rs w pl n k sd:=rF B rs k m (k+1) h (QC k) w pl n k sd (JI _)
theorem vI{B:Ci}{rs:List Str}{w:Str}{pl:Nat}(h:findF B w pl (rs.drop pl)=none)(n:Int)(k:Nat)(sd:List Int):rS B rs w pl n k sd=.una k sd:=by
 show En B rs (k+1) w pl n k sd=_
 rw[Gf,h]
theorem sL{B:Ci}{rs:List Str}{w:Str}{pl ix:Nat}{body:List Stp}(h:findF B w pl (rs.drop pl)=some (ix,body))(n:Int)(sd:List Int):rS B rs w pl n 0 sd=.spent:=by
 show En B rs 1 w pl n 0 sd=_
 rw[Gf,h]
 rfl
theorem tN{B:Ci}{rs:List Str}{w:Str}{pl ix:Nat}{body:List Stp}(h:findF B w pl (rs.drop pl)=some (ix,body))(n:Int)(k:Nat)(sd:List Int):rS B rs w pl n (k+1) sd=Dv (rS B rs) w ix body n k sd:=by
 show En B rs (k+2) w pl n (k+1) sd=_
 rw[Gf,h]
 show Dv (En B rs (k+1)) w ix body n k sd=_
 exact Rb (Vv B rs _) λw pl n j sd hj=>lT B rs (by omega)
section
variable {B:Ci} {rs:List Str} {w:Str} {pl ix:Nat} {body:List Stp} {t:List Tk} {n:Int} {k:Nat} {sd:List Int}
end
end Bk
namespace Mg
section
variable {α:Type} [DecidableEq α]
def after(rs:List (List α))(xs:List α):List (List α):=xs.foldl (λrs x=>rs.map (Cw x)) rs
theorem Yz(rs:List (List α))(xs:List α)(x:α):after rs (xs++[x])=(after rs xs).map (Cw x):=by
 unfold after
 rw[List.foldl_append]
 rfl
def Good(rs:List (List α))(xs:List α):Prop:=∀i x,xs[i]? = some x->pick (cnt (after rs (xs.take i))) (after rs (xs.take i))=some x
theorem lL(rs:List (List α)):Good rs []:=λi x h=>by simp at h
theorem iQ{rs:List (List α)}{xs:List α}{x:α}(g:Good rs xs)(h:pick (cnt (after rs xs)) (after rs xs)=some x):Good rs (xs++[x]):=λi y hy=>by
 by_cases hi:i < xs.length
 ·rw[KH hi] at hy
  rw[List.take_append_of_le_length (by omega)]
  exact g i y hy
 ·by_cases he:i=xs.length
  ·subst he
   rw[KA] at hy
   cases hy
   rw[List.take_append_of_le_length (JI _),List.take_length]
   exact h
  ·rw[List.getElem?_eq_none (by rw[JJ,JU];omega)] at hy
   cases hy
theorem Mv{f:α->Nat}:∀ {rs:List (List α)},pick f rs=none->∀r∈rs,∀x t,r=x::t->f x≠0
 | [],_,r,hr,_,_,_=>nomatch hr
 | []::rs,h,r,hr,x,t,e=>by
  rcases JP.mp hr with rfl | hr
  ·cases e
  ·exact Mv (rs:=rs) h r hr x t e
 | (y::u)::rs,h,r,hr,x,t,e=>by
  unfold pick at h
  by_cases hy:f y=0
  ·rw[if_pos hy] at h
   cases h
  ·rw[if_neg hy] at h
   rcases JP.mp hr with rfl | hr
   ·cases e
    exact hy
   ·exact Mv (rs:=rs) h r hr x t e
theorem uE{rs:List (List α)}{x:α}:cnt rs x≠0 ↔ ∃r∈rs,x∈r.tail:=by
 constructor
 ·intro h
  by_cases q:∃r∈rs,x∈r.tail
  ·exact q
  ·exact absurd (Js.mpr λr hr hx=>q ⟨r,hr,hx⟩) h
 ·rintro⟨r,hr,hx⟩ z
  exact Js.mp z r hr hx
variable {β:Type}
def Sa(rs:List (List α))(ls:List β)(x:α×α×β):Prop:=∃(i:Nat)(r:List α),rs[i]? = some (x.1::r)/\x.2.1∈r/\ls[i]? = some x.2.2
structure Uh(rs:List (List α))(ls:List β)(ring:List (α×α×β)):Prop where
 lean:∀x∈ring,Sa rs ls x
 cyc:∃c T,ring.map (·.1)=c::T/\ring.map (·.2.1)=T++[c]/\(c::T).Nodup/\T≠[]
structure Way(rs:List (List α))(ls:List β)(path:List (α×α×β))(ns:List α)(c:α):Prop where
 lean:∀x∈path,Sa rs ls x
 fst:path.map (·.1)=(ns++[c]).tail
 snd:path.map (·.2.1)=ns
 nd:ns.Nodup
 hd:∀x∈ns++[c],∃r∈rs,∃t,r=x::t
theorem Way.step{rs:List (List α)}{ls:List β}{path:List (α×α×β)}{ns:List α}{c a:α}{l:β}(w:Way rs ls path ns c)(hc:c∉ns)(hl:Sa rs ls (a,c,l)):Way rs ls (path++[(a,c,l)]) (ns++[c]) a where
 lean:=λx hx=>by
  rcases KI.mp hx with z | z
  ·exact w.lean x z
  ·rw[JL.mp z];exact hl
 fst:=by
  rw[JT,w.fst]
  show (ns++[c]).tail++[a]=_
  cases ns with
  | nil=>rfl
  | cons n ns=>rfl
 snd:=by
  rw[JT,w.snd]
  rfl
 nd:=by
  rw[OA]
  refine⟨w.nd,by simp,λx hx y hy e=>?_⟩
  rw[JL.mp hy] at e
  exact hc (e ▸ hx)
 hd:=λx hx=>by
  rcases KI.mp hx with z | z
  ·exact w.hd x z
  ·rw[JL.mp z]
   obtain⟨i,r,h1,_,_⟩:=hl
   exact⟨a::r,JY h1,r,rfl⟩
theorem Way.ring{rs:List (List α)}{ls:List β}{path:List (α×α×β)}{ns:List α}{c:α}{j:Nat}(w:Way rs ls path ns c)(hnd:∀r∈rs,r.Nodup)(hj:ns[j]? = some c):Uh rs ls (path.drop j).reverse:=by
 obtain⟨hjl,ej⟩:=JB.mp hj
 have hf:((path.drop j).reverse).map (·.1)=c::(ns.drop (j+1)).reverse:=by
  rw[List.map_reverse,RL,w.fst,List.drop_tail,List.drop_append_of_le_length (by omega),List.reverse_append]
  rfl
 have hs:((path.drop j).reverse).map (·.2.1)=(ns.drop (j+1)).reverse++[c]:=by
  rw[List.map_reverse,RL,w.snd,ML hjl,ej,List.reverse_cons]
 have hcn:c∉ns.drop (j+1):=λhm=>by
  have nd:=w.nd
  rw[<- List.take_append_drop j ns,ML hjl,ej,OA] at nd
  exact(LQ.mp nd.2.1).1 hm
 refine⟨λx hx=>w.lean x (PP (List.mem_reverse.mp hx)),c,_,hf,hs,LQ.mpr ⟨λz=>hcn (List.mem_reverse.mp z),?_⟩,λz=>?_⟩
 ·exact List.pairwise_reverse.mpr ((List.Sublist.nodup (List.drop_sublist _ _) w.nd).imp λh=>LH h)
 ·-- one leaning alone: its first one would stand behind itself
  rw[z] at hf hs
  cases hp:(path.drop j).reverse with
  | nil=>rw[hp] at hf;cases hf
  | cons x r=>
   rw[hp] at hf hs
   have e1:x.1=c:=(List.cons.inj hf).1
   have e2:x.2.1=c:=(List.cons.inj hs).1
   obtain⟨i,t,h1,h2,_⟩:=w.lean x (PP (List.mem_reverse.mp (by rw[hp];exact JS)))
   rw[e1] at h1
   rw[e2] at h2
   exact(LQ.mp (hnd _ (JY h1))).1 h2
theorem Jx:∀(xs ys:List α),xs.Nodup->(∀x∈xs,x∈ys)->xs.length<=ys.length
 | [],_,_,_=>LG _
 | x::xs,ys,h,hs=>by
  obtain⟨h1,h2⟩:=LQ.mp h
  have hx:=hs x JS
  have ih:=Jx xs (ys.erase x) h2 λy hy=>(List.mem_erase_of_ne (λe=>h1 (by rw[<- e];exact hy))).mpr (hs y (JQ _ hy))
  rw[List.length_erase_of_mem hx] at ih
  have:0 < ys.length:=List.length_pos_of_mem hx
  rw[LN]
  omega
theorem Way.le{rs:List (List α)}{ls:List β}{path:List (α×α×β)}{ns:List α}{c:α}(w:Way rs ls path ns c):ns.length<=rs.length:=by
 have h:=Jx ns ((rs.map λr=>r.head?.toList).flatten) w.nd λx hx=>by
  obtain⟨r,hr,t,e⟩:=w.hd x (MG _ hx)
  exact List.mem_flatten.mpr ⟨[x],LM.mpr ⟨r,hr,by rw[e];rfl⟩,by simp⟩
 have le:∀l:List (List α),((l.map λr=>r.head?.toList).flatten).length<=l.length:=λl=>by
  induction l with
  | nil=>exact JI _
  | cons r l ih=>
   rw[LU,List.flatten_cons,JJ,LN]
   have:(r.head?.toList).length<=1:=by cases r<;>simp
   omega
 exact KS h (le rs)
theorem Way.lt{rs:List (List α)}{ls:List β}{path:List (α×α×β)}{ns:List α}{c:α}(w:Way rs ls path ns c)(hc:c∉ns)(hr:∃a l,Sa rs ls (a,c,l)):ns.length < rs.length:=by
 obtain⟨a,l,hl⟩:=hr
 have:=(w.step hc hl).le
 rw[JJ,JU] at this
 omega
end
end Mg
namespace Bk
open PySem L2 Mg
abbrev Ln:=Str×Str×Str
def BC(x:Ln):List V:=[.str x.1,.str x.2.1,.str x.2.2]
structure Ft(H:Hp)(p:JK)(ts:List JK)(ring:List Ln):Prop where
 lst:H p=some (.lst (ts.map V.ref))
 len:ts.length=ring.length
 at_:∀(m:Nat)(t:JK)(x:Ln),ts[m]? = some t->ring[m]? = some x->H t=some (.tup (BC x))
theorem Ft.same{H H':Hp}{p:JK}{ts:List JK}{ring:List Ln}(R:Ft H p ts ring)(h:Am H H'):Ft H' p ts ring:=⟨h _ _ R.lst,R.len,λi a r h1 h2=>h _ _ (R.at_ i a r h1 h2)⟩
def gE:Sp:=λvs H Q _=>∃(ra:JK)(as:List JK)(rs:List (List Str)),vs=[.ref ra]/\Cz H ra as rs/\rs.length<=1000/\(∃r∈rs,r≠[]) /\
 ∀(x:Str)(r t:List Str)(H':Hp),r∈rs->r=x::t->Am H H'->Q (.str x) H'
def rB:Sp:=λvs H Q _=>∃(x:Str)(ra la:JK)(as:List JK)(rs:List (List Str))(ls:List Str),vs=[.str x,.ref ra,.ref la]/\Cz H ra as rs/\H la=some (.lst (Az ls))/\ls.length=rs.length/\rs.length<=1000/\(∃r∈rs,x∈r.tail) /\
 ∀(t:JK)(a l:Str)(H':Hp),Am H H'->H' t=some (.tup (BC (a,x,l)))->Sa rs ls (a,x,l)->Q (.ref t) H'
def Zr:Sp:=λvs H Q _=>∃(ra la:JK)(as:List JK)(rs:List (List Str))(ls:List Str),vs=[.ref ra,.ref la]/\Cz H ra as rs/\H la=some (.lst (Az ls))/\ls.length=rs.length/\rs.length<=1000/\(∃r∈rs,r≠[])/\(∀r∈rs,r.Nodup) /\
 (∀r∈rs,∀x t,r=x::t->cnt rs x≠0)/\∀(p:JK)(ts:List JK)(ring:List Ln)(H':Hp),Am H H'->Ft H' p ts ring->Uh rs ls ring->Q (.ref p) H'
section
variable {P:KC} {w:LL} {K:JC} {mg:Str->Option JD} {base:MQ} {f fF fL:JK} {fd dF dL:LB}
theorem HL:(["rest"]:List Str).Nodup:=by decide +kernel
theorem vU:An ["rests"] ["rests"] (Ad Ql):=Ez (by decide +kernel)
theorem nK(F:Dj K "first_name" "first_name" Ql f fd)(T:Txt mg):Al P w K mg base Bi 1 f fd ["rests"] gE:=by
 refine F.ok vU (λvs H Q E h=>?_) (λcdv A outer s H vs Q E hr h=>?_)
 ·obtain⟨ra,as,rs,rfl,_⟩:=h
  rfl
 obtain⟨ra,as,rs,rfl,R,hn,⟨r0,hr0,ne0⟩,q⟩:=h
 refine⟨_,Af (Ao (As (r:=iZ K) Bj (Hh (Ad Ql) ["rests"] ["rest"] [] rfl (Dk (pv 0)) (Bm (i:=0) (by decide)) (λ_ _ _ _ _ _=>⟨Dg 0 HL,Us (oF (K:=K) (pv 0)),As (r:=iZ K) Bj (pv 0) Ae (λ_ _=>rfl)⟩)) Ae (λ_ _=>rfl))),?_⟩
 refine⟨_,rfl,ra,rfl,⟨_,Aw.of R.lst⟩,Pa (K:=K) (a:=ra) (xs:=as.map V.ref) (λi ys H2=>H2=H/\∃zs:List Str,ys=Az zs/\zs.length<=i/\(∀z∈zs,∃r∈rs,∃t,r=z::t)/\((∃r∈rs.take i,r≠[])->zs≠[]))
  ⟨rfl,[],rfl,JI _,(λz hz=>nomatch hz),λ⟨r,hr',_⟩=>by simp at hr'⟩ (λi ys H2 _ h=>by rw[h.1];exact Aw.of R.lst) ?_ ?_⟩
 ·rintro i y ys H2 hi ⟨rfl,zs,rfl,hz,hz2,hz3⟩
  obtain⟨a,ha,rfl⟩:=Ea hi
  obtain⟨r,hr',er⟩:=R.get ha
  have hil:i < rs.length:=(JB.mp hr').1
  have htk:rs.take (i+1)=rs.take i++[r]:=by rw[MD,hr'];rfl
  refine⟨_,rfl,_,.inl ⟨_,Aw.of er,rfl⟩,?_⟩
  cases hrr:r with
  | nil=>
   refine Eb ⟨rfl,zs,rfl,by omega,hz2,?_⟩
   rw[htk]
   rintro⟨r',hr2,ne⟩
   rcases KI.mp hr2 with z | z
   ·exact hz3 ⟨r',z,ne⟩
   ·rw[JL.mp z] at ne
    exact absurd hrr ne
  | cons x t=>
   rw[hrr] at er
   refine Ju ?_
   refine⟨_,rfl,a,_,_,_,rfl,rfl,Aw.of er,Bc (j:=0) rfl,?_⟩
   refine⟨by rw[Av,KO];omega,rfl,zs++[x],by unfold Az;rw[JT];rfl,by rw[JJ,JU];omega,λz hz'=>?_,λ_ e=>?_⟩
   ·rcases KI.mp hz' with z1 | z1
    ·exact hz2 z z1
    ·rw[JL.mp z1]
     exact⟨r,JY hr',t,hrr⟩
   ·exact absurd e (by simp)
 ·rintro ys H2 ⟨rfl,zs,rfl,hz,hz2,hz3⟩ p hp
  have hlen:(as.map V.ref).length=rs.length:=by rw[JF,R.len]
  rw[hlen,LJ (JI _)] at hz3
  cases zs with
  | nil=>exact absurd rfl (hz3 ⟨r0,hr0,ne0⟩)
  | cons x zs=>
   obtain⟨r,hr',t,e⟩:=hz2 x JS
   exact⟨p,_,_,_,rfl,rfl,Aw.of Aa,Bc (j:=0) rfl,q x r t _ hr' e (Ag hp _)⟩
theorem IB:(["rest","label","name"]:List Str).Nodup:=by decide +kernel
theorem yO:An ["name","rests","labels"] ["name","rests","labels"] (Ad Wu):=Ez (by decide +kernel)
theorem tH(F:Dj K "leaning_against" "leaning_against" Wu f fd)(T:Txt mg):Al P w K mg base Bi 1 f fd ["name","rests","labels"] rB:=by
 refine F.ok yO (λvs H Q E h=>?_) (λcdv A outer s H vs Q E hr h=>?_)
 ·obtain⟨x,ra,la,as,rs,ls,rfl,_⟩:=h
  rfl
 obtain⟨x,ra,la,as,rs,ls,rfl,R,el,hll,hn,⟨r0,hr0,hx0⟩,q⟩:=h
 refine⟨_,Af (Ao (As (r:=iZ K) Bj (Hh (Ad Wu) ["name","rests","labels"] ["rest","label"] [("name", 0)] rfl (Ui rfl T.zip (Em (pv 1) (pv 2)))
  (Kb (K:=K) (Cs (Bm (i:=0) (by decide)) (Cs (Bm (i:=1) (by decide)) Ht)))
  (λ_ _ _ _ _ _=>⟨Ji (n:=2) rfl (Ce (Dg 0 IB) (Ce (Dg 1 IB) Hf)),
   Us (Ar (r:=FA K false) Hr (pv 2) (Cj (r:=mD K) El (pv 0) (Cy Ae) Dx) rfl),
   Cb (Ja (As (r:=iZ K) Bj (pv 0) Ae (λ_ _=>rfl)) (pv 2) (pv 1))⟩)) Ae (λ_ _=>rfl))),?_⟩
 have inC:∀(y:Str)(zs:List Str),kU (.str y) (Az zs)=decide (y∈zs):=λy zs=>by
  unfold kU Az
  rw[List.any_map]
  by_cases hy:y∈zs
  ·rw[decide_eq_true hy,List.any_eq_true]
   exact⟨y,hy,by show (y == y)=true;exact beq_self_eq_true y⟩
  ·rw[decide_eq_false hy,List.any_eq_false]
   intro z hz e
   have e':(z == y)=true:=e
   exact hy (beq_iff_eq.mp e' ▸ hz)
 have flat:∀zs:List Str,(Az zs).all Lh=true:=λzs=>by
  unfold Az
  rw[List.all_map,QE]
  intro z _
  rfl
 refine⟨_,rfl,_,rfl,ra,la,rfl,⟨_,Aw.of R.lst⟩,⟨_,Aw.of el⟩,Sr (K:=K) (a:=ra) (b:=la) (xs:=as.map V.ref) (zs:=Az ls) (by rw[JF,Av,R.len,hll])
  (λi ys H2=>Am H H2/\∃ts:List JK,ys=ts.map V.ref/\ts.length<=i/\(∀t∈ts,∃a l,Sa rs ls (a,x,l)/\H2 t=some (.tup (BC (a,x,l))))/\((∃r∈rs.take i,x∈r.tail)->ts≠[]))
  ⟨Am.refl _,[],rfl,JI _,(λz hz=>nomatch hz),λ⟨r,hr',_⟩=>by simp at hr'⟩ (λi ys H2 _ h=>⟨Aw.of (h.1 _ _ R.lst),Aw.of (h.1 _ _ el)⟩) ?_ ?_⟩
 ·rintro i y z ys H2 Tp hi hz ⟨s2,ts,rfl,hts,ht2,ht3⟩ hT
  obtain⟨a,ha,rfl⟩:=Ea hi
  obtain⟨l,hl,rfl⟩:=Ic hz
  obtain⟨r,hr',er⟩:=R.get ha
  have hil:i < rs.length:=(JB.mp hr').1
  have htk:rs.take (i+1)=rs.take i++[r]:=by rw[MD,hr'];rfl
  have s3:Am H2 (upd H2 Tp (.tup [.ref a,.str l])):=Ag hT _
  have er3:=s3 _ _ (s2 _ _ er)
  refine⟨Tp,_,rfl,Co.of Aa,rfl,_,_,rfl,_,_,rfl,rfl,?_⟩
  refine⟨_,rfl,_,rfl,_,rfl,a,_,rfl,Aw.of er3,λp hp=>?_⟩
  rw[yV]
  have etl:(Az r).tail=Az r.tail:=by unfold Az;rw[List.map_tail]
  rw[etl]
  have s4:=s3.trans (Ag hp (.lst (Az r.tail)))
  refine⟨p,_,rfl,.inl (Aw.of Aa),rfl,flat _,_,rfl,?_⟩
  rw[if_neg JN,inC]
  refine Br (λc=>?_) (λc=>?_)
  ·have c':x∈r.tail:=of_decide_eq_true c
   cases hrr:r with
   | nil=>rw[hrr] at c';cases c'
   | cons b t=>
    rw[hrr] at c' er3
    have er4:=Ag hp (.lst (Az r.tail)) _ _ er3
    rw[<- hrr]
    refine⟨_,rfl,a,_,_,_,rfl,rfl,Aw.of er4,Bc (j:=0) rfl,_,rfl,_,rfl,(by show 3<=JM;decide),λtp htp=>?_⟩
    have s5:=s4.trans (Ag htp (.tup (BC (b,x,l))))
    refine⟨by rw[JF,KO];omega,s2.trans s5,ts++[tp],by rw[JT];rfl,by rw[JJ,JU];omega,λt' ht'=>?_,λ_ e=>absurd e (by simp)⟩
    rcases KI.mp ht' with z1 | z1
    ·obtain⟨a',l',h1,h2⟩:=ht2 t' z1
     exact⟨a',l',h1,s5 _ _ h2⟩
    ·rw[JL.mp z1]
     exact⟨b,l,⟨i,t,by rw[hr',hrr],c',hl⟩,Aa⟩
  ·have c':¬ x∈r.tail:=of_decide_eq_false (NG.mpr c)
   refine⟨s2.trans s4,ts,rfl,by omega,λt' ht'=>?_,?_⟩
   ·obtain⟨a',l',h1,h2⟩:=ht2 t' ht'
    exact⟨a',l',h1,s4 _ _ h2⟩
   ·rw[htk]
    rintro⟨r',hr2,hx⟩
    rcases KI.mp hr2 with z1 | z1
    ·exact ht3 ⟨r',z1,hx⟩
    ·rw[JL.mp z1] at hx
     exact absurd hx c'
 ·rintro ys H2 ⟨s2,ts,rfl,hts,ht2,ht3⟩ p hp
  have hlen:(as.map V.ref).length=rs.length:=by rw[JF,R.len]
  rw[hlen,LJ (JI _)] at ht3
  cases ts with
  | nil=>exact absurd rfl (ht3 ⟨r0,hr0,hx0⟩)
  | cons t ts=>
   obtain⟨a,l,h1,h2⟩:=ht2 t JS
   have s3:=Ag (H:=H2) hp (.lst ((t::ts).map V.ref))
   exact⟨p,_,_,_,rfl,rfl,Aw.of Aa,Bc (j:=0) rfl,q t a l _ (s2.trans s3) (s3 _ _ h2) h1⟩
end
section
variable {P:KC} {w:LL} {K:JC} {mg:Str->Option JD} {base:MQ} {f fF fL:JK} {fd dF dL:LB}
structure Xw(kvs:List (Key×V))(ns:List Str):Prop where
 at_:∀(i:Nat)(x:Str),ns[i]? = some x->valV kvs (KD x:Key)=some (.int (i:Nat))
 no:∀x:Str,x∉ns->valV kvs (KD x:Key)=none
 len:kvs.length<=ns.length
theorem Xw.put{kvs:List (Key×V)}{ns:List Str}{c:Str}(m:Xw kvs ns)(hc:c∉ns):Xw (putK kvs (KD c:Key) (.int (ns.length:Nat))) (ns++[c]) where
 at_:=λi x hx=>by
  rw[Fp]
  by_cases hi:i < ns.length
  ·rw[KH hi] at hx
   have:x≠c:=λe=>hc (e ▸ JY hx)
   rw[if_neg (λz:(KD x:Key)=KD c=>this (KD.inj z))]
   exact m.at_ i x hx
  ·have hil:i < (ns++[c]).length:=(JB.mp hx).1
   rw[JJ,JU] at hil
   obtain rfl:i=ns.length:=by omega
   rw[KA] at hx
   cases hx
   rw[if_pos rfl]
 no:=λx hx=>by
  rw[KI,not_or] at hx
  rw[Fp,if_neg (λz:(KD x:Key)=KD c=>hx.2 (by rw[KD.inj z];simp))]
  exact m.no x hx.1
 len:=by
  have:=Dm kvs (KD c:Key) (.int (ns.length:Nat))
  have h2:=m.len
  rw[JJ,JU]
  omega
theorem Qp:An ["rests","labels","met","path","name"] ["rests","labels"] (Ad pY):=Ez (by decide +kernel)
theorem Ft.snoc{H:Hp}{p t:JK}{ts:List JK}{path:List Ln}{x:Ln}(L:Ft H p ts path)(ht:H t=some (.tup (BC x))):Ft (upd H p (.lst ((ts++[t]).map V.ref))) p (ts++[t]) (path++[x]) where
 lst:=Aa
 len:=by rw[JJ,JJ,L.len];rfl
 at_:=λm a y ha hy=>by
  have np:∀ {a:JK} {zs:List V},H a=some (.tup zs)->a≠p:=λ{a zs} e z=>by rw[z,L.lst] at e;cases e
  by_cases hm:m < ts.length
  ·rw[KH hm] at ha
   rw[KH (by rw[<- L.len];exact hm)] at hy
   have e:=L.at_ m a y ha hy
   rw[Aj (np e)]
   exact e
  ·have hml:m < (ts++[t]).length:=(JB.mp ha).1
   rw[JJ,JU] at hml
   obtain rfl:m=ts.length:=by omega
   rw[KA] at ha
   rw[L.len,KA] at hy
   cases ha
   cases hy
   rw[Aj (np ht)]
   exact ht
theorem vE(F:Dj K "ring_of" "ring_of" pY f fd)(T:Txt mg)(FF:Dj K "first_name" "first_name" Ql fF dF)(bF:Binds K dF ["rests"] [])(mF:mg "first_name" = some (.ref fF))(FL:Dj K "leaning_against" "leaning_against" Wu fL dL)(bL:Binds K dL ["name","rests","labels"] [])(mL:mg "leaning_against" = some (.ref fL)):Al P w K mg base Jd 2 f fd ["rests","labels"] Zr:=by
 have GF:Al P w K mg base Bi 1 fF dF ["rests"] gE:=nK FF T
 have GL:Al P w K mg base Bi 1 fL dL ["name","rests","labels"] rB:=tH FL T
 refine F.ok1 Qp (λvs H Q E h=>?_) (λcdv A outer s H vs Q E hr h=>?_)
 ·obtain⟨ra,la,as,rs,ls,rfl,_⟩:=h
  rfl
 obtain⟨ra,la,as,rs,ls,rfl,R,el,hll,hn,hne,hnd,hcn,q⟩:=h
 have hu:=Fm hr
 refine⟨_,Ac (Bv 2 Qp.nd Hn)
  (Ac (Bv 3 Qp.nd (Df Fu))
  (Ac (Bv 4 Qp.nd (Di GF hr rfl mF FF.kp bF .nil Dh (Du (pv 0))))
  (Ac (Lz MJ (Fs (Kf hu (pv 4) (pv 2)))
   (Ac (Gc hu (pv 2) (pv 4) (Bw T.len (pv 3)) rfl)
   (Ac (Bx (Lu MK MO MN Ed (pv 3) (Du (Di GL hr rfl mL FL.kp bL .nil Dh (Ja (pv 4) (pv 0) (pv 1))))))
   (Af (Bv 4 Qp.nd (As Ax (As Bj (pv 3) (Jt Gs Ae) (λ_ _=>rfl)) Ae (λ_ _=>rfl)))))))
  (Af (Ao (Dl (Rg rfl) rfl T.list NL (Du (Dl Ro rfl T.rev boot_reversed (Du (Cj El (pv 3) (Cy (Io hu (pv 2) (pv 4) (λ_ _=>rfl))) Dx)))))))))),?_⟩
 intro d hd
 have s1:Am H (upd H d (.dK [])):=Ag hd _
 refine⟨(by show 0<=JM;decide),λpa hpa=>?_⟩
 have s2:Am H (upd (upd H d (.dK [])) pa (.lst [])):=s1.trans (Ag hpa _)
 have npd:pa≠d:=λe=>by rw[e,Aa] at hpa;cases hpa
 have hpa0:H pa=none:=s1.free hpa
 refine⟨_,rfl,ra,as,rs,rfl,R.same s2,hn,hne,λc0 r0 t0 H3 hr0 er0 s3=>?_⟩
 refine⟨λm σ H5=>∃(path:List Ln)(ns:List Str)(c:Str)(kvs:List (Key×V))(ts:List JK),σ=[some (.ref ra),some (.ref la),some (.ref d),some (.ref pa),some (.str c)]/\Am H H5/\H5 d=some (.dK kvs)/\Xw kvs ns/\Ft H5 pa ts path/\Way rs ls path ns c/\m=rs.length-ns.length,
  ⟨_,[],[],c0,[],[],rfl,s2.trans s3,s3 _ _ (by rw[Aj (LH npd)];exact Aa),⟨λi x h=>(by simp at h),λx _=>rfl,JI _⟩,⟨s3 _ _ Aa,rfl,λm t x h=>(by simp at h)⟩,
   ⟨(λx hx=>nomatch hx),rfl,rfl,OR,λx hx=>⟨r0,hr0,t0,by rw[JL.mp hx];exact er0⟩⟩,rfl⟩,?_⟩
 rintro m σ H5 ⟨path,ns,c,kvs,ts,rfl,s5,ed,M,L,W,rfl⟩
 have hpl:path.length=ns.length:=by rw[<- W.snd,JF]
 refine⟨_,rfl,_,rfl,d,_,rfl,Er.k (k:=KD c) ed,_,rfl,?_⟩
 by_cases hc:c∈ns
 ·obtain⟨j,hj⟩:=MI hc
  have hv:=M.at_ j c hj
  have hjl:j < ns.length:=(JB.mp hj).1
  rw[hv]
  refine Eb ?_
  -- return list(reversed(path[met[name]:]))
  refine⟨_,rfl,_,rfl,_,rfl,d,.int (j:Nat),rfl,hv ▸ Er.k (k:=KD c) ed,_,rfl,pa,_,rfl,Aw.of L.lst,λp1 hp1=>?_⟩
  have hcut:Ga (ts.map V.ref) (some ((j:Nat):Int)) none=(ts.drop j).map V.ref:=by
   rw[Nw _ _ (by rw[JF,L.len,hpl];omega),RL]
  rw[hcut]
  have s6:=Ag (H:=H5) hp1 (.lst ((ts.drop j).map V.ref))
  refine⟨p1,_,rfl,Aw.of Aa,λit hit=>?_⟩
  have n1:p1≠it:=λe=>by rw[e,Aa] at hit;cases hit
  refine⟨it,p1,(ts.drop j).map V.ref,rfl,Aa,Aw.of (by rw[Aj n1];exact Aa),λl hl=>?_⟩
  rw[uA hit]
  have hl':(upd H5 p1 (.lst ((ts.drop j).map V.ref))) l=none:=by
   by_cases e:l=it
   ·rw[e];exact hit
   ·rw[Aj e] at hl;exact hl
  have s7:=s6.trans (Ag hl' (.lst ((ts.drop j).map V.ref).reverse))
  refine q l (ts.drop j).reverse (path.drop j).reverse _ (s5.trans s7) ⟨?_,?_,λm t x h1 h2=>?_⟩ (W.ring hnd hj)
  ·rw[Aa,List.map_reverse]
  ·rw[OU,OU,MR,MR,L.len]
  ·have hm:m < (ts.drop j).length:=by
    have:=(JB.mp h1).1
    rwa [OU] at this
   have hm2:m < (path.drop j).length:=by rw[MR,<- L.len,<- MR];exact hm
   rw[List.getElem?_reverse hm,RM] at h1
   rw[List.getElem?_reverse hm2,RM,MR,<- L.len,<- MR] at h2
   exact s7 _ _ (L.at_ _ t x h1 h2)
 ·rw[M.no c hc]
  refine Ju ?_
  obtain⟨r1,hr1,t1,e1⟩:=W.hd c (by simp)
  have hbe:∃r∈rs,c∈r.tail:=uE.mp (hcn r1 hr1 c t1 e1)
  refine⟨λσ' H'=>∃m',m' < rs.length-ns.length/\∃(path:List Ln)(ns:List Str)(c:Str)(kvs:List (Key×V))(ts:List JK),σ'=[some (.ref ra),some (.ref la),some (.ref d),some (.ref pa),some (.str c)]/\Am H H'/\H' d=some (.dK kvs)/\Xw kvs ns/\Ft H' pa ts path/\Way rs ls path ns c/\m'=rs.length-ns.length,λσ' H' h=>h,?_⟩
  have hle:=W.le
  have hkl:=M.len
  -- met[name]=len(path)
  refine⟨_,rfl,pa,_,rfl,.inl (Aw.of L.lst),_,rfl,_,rfl,d,_,rfl,Kv.k (k:=KD c) ed (by rw[KO];omega),?_⟩
  have etl:(((ts.map V.ref).length:Nat):Int)=((ns.length:Nat):Int):=by rw[JF,L.len,hpl]
  rw[etl]
  have M2:=M.put hc
  have k6:∀b o,b≠d->H5 b=some o->(upd H5 d (.dK (putK kvs (KD c:Key) (.int (ns.length:Nat))))) b=some o:=λb o hb e=>by rw[Aj hb];exact e
  have s6:Am H (upd H5 d (.dK (putK kvs (KD c:Key) (.int (ns.length:Nat))))):=λb o e=>k6 b o (Ai e hd) (s5 b o e)
  have L6:Ft (upd H5 d (.dK (putK kvs (KD c:Key) (.int (ns.length:Nat))))) pa ts path:=⟨k6 _ _ npd L.lst,L.len,λm t x h1 h2=>k6 _ _ (λe=>by have:=L.at_ m t x h1 h2;rw[e,ed] at this;cases this) (L.at_ m t x h1 h2)⟩
  have ed6:=Aa (H:=H5) (a:=d) (o:=.dK (putK kvs (KD c:Key) (.int (ns.length:Nat))))
  generalize upd H5 d (.dK (putK kvs (KD c:Key) (.int (ns.length:Nat))))=H6 at *
  -- path.append(leaning_against(name,rests,labels))
  refine⟨_,rfl,.inl ⟨rfl,_,Aw.of L6.lst⟩,_,rfl,_,rfl,_,rfl,c,ra,la,as,rs,ls,rfl,R.same s6,s6 _ _ el,hll,hn,hbe,λt a l H7 s7 et hl=>?_⟩
  have L7:=L6.same s7
  refine⟨pa,_,_,rfl,rfl,L7.lst,by rw[JF,L.len,hpl,KO];omega,?_⟩
  have em:ts.map V.ref++[V.ref t]=(ts++[t]).map V.ref:=by rw[JT];rfl
  rw[em]
  have L8:=L7.snoc et
  have s8:Am H (upd H7 pa (.lst ((ts++[t]).map V.ref))):=λb o e=>by rw[Aj (Ai e hpa0)];exact s7 _ _ (s6 b o e)
  have ed8:(upd H7 pa (.lst ((ts++[t]).map V.ref))) d=some (.dK (putK kvs (KD c:Key) (.int (ns.length:Nat)))):=by rw[Aj (LH npd)];exact s7 _ _ ed6
  -- name=path[-1][0]
  have lx:(upd H7 pa (.lst ((ts++[t]).map V.ref))) pa=some (.lst (ts.map V.ref++[V.ref t])):=by rw[L8.lst,<- em]
  have et8:(upd H7 pa (.lst ((ts++[t]).map V.ref))) t=some (.tup (BC (a,c,l))):=L8.at_ ts.length t _ (KA) (by rw[L.len];exact KA)
  refine⟨_,rfl,_,rfl,pa,_,_,_,rfl,rfl,Aw.of lx,Wo _ _,t,_,_,_,rfl,rfl,Co.of et8,Bc (j:=0) rfl,?_⟩
  have W2:=W.step hc hl
  have hlt:=W.lt hc ⟨a,l,hl⟩
  refine⟨_,?_,path++[(a,c,l)],ns++[c],a,_,ts++[t],rfl,s8,ed8,M2,L8,W2,rfl⟩
  rw[JJ,JU]
  omega
end
def nD(K:JC):Sp:=λvs H Q _=>∃(x C:JK)(bm:List JD)(t:JK)(v:V),vs=[.ref x,v]/\H x=some (rN x C none t)/\Ku K C bm/\wC K C "ring" /\
 ∀dx,H dx=none->dx≠x->Q .non (upd (upd H x (rN x C (some dx) t)) dx (.xd [("ring", v)]))
structure Ends(rows rs:List (List Str)):Prop where
 len:rs.length=rows.length
 suf:∀(i:Nat)(r s:List Str),rows[i]? = some r->rs[i]? = some s->∃a,r=a++s
def Mw(C:JK):Sp:=λvs H Q E=>∃(ra la:JK)(as:List JK)(rows:List (List Str))(ls:List Str),vs=[.ref ra,.ref la]/\Cz H ra as rows/\H la=some (.lst (Az ls))/\ls.length=rows.length/\Fe rows<=1000/\rows.length<=1000/\(∀r∈rows,r.Nodup) /\
 (∀(p:JK)(found:List Str)(H':Hp),H p=none->Am H H'->H' p=some (.lst (Az found))->Good rows found->(∀r∈after rows found,r=[])->found.length<=1000->Q (.ref p) H') /\
 ∀(dx p:JK)(ts:List JK)(ring:List Ln)(rs:List (List Str))(joined:List Str)(H':Hp),Am H H'->H' dx=some (.xd [("ring", .ref p)])->Ft H' p ts ring->Ends rows rs->Uh rs ls ring->Good rows joined->pick (cnt (after rows joined)) (after rows joined)=none->(∃r∈after rows joined,r≠[])->E (.ref C) (some dx) H'
theorem jU{K:JC}{H:Hp}{ps:List JK}{rs:List (List Str)}{ra:JK}(R:Cz H ra ps rs):Xh K H (ps.map V.ref) (rs.map λr=>!r.isEmpty):=by
 have go:∀(ps:List JK)(rs:List (List Str)),ps.length=rs.length->(∀(i:Nat)(a:JK)(r:List Str),ps[i]? = some a->rs[i]? = some r->H a=some (.lst (Az r)))->Xh K H (ps.map V.ref) (rs.map λr=>!r.isEmpty):=by
  intro ps
  induction ps with
  | nil=>
   intro rs hl _
   cases rs with
   | nil=>exact .nil
   | cons _ _=>cases hl
  | cons p ps ih=>
   intro rs hl h
   cases rs with
   | nil=>cases hl
   | cons r rs=>
    refine .cons (.inl ⟨_,Aw.of (h 0 p r rfl rfl),?_⟩) (ih rs (by simpa using hl) λi a s h1 h2=>h (i+1) a s h1 h2)
    cases r<;>rfl
 exact go ps rs R.len R.row
section
variable {P:KC} {w:LL} {K:JC} {mg:Str->Option JD} {base:MQ} {f fC fF fT fR fI C:JK} {fd dC dF dT dR dI:LB} {bm:List JD}
theorem zJ:An ["self","ring"] ["self","ring"] (Ad Pb):=Ez (by decide +kernel)
theorem vX(F:Dj K "__init__" "AtOdds.__init__" Pb f fd):Al P w K mg base Bi 1 f fd ["self","ring"] (nD K):=by
 refine F.ok zJ (λvs H Q E h=>?_) (λcdv A outer s H vs Q E hr h=>?_)
 ·obtain⟨x,C,bm,t,v,rfl,_⟩:=h
  rfl
 obtain⟨x,C,bm,t,v,rfl,hx,c,F',q⟩:=h
 exact⟨_,Af (tT (pv 0) (pv 1)),_,rfl,_,rfl,x,C,bm,t,rfl,hx,c,F',q⟩
theorem tD{H:Hp}{x dx:JK}{o o' u:HO}(hx:H x=none)(hd:dx≠x):rem (upd (upd (upd H x o) x o') dx u) x=upd H dx u:=by
 funext b
 by_cases e:b=x
 ·subst e
  rw[Jq,Aj (LH hd),hx]
 ·rw[Tz e]
  by_cases e2:b=dx
  ·subst e2
   rw[Aa,Aa]
  ·rw[Aj e2,Aj e2,Aj e,Aj e]
abbrev Yf:List Str:=["rows","labels","starts","behind","joined","name","rests"]
theorem FJ:(["row"]:List Str).Nodup:=by decide +kernel
theorem DK:(["row","start"]:List Str).Nodup:=by decide +kernel
theorem jV(n:Nat):(KZ n (V.int 0))=Je (KZ n 0):=by
 unfold Je
 rw[List.map_replicate]
 rfl
theorem Fg:An ["rows","labels","starts","behind","joined","name","rests"] ["rows","labels"] (Ad Fx):=Ez (by decide +kernel)
theorem aC(F:Dj K "merged" "merged" Fx f fd)(T:Txt mg)(FC:Dj K "counts_behind" "counts_behind" Lk fC dC)(bC:Binds K dC ["rows"] [])(mC:mg "counts_behind" = some (.ref fC))(FF:Dj K "free_name" "free_name" Xj fF dF)(bF:Binds K dF ["rows","starts","behind"] [])(mF:mg "free_name" = some (.ref fF))(FT:Dj K "take_out" "take_out" Wd fT dT)(bT:Binds K dT ["name","rows","starts","behind"] [])(mT:mg "take_out" = some (.ref fT))(GR:Al P w K mg base Jd 2 fR dR ["rests","labels"] Zr)(kR:JR K (.ref fR)=true)(bR:Binds K dR ["rests","labels"] [])(mR:mg "ring_of" = some (.ref fR))(FI:Dj K "__init__" "AtOdds.__init__" Pb fI dI)(bI:Binds K dI ["self","ring"] [])(mI:mg "AtOdds" = some (.ref C))(hc:Ku K C bm)(hf:wC K C "ring")(hbase:bm.contains (.type "BaseException")=true)(hi:MF K (.ref C) "__init__" = some (some (.ref fI)))(hfn:PySem.W.isFn K (.ref fI)=true):Al P w K mg base (Gp P w) 3 f fd ["rows","labels"] (Mw C):=by
 have GC:Al P w K mg base Bi 1 fC dC ["rows"] Qd:=Ru FC T
 have GF:Al P w K mg base Bi 1 fF dF ["rows","starts","behind"] aI:=eG FF T
 have GT:Al P w K mg base Bi 1 fT dT ["name","rows","starts","behind"] Zu:=gA FT T
 have GI:Al P w K mg base Bi 1 fI dI ["self","ring"] (nD K):=vX FI
 refine F.okX Fg (λvs H Q E h=>?_) (λcdv A outer s H vs Q E hr h=>?_)
 ·obtain⟨ra,la,as,rows,ls,rfl,_⟩:=h
  rfl
 obtain⟨ra,la,as,rows,ls,rfl,R,el,hll,ht,hrl,hnd,q,qE⟩:=h
 have hr1:=hr.mono (j:=1) (by decide)
 refine⟨_,Ac (Dd (i:=2) (Ad Fx) Yf ["row"] [] rfl Fg.nd rfl rfl (Dk (pv 0)) (Bm (i:=0) (by decide)) (λ_ _ _ _ _ _=>⟨Dg 0 FJ,Ds,Ae⟩))
  (Ac (Bv 3 Fg.nd (Di GC hr1 rfl mC FC.kp bC .nil Dh (Du (pv 0))))
  (Ac (Bv 4 Fg.nd (Df Fu))
  (Ac (Bv 5 Fg.nd (Di GF hr1 rfl mF FF.kp bF .nil Dh (Ja (pv 0) (pv 2) (pv 3))))
  (Ac (Lz (Wx.passesOwn Kl) (Fs (Uq (pv 5)))
   (Ac (Bx (Lu MK MO MN Ed (pv 4) (Du (pv 5))))
   (Ac (Bx (Di GT hr1 rfl mT FT.kp bT .nil Dh (rO (pv 5) (pv 0) (pv 2) (pv 3))))
   (Af (Bv 5 Fg.nd (Di GF hr1 rfl mF FF.kp bF .nil Dh (Ja (pv 0) (pv 2) (pv 3))))))))
  (Ac (Dd (i:=6) (Ad Fx) Yf ["row","start"] [] rfl Fg.nd rfl rfl (Ui rfl T.zip (Em (pv 0) (pv 2))) (Kb (K:=K) (Cs (Bm (i:=0) (by decide)) (Cs (Bm (i:=1) (by decide)) Ht)))
   (λ_ _ _ _ _ _=>⟨Ji (n:=2) rfl (Ce (Dg 0 DK) (Ce (Dg 1 DK) Hf)),Ds,Cj (r:=mD K) El (pv 0) (Cy (pv 1)) Dx⟩))
  (Ac (Ay (Fv (Bz (Wt rfl) rfl T.any Sh (Du (pv 6))))
   (Af (iD rfl hc hbase hi hfn GI hr bI rfl mI (Du (Di GR hr rfl mR kR bR .nil Sq (Em (pv 6) (pv 1)))))) Ap)
  (Af (Ao (pv 4))))))))),?_⟩
 -- starts=[0 for row in rows]
 refine⟨_,rfl,ra,rfl,⟨_,Aw.of R.lst⟩,Dz (K:=K) (a:=ra) (xs:=as.map V.ref) (λi ys H2=>H2=H/\ys=KZ i (V.int 0)) ⟨rfl,rfl⟩ (λi ys H2 _ h=>by rw[h.1];exact Aw.of R.lst) ?_ ?_⟩
 ·rintro i y ys H2 hi ⟨rfl,rfl⟩
  refine⟨?_,rfl,?_⟩
  ·have hi':=(JB.mp hi).1
   rw[JF,R.len] at hi'
   rw[NQ,KO]
   omega
  ·exact SR.symm
 rintro ys H2 ⟨rfl,rfl⟩ sa hsa
 rw[JF,R.len,jV]
 have s1:Am H2 (upd H2 sa (.lst (Je (KZ rows.length 0)))):=Ag hsa _
 -- behind=counts_behind(rows)
 refine⟨_,rfl,ra,as,rows,rfl,R.same s1,by omega,λba kvs H3 hba s2 eb B hl=>?_⟩
 -- joined=[]
 refine⟨(by show 0<=JM;decide),λja hja=>?_⟩
 have s3:Am H3 (upd H3 ja (.lst [])):=Ag hja _
 have hsa3:H3 sa=some (.lst (Je (KZ rows.length 0))):=s2 _ _ Aa
 have n_sj:sa≠ja:=Ai hsa3 hja
 have n_bj:ba≠ja:=Ai eb hja
 have n_sb:sa≠ba:=Cd hsa3 eb (by intro z;cases z)
 have st0:StAt (upd H3 ja (.lst [])) rows sa ba (KZ rows.length 0) kvs:=⟨s3 _ _ hsa3,NQ,s3 _ _ eb⟩
 have sH:Am H2 (upd H3 ja (.lst [])):=s1.trans (s2.trans s3)
 have hba2:H2 ba=none:=s1.free hba
 have hja2:H2 ja=none:=s1.free (s2.free hja)
 have nsr:sa≠ra:=LH (Ai R.lst hsa)
 have nsa:∀a∈as,a≠sa:=λa ha=>by
  obtain⟨i,hi⟩:=MI ha
  obtain⟨r,_,er⟩:=R.get hi
  exact Ai er hsa
 -- name=free_name(rows,starts,behind)
 refine⟨_,rfl,_,rfl,_,rfl,ra,sa,ba,as,rows,_,kvs,cnt rows,rfl,R.same sH,st0,B,λH4 s4=>?_⟩
 rw[Cv]
 have hb0:∀(i:Nat)(r:List Str)(m:Nat),rows[i]? = some r->(KZ rows.length 0)[i]? = some m->m<=r.length:=λi r m _ h2=>by
  rw[QA] at h2
  split at h2
  ·cases h2;exact LG _
  ·cases h2
 -- while name is not None
 refine⟨λm σ H5=>∃(joined:List Str)(st:List Nat)(kvs:List (Key×V))(v6:Option V),σ=[some (.ref ra),some (.ref la),some (.ref sa),some (.ref ba),some (.ref ja),some (Xd (pick (cnt (rests rows st)) (rests rows st))),v6] /\
  Am H2 H5/\H5 ja=some (.lst (Az joined))/\StAt H5 rows sa ba st kvs/\(∀(i:Nat)(r:List Str)(m:Nat),rows[i]? = some r->st[i]? = some m->m<=r.length)/\Yw kvs (cnt (rests rows st))/\kvs.length<=1000 /\
  (rests rows st=after rows joined/\Good rows joined)/\m=Fe (rests rows st)/\joined.length+Fe (rests rows st)<=Fe rows,
  ⟨_,[],KZ rows.length 0,kvs,none,by rw[Cv];rfl,sH.trans s4,s4 _ _ Aa,⟨s4 _ _ st0.lst,st0.len,s4 _ _ st0.dic⟩,hb0,by rw[Cv];exact B,by omega,by rw[Cv];exact⟨rfl,lL _⟩,rfl,by rw[Cv];simp⟩,?_⟩
 rintro m σ H5 ⟨joined,st,kvs,v6,rfl,s5,ej,S,hb,B,hl,⟨e1,e2⟩,rfl,hj⟩
 refine⟨_,rfl,_,rfl,?_⟩
 cases hp:pick (cnt (rests rows st)) (rests rows st) with
 | some x=>
  refine Ju ?_
  obtain⟨hx0,r0,hr0,t0,er0⟩:=Hs hp
  have hlt:Fe ((rests rows st).map (Cw x)) < Fe (rests rows st):=Jo (by rw[<- er0];exact hr0)
  refine⟨λσ' H'=>∃m',m' < Fe (rests rows st)/\∃(joined:List Str)(st:List Nat)(kvs:List (Key×V))(v6:Option V),σ'=[some (.ref ra),some (.ref la),some (.ref sa),some (.ref ba),some (.ref ja),some (Xd (pick (cnt (rests rows st)) (rests rows st))),v6] /\
   Am H2 H'/\H' ja=some (.lst (Az joined))/\StAt H' rows sa ba st kvs/\(∀(i:Nat)(r:List Str)(m:Nat),rows[i]? = some r->st[i]? = some m->m<=r.length)/\Yw kvs (cnt (rests rows st))/\kvs.length<=1000 /\
   (rests rows st=after rows joined/\Good rows joined)/\m'=Fe (rests rows st)/\joined.length+Fe (rests rows st)<=Fe rows,λσ' H' h=>h,?_⟩
  -- joined.append(name)
  refine⟨_,rfl,.inl ⟨rfl,_,Aw.of ej⟩,_,rfl,ja,_,_,rfl,rfl,ej,by rw[Av,KO];omega,?_⟩
  have ejx:Az joined++[V.str x]=Az (joined++[x]):=by unfold Az;rw[JT];rfl
  have hup:∀b o,b≠ja->H5 b=some o->(upd H5 ja (.lst (Az joined++[V.str x]))) b=some o:=λb o hne e=>by rw[Aj hne];exact e
  have s6:Am H2 (upd H5 ja (.lst (Az joined++[V.str x]))):=λb o e=>hup b o (Ai e hja2) (s5 b o e)
  -- take_out(name,rows,starts,behind)
  refine⟨_,rfl,_,rfl,_,rfl,_,rfl,x,ra,sa,ba,as,rows,st,kvs,rfl,R.same s6,⟨hup _ _ n_sj S.lst,S.len,hup _ _ n_bj S.dic⟩,hb,B,by omega,nsr,nsa,λst' kvs' H6 S6 h6 hb6 B6 hl6 k6=>?_⟩
  have s7:Am H2 H6:=λb o e=>k6 b o (s6 b o e) (Ai e hsa) (Ai e hba2)
  -- name=free_name(rows,starts,behind)
  refine⟨_,rfl,_,rfl,_,rfl,ra,sa,ba,as,rows,st',kvs',_,rfl,R.same s7,S6,B6,λH7 s8=>?_⟩
  refine⟨_,?_,joined++[x],st',kvs',v6,rfl,s7.trans s8,s8 _ _ ?_,⟨s8 _ _ S6.lst,S6.len,s8 _ _ S6.dic⟩,hb6,B6,by omega,⟨?_,?_⟩,rfl,?_⟩
  ·rw[h6];exact hlt
  ·rw[<- ejx]
   exact k6 _ _ Aa (LH n_sj) (LH n_bj)
  ·rw[h6,e1,Yz]
  ·rw[e1] at hp
   exact iQ e2 hp
  ·rw[h6,JJ,JU];omega
 | none=>
  refine Eb ?_
  -- rests=[row[start:] for row,start in zip(rows,starts)]
  have R5:=R.same s5
  have hrl2:(rests rows st).length=rows.length:=Ih S.len
  refine⟨_,rfl,_,rfl,ra,sa,rfl,⟨_,Aw.of R5.lst⟩,⟨_,Aw.of S.lst⟩,Qj (K:=K) (a:=ra) (b:=sa) (xs:=as.map V.ref) (zs:=Je st) (by rw[JF,Hg,S.len,R.len])
   (λi ys H6=>Am H5 H6/\∃ps:List JK,ys=ps.map V.ref/\ps.length=i/\∀(j:Nat)(p:JK)(r:List Str),ps[j]? = some p->(rests rows st)[j]? = some r->H6 p=some (.lst (Az r))) ⟨Am.refl _,[],rfl,rfl,λj p r h=>by simp at h⟩ (λi ys H6 _ h=>⟨Aw.of (h.1 _ _ R5.lst),Aw.of (h.1 _ _ S.lst)⟩) ?_ ?_⟩
  ·rintro i y z ys H6 Tp hy hz ⟨s6,ps,rfl,hps,hpl⟩ hT
   obtain⟨a,ha,rfl⟩:=Ea hy
   obtain⟨j,hj',rfl⟩:=Ts hz
   obtain⟨r,hr',er⟩:=R5.get ha
   have s9:Am H5 (upd H6 Tp (.tup [.ref a,.int j])):=s6.trans (Ag hT _)
   refine⟨Tp,_,rfl,Co.of Aa,rfl,_,_,rfl,_,_,rfl,rfl,?_⟩
   refine⟨_,rfl,_,rfl,_,rfl,a,_,rfl,Aw.of (s9 _ _ er),λp hp'=>?_⟩
   have hc':Ga (Az r) (some (j:Int)) none=Az (r.drop j):=by
    rw[Nw _ _ (by rw[Av];exact hb i r j hr' hj')]
    unfold Az
    rw[<- RL]
   rw[hc']
   refine⟨?_,s9.trans (Ag hp' _),ps++[p],by rw[JT];rfl,by rw[JJ,hps];rfl,λj' p' r' hp2 hr2=>?_⟩
   ·have:=(JB.mp hr').1
    rw[JF,hps,KO]
    omega
   ·by_cases hj2:j' < ps.length
    ·rw[KH hj2] at hp2
     have e:=Ag hT (.tup [.ref a,.int j]) _ _ (hpl j' p' r' hp2 hr2)
     exact Ag hp' _ _ _ e
    ·have hjl:j' < (ps++[p]).length:=(JB.mp hp2).1
     rw[JJ,JU] at hjl
     obtain rfl:j'=ps.length:=by omega
     rw[KA] at hp2
     cases hp2
     rw[hps,Gg hr' hj'] at hr2
     cases hr2
     exact Aa
  ·rintro ys H6 ⟨s6,ps,rfl,hps,hpl⟩ qa hqa
   -- if any(rests)
   have s9:=Ag (H:=H6) hqa (.lst (ps.map V.ref))
   have Rq:Cz (upd H6 qa (.lst (ps.map V.ref))) qa ps (rests rows st):=⟨Aa,by rw[hps,JF,R.len,hrl2],λi a r h1 h2=>s9 _ _ (hpl i a r h1 h2)⟩
   refine⟨_,rfl,qa,_,_,rfl,Aw.of Aa,jU Rq,_,rfl,?_⟩
   have sAll:Am H2 (upd H6 qa (.lst (ps.map V.ref))):=s5.trans (s6.trans s9)
   refine Br (λc=>?_) (λc=>?_)
   ·-- raise AtOdds(ring_of(rests,labels))
    obtain⟨k,hk,ek⟩:=List.any_eq_true.mp c
    obtain⟨r1,hr1',er1⟩:=LM.mp hk
    have hsuf:Ends rows (rests rows st):=⟨hrl2,λi r s h1 h2=>by
     have hil:i < st.length:=by rw[S.len];exact(JB.mp h1).1
     rw[Gg h1 (JG hil)] at h2
     cases h2
     exact⟨r.take st[i],(List.take_append_drop _ _).symm⟩⟩
    have hne1:r1≠[]:=λe=>by rw[e] at er1;rw[<- er1] at ek;cases ek
    refine⟨_,rfl,_,rfl,qa,la,ps,rests rows st,ls,rfl,Rq,sAll _ _ el,by rw[hll,hrl2],by omega,⟨r1,hr1',hne1⟩,λr hr'=>?_,λr hr' x t e=>Mv hp r hr' x t e,λp ts ring H7 s10 L hring=>?_⟩
    ·obtain⟨i,hi'⟩:=MI hr'
     have hil:i < rows.length:=by rw[<- hrl2];exact(JB.mp hi').1
     obtain⟨a,ea⟩:=hsuf.suf i _ _ (JG hil) hi'
     have:=hnd _ (OJ hil)
     rw[ea,OA] at this
     exact this.2.1
    ·refine⟨by show 1<=JM;decide,λx tt hx=>⟨x,C,bm,tt,.ref p,rfl,Aa,hc,hf,λdx hdx hne=>⟨rfl,some dx,by rw[Aj (LH hne),Aa],?_⟩⟩⟩
     rw[tD hx hne]
     have hdx':H7 dx=none:=by rw[Aj hne] at hdx;exact hdx
     have s11:=Ag hdx' (.xd [("ring", .ref p)])
     exact qE dx p ts ring (rests rows st) joined _ (sAll.trans (s10.trans s11)) Aa (L.same s11) hsuf hring e2 (by rw[<- e1];exact hp) ⟨r1,by rw[<- e1];exact hr1',hne1⟩
   ·-- return joined
    refine⟨_,rfl,q ja joined _ hja2 sAll (s9 _ _ (s6 _ _ ej)) e2 (λr hr'=>?_) (by omega)⟩
    rw[<- e1] at hr'
    cases r with
    | nil=>rfl
    | cons x t=>exact absurd (List.any_eq_true.mpr ⟨true,LM.mpr ⟨_,hr',rfl⟩,rfl⟩) c
end
end Bk
namespace Bk
open PySem L2 Mg Nm
def Vm(C:JK):Sp:=λvs H Q E=>∃(x:Str)(ea oa:JK)(as:List JK)(el:List Str)(rows:List (List Str)),vs=[.str x,.ref ea,.ref oa]/\H ea=some (.lst (Az el))/\Cz H oa as rows/\el.length=rows.length/\Fe (rows++[el])<=900/\rows.length<=900/\(∀r∈rows++[el],r.Nodup) /\
 (∀(p:JK)(found:List Str)(H':Hp),H p=none->Am H H'->H' p=some (.lst (Az (x::found)))->Good (rows++[el]) found->(∀r∈after (rows++[el]) found,r=[])->found.length<=1000->Q (.ref p) H') /\
 ∀(dx p:JK)(ts:List JK)(ring:List Ln)(rs:List (List Str))(joined:List Str)(H':Hp),Am H H'->H' dx=some (.xd [("ring", .ref p)])->Ft H' p ts ring->Ends (rows++[el]) rs->Uh rs (el++[x]) ring->Good (rows++[el]) joined->pick (cnt (after (rows++[el]) joined)) (after (rows++[el]) joined)=none->(∃r∈after (rows++[el]) joined,r≠[])->E (.ref C) (some dx) H'
section
variable {P:KC} {w:LL} {K:JC} {mg:Str->Option JD} {base:MQ} {f fM C:JK} {fd dM:LB}
theorem uU:An ["name","elders","orders"] ["name","elders","orders"] (Ad Xy):=Ez (by decide +kernel)
theorem oN(F:Dj K "made_order" "made_order" Xy f fd)(T:Txt mg)(GM:Al P w K mg base (Gp P w) 3 fM dM ["rows","labels"] (Mw C))(kM:JR K (.ref fM)=true)(bM:Binds K dM ["rows","labels"] [])(mM:mg "merged" = some (.ref fM)):
 Al P w K mg base (Gp P w) 4 f fd ["name","elders","orders"] (Vm C):=by
 refine F.okX uU (λvs H Q E h=>?_) (λcdv A outer s H vs Q E hr h=>?_)
 ·obtain⟨x,ea,oa,as,el,rows,rfl,_⟩:=h
  rfl
 obtain⟨x,ea,oa,as,el,rows,rfl,eel,R,hle,ht,hrl,hnd,q,qE⟩:=h
 refine⟨_,Af (Ao (Aq Jp (Df (Du (pv 0))) (Pp GM hr rfl mM kM bM .nil (Em (Aq Jp (pv 2) (Df (Du (pv 1)))) (Aq Jp (pv 1) (Df (Du (pv 0)))))))),?_⟩
 have hlR:as.length=rows.length:=R.len
 refine⟨_,rfl,by show 1<=JM;decide,λl1 hl1=>?_⟩
 have s1:=Ag hl1 (.lst [V.str x])
 refine⟨_,rfl,_,rfl,by show 1<=JM;decide,λl2 hl2=>?_⟩
 have s2:=Ag hl2 (.lst [V.ref ea])
 refine⟨oa,l2,_,_,rfl,rfl,s2 _ _ (s1 _ _ R.lst),Aa,by rw[JF,KO,JU];omega,λl3 hl3=>?_⟩
 have s3:=Ag hl3 (.lst (as.map V.ref++[V.ref ea]))
 refine⟨_,rfl,_,rfl,by show 1<=JM;decide,λl4 hl4=>?_⟩
 have s4:=Ag hl4 (.lst [V.str x])
 have sA:=s1.trans (s2.trans (s3.trans s4))
 refine⟨ea,l4,_,_,rfl,rfl,sA _ _ eel,Aa,by rw[Av,KO,JU];omega,λl5 hl5=>?_⟩
 have s5:=Ag hl5 (.lst (Az el++[V.str x]))
 have sB:=sA.trans s5
 have e3:=s5 _ _ (s4 _ _ (Aa (H:=upd (upd H l1 (.lst [V.str x])) l2 (.lst [V.ref ea])) (a:=l3) (o:=.lst (as.map V.ref++[V.ref ea]))))
 have R5:=R.snoc sB (sB _ _ eel) (q:=l3) (by rw[JT];exact e3)
 have n1:=s5 _ _ (s4 _ _ (s3 _ _ (s2 _ _ (Aa (H:=H) (a:=l1) (o:=.lst [V.str x])))))
 refine⟨l3,l5,as++[ea],rows++[el],el++[x],rfl,R5,?_,by rw[JJ,JJ,hle];rfl,by omega,by rw[JJ,JU];omega,hnd,λp found H6 hp s6 ep g1 g2 g3=>?_,λdx p ts ring rs joined H6 s6=>qE dx p ts ring rs joined H6 (sB.trans s6)⟩
 ·rw[Aa]
  unfold Az
  rw[JT]
  rfl
 refine⟨l1,p,_,_,rfl,rfl,s6 _ _ n1,ep,by rw[Av,KO,JU];omega,λz hz=>?_⟩
 exact q z found _ (sB.free (s6.free hz)) (sB.trans (s6.trans (Ag hz _))) Aa g1 g2 g3
end
def orders(L:List Ent)(el:List Str):List (List Str):=el.map λy=>((Hl L y).map (·.od)).getD []
structure Ya(CB CH:JK)(H:Hp)(p d:JK)(L:List Ent)(el:List Str):Prop where
 bk:Be CB CH H p d L
 ell:el.length<=100
 ll:L.length<=1000
 nd:∀e∈L,e.od.Nodup
 Fe:Fe (orders L el++[el])<=900
structure wL(H:Hp)(x:Str)(el found:List Str)(e:Ent):Prop where
 nm:e.nm=x
 el:e.el=el
 od:e.od=x::found
 bd:e.bd=[]
 f1:H e.at_=none
 f2:H e.ea=none
 f3:H e.oa=none
 f4:H e.ba=none
def Ly(CB CH CO:JK):Sp:=λvs H Q E=>∃(p d a:JK)(L:List Ent)(x:Str)(el:List Str),vs=[.ref p,.str x,.ref a]/\Ya CB CH H p d L el/\H a=some (.lst (Az el))/\Gb x=true/\x.length<=1000/\Hl L x=none/\(∀y∈el,Hl L y≠none)/\el.Nodup /\
 (∀(e:Ent)(found:List Str)(H':Hp),wL H x el found e->Be CB CH H' p d (L++[e])->(∀b o,H b=some o->b≠d->H' b=some o)->Good (orders L el++[el]) found->Q .non H') /\
 ∀(dx:JK)(joined:List Str)(H':Hp),Am H H'->(∃q:JK,H' dx=some (.xd [("ring", .ref q)]))->(∃r∈after (orders L el++[el]) joined,r≠[])->E (.ref CO) (some dx) H'
section
variable {P:KC} {w:LL} {K:JC} {mg:Str->Option JD} {base:MQ} {f fO fN fM fI CB CH CO T0:JK} {fd dO dN dM dI:LB}
theorem Nr.okX{x qual:Str}{st:OQ}{f T:JK}{fd:LB}{N ps:List Str}{k:Nat}{sp:Sp}(F:Nr K x qual st f fd T)(S:An N ps (Ad st))(len:∀vs H Q E,sp vs H Q E->vs.length=ps.length)(hbody:∀(cdv:JD)(A:LI)(outer:List Env)(s:JH)(H:Hp)(vs:List V)(Q:VK)(E:XK),Ck k (A.deeper (PZ qual (Ad st) s.heap.objs.size f cdv))->sp vs H Q E ->
  ∃t,Hy ((Ex (Gp P w) P w K mg base N qual (Ad st) f cdv A outer s H E).thrown λ_=>E) (Bg st) t/\t { nx:=λ_ H'=>Q .non H',rt:=Q } (start N vs) H):
 Al P w K mg base (Gp P w) (k+1) f fd ps sp:=by
 obtain⟨oc,od,kV,doc,pm,an,cdv,ct,osl,rfl,lk,hcd⟩:=F.ex
 refine Xg lk hcd S len λA outer s H vs Q E hr hsp=>?_
 obtain⟨t,h,q⟩:=hbody cdv A outer s H vs Q E hr hsp
 refine⟨t,λpins s' σ' H' D I hw=>?_,q⟩
 exact MY (h pins s' σ' H' D (I.wish _) hw) (λ_ _ z=>z.unwish) λe s2 z=>z.leaves
theorem iT(F:Nr K "found" "Book.found" Ii f fd T0)(T:Gz K mg CB CH)(Tx:Txt mg)(GO:Al P w K mg base Bi 2 fO dO ["self","name"] (Ig CB CH))(bO:Binds K dO ["self","name"] [])(mO:Dt K CB "order" fO)(GN:Al P w K mg base Bi 1 fN dN ["value"] Gk)(kN:JR K (.ref fN)=true)(bNm:Binds K dN ["value"] [])(mN:mg "is_name" = some (.ref fN))(GM:Al P w K mg base (Gp P w) 4 fM dM ["name","elders","orders"] (Vm CO))(kM:JR K (.ref fM)=true)(bM:Binds K dM ["name","elders","orders"] [])(mM:mg "made_order" = some (.ref fM))(GI:Al P w K mg base Bi 1 fI dI ["self","elder_row","order_row"] (Kw CH))(bI:Binds K dI ["self","elder_row","order_row"] [])(MH:Mk K CH fI):Al P w K mg base (Gp P w) 5 f fd ["self","name","elders"] (Ly CB CH CO):=by
 refine Nr.okX F Jz (λvs H Q E h=>?_) (λcdv A outer s H vs Q E hr h=>?_)
 ·obtain⟨p,d,a,L,x,el,rfl,_⟩:=h
  rfl
 obtain⟨p,d,a,L,x,el,rfl,⟨B,hell,hll,hodn,htot⟩,ea0,hok,hxl,hf,hin,hnd,q,qE⟩:=h
 have hu:=Fm hr
 have hr1:=hr.mono (j:=1) (by decide)
 have hr2:=hr.mono (j:=2) (by decide)
 obtain⟨dx,hp⟩:=B.ob
 refine⟨_,Ac (Ay (Hi (Fv (Cf GN hr1 mN kN bNm (Du (pv 1))))) Bs Ap)
  (Ac (Ay (Fs (pP hu (pv 1) (Cp (pv 0) rfl))) Bs Ap)
  (Ac (Bv 3 Jz.nd (Xs (Fs (cG (pv 2))) (Df Fu) (Dl (Oy (K:=K)) rfl Tx.list NL (Du (pv 2)))))
  (Ac (Dd (i:=4) (Ad Ii) oS ["elder"] [("self", 0)] rfl Jz.nd rfl rfl (Dk (pv 3)) (Bm (i:=0) (by decide)) (λ_ _ _ _ _ _=>⟨Dg 0 DV,Ds,Ee (pv 1) T.clB mO GO hr2 bO .nil Dh (Du (pv 0))⟩))
  (Ac (Ay (Ar Qx (Bz Kj rfl Tx.len PySem.boot_len (Du (Dl (Jv rfl) rfl Tx.set Rt (Du (pv 3))))) (Bw Tx.len (pv 3)) (Au _)) Bs Ap)
  (Af (Gc hu (Cp (pv 0) rfl) (pv 1) (Oe MH GI hr2 rfl T.mgH bI .nil Dh (Em (pv 3) (Pp GM hr rfl mM kM bM .nil (Ja (pv 1) (pv 3) (pv 4))))) rfl)))))),?_⟩
 refine⟨_,rfl,.str x,rfl,.inr ⟨x,rfl,by rw[KO];omega⟩,λH1 s1=>?_⟩
 rw[show DI (.str x)=true from hok]
 refine⟨_,rfl,Eb ?_⟩
 have B1:=B.same s1
 refine⟨_,rfl,_,rfl,p,CB,dx,_,_,rfl,s1 _ _ hp,T.clB,T.nBy,Rw d,d,_,rfl,B1.no hf,_,rfl,Eb ?_⟩
 -- elder_row
 refine⟨_,rfl,_,rfl,Eb ⟨_,rfl,a,_,rfl,.inl (Aw.of (s1 _ _ ea0)),λla hla=>?_⟩⟩
 have s2:=Ag hla (.lst (Az el))
 have sA:=s1.trans s2
 have hla0:H la=none:=s1.free hla
 have ela:(upd H1 la (.lst (Az el))) la=some (.lst (Az el)):=Aa
 generalize upd H1 la (.lst (Az el))=H2 at *
 -- orders
 refine⟨_,rfl,la,rfl,⟨_,Aw.of ela⟩,Dz (K:=K) (a:=la) (xs:=Az el) (λi ys H3=>Am H2 H3/\∃ps:List JK,ys=ps.map V.ref/\ps.length=i/\∀(j:Nat)(a:JK)(r:List Str),ps[j]? = some a->(orders L el)[j]? = some r->H3 a=some (.lst (Az r)))
  ⟨Am.refl _,[],rfl,rfl,λj a r h=>by simp at h⟩ (λi ys H3 _ h=>Aw.of (h.1 _ _ ela)) ?_ ?_⟩
 ·rintro i y ys H3 hi ⟨s3,ps,rfl,hps,hpl⟩
  obtain⟨z,hz,rfl⟩:=Ic hi
  have sB:=sA.trans s3
  have hil:i < el.length:=(JB.mp hz).1
  have hzm:=JY hz
  obtain⟨e,he⟩:=Option.ne_none_iff_exists'.mp (hin z hzm)
  refine⟨_,rfl,p,dx,_,rfl,sB _ _ hp,Gr d (by decide +kernel),_,rfl,p,d,L,z,e,rfl,B.same sB,he,λl hl=>?_⟩
  have s4:=Ag hl (.lst (Az e.od))
  refine⟨by rw[JF,hps,KO];omega,s3.trans s4,ps++[l],by rw[JT];rfl,by rw[JJ,hps];rfl,λj a r h1 h2=>?_⟩
  by_cases hj:j < ps.length
  ·rw[KH hj] at h1
   exact s4 _ _ (hpl j a r h1 h2)
  ·have hjl:j < (ps++[l]).length:=(JB.mp h1).1
   rw[JJ,JU] at hjl
   obtain rfl:j=ps.length:=by omega
   rw[KA] at h1
   cases h1
   unfold orders at h2
   rw[KJ,hps,hz] at h2
   have h2':((Hl L z).map (·.od)).getD []=r:=KW h2
   rw[he] at h2'
   have h2'':e.od=r:=h2'
   rw[<- h2'']
   exact Aa
 rintro ys H3 ⟨s3,ps,rfl,hps,hpl⟩ qa hqa
 rw[Av] at hps
 have hol:(orders L el).length=el.length:=JF _
 have s4:=Ag hqa (.lst (ps.map V.ref))
 have R:Cz (upd H3 qa (.lst (ps.map V.ref))) qa ps (orders L el):=⟨Aa,by rw[hps,hol],λi a r h1 h2=>s4 _ _ (hpl i a r h1 h2)⟩
 have sB:=s3.trans s4
 have sC:=sA.trans sB
 generalize upd H3 qa (.lst (ps.map V.ref))=H4 at *
 -- len(set(elder_row)) < len(elder_row)
 refine⟨_,rfl,la,el,rfl,Aw.of (sB _ _ ela),hnd,by show el.length+1 < 4096;omega,λsa hsa=>?_⟩
 have s5:=Ag hsa (Yt P w sa el.length)
 refine⟨sa,_,rfl,Aa,_,rfl,la,_,rfl,.inl (Aw.of (s5 _ _ (sB _ _ ela))),_,_,rfl,rfl,_,rfl,Br (λc=>?_) (λ_=>?_)⟩
 ·have:=of_decide_eq_true c
  rw[Av] at this
  omega
 have sD:=sC.trans s5
 have R5:=R.same s5
 have ela5:=s5 _ _ (sB _ _ ela)
 have hndr:∀r∈orders L el++[el],r.Nodup:=λr hr'=>by
  rcases KI.mp hr' with h | h
  ·unfold orders at h
   obtain⟨y,hy,rfl⟩:=LM.mp h
   cases e:Hl L y with
   | none=>exact absurd e (hin y hy)
   | some e'=>exact hodn e' (Fy e).1
  ·rw[JL.mp h]
   exact hnd
 -- self.by_name[name]=House(elder_row,made_order(name,elder_row,orders))
 refine⟨_,rfl,_,rfl,_,rfl,_,rfl,x,la,qa,ps,el,orders L el,rfl,ela5,R5,hol.symm,htot,by omega,hndr,λoa found H6 hoa s6 eoa k1 k2 k3=>?_,λdx q ts ring rs joined H6 s6 e6 _ _ _ _ _ ne=>qE dx joined H6 (sD.trans s6) ⟨q,e6⟩ ne⟩
 intro hx' hdx nx ndx nex
 have sE:=sD.trans s6
 have s7:Am H6 (upd (upd H6 hdx (.own hx')) hx' (.ins CH hdx [])):=λb o e=>by
  rw[Aj (Ai e nx),Aj (Ai e ndx)]
  exact e
 refine⟨hx',la,oa,hdx,rfl,Aa,λba H7 hba e1 e2 kp=>⟨rfl,?_⟩⟩
 have s8:Am H6 H7:=λb o e=>kp b o (s7 b o e) (Ai e nx)
 have sF:=sE.trans s8
 have B7:=B.same sF
 refine⟨_,rfl,p,CB,dx,_,_,rfl,sF _ _ hp,T.clB,T.nBy,Rw d,_,rfl,d,_,rfl,Kv.k (k:=(KD x:Key)) B7.dc (by unfold qW;rw[JF,KO];omega),?_⟩
 have hla6:H6 la=some (.lst (Az el)):=s6 _ _ ela5
 have hba6:H6 ba=none:=s7.free hba
 have N0:wL H x el found ⟨x,hx',hdx,la,oa,ba,el,x::found,[]⟩:=⟨rfl,rfl,rfl,rfl,sE.free nx,hla0,sD.free hoa,sE.free hba6⟩
 have k8:∀b o,H b=some o->b≠d->(upd H7 d (.dK (putK (qW L) (KD x:Key) (.ref hx')))) b=some o:=λb o e hb=>by rw[Aj hb];exact sF _ _ e
 have nd_of:∀b,H b=none->b≠d:=λb hb=>LH (Ai B.dc hb)
 refine q _ found _ N0 (B.add (e:=⟨x,hx',hdx,la,oa,ba,el,x::found,[]⟩) hf N0.f4 ⟨?_,?_,?_,?_⟩ Aa k8) k8 k1
 ·rw[Aj (nd_of _ N0.f1)];exact e1
 ·rw[Aj (nd_of _ N0.f2)];exact s8 _ _ hla6
 ·rw[Aj (nd_of _ N0.f3)];exact s8 _ _ eoa
 ·rw[Aj (nd_of _ N0.f4)];exact e2
end
end Bk
namespace Bk
open PySem L2 Mg Nm Rk
structure QB(CB CH:JK)(M:Hp)(p d:JK)(L:List Ent)(rs:List Str)(B:Ci):Prop where
 bk:Be CB CH M p d L
 rl:rs.length<=1000
 hs:∀y∈rs,∃e,Hl L y=some e
 no:∀y∈rs,∀e w,Hl L y=some e->B y w=none->valV e.bd (KD w:Key)=none
 yes:∀y∈rs,∀e w ss,Hl L y=some e->B y w=some ss->∃(la:JK)(ts:List JK),valV e.bd (KD w:Key)=some (.ref la)/\M la=some (.lst (ts.map V.ref))/\Dq M ts (ss.map Stp.pr)
 ok:FG B rs
def HV(H:Hp)(CU CS:JK)(Q:VK)(E:XK):Res->Prop
 | .ok _ _ sd=>∀(l:JK)(H':Hp),H l=none->Am H H'->H' l=some (.lst (Wb sd))->Q (.ref l) H'
 | .una _ _=>∀H':Hp,Am H H'->E (.ref CU) none H'
 | .spent=>∀H':Hp,Am H H'->E (.ref CS) none H'
def oH(CB CH CU CS:JK):Sp:=λvs H Q E=>∃(p d:JK)(x y:Str)(n:Int)(c:Nat)(L:List Ent)(e:Ent)(B:Ci),vs=[.ref p,.str x,.str y,.int n,.int (c:Int)]/\Hl L x=some e/\QB CB CH H p d L e.od B /\ -big<=n/\n<=big/\c<=40/\HV H CU CS Q E (rS B e.od y 0 n c [])
section
variable {P:KC} {w:LL} {K:JC} {mg:Str->Option JD} {base:MQ} {f fO fC fI fN fQ CA CT CB CH CU CS T0:JK} {fd dO dC dI dN dQ:LB}
theorem oB:An ["book","name","word","number","count","row","asking"] ["book","name","word","number","count"] (Ad Gi):=Ez (by decide +kernel)
theorem yX(F:Nr K "answered" "answered" Gi f fd T0)(T:Xk K mg CA)(TT:Vb K mg CT)(TB:Gz K mg CB CH)(GO:Al P w K mg base Bi 2 fO dO ["self","name"] (Ig CB CH))(bO:Binds K dO ["self","name"] [])(mO:Dt K CB "order" fO)(GC:Al P w K mg base Bi 3 fC dC ["number","count"] Tu)(kC:JR K (.ref fC)=true)(bC:Binds K dC ["number","count"] [])(mC:mg "check_question" = some (.ref fC))(GI:Al P w K mg base Bi 1 fI dI ["self","book","row","tally"] (Uy CA))(bI:Binds K dI ["self","book","row","tally"] [])(MA:Mk K CA fI)(GN:Al P w K mg base Bi 1 fN dN ["self","left"] (Ua CT))(bN:Binds K dN ["self","left"] [])(MT:Mk K CT fN)(GQ:Al P w K mg base (Gp P w) (4 * 41+3) fQ dQ ["self","word","place","number"] (Qz CA CT CB CH CU CS 41))(bQ:Binds K dQ ["self","word","place","number"] [])(mQ:Dt K CA "asked" fQ):Al P w K mg base (Gp P w) 168 f fd ["book","name","word","number","count"] (oH CB CH CU CS):=by
 refine Nr.okX F oB (λvs H Q E h=>?_) (λcdv A outer s H vs Q E hr h=>?_)
 ·obtain⟨p,d,x,y,n,c,L,e,B,rfl,_⟩:=h
  rfl
 obtain⟨p,d,x,y,n,c,L,e,B,rfl,he,U0,n0,n1,hc,g⟩:=h
 have hr2:=hr.mono (j:=2) (by decide)
 have hr3:=hr.mono (j:=3) (by decide)
 have hrQ:=hr.mono (j:=4 * 41+3) (by decide)
 obtain⟨bx,hp⟩:=U0.bk.ob
 refine⟨_,Ac (Bv 5 oB.nd (Ee (pv 0) TB.clB mO GO hr2 bO .nil Dh (Du (pv 1))))
  (Ac (Bx (Cf GC hr3 mC kC bC (Em (pv 3) (pv 4))))
  (Ac (Bv 6 oB.nd (Oe MA GI hr2 rfl T.mgA bI .nil Dh (Ja (pv 0) (pv 5) (Oe MT GN hr2 rfl TT.mgT bN .nil Dh (Du (pv 4))))))
  (Ac (Bx (Et (pv 6) T.cl mQ GQ hrQ bQ .nil (Ja (pv 2) Ae (pv 3))))
  (Af (Ao (Cp (Cp (pv 6) rfl) rfl)))))),?_⟩
 refine⟨_,rfl,p,bx,_,rfl,hp,Gr d (by decide +kernel),_,rfl,p,d,L,x,e,rfl,U0.bk,he,λra hra=>?_⟩
 obtain⟨H1,zz,s1,era⟩:=lay hra (.lst (Az e.od))
 rw[zz]
 refine⟨_,rfl,_,rfl,n,(c:Int),rfl,n0,n1,by omega,by omega,?_⟩
 refine⟨_,rfl,_,rfl,_,rfl,λtq tx nt ntx net=>?_⟩
 have s2:Am H1 (upd (upd H1 tx (.own tq)) tq (.ins CT tx [])):=λb o e=>by
  rw[Aj (Ai e nt),Aj (Ai e ntx)]
  exact e
 refine⟨tq,tx,(c:Int),rfl,Aa,λsa H2 hsa e1 e2 kp=>⟨rfl,?_⟩⟩
 have s3:Am H1 H2:=λb o e=>kp b o (s2 b o e) (Ai e nt)
 have hsa1:H1 sa=none:=s2.free hsa
 intro q qx nq nqx neq
 have s5:Am H2 (upd (upd H2 qx (.own q)) q (.ins CA qx [])):=λb o e=>by
  rw[Aj (Ai e nq),Aj (Ai e nqx)]
  exact e
 refine⟨q,p,ra,tq,qx,rfl,Aa,λH3 e3 kp3=>⟨rfl,?_⟩⟩
 have s6:Am H2 H3:=λb o e=>kp3 b o (s5 b o e) (Ai e nq)
 have s7:=s3.trans s6
 have SM:Am H1 (mask H3 tq sa):=λb o hb=>Ot (s7 _ _ hb) (Ai hb nt) (Ai hb hsa1)
 have nqt:q≠tq:=λz=>by rw[z,e1] at nq;cases nq
 have nqs:q≠sa:=λz=>by rw[z,e2] at nq;cases nq
 have C:Rj (mask H3 tq sa) H3 CT tq tx sa c []:=by
  refine⟨Yh,?_,?_,s6 _ _ e1,s6 _ _ e2⟩
  ·unfold mask
   rw[if_pos (.inl rfl)]
  ·unfold mask
   rw[if_pos (.inr rfl)]
 have sA:=s1.trans SM
 have U:Xe CA CB CH (mask H3 tq sa) q qx tq p d ra L e.od B:=⟨Ot e3 nqt nqs,U0.bk.same sA,SM _ _ era,U0.rl,U0.hs,U0.no,λy hy e w ss h1 h2=>let ⟨la,ts,a,b,c⟩:=U0.yes y hy e w ss h1 h2;⟨la,ts,a,sA _ _ b,c.same sA⟩,U0.ok⟩
 generalize mask H3 tq sa=M at *
 refine⟨_,rfl,q,qx,_,rfl,e3,Na (by decide +kernel),_,rfl,_,rfl,?_⟩
 refine⟨M,q,qx,p,d,ra,tq,tx,sa,L,e.od,B,y,0,n,c,[],100,rfl,U,C,by omega,by omega,⟨pG n0 n1,JI _,by omega,by rw[List.length_nil];omega⟩,?_⟩
 rw[lT B e.od (show c < 41 by omega)]
 cases hres:rS B e.od y 0 n c [] with
 | ok a k' sd=>
  rw[hres] at g
  intro H' sa' C'
  refine⟨_,rfl,q,CA,qx,_,_,rfl,C'.same _ _ U.ob,T.cl,T.nTally,Jw _ _ _,tq,CT,tx,_,_,rfl,C'.hq,TT.cl,TT.nSaid,Og _ _,?_⟩
  exact g sa' H' (sA.free C'.ms) (sA.trans C'.same) C'.hs
 | una k' sd=>
  rw[hres] at g
  exact λH' sa' C'=>g H' (sA.trans C'.same)
 | spent=>
  rw[hres] at g
  exact λH' hs=>g H' (sA.trans hs)
end
end Bk
namespace Bk
open PySem L2 Mg Nm
theorem Xo{α:Type}[DecidableEq α]:∀t:List α,t.Nodup->Ei t.length [t,[]]=(t,[[],[]])
 | [],_=>Wq rfl
 | a::t,h=>by
  obtain⟨h1,h2⟩:=LQ.mp h
  have hp:pick (cnt [a::t,[]]) [a::t,[]]=some a:=Qb (Js.mpr λr hr=>by
   rcases JP.mp hr with rfl | hr
   ·exact h1
   ·rw[JL] at hr
    subst hr
    exact KG)
  rw[LN,Pk hp]
  have e:[a::t,[]].map (Cw a)=[t,[]]:=by rw[LU,Ij];rfl
  rw[e,Xo t h2]
theorem uL{α:Type}[DecidableEq α]{a:α}{t:List α}(h:(a::t).Nodup):Ei (t.length+1) [a::t,[a]]=(a::t,[[],[]]):=by
 obtain⟨h1,h2⟩:=LQ.mp h
 have hp:pick (cnt [a::t,[a]]) [a::t,[a]]=some a:=Qb (Js.mpr λr hr=>by
  rcases JP.mp hr with rfl | hr
  ·exact h1
  ·rw[JL] at hr
   subst hr
   exact KG)
 rw[Pk hp]
 have e:[a::t,[a]].map (Cw a)=[t,[]]:=by rw[LU,Ij,LU,Ij];rfl
 rw[e,Xo t h2]
theorem Nj{H:Hp}{a b:JK}{o:HO}(h:upd H a o b=none):H b=none:=by
 by_cases e:b=a
 ·rw[e,Aa] at h
  cases h
 ·rw[Aj e] at h
  exact h
theorem uD{CB CH:JK}{H:Hp}{p d:JK}{L:List Ent}{x:Str}{e:Ent}{t:List Str}(B:Be CB CH H p d L)(hx:jS x)(hn:Hl L x=none)(hl:L.length<=100)(he:e∈L)(ho:e.od=e.nm::t)(hd:e.od.Nodup)(hle:e.od.length<=100):Xc CB CH H p d L x [e.nm] (t.length+1)/\(Ei (t.length+1) (rowsOf L [e.nm])).1=e.od:=by
 have hf:=Me B.nd he
 have er:rowsOf L [e.nm]=[e.nm::t,[e.nm]]:=by
  unfold rowsOf
  rw[LU,gK hf,ho]
  rfl
 have hr:Ei (t.length+1) (rowsOf L [e.nm])=(e.nm::t,[[],[]]):=by rw[er];exact uL (by rw[<- ho];exact hd)
 refine⟨⟨B,Tv hx,by rw[KO];have:=hx.2.1;omega,hn,λy hy=>?_,by simp,by simp,hl,?_,λr hr'=>?_,?_⟩,by rw[hr,ho]⟩
 ·rw[JL] at hy
  subst hy
  exact⟨e,hf⟩
 ·rw[er]
  rw[ho] at hle
  have:Fe [e.nm::t,[e.nm]]=(e.nm::t).length+(1+0):=rfl
  omega
 ·rw[hr] at hr'
  simpa using hr'
 ·rw[hr]
  rw[ho] at hle
  show (e.nm::t).length<=900
  omega
end Bk
namespace Mg
section
variable {α:Type} [DecidableEq α]
theorem Sv{rs:List (List α)}{x:α}{xs:List α}(h:Good rs (x::xs)):pick (cnt rs) rs=some x/\Good (rs.map (Cw x)) xs:=
 ⟨h 0 x rfl,λi y hy=>h (i+1) y (by rw[List.getElem?_cons_succ];exact hy)⟩
theorem jB{x y:α}{r:List α}(h:y∈Cw x r):y∈r:=by
 cases r with
 | nil=>exact h
 | cons z r=>
  rw[Fa] at h
  by_cases e:z=x
  ·rw[if_pos e] at h;exact JQ _ h
  ·rw[if_neg e] at h;exact h
theorem Px:∀ {xs:List α} {rs:List (List α)},Good rs xs->∀x∈xs,∃r∈rs,x∈r
 | [],_,_,x,hx=>nomatch hx
 | y::xs,rs,h,x,hx=>by
  obtain⟨h1,h2⟩:=Sv h
  rcases JP.mp hx with rfl | hx
  ·obtain⟨_,r,hr,t,rfl⟩:=Hs h1
   exact⟨_,hr,JS⟩
  ·obtain⟨r,hr,hm⟩:=Px h2 x hx
   obtain⟨r0,hr0,rfl⟩:=LM.mp hr
   exact⟨r0,hr0,jB hm⟩
theorem Qr:∀ {xs:List α} {rs:List (List α)},Good rs xs->xs.Nodup
 | [],_,_=>OR
 | y::xs,rs,h=>by
  obtain⟨h1,h2⟩:=Sv h
  refine LQ.mpr ⟨λhy=>?_,Qr h2⟩
  obtain⟨r,hr,hm⟩:=Px h2 y hy
  obtain⟨r0,hr0,rfl⟩:=LM.mp hr
  have hz:=Js.mp (Hs h1).1 r0 hr0
  cases r0 with
  | nil=>exact nomatch hm
  | cons z t=>
   rw[Fa] at hm
   by_cases e:z=y
   ·rw[if_pos e] at hm;exact hz hm
   ·rw[if_neg e] at hm
    rcases JP.mp hm with q | q
    ·exact e q.symm
    ·exact hz q
theorem len_sub:∀ {l m:List α},l.Nodup->(∀x∈l,x∈m)->l.length<=m.length
 | [],m,_,_=>LG _
 | x::l,m,nd,h=>by
  obtain⟨n1,n2⟩:=LQ.mp nd
  have hx:=h x JS
  have:=len_sub (l:=l) (m:=m.erase x) n2 λy hy=>(List.mem_erase_of_ne (λz=>n1 (by rw[<- z];exact hy))).mpr (h y (JQ _ hy))
  rw[List.length_erase_of_mem hx] at this
  have hp:0 < m.length:=List.length_pos_of_mem hx
  rw[LN]
  omega
end
end Mg
namespace L2
open PySem PySem.Spec PyProof.Rows
section
variable {Y:Cx} {pins:List (JK×Obj)} {σ:St} {H:Hp} {s:JH}
open Classical in
theorem Inv.env0W(I:Inv Y pins σ H s){x:JK}{oe:Obj}{vs:Array JD}(hx:(x,oe)∈Y.pn)(d:oe.data=.fields vs):
 ∃base':MQ,Uo Y.prog Y.w Y.K Y.mg base' Y.A Y.stack s H/\base'.get? x=some oe:=by
 obtain⟨gx,hx0,_,_,_⟩:=I.pin (x,oe) (MG _ hx)
 let HX:Hp:=λb=>if (Y.base.get? b).isSome=true∨b=x then none else some (.own 0)
 have up:∀b o,Y.base.get? b=some o->(Lv s.heap HX).get? b=some o:=λb o e=>Py (I.bk b o e) (if_pos (.inl (by rw[e];rfl)))
 have only:∀b o,(Lv s.heap HX).get? b=some o->s.heap.get? b=some o/\((∃u,Y.base.get? b=some u)∨b=x):=λb o e=>by
  obtain⟨e1,e2⟩:=gQ e
  refine⟨e1,?_⟩
  by_cases z:(Y.base.get? b).isSome=true∨b=x
  ·rcases z with z | z
   ·exact .inl (RH.mp z)
   ·exact .inr z
  ·have:HX b=some (.own 0):=if_neg z
   rw[this] at e2
   cases e2
 refine⟨Lv s.heap HX,⟨I.ok.frames,⟨I.mod.kin.keeps up,I.mod.glob.keeps up,(let ⟨mb,h1,h2⟩:=I.mod.blt;⟨mb,h1.keeps up,h2⟩),I.mod.nolimit.keeps up⟩,λb o e=>?_,QP (Rx _ _),?_,I.stkFree,I.hok,I.bare⟩,Py gx (if_pos (.inr rfl))⟩
 ·obtain⟨e1,z⟩:=only b o e
  rcases z with ⟨u,z⟩ | rfl
  ·exact⟨e1,(I.bs b u z).2⟩
  ·exact⟨e1,hx0⟩
 ·have all:∀l:List Env,s.heap.FunFrames Y.base l->s.heap.FunFrames (Lv s.heap HX) l:=by
   intro l
   induction l with
   | nil=>intro _;trivial
   | cons env r ih=>
    intro hl
    obtain⟨hk,⟨L,o,hf,hn,ho,hd⟩,hr⟩:=hl
    refine⟨hk,⟨L,o,hf,?_,ho,hd⟩,ih hr⟩
    cases q:(Lv s.heap HX).get? L with
    | none=>rfl
    | some u=>
     obtain⟨e1,z⟩:=only L u q
     rcases z with ⟨v,z⟩ | rfl
     ·rw[hn] at z
      cases z
     ·rw[gx] at ho
      cases ho
      exact absurd d (hd vs)
  exact all Y.stack I.stack
end
def We(P:KC)(w:LL)(K:JC)(mg:Str->Option JD)(k:Nat)(f:JK)(fd:LB)(ps:List Str)(sp:Sp):Prop:=∀base:MQ,K.In base->base.Ns LC mg->Al P w K mg base Bi k f fd ps sp
section
variable {Y:Cx} {k:Nat} {f C x:JK} {oe:Obj} {ws:Array JD} {fd:LB} {ps:List Str} {sp:Sp} {dvs:List V} {ds:List JD} {m:Str} {p pos apos:Pos} {e o:Expr} {es:List Expr} {ta:TE} {t:TA}
theorem uQ{pins:List (JK×Obj)}{σ:St}{H:Hp}{s:JH}{Q:VK}{us:List JD}{vs:List V}(F:We Y.prog Y.w Y.K Y.mg k f fd ps sp)(hA:Y.A.handled=some (.ref x))(hx:(x,oe)∈Y.pn)(d:oe.data=.fields ws)(c:ws[2]? = some .none)(hr:Ck k Y.A)(hb:Binds Y.K fd ps ds)(hd:Bb dvs ds)(I:Inv Y pins σ H s)(r:Bb vs us)(h:sp (vs++dvs) H Q E0):KR (KU Y.prog Y.w) Y.A (call (.ref f) us) (EP Y pins σ Q) Y.xe s:=by
 obtain⟨base',e0,gx⟩:=I.env0W hx d
 have G:=F base' e0.mod.kin e0.mod.glob
 have r2:Bb (vs++dvs) (us++ds):=r.append hd
 have hl:(us++ds).length=ps.length:=by rw[<- r2.length];exact G.len _ _ _ _ h
 refine RW (PQ (G.run Y.A Y.stack s H ⟨us,[]⟩ (us++ds) (vs++dvs) Q E0 ⟨hr,(λz=>nomatch z),.inr ⟨x,oe,ws,hA,gx,d,c⟩⟩ e0 (hb s us I.kIn hl) r2 h) λr s' hq=>?_)
 cases r with
 | error e=>exact LZ hq
 | ok fl=>
  cases fl with
  | ret u=>exact I.after hq
  | next=>exact LZ hq
  | brk=>exact LZ hq
  | cont=>exact LZ hq
theorem oZ{pl:Sem Bool}(he:PE Y o ta)(cl:Wa Y.K C)(hm:Dt Y.K C m f)(F:We Y.prog Y.w Y.K Y.mg k f fd ps sp)(hA:Y.A.handled=some (.ref x))(hx:(x,oe)∈Y.pn)(d:oe.data=.fields ws)(c:ws[2]? = some .none)(hr:Ck k Y.A)(hb:Binds Y.K fd ps ds)(hd:Bb dvs ds)(ha:PA Y (e::es) t)(hst:KQ (e::es) Y.env=(false,OX e Y.env)::KQ es Y.env:=by rfl)(hpl:(QK pos (KQ es Y.env)).any (·.1)=false:=by rfl)(ht:OX (.Call (.Attribute o m apos) (e::es) [] pos) Y.env=(do
  let ov <- OX o Y.env
  standAt apos.atName
  let (f,first) <- holding [ov] (getMethod ov m pl)
  callWith pos f first (QK pos (KQ (e::es) Y.env)) (backToKw pos (QU [] Y.env))):=by rfl):
 PE Y (.Call (.Attribute o m apos) (e::es) [] pos) (rK C m sp dvs E0 ta t):=by
 intro pins s σ H Q I h
 refine PF (pl:=pl) (Bu (he pins s σ H _ I h) λu s1 ⟨y,H1,I1,rx,a,dx,fs,ex,ea,l,q⟩=>?_) ht
 subst ex
 obtain rfl:u=JV a:=rx
 refine Ff I1 ea cl hm l ?_
 refine NR (first:=[.ref a]) (h₀:=Y.base) I.ok.mod.kin hm.kp (Bu (ha pos pins s1 σ H1 _ I1 q) λus s2 ⟨vs,H2,I2,r,q2⟩=>⟨I2.kIn,?_⟩) hst hpl
 exact uQ (us:=.ref a::us) (vs:=.ref a::vs) F hA hx d c hr hb hd I2 (.cons rfl r) q2
end
theorem qZ{X:Cx}{K:JC}{EX:XS}{th:Ends->XS}{hs:List SK}{C:JK}{c:Str}{np pos:Pos}{b₀:OQ}{suite:List OQ}{tsu:TS}(hcls:Gl X c)(hm:X.mg c=some (.ref C))(hsu:∀x oe ws,oe.data=.fields ws->ws[2]? = some .none->Hy (Ir X x oe) (b₀::suite) tsu)(hr:PH X hs EX th)(hK:X.K=K:=by rfl)(hdb:(c == ("__debug__" : Str))=false:=by decide):PH X (.ExceptHandler (some (.Name c np)) none (b₀::suite) pos::hs) EX (IC K C tsu th):=by
 subst hK
 intro σ H s x cls dx T oe oT vs ts D I fx fT a h
 refine gT (ts':=λ_ ye=>λD σ H=>(∃ws,ye.data=.fields ws/\ws[2]? = some .none)/\tsu D σ H) hcls hm (λy ye pn s' σ' H' D' I' ⟨⟨ws,d,c⟩,h'⟩=>hsu y ye ws d c pn s' σ' H' D' I' h') hr hdb σ H s x cls dx T oe oT vs ts D I fx fT a ?_
 obtain⟨b,hb,h⟩:=h
 refine⟨b,hb,?_⟩
 cases b with
 | true=>rw[if_pos rfl] at h ⊢;exact λ_ _ _ _ _ w=>⟨w,h⟩
 | false=>rw[if_neg JN] at h ⊢;exact h
end L2
namespace Bk
open PySem L2 Mg Nm Rk PySem.SeqAt
def Gw(L:List Ent):Prop:=∀e∈L,e.od.Nodup/\(∃t,e.od=e.nm::t)/\∀y∈e.od,y∈L.map (·.nm)
theorem Oc{L:List Ent}(h:Gw L){e:Ent}(he:e∈L):e.od.length<=L.length:=by
 have:=len_sub (h e he).1 (h e he).2.2
 rwa [JF] at this
theorem dU{L:List Ent}{e:Ent}{x:Str}{found:List Str}(h:Gw L)(nm:e.nm=x)(od:e.od=x::found)(nd:found.Nodup)(hin:∀y∈found,y∈L.map (·.nm))(hx:x∉L.map (·.nm)):Gw (L++[e]):=by
 intro e' he'
 rcases KI.mp he' with h1 | h1
 ·obtain⟨a,b,c⟩:=h e' h1
  exact⟨a,b,λy hy=>by rw[JT];exact MG _ (c y hy)⟩
 ·rw[JL.mp h1,od,nm]
  refine⟨LQ.mpr ⟨λz=>hx (hin x z),nd⟩,⟨found,rfl⟩,λy hy=>?_⟩
  rw[JT]
  rcases JP.mp hy with rfl | hy
  ·exact JX _ (by simp[nm])
  ·exact MG _ (hin y hy)
theorem lE{L:List Ent}{y:Str}(h:y∈L.map (·.nm)):Hl L y≠none:=λz=>by
 obtain⟨e,he,rfl⟩:=LM.mp h
 have:=List.find?_eq_none.mp z e he
 exact this (by simp)
theorem Tf{L:List Ent}(h:Gw L){el:List Str}:∀r∈orders L el,r.length<=L.length/\∀y∈r,y∈L.map (·.nm):=by
 intro r hr
 obtain⟨y,_,rfl⟩:=LM.mp hr
 cases q:Hl L y with
 | none=>exact⟨LG _,λz hz=>nomatch hz⟩
 | some e=>
  have he:=(Fy q).1
  exact⟨Oc h he,(h e he).2.2⟩
theorem nE{n:Nat}:∀ {rs:List (List Str)},(∀r∈rs,r.length<=n)->Fe rs<=n * rs.length:=by
 intro rs
 induction rs with
 | nil=>intro _;exact LG _
 | cons r rs ih=>
  intro h
  have h1:=h r JS
  have h2:=ih λr' hr'=>h r' (JQ _ hr')
  have:Fe (r::rs)=r.length+Fe rs:=rfl
  rw[this,LN,Nat.mul_succ]
  omega
theorem nG{rs:List (List Str)}{r:List Str}:Fe (rs++[r])=Fe rs+r.length:=by
 induction rs with
 | nil=>show r.length+0=0+r.length;omega
 | cons q rs ih=>
  have e1:Fe (q::rs++[r])=q.length+Fe (rs++[r]):=rfl
  have e2:Fe (q::rs)=q.length+Fe rs:=rfl
  rw[e1,e2,ih]
  omega
theorem Sg:∀(xs:List Str){rs:List (List Str)},(∀r∈rs,r=[])->∀r∈after rs xs,r=[]
 | [],_,h=>h
 | x::xs,rs,h=>by
  show ∀r∈after (rs.map (Cw x)) xs,r=[]
  refine Sg xs λr hr=>?_
  obtain⟨r',hr',rfl⟩:=LM.mp hr
  rw[h r' hr']
  rfl
theorem Wr(xs:List V)(y:V):Ga (xs++[y]) (some (-1)) none=[y]:=by
 have e:HT.sIx (xs++[y]).length 0 (some (-1))=xs.length:=by
  show (if (-1:Int) < 0 then ((-1:Int)+((xs++[y]).length:Int)).toNat else min (-1:Int).toNat (xs++[y]).length)=xs.length
  rw[if_pos (by decide),JJ,JU]
  omega
 unfold Ga
 rw[e,List.drop_left]
 show List.take ((xs++[y]).length-xs.length) [y]=[y]
 rw[JJ,JU,Nat.add_sub_cancel_left]
 rfl
def qP(CB CH:JK)(H:Hp)(p d:JK)(L:List Ent)(x:Str)(Q:VK):Prop:=∀(H':Hp)(e:Ent),Be CB CH H' p d (L++[e])->e.nm=x->e.bd=[]->Gw (L++[e])->gM H e->(∀b o,H b=some o->b≠d->H' b=some o)->Q .non H'
abbrev HZ:List Str:=["_law_book","_law_names","_law_name","_law_cell","_law_mixed_here","_law_elders"]
section
variable {P:KC} {w:LL} {K:JC} {mg:Str->Option JD} {base:MQ} {f fF CB CH CO:JK} {fd dF:LB}
theorem Xf(T:Gz K mg CB CH)(mO:mg "AtOdds" = some (.ref CO))(eO:QV K (.ref CO) (.ref CO)=some true)(GX:Al P w K mg base (Gp P w) 5 fF dF ["self","name","elders"] (Ly CB CH CO))(GF:We P w K mg 4 fF dF ["self","name","elders"] (Oj CB CH))(bF3:Binds K dF ["self","name","elders"] [])(mF:Dt K CB "found" fF)(cdv:JD)(A:LI)(outer:List Env)(s:JH)(H:Hp)(E:XK)(hr:Ck 5 (A.deeper (PZ "_law_founded" (Ad Ej) s.heap.objs.size f cdv)))(Q:VK):
 ∃tt,Hy (Ex Jd P w K mg base HZ "_law_founded" (Ad Ej) f cdv A outer s H E).nox ((Bg Ej).drop 5) tt /\
  ∀(H1:Hp)(p d na ea:JK)(L:List Ent)(x:Str)(el:List Str)(c m:V),Be CB CH H1 p d L->H1 na=some (.lst (Az (L.map (·.nm))))->Gw L->L.length<=40->jS x->Hl L x=none->H1 ea=some (.lst (Az el))->el.Nodup->(∀y∈el,y∈L.map (·.nm))->el.length<=7->qP CB CH H1 p d L x Q ->
   tt { nx:=λ_ H'=>Q .non H',rt:=Q } [some (.ref p),some (.ref na),some (.str x),some c,some m,some (.ref ea)] H1:=by
 have hr4:=hr.mono (j:=4) (by decide)
 refine⟨_,Af (aA (EX:=xU) Kl (λ_ _ h=>BQ h) (λpn EX1=>Af (Bx (Et (pv 0) T.clB mF GX hr bF3 .nil (Em (pv 2) (pv 5)))))
  (λpn=>qZ (K:=K) rfl mO (λy oe ws hd hc=>Af (Bx (oZ (pv 0) T.clB mF GF rfl (JS) hd hc ⟨hr4.dp,hr4.un⟩ bF3 .nil (Em (pv 2) (Cj lJ (pv 1) (Cy (Jt Gs Ae)) Dx))))) (Ze ⟨rfl,rfl,rfl⟩))),?_⟩
 intro H1 p d na ea L x el c m B ena O hL hx hn eea nd hin hel q
 obtain⟨dx,hp⟩:=B.ob
 have xin:x∉L.map (·.nm):=λz=>lE z hn
 have M:Ya CB CH H1 p d L el:=⟨B,by omega,by omega,λe he=>(O e he).1,by
  rw[nG]
  have h1:=nE (n:=40) λr hr'=>KS (Tf O (el:=el) r hr').1 hL
  have h2:(orders L el).length=el.length:=JF _
  rw[h2] at h1
  omega⟩
 refine⟨_,rfl,p,dx,_,rfl,hp,Gr d (by decide +kernel),_,rfl,_,rfl,p,d,ea,L,x,el,rfl,M,eea,Tv hx,(by have:=hx.2.1;omega),hn,(λy hy=>lE (hin y hy)),nd,λe found H2 hnew B2 k2 hg=>?_,λex joined H2 s2 edx hne=>?_⟩
 ·refine q H2 e B2 hnew.nm hnew.bd (dU O hnew.nm hnew.od (Qr hg) (λy hy=>?_) xin) ⟨hnew.f1,hnew.f2,hnew.f3,hnew.f4⟩ k2
  obtain⟨r,hr',hy'⟩:=Px hg y hy
  rcases KI.mp hr' with z | z
  ·exact(Tf O r z).2 y hy'
  ·rw[JL.mp z] at hy'
   exact hin y hy'
 ·-- the last one alone
  have hLn:L≠[]:=λz=>by
   subst z
   have hel0:el=[]:=List.eq_nil_iff_forall_not_mem.mpr λy hy=>absurd (hin y hy) (by simp)
   subst hel0
   obtain⟨r,hr',hne'⟩:=hne
   exact hne' (Sg joined (by intro r hr;simpa [orders] using hr) r hr')
  obtain⟨L0,eL,rfl⟩:∃L0 eL,L=L0++[eL]:=⟨L.dropLast,L.getLast hLn,(List.dropLast_concat_getLast hLn).symm⟩
  have B2:=B.same s2
  obtain⟨dx2,hp2⟩:=B2.ob
  have ena2:H2 na=some (.lst (Az (L0.map (·.nm))++[V.str eL.nm])):=by
   rw[s2 _ _ ena,JT]
   unfold Az
   rw[JT]
   rfl
  have meL:eL∈L0++[eL]:=JX _ (JL.mpr rfl)
  obtain⟨ndL,⟨tL,odL⟩,inL⟩:=O eL meL
  refine⟨true,eO,Ju ?_⟩
  refine⟨_,rfl,p,dx2,_,rfl,hp2,Gr d (by decide +kernel),_,rfl,_,rfl,_,rfl,_,rfl,na,_,rfl,Aw.of ena2,λc3 hc3=>?_⟩
  rw[Wr]
  obtain⟨H3,zz,s3,e3⟩:=lay hc3 (.lst [V.str eL.nm])
  rw[zz]
  have e3:H3 c3=some (.lst (Az [eL.nm])):=e3
  have can:=uD (B2.same s3) hx hn (by omega) meL odL ndL (by have:=Oc O meL;omega)
  refine⟨p,d,L0++[eL],x,.ref c3,[eL.nm],_,rfl,can.1,.inr ⟨c3,rfl,e3⟩,λe H4 hnew B4 k4=>?_⟩
  obtain⟨nm,_,od,bd,fr⟩:=hnew
  rw[can.2] at od
  have sf:=s2.trans s3
  exact q H4 e B4 nm bd (dU O nm od ndL inL xin) ⟨sf.free fr.at_,sf.free fr.ea,sf.free fr.oa,sf.free fr.ba⟩ λb o hb hne'=>k4 b o ((s2.trans s3) _ _ hb) hne'
end
end Bk
namespace L2
open PySem PySem.Spec PyProof.Rows
theorem Zn{lo:Int}{k n:Nat}{fr:List (Str×Nat)}{g:TG}{tc:TT}{te:TE}{σ:St}{H:Hp}{F:List V->Hp->Prop}(Pv:Nat->List V->Hp->Prop)(h0:Pv 0 [] H)(hs:∀i ys H,i < k->Pv i ys H->g (.int (lo-i)) (stC n fr σ) H λσ2 H2=>tc σ2 H2 λb H3=>if b=true then te σ2 H3 λy H4=>ys.length < JM/\Pv (i+1) (ys++[y]) H4 else Pv (i+1) ys H3)(hd:∀ys H,Pv k ys H->F ys H):Eu n fr g tc te σ (uK lo k) H F:=by
 refine⟨λi m ys H=>m=k-i/\i<=k/\Pv i ys H,⟨k,by simp,LG _,h0⟩,?_⟩
 rintro i m ys H ⟨rfl,hi,p⟩
 by_cases hlt:i < k
 ·refine .inr ⟨hlt,Pv (i+1),λys' H' p'=>⟨k-(i+1),by omega,rfl,hlt,p'⟩,λx H' y=>?_⟩
  obtain⟨e,y⟩:=y
  subst e y
  exact hs i ys _ hlt p
 ·have e:i=k:=by omega
  subst e
  exact .inl ⟨JI _,hd ys H p⟩
end L2
namespace Bk
open PySem L2 Mg Nm Rk PySem.SeqAt
structure vM(ns el:List Str):Prop where
 nd:el.Nodup
 sub:∀y∈el,y∈ns
theorem qS{ns:List Str}(hn:ns.Nodup):∃el,Ga (Az ns) (some (-1)) none=Az el/\vM ns el/\el.length<=1:=by
 by_cases h:ns=[]
 ·subst h
  exact⟨[],rfl,⟨OR,λy hy=>nomatch hy⟩,LG _⟩
 ·have e:ns=ns.dropLast++[ns.getLast h]:=(List.dropLast_concat_getLast h).symm
  refine⟨[ns.getLast h],?_,⟨by simp,λy hy=>?_⟩,JI _⟩
  ·generalize ns.getLast h=z at e
   generalize ns.dropLast=r at e
   subst e
   unfold Az
   rw[JT]
   exact Wr _ _
  ·rw[JL.mp hy]
   exact List.getLast_mem h
def Ka(CB CH:JK):Sp:=λvs H Q _=>∃(p d na:JK)(L:List Ent)(x:Str)(c:Int),vs=[.ref p,.ref na,.str x,.int c]/\Be CB CH H p d L/\H na=some (.lst (Az (L.map (·.nm))))/\Gw L/\L.length<=40/\jS x/\Hl L x=none/\qP CB CH H p d L x Q
section
variable {P:KC} {w:LL} {K:JC} {mg:Str->Option JD} {base:MQ} {f fF CB CH CO:JK} {fd dF:LB}
theorem CZ:(["_law_k","_law_mixed_here","_law_names"]:List Str).Nodup:=by decide +kernel
theorem Ge:An ["_law_book","_law_names","_law_name","_law_cell","_law_mixed_here","_law_elders"] ["_law_book","_law_names","_law_name","_law_cell"] (Ad Ej):=Ez (by decide +kernel)
theorem qP.same{CB CH:JK}{H H':Hp}{p d:JK}{L:List Ent}{x:Str}{Q:VK}(h:qP CB CH H p d L x Q)(s:Am H H'):qP CB CH H' p d L x Q:=λH2 e a b c o fr k=>h H2 e a b c o ⟨s.free fr.at_,s.free fr.ea,s.free fr.oa,s.free fr.ba⟩ λb' o' hb hne=>k b' o' (s _ _ hb) hne
theorem Zg(F:Dj K "_law_founded" "_law_founded" Ej f fd)(T:Gz K mg CB CH)(Tx:Txt mg)(mO:mg "AtOdds" = some (.ref CO))(eO:QV K (.ref CO) (.ref CO)=some true)(GX:Al P w K mg base (Gp P w) 5 fF dF ["self","name","elders"] (Ly CB CH CO))(GF:We P w K mg 4 fF dF ["self","name","elders"] (Oj CB CH))(bF3:Binds K dF ["self","name","elders"] [])(mF:Dt K CB "found" fF):
 Al P w K mg base Jd 6 f fd ["_law_book","_law_names","_law_name","_law_cell"] (Ka CB CH):=by
 refine F.ok1 Ge (λvs H Q E h=>?_) (λcdv A outer s H vs Q E hr h=>?_)
 ·obtain⟨p,d,na,L,x,c,rfl,_⟩:=h
  rfl
 obtain⟨p,d,na,L,x,c,rfl,B,ena,O,hL,hx,hn,q⟩:=h
 obtain⟨t5,h5,p5⟩:=Xf (f:=f) T mO eO GX GF bF3 mF cdv A outer s H E hr Q
 have nd:(L.map (·.nm)).Nodup:=B.nd
 have ln:(L.map (·.nm)).length=L.length:=JF _
 -- if len(names) > 6
 refine Gh (tail:=(Bg Ej).drop 4) (λtt=>∀(H1:Hp)(ea:JK)(el:List Str)(m:V),Am H H1->H1 ea=some (.lst (Az el))->vM (L.map (·.nm)) el->el.length<=L.length->tt { nx:=λ_ H'=>Q .non H',rt:=Q } [some (.ref p),some (.ref na),some (.str x),some (.int c),some m,some (.ref ea)] H1) ?_ ?_
 ·refine⟨_,Ac (Ay (Ar Yl (Bw Tx.len (pv 1)) Ae (Au _)) (Af (Bv 5 Ge.nd (Cj El (pv 1) (Cy (Jt Gs Ae)) Dx))) Ap) h5,λH1 ea el m s1 eea hel hl=>?_⟩
  refine⟨_,rfl,na,_,rfl,.inl (Aw.of (s1 _ _ ena)),_,_,rfl,rfl,_,rfl,Br (λc1=>?_) (λc1=>?_)⟩
  ·refine⟨_,rfl,_,rfl,_,rfl,na,_,rfl,Aw.of (s1 _ _ ena),λc2 hc2=>?_⟩
   obtain⟨el2,e2,k2,l2⟩:=qS nd
   rw[e2]
   obtain⟨H2,zz,s2,e3⟩:=lay hc2 (.lst (Az el2))
   rw[zz]
   have sA:=s1.trans s2
   exact p5 H2 p d na c2 L x el2 _ _ (B.same sA) (sA _ _ ena) O hL hx hn e3 k2.nd k2.sub (by omega) (q.same sA)
  ·have c1':¬ (6:Int) < ((Az (L.map (·.nm))).length:Int):=λz=>c1 (decide_eq_true z)
   rw[Av,ln] at c1'
   exact p5 H1 p d na ea L x el _ _ (B.same s1) (s1 _ _ ena) O hL hx hn eea hel.nd hel.sub (by omega) (q.same s1)
 intro t4 h4 p4
 -- two of them the other way round
 refine Gh (tail:=(Bg Ej).drop 3) (λtt=>∀(H1:Hp)(ea:JK)(el:List Str)(m:Int),Am H H1->H1 ea=some (.lst (Az el))->vM (L.map (·.nm)) el->el.length<=L.length->tt { nx:=λ_ H'=>Q .non H',rt:=Q } [some (.ref p),some (.ref na),some (.str x),some (.int c),some (.int m),some (.ref ea)] H1) ?_ ?_
 ·refine⟨_,Ac (Ay (PW.pt (Qn (Ar Cc (Aq Ca (pv 4) Ae) Ae (Au _)) (Lc (Ar Yl (Bw Tx.len (pv 5)) Ae (Au _)))))
   (Af (Bv 5 Ge.nd (Aq Jp (Df (Em (As Bj (pv 5) Ae (λ_ _=>rfl)) (As Bj (pv 5) Ae (λ_ _=>rfl)))) (Cj El (pv 5) (Cy Ae) Dx)))) Ap) h4,λH1 ea el m s1 eea hel hl=>?_⟩
  refine⟨_,rfl,_,_,rfl,rfl,(by show (0:Int) < 5;decide),rfl,_,rfl,Br (λc1=>?_) (λc1=>p4 H1 ea el _ s1 eea hel hl)⟩
  refine⟨_,rfl,ea,_,rfl,.inl (Aw.of eea),_,_,rfl,rfl,_,rfl,Br (λc2=>?_) (λc2=>p4 H1 ea el _ s1 eea hel hl)⟩
  have c2':(1:Int) < ((Az el).length:Int):=of_decide_eq_true c2
  rw[Av] at c2'
  match el,hel,hl,eea,c2' with
  | a0::a1::r,hel,hl,eea,_=>
   refine⟨_,rfl,ea,_,_,_,rfl,rfl,Aw.of eea,Bc (j:=1) rfl,_,rfl,ea,_,_,_,rfl,rfl,Aw.of eea,Bc (j:=0) rfl,by show 2<=JM;decide,λl2 hl2=>?_⟩
   obtain⟨H2,zz,s2,e2⟩:=lay hl2 (.lst [V.str a1,V.str a0])
   rw[zz]
   refine⟨_,rfl,_,rfl,ea,_,rfl,Aw.of (s2 _ _ eea),λl3 hl3=>?_⟩
   have ecut:Ga (Az (a0::a1::r)) (some 2) none=Az r:=by
    have e:HT.sIx (Az (a0::a1::r)).length 0 (some ((2:Nat):Int))=2:=by rw[HT.sIx_nat,Av];simp
    unfold Ga
    rw[show HT.sIx (Az (a0::a1::r)).length 0 (some 2)=2 from e]
    show List.take ((Az (a0::a1::r)).length-2) (Az r)=Az r
    refine LJ ?_
    rw[Av,Av]
    simp
   rw[ecut]
   obtain⟨H3,zz,s3,e3⟩:=lay hl3 (.lst (Az r))
   rw[zz]
   refine⟨l2,l3,_,_,rfl,rfl,s3 _ _ e2,e3,by rw[Av,KO];simp only[LN,List.length_nil] at *;omega,λl4 hl4=>?_⟩
   have s4:=Ag hl4 (.lst ([V.str a1,V.str a0]++Az r))
   have nd':=hel.nd
   refine p4 _ l4 (a1::a0::r) _ (((s1.trans s2).trans s3).trans s4) Aa ⟨?_,λy hy=>hel.sub y ?_⟩ hl
   ·simp only[LQ,JP,not_or] at nd' ⊢
    exact⟨⟨LH nd'.1.1,nd'.2.1⟩,nd'.1.2,nd'.2.2⟩
   ·simp only[JP] at hy ⊢
    rcases hy with h | h | h
    ·exact .inr (.inl h)
    ·exact .inl h
    ·exact .inr (.inr h)
 intro t3 h3 p3
 -- the last one alone
 refine Gh (tail:=(Bg Ej).drop 2) (λtt=>∀(H1:Hp)(ea:JK)(el:List Str)(m:Int),Am H H1->H1 ea=some (.lst (Az el))->vM (L.map (·.nm)) el->el.length<=L.length->tt { nx:=λ_ H'=>Q .non H',rt:=Q } [some (.ref p),some (.ref na),some (.str x),some (.int c),some (.int m),some (.ref ea)] H1) ?_ ?_
 ·refine⟨_,Ac (Ay (Ar Cc (Aq Ca (pv 4) Ae) Ae (Au _)) (Af (Bv 5 Ge.nd (Cj El (pv 1) (Cy (Jt Gs Ae)) Dx))) Ap) h3,λH1 ea el m s1 eea hel hl=>?_⟩
  refine⟨_,rfl,_,_,rfl,rfl,(by show (0:Int) < 5;decide),rfl,_,rfl,Br (λc1=>?_) (λc1=>p3 H1 ea el m s1 eea hel hl)⟩
  refine⟨_,rfl,_,rfl,_,rfl,na,_,rfl,Aw.of (s1 _ _ ena),λc2 hc2=>?_⟩
  obtain⟨el2,e2,k2,l2⟩:=qS nd
  rw[e2]
  have s2:=Ag hc2 (.lst (Az el2))
  refine p3 _ c2 el2 m (s1.trans s2) Aa k2 ?_
  have:=len_sub k2.nd k2.sub
  omega
 intro t2 h2 p2
 refine⟨_,Ac (Mr (i:=4) Ge.nd rfl (Or.inr rfl) (Aq Ca (Aq Kq (pv 3) Ae) Ae))
  (Ac (Dd (i:=5) (Ad Ej) HZ ["_law_k"] [("_law_mixed_here", 4),("_law_names", 1)] rfl Ge.nd rfl rfl (vW rfl Tx.range (Ja (Aq Jg (Bw Tx.len (pv 1)) Ae) (Jt Gs Ae) (Jt Gs Ae))) (Bm (i:=0) (by decide)) (λ_ _ _ _ _ _=>⟨Dg 0 CZ,
   Us (Ar Yl (Aq Ca (Aq Dy (pv 1) (Aq Cm (pv 0) Ae)) Ae) Ae (Au _)),As (Wk (K:=K)) (pv 2) (pv 0) (λ_ _=>rfl)⟩)) h2),?_⟩
 refine⟨_,rfl,_,_,rfl,rfl,.inr ⟨by decide,by decide⟩,_,_,rfl,rfl,(by show (0:Int) < 2147483647;decide),?_⟩
 dsimp only
 generalize c * 48271 % 2147483647=m
 have lsv:(Az (L.map (·.nm))).length=L.length:=by rw[Av,ln]
 refine⟨_,rfl,na,_,rfl,.inl (Aw.of ena),_,_,rfl,rfl,_,rfl,_,rfl,_,_,rfl,⟨by omega,by omega,by decide,by decide⟩,?_⟩
 refine Zn (λi ys H1=>H1=H/\∃el,ys=Az el/\el.Nodup/\el.length<=i/\∀y∈el,∃j:Nat,L.length<=j+i/\(L.map (·.nm))[j]? = some y) ⟨rfl,[],rfl,OR,LG _,λy hy=>nomatch hy⟩ ?_ ?_
 ·rintro i ys H1 hi ⟨rfl,el,rfl,nde,hle,hin⟩
  have hi':i < L.length:=by omega
  have hk:(((Az (L.map (·.nm))).length:Int)-1-(i:Int))=((L.length-1-i:Nat):Int):=by omega
  rw[hk]
  have hlt:L.length-1-i < (L.map (·.nm)).length:=by omega
  obtain⟨y,hy⟩:∃y,(L.map (·.nm))[L.length-1-i]? = some y:=⟨_,JG hlt⟩
  refine⟨_,rfl,_,rfl,_,_,rfl,rfl,_,_,rfl,rfl,⟨by omega,by omega⟩,_,_,rfl,rfl,(by show (0:Int) < 3;decide),_,_,rfl,rfl,_,rfl,Br (λc1=>?_) (λc1=>?_)⟩
  ·refine⟨_,rfl,_,rfl,na,_,_,_,rfl,rfl,Aw.of ena,Bc (j:=L.length-1-i) (by unfold Az;rw[KJ,hy];rfl),by rw[Av,KO];omega,rfl,el++[y],by unfold Az;rw[JT];rfl,?_,by rw[JJ,JU];omega,λz hz=>?_⟩
   ·refine OA.mpr ⟨nde,by simp,λa ha b hb=>?_⟩
    rw[JL.mp hb]
    intro e
    subst e
    obtain⟨j,hj,hjy⟩:=hin a ha
    have:=(List.getElem?_inj (JB.mp hjy).1 nd).mp (hjy.trans hy.symm)
    omega
   ·rcases KI.mp hz with h | h
    ·obtain⟨j,hj,hjy⟩:=hin z h
     exact⟨j,by omega,hjy⟩
    ·rw[JL.mp h]
     exact⟨L.length-1-i,by omega,hy⟩
  ·exact⟨rfl,el,rfl,nde,by omega,λz hz=>let ⟨j,a,b⟩:=hin z hz;⟨j,by omega,b⟩⟩
 ·rintro ys H1 ⟨rfl,el,rfl,nde,hle,hin⟩ ea hea
  refine p2 _ ea el m (Ag hea _) Aa ⟨nde,λy hy=>let ⟨j,_,b⟩:=hin y hy;JY b⟩ ?_
  have:=len_sub nde (m:=L.map (·.nm)) λy hy=>let ⟨j,_,b⟩:=hin y hy;JY b
  omega
end
end Bk
namespace Ah
inductive CR where
 | ans (k:Nat) | una (k:Nat) | spent
abbrev RecC:=Nat->Nat->CR
def cLd(R:RecC)(k:Nat):Ld->CR
 | .none=>.una k
 | .go p=>R p k
def cEi(R:RecC)(a b:Ld)(k:Nat):CR:=match cLd R k a with
 | .una k'=>cLd R k' b
 | .ans k'=>.ans k'
 | .spent=>.spent
def cSt(R:RecC)(k:Nat):Stp->CR
 | .ld l=>cLd R k l
 | .ei a b=>cEi R a b k
 | .oth=>.ans k
def cSts(R:RecC):List Stp->Nat->CR
 | [],k=>.ans k
 | s::t,k=>match cSt R k s with
  | .ans k'=>cSts R t k'
  | .una k'=>.una k'
  | .spent=>.spent
def Ul(row:Nat->List Stp):Nat->RecC
 | 0=>λ_ _=>.spent
 | m+1=>λp k=>match k with
  | 0=>.spent
  | k'+1=>cSts (Ul row m) (row p) k'
def Le(k:Nat):CR->Prop
 | .ans k'=>k'<=k
 | .una k'=>k'<=k
 | .spent=>True
theorem Le.mono{k k':Nat}(h:k<=k'):∀ {r:CR},Le k r->Le k' r
 | .ans _,z=>KS z h
 | .una _,z=>KS z h
 | .spent,_=>trivial
def Wn(R:RecC):Prop:=∀p k,Le k (R p k)
theorem Vz{R:RecC}(h:Wn R){k:Nat}:∀l,Le k (cLd R k l)
 | .none=>JI _
 | .go p=>h p k
theorem lF{R:RecC}(h:Wn R){k:Nat}:∀s,Le k (cSt R k s)
 | .ld l=>Vz h l
 | .oth=>JI _
 | .ei a b=>by
  show Le k (cEi R a b k)
  have h1:=Vz h (k:=k) a
  unfold cEi
  cases e:cLd R k a with
  | ans k'=>rw[e] at h1;exact h1
  | una k'=>rw[e] at h1;exact(Vz h b).mono h1
  | spent=>trivial
theorem eN{R:RecC}(h:Wn R):∀ {r:List Stp} {k:Nat},Le k (cSts R r k)
 | [],_=>JI _
 | s::t,k=>by
  have h1:=lF h (k:=k) s
  unfold cSts
  cases e:cSt R k s with
  | ans k'=>rw[e] at h1;exact(eN h).mono h1
  | una k'=>rw[e] at h1;exact h1
  | spent=>trivial
theorem Vy(row:Nat->List Stp):∀m,Wn (Ul row m)
 | 0=>λ_ _=>trivial
 | m+1=>λp k=>by
  cases k with
  | zero=>trivial
  | succ k=>exact(eN (Vy row m)).mono (OI k)
def Agree(k:Nat)(R R':RecC):Prop:=∀p j,j<=k->R p j=R' p j
theorem Agree.le{k k':Nat}{R R':RecC}(h:Agree k R R')(hk:k'<=k):Agree k' R R':=λp j hj=>h p j (KS hj hk)
theorem aS{R R':RecC}{k:Nat}(h:Agree k R R'):∀l,cLd R k l=cLd R' k l
 | .none=>rfl
 | .go p=>h p k (JI _)
theorem yU{R R':RecC}{k:Nat}(h:Agree k R R')(hl:Wn R):∀s,cSt R k s=cSt R' k s
 | .ld l=>aS h l
 | .oth=>rfl
 | .ei a b=>by
  show cEi R a b k=cEi R' a b k
  unfold cEi
  rw[<- aS h a]
  have h1:=Vz hl (k:=k) a
  cases e:cLd R k a with
  | ans k'=>rfl
  | una k'=>rw[e] at h1;exact aS (h.le h1) b
  | spent=>rfl
theorem Vw{R R':RecC}(hl:Wn R):∀ {r:List Stp} {k:Nat},Agree k R R'->cSts R r k=cSts R' r k
 | [],_,_=>rfl
 | s::t,k,h=>by
  unfold cSts
  rw[<- yU h hl s]
  have h1:=lF hl (k:=k) s
  cases e:cSt R k s with
  | ans k'=>rw[e] at h1;exact Vw hl (h.le h1)
  | una k'=>rfl
  | spent=>rfl
theorem eU(row:Nat->List Stp):∀(k m m':Nat),k < m->k < m'->Agree k (Ul row m) (Ul row m')
 | k,0,_,h,_=>absurd h (Nat.not_lt_zero _)
 | k,_,0,_,h=>absurd h (Nat.not_lt_zero _)
 | k,m+1,m'+1,h,h'=>λp j hj=>by
  cases j with
  | zero=>rfl
  | succ j=>
   show cSts (Ul row m) (row p) j=cSts (Ul row m') (row p) j
   exact Vw (Vy row m) (eU row j m m' (by omega) (by omega))
termination_by k m m'=>m
def cR(row:Nat->List Stp):RecC:=λp k=>Ul row (k+1) p k
theorem yR(row:Nat->List Stp){m p k:Nat}(h:k < m):Ul row m p k=cR row p k:=eU row k m (k+1) h (QC k) p k (JI _)
theorem uR(row:Nat->List Stp)(p:Nat):cR row p 0=.spent:=rfl
theorem cR_succ(row:Nat->List Stp)(p k:Nat):cR row p (k+1)=cSts (cR row) (row p) k:=by
 show cSts (Ul row (k+1)) (row p) k=_
 exact Vw (Vy row _) λq j hj=>yR row (by omega)
def val:Nd->Nat->CR
 | .ans j,k=>if j<=k then .ans (k-j) else .spent
 | .una j,k=>if j<=k then .una (k-j) else .spent
 | .nev,_=>.spent
 | .need _,_=>.spent
section
variable {row:Nat->List Stp} {n:Nat} {m:Mp}
theorem cI(hm:∀p,p < n->m p≠none){k:Nat}(ih:∀p e,m p=some e->cR row p k=val e k){l:Ld}(hl:∀p∈ldsL l,p < n):cLd (cR row) k l=val (Hx m l) k:=by
 cases l with
 | none=>
  show CR.una k=if 0<=k then CR.una (k-0) else .spent
  rw[if_pos (LG _),Nat.sub_zero]
 | go p=>
  have hp:=hm p (hl p (JL.mpr rfl))
  cases e:m p with
  | none=>exact absurd e hp
  | some x=>
   show cR row p k=val ((m p).getD (.need p)) k
   rw[e]
   exact ih p x e
theorem AR(hm:∀p,p < n->m p≠none){K:Nat}(ih:∀k,k<=K->∀p e,m p=some e->cR row p k=val e k){k:Nat}(hk:k<=K){s:Stp}(hl:∀p∈Qa s,p < n):cSt (cR row) k s=val (Rf m s) k:=by
 cases s with
 | ld l=>exact cI hm (ih k hk) hl
 | oth=>
  show CR.ans k=if 0<=k then CR.ans (k-0) else .spent
  rw[if_pos (LG _),Nat.sub_zero]
 | ei a b=>
  have ha:=cI hm (ih k hk) (l:=a) λp hp=>hl p (MG _ hp)
  show cEi (cR row) a b k=val (rL (Hx m a) (Hx m b)) k
  unfold cEi
  rw[ha]
  cases x:Hx m a with
  | ans j=>
   show (match (if j<=k then CR.ans (k-j) else .spent) with | .una k'=>cLd (cR row) k' b | .ans k'=>.ans k' | .spent=>.spent)=if j<=k then CR.ans (k-j) else .spent
   by_cases c:j<=k
   ·rw[if_pos c]
   ·rw[if_neg c]
  | nev=>rfl
  | need p=>rfl
  | una j=>
   show (match (if j<=k then CR.una (k-j) else .spent) with | .una k'=>cLd (cR row) k' b | .ans k'=>.ans k' | .spent=>.spent)=val (Nt j (Hx m b)) k
   by_cases c:j<=k
   ·rw[if_pos c]
    show cLd (cR row) (k-j) b=_
    rw[cI hm (ih (k-j) (by omega)) (l:=b) λp hp=>hl p (JX _ hp)]
    cases y:Hx m b with
    | ans i=>
     show (if i<=k-j then CR.ans (k-j-i) else .spent)=if j+i<=k then CR.ans (k-(j+i)) else .spent
     by_cases c2:i<=k-j
     ·rw[if_pos c2,if_pos (by omega),Nat.sub_sub]
     ·rw[if_neg c2,if_neg (by omega)]
    | una i=>
     show (if i<=k-j then CR.una (k-j-i) else .spent)=if j+i<=k then CR.una (k-(j+i)) else .spent
     by_cases c2:i<=k-j
     ·rw[if_pos c2,if_pos (by omega),Nat.sub_sub]
     ·rw[if_neg c2,if_neg (by omega)]
    | nev=>rfl
    | need p=>rfl
   ·rw[if_neg c]
    cases y:Hx m b with
    | ans i=>
     show CR.spent=if j+i<=k then CR.ans (k-(j+i)) else .spent
     rw[if_neg (by omega)]
    | una i=>
     show CR.spent=if j+i<=k then CR.una (k-(j+i)) else .spent
     rw[if_neg (by omega)]
    | nev=>rfl
    | need p=>rfl
def CG(c:Nat):Nd->Nat->CR
 | .ans j,k=>if j<=c+k then .ans (c+k-j) else .spent
 | .una j,k=>if j<=c+k then .una (c+k-j) else .spent
 | .nev,_=>.spent
 | .need _,_=>.spent
theorem gL(hm:∀p,p < n->m p≠none){K:Nat}(ih:∀k,k<=K->∀p e,m p=some e->cR row p k=val e k):∀ {r:List Stp} {k c:Nat},k<=K->(∀s∈r,∀p∈Qa s,p < n)->cSts (cR row) r k=CG c (rowE m c r) k
 | [],k,c,_,_=>by
  show CR.ans k=if c<=c+k then CR.ans (c+k-c) else .spent
  rw[if_pos (QD _ _),Nat.add_sub_cancel_left]
 | s::t,k,c,hk,hl=>by
  have hs:=AR hm ih hk (s:=s) (hl s (JS ..))
  unfold cSts rowE
  rw[hs]
  cases x:Rf m s with
  | ans j=>
   show (match (if j<=k then CR.ans (k-j) else .spent) with | .ans k'=>cSts (cR row) t k' | .una k'=>.una k' | .spent=>.spent)=CG c (rowE m (c+j) t) k
   by_cases h:j<=k
   ·rw[if_pos h]
    show cSts (cR row) t (k-j)=_
    rw[gL hm ih (r:=t) (k:=k-j) (c:=c+j) (by omega) λs' hs'=>hl s' (JQ _ hs')]
    cases rowE m (c+j) t with
    | ans i=>
     show (if i<=c+j+(k-j) then CR.ans (c+j+(k-j)-i) else .spent)=if i<=c+k then CR.ans (c+k-i) else .spent
     rw[show c+j+(k-j)=c+k by omega]
    | una i=>
     show (if i<=c+j+(k-j) then CR.una (c+j+(k-j)-i) else .spent)=if i<=c+k then CR.una (c+k-i) else .spent
     rw[show c+j+(k-j)=c+k by omega]
    | nev=>rfl
    | need p=>rfl
   ·rw[if_neg h]
    obtain⟨p1,p2⟩:=Tt (m:=m) (r:=t) (c:=c+j)
    cases e:rowE m (c+j) t with
    | ans i=>
     have:=p1 i e
     show CR.spent=if i<=c+k then CR.ans (c+k-i) else .spent
     rw[if_neg (by omega)]
    | una i=>
     have:=p2 i e
     show CR.spent=if i<=c+k then CR.una (c+k-i) else .spent
     rw[if_neg (by omega)]
    | nev=>rfl
    | need p=>rfl
  | una j=>
   show (match (if j<=k then CR.una (k-j) else .spent) with | .ans k'=>cSts (cR row) t k' | .una k'=>.una k' | .spent=>.spent)=if c+j<=c+k then CR.una (c+k-(c+j)) else .spent
   by_cases h:j<=k
   ·rw[if_pos h,if_pos (by omega),show c+k-(c+j)=k-j by omega]
   ·rw[if_neg h,if_neg (by omega)]
  | nev=>rfl
  | need p=>rfl
theorem told_val(T:Told row n m)(hm:∀p,p < n->m p≠none)(hl:∀p,p < n->∀s∈row p,∀q∈Qa s,q < n):∀K k,k<=K->∀p e,m p=some e->cR row p k=val e k
 | 0,k,hk,p,e,he=>by
  obtain rfl:k=0:=by omega
  have hf:=T.fo p e he
  obtain⟨p1,p2⟩:=Tt (m:=m) (r:=row p) (c:=1)
  rw[uR]
  cases e with
  | ans j=>
   have:=p1 j hf
   show CR.spent=if j<=0 then _ else _
   rw[if_neg (by omega)]
  | una j=>
   have:=p2 j hf
   show CR.spent=if j<=0 then _ else _
   rw[if_neg (by omega)]
  | nev=>rfl
  | need q=>rfl
 | K+1,k,hk,p,e,he=>by
  have ih:=told_val T hm hl K
  by_cases h:k<=K
  ·exact ih k h p e he
  ·obtain rfl:k=K+1:=by omega
   have hf:=T.fo p e he
   rw[cR_succ,gL (c:=1) hm ih (JI K) (hl p (T.ky p e he)),hf]
   cases e with
   | ans j=>
    show (if j<=1+K then CR.ans (1+K-j) else .spent)=if j<=K+1 then CR.ans (K+1-j) else .spent
    rw[Nat.add_comm]
   | una j=>
    show (if j<=1+K then CR.una (1+K-j) else .spent)=if j<=K+1 then CR.una (K+1-j) else .spent
    rw[Nat.add_comm]
   | nev=>rfl
   | need q=>rfl
end
end Ah
namespace Bk
open PySem L2 Mg Nm Rk
def AB:Res->Ah.CR
 | .ok _ k _=>.ans k
 | .una k _=>.una k
 | .spent=>.spent
def EO(ld:Str->Nat->Ah.Ld)(w:Str)(ix:Nat):Stp->Ah.Stp
 | .sm _=>.oth
 | .onw=>.ld (ld w (ix+1))
 | .ask y=>.ld (ld y 0)
 | .tri y z=>.ei (ld y 0) (ld z 0)
structure gW(B:Ci)(rs:List Str)(ld:Str->Nat->Ah.Ld)(row:Nat->List Ah.Stp):Prop where
 non:∀w pl,findF B w pl (rs.drop pl)=none->ld w pl=.none
 som:∀w pl ix body,findF B w pl (rs.drop pl)=some (ix,body)->∃p,ld w pl=.go p/\row p=body.map (EO ld w ix)
section
variable {R:Ha} {C:Ah.RecC} {ld:Str->Nat->Ah.Ld} {k:Nat}
theorem pQ(h:∀w pl n j sd,j<=k->AB (R w pl n j sd)=Ah.cLd C j (ld w pl))(hl:Wn R){w:Str}{ix:Nat}{n:Int}{j:Nat}{sd:List Int}(hj:j<=k):∀s:Stp,AB (Hd R w ix n j sd s)=Ah.cSt C j (EO ld w ix s)
 | .sm _=>rfl
 | .onw=>h _ _ _ _ _ hj
 | .ask _=>h _ _ _ _ _ hj
 | .tri y z=>by
  show AB (Np R y z n j sd)=Ah.cEi C (ld y 0) (ld z 0) j
  unfold Np Ah.cEi
  rw[<- h y 0 n j sd hj]
  have h1:=hl y 0 n j sd
  cases e:R y 0 n j sd with
  | ok a b c=>rfl
  | una k' s'=>
   rw[e] at h1
   exact h z 0 n k' sd (KS h1 hj)
  | spent=>rfl
theorem Tg(h:∀w pl n j sd,j<=k->AB (R w pl n j sd)=Ah.cLd C j (ld w pl))(hl:Wn R){w:Str}{ix:Nat}:∀ {ss:List Stp} {n:Int} {j:Nat} {sd:List Int},j<=k->AB (Dv R w ix ss n j sd)=Ah.cSts C (ss.map (EO ld w ix)) j
 | [],_,_,_,_=>rfl
 | s::ss,n,j,sd,hj=>by
  rw[LU]
  unfold Dv Ah.cSts
  rw[<- pQ h hl hj s (n:=n) (sd:=sd)]
  have h1:=Vt hl (w:=w) (ix:=ix) (n:=n) (k:=j) (sd:=sd) s
  cases e:Hd R w ix n j sd s with
  | ok a k' c=>rw[e] at h1;exact Tg h hl (KS h1 hj)
  | una k' c=>rfl
  | spent=>rfl
end
theorem BN(B:Ci)(rs:List Str):Wn (rS B rs):=λw pl n k sd=>Vv B rs (k+1) w pl n k sd
theorem Wz{B:Ci}{rs:List Str}{ld:Str->Nat->Ah.Ld}{row:Nat->List Ah.Stp}(h:gW B rs ld row):∀(K k:Nat),k<=K->∀w pl n sd,AB (rS B rs w pl n k sd)=Ah.cLd (Ah.cR row) k (ld w pl)
 | K,k,hk,w,pl,n,sd=>by
  cases e:findF B w pl (rs.drop pl) with
  | none=>
   rw[vI e,h.non w pl e]
   rfl
  | some q=>
   obtain⟨ix,body⟩:=q
   obtain⟨p,e1,e2⟩:=h.som w pl ix body e
   rw[e1]
   show _=Ah.cR row p k
   cases k with
   | zero=>
    rw[sL e]
    rfl
   | succ k=>
    cases K with
    | zero=>omega
    | succ K=>
     rw[tN e,Ah.cR_succ,e2]
     exact Tg (k:=K) (λw pl n j sd hj=>Wz h K j hj w pl n sd) (BN B rs) (by omega)
def kn(B:Ci)(rs:List Str)(w:Str)(pl:Nat):Nat:=((rs.take pl).filter λy=>(B y w).isSome).length
theorem fX(B:Ci)(rs:List Str)(w:Str):kn B rs w 0=0:=rfl
theorem oM{B:Ci}{rs:List Str}{w y:Str}{j:Nat}{b:List Stp}(h:rs[j]? = some y)(hb:B y w=some b):kn B rs w (j+1)=kn B rs w j+1:=by
 unfold kn
 rw[MD,h,List.filter_append,JJ]
 show _+([y].filter λy=>(B y w).isSome).length=_
 rw[List.filter_cons_of_pos (by rw[hb];rfl)]
 rfl
theorem wX{B:Ci}{rs:List Str}{w y:Str}{j:Nat}(h:rs[j]? = some y)(hb:B y w=none):kn B rs w (j+1)=kn B rs w j:=by
 unfold kn
 rw[MD,h,List.filter_append,JJ]
 show _+([y].filter λy=>(B y w).isSome).length=_
 rw[List.filter_cons_of_neg (by rw[hb];exact JN)]
 rfl
theorem Vf{B:Ci}{rs:List Str}{w:Str}{pl:Nat}:∀(d:Nat),(∀t y,pl<=t->t < pl+d->rs[t]? = some y->B y w=none)->kn B rs w (pl+d)=kn B rs w pl
 | 0,_=>rfl
 | d+1,h=>by
  have ih:=Vf d λt y h1 h2=>h t y h1 (by omega)
  show kn B rs w ((pl+d)+1)=_
  cases e:rs[pl+d]? with
  | none=>
   rw[<- ih]
   have hl:rs.length<=pl+d:=List.getElem?_eq_none_iff.mp e
   unfold kn
   rw[LJ hl,LJ (by omega)]
  | some y=>rw[wX e (h (pl+d) y (by omega) (by omega) e),ih]
theorem gH{B:Ci}{w:Str}:∀ {ys:List Str} {i ix:Nat} {body:List Stp},findF B w i ys=some (ix,body)->∃j y,ix=i+j/\ys[j]? = some y/\B y w=some body/\∀t z,t < j->ys[t]? = some z->B z w=none
 | [],_,_,_,h=>nomatch h
 | y::ys,i,ix,body,h=>by
  unfold findF at h
  cases e:B y w with
  | some b=>
   rw[e] at h
   cases h
   exact⟨0,y,rfl,rfl,e,λt z ht=>absurd ht (Nat.not_lt_zero _)⟩
  | none=>
   rw[e] at h
   obtain⟨j,z,h1,h2,h3,h4⟩:=gH h
   refine⟨j+1,z,by omega,h2,h3,λt u ht hu=>?_⟩
   cases t with
   | zero=>cases hu;exact e
   | succ t=>exact h4 t u (by omega) hu
theorem gC{B:Ci}{w:Str}:∀ {ys:List Str} {i:Nat},findF B w i ys=none->∀(t:Nat)(z:Str),ys[t]? = some z->B z w=none
 | [],_,_,t,z,h=>by simp at h
 | y::ys,i,h,t,z,hz=>by
  unfold findF at h
  cases e:B y w with
  | some b=>rw[e] at h;cases h
  | none=>
   rw[e] at h
   cases t with
   | zero=>cases hz;exact e
   | succ t=>exact gC h t z hz
structure Kh(B:Ci)(rs:List Str)(j:Nat)(ds:List Str)(lad:Str->List Nat)(es:List (Str×Nat×List Stp)):Prop where
 len:∀w,(lad w).length=kn B rs w j+if w∈ds then 1 else 0
 old:∀ix y w body,ix < j->rs[ix]? = some y->B y w=some body->∃p,(lad w)[kn B rs w ix]? = some p/\es[p]? = some (w,kn B rs w ix+1,body)
 cur:∀y w body,rs[j]? = some y->w∈ds->B y w=some body->∃p,(lad w)[kn B rs w j]? = some p/\es[p]? = some (w,kn B rs w j+1,body)
 lt:∀w,∀p∈lad w,p < es.length
theorem Kh.nil(B:Ci)(rs:List Str):Kh B rs 0 [] (λ_=>[]) []:=⟨λw=>by rw[fX];rfl,λix y w body h=>absurd h (Nat.not_lt_zero _),(λy w body _ h=>nomatch h),(λw p h=>nomatch h)⟩
def Kr(lad:Str->List Nat)(v:Str)(n:Nat):Str->List Nat:=λw=>if w=v then lad w++[n] else lad w
theorem Kh.add{B:Ci}{rs:List Str}{j:Nat}{ds:List Str}{lad:Str->List Nat}{es:List (Str×Nat×List Stp)}(h:Kh B rs j ds lad es){y v:Str}{b:List Stp}(hy:rs[j]? = some y)(hv:v∉ds)(hb:B y v=some b):Kh B rs j (ds++[v]) (Kr lad v es.length) (es++[(v,(lad v).length+1,b)]):=by
 have hl:(lad v).length=kn B rs v j:=by rw[h.len v,if_neg hv];rfl
 have keep:∀ {w:Str} {i p:Nat},(lad w)[i]? = some p->(Kr lad v es.length w)[i]? = some p:=λ{w i p} hp=>by
  unfold Kr
  by_cases hw:w=v
  ·rw[if_pos hw,KH (JB.mp hp).1]
   exact hp
  ·rw[if_neg hw]
   exact hp
 have keepE:∀ {p:Nat} {x:Str×Nat×List Stp},es[p]? = some x->(es++[(v,(lad v).length+1,b)])[p]? = some x:=λ{p x} hp=>by
  rw[KH (JB.mp hp).1]
  exact hp
 refine⟨λw=>?_,λix z w body h1 h2 h3=>?_,λz w body h1 h2 h3=>?_,λw p hp=>?_⟩
 ·unfold Kr
  by_cases hw:w=v
  ·rw[if_pos hw,hw,if_pos (JX _ (JL.mpr rfl)),JJ,hl]
   rfl
  ·rw[if_neg hw,h.len w]
   by_cases hd:w∈ds
   ·rw[if_pos hd,if_pos (MG _ hd)]
   ·rw[if_neg hd,if_neg (λz=>(KI.mp z).elim hd λq=>hw (JL.mp q))]
 ·obtain⟨p,p1,p2⟩:=h.old ix z w body h1 h2 h3
  exact⟨p,keep p1,keepE p2⟩
 ·rcases KI.mp h2 with q | q
  ·obtain⟨p,p1,p2⟩:=h.cur z w body h1 q h3
   exact⟨p,keep p1,keepE p2⟩
  ·obtain rfl:=JL.mp q
   rw[hy] at h1
   cases h1
   rw[hb] at h3
   cases h3
   refine⟨es.length,?_,?_⟩
   ·unfold Kr
    rw[if_pos rfl,<- hl,KA]
   ·rw[KA,hl]
 ·rw[JJ,JU]
  unfold Kr at hp
  by_cases hw:w=v
  ·rw[if_pos hw] at hp
   rcases KI.mp hp with q | q
   ·have:=h.lt w p q;omega
   ·have:=JL.mp q;omega
  ·rw[if_neg hw] at hp
   have:=h.lt w p hp;omega
theorem Kh.next{B:Ci}{rs:List Str}{j:Nat}{ds:List Str}{lad:Str->List Nat}{es:List (Str×Nat×List Stp)}(h:Kh B rs j ds lad es){y:Str}(hy:rs[j]? = some y)(hd:∀w,w∈ds ↔ (B y w).isSome=true):Kh B rs (j+1) [] lad es:=by
 refine⟨λw=>?_,λix z w body h1 h2 h3=>?_,(λz w body _ q=>nomatch q),h.lt⟩
 ·rw[h.len w]
  cases e:B y w with
  | some b=>rw[oM hy e,if_pos ((hd w).mpr (by rw[e];rfl))];rfl
  | none=>rw[wX hy e,if_neg (λz=>by have:=(hd w).mp z;rw[e] at this;cases this)];rfl
 ·by_cases hx:ix < j
  ·exact h.old ix z w body hx h2 h3
  ·obtain rfl:ix=j:=by omega
   rw[hy] at h2
   cases h2
   exact h.cur y w body hy ((hd w).mpr (by rw[h3];rfl)) h3
def Fl(lad:Str->List Nat)(w:Str)(r:Nat):Ah.Ld:=match (lad w)[r]? with
 | some p=>.go p
 | none=>.none
def DD(lad:Str->List Nat)(w:Str)(r:Nat):Stp->Ah.Stp
 | .sm _=>.oth
 | .onw=>.ld (Fl lad w r)
 | .ask y=>.ld (Fl lad y 0)
 | .tri y z=>.ei (Fl lad y 0) (Fl lad z 0)
def Hc(lad:Str->List Nat)(es:List (Str×Nat×List Stp)):List (List Ah.Stp):=es.map λe=>e.2.2.map (DD lad e.1 e.2.1)
theorem Kh.left{B:Ci}{rs:List Str}{lad:Str->List Nat}{es:List (Str×Nat×List Stp)}(h:Kh B rs rs.length [] lad es):gW B rs (λw pl=>Fl lad w (kn B rs w pl)) (λp=>(Hc lad es).getD p []):=by
 have hlen:∀w,(lad w).length=kn B rs w rs.length:=λw=>by rw[h.len w,if_neg (λz=>nomatch z)];rfl
 refine⟨λw pl e=>?_,λw pl ix body e=>?_⟩
 ·have hs:kn B rs w rs.length=kn B rs w pl∨rs.length<=pl:=by
   by_cases hp:rs.length<=pl
   ·exact .inr hp
   ·left
    obtain⟨d,hd⟩:∃d,rs.length=pl+d:=⟨rs.length-pl,by omega⟩
    rw[hd]
    refine Vf d λt y h1 _ ht=>gC e (t-pl) y ?_
    rw[RM,Nat.add_sub_cancel' h1]
    exact ht
  have hk:kn B rs w pl=kn B rs w rs.length:=by
   rcases hs with hs | hs
   ·exact hs.symm
   ·unfold kn
    rw[LJ hs,LJ (JI _)]
  show Fl lad w (kn B rs w pl)=.none
  unfold Fl
  rw[hk,<- hlen w,List.getElem?_eq_none (JI _)]
 ·obtain⟨j,y,h1,h2,h3,h4⟩:=gH e
  rw[RM,<- h1] at h2
  have hk:kn B rs w ix=kn B rs w pl:=by
   rw[h1]
   refine Vf j λt z t1 t2 ht=>h4 (t-pl) z (by omega) ?_
   rw[RM,Nat.add_sub_cancel' t1]
   exact ht
  have hix:ix < rs.length:=(JB.mp h2).1
  obtain⟨p,p1,p2⟩:=h.old ix y w body hix h2 h3
  refine⟨p,?_,?_⟩
  ·show Fl lad w (kn B rs w pl)=.go p
   unfold Fl
   rw[<- hk,p1]
  ·show (Hc lad es).getD p []=_
   unfold Hc
   rw[LF,KJ,p2]
   show body.map (DD lad w (kn B rs w ix+1))=body.map (EO _ w ix)
   refine List.map_congr_left λs _=>?_
   cases s with
   | sm s=>rfl
   | onw=>
    show Ah.Stp.ld (Fl lad w (kn B rs w ix+1))=Ah.Stp.ld (Fl lad w (kn B rs w (ix+1)))
    rw[oM h2 h3]
   | ask z=>rfl
   | tri a b=>rfl
end Bk
namespace Bk
open PySem L2 Mg Nm
section
variable {P:KC} {w:LL} {K:JC} {mg:Str->Option JD} {base:MQ} {f fH fN fB CB CH:JK} {fd dH dN dB:LB} {ks:List (Str×JK×List Str)}
theorem DW:An ["self","name"] ["self","name"] (Ad yZ):=Ez (by decide +kernel)
theorem yS(F:Dj K "own_words" "Book.own_words" yZ f fd)(T:Gz K mg CB CH)(Tx:Txt mg)(GH:Al P w K mg base Bi 1 fH dH ["self","name"] (Iy CB CH))(bH:Binds K dH ["self","name"] [])(mH:Dt K CB "house" fH):Al P w K mg base Jd 2 f fd ["self","name"] (nA CB CH):=by
 refine F.ok1 DW (λvs H Q E h=>?_) (λcdv A outer s H vs Q E hr h=>?_)
 ·obtain⟨p,d,L,x,e,W,rfl,_⟩:=h
  rfl
 obtain⟨p,d,L,x,e,W,rfl,B,he,hb,q⟩:=h
 obtain⟨dx,hp⟩:=B.ob
 have E:=B.en e (Fy he).1
 refine⟨_,Af (Ao (Dl (Qm rfl) rfl Tx.list NL (Du (Cp (Ee (pv 0) T.clB mH GH hr bH .nil Dh (Du (pv 1))) rfl)))),?_⟩
 refine⟨_,rfl,p,dx,_,rfl,hp,Gr d (by decide +kernel),_,rfl,p,d,L,x,e,rfl,B,he,e.at_,CH,e.dx,_,_,rfl,E.ob,T.clH,T.nBd,nL _ _ _,e.ba,_,rfl,Rd.of E.bd,λl hl=>?_⟩
 rw[hb,mZ]
 exact q l hl
end
end Bk
namespace L2
def eS(H H':Hp):Prop:=∀b xs,H b=some (.tup xs)->H' b=some (.tup xs)
theorem Am.keepT{H H':Hp}(h:Am H H'):eS H H':=λb xs e=>h _ _ e
end L2
namespace Ak
open PySem L2 Ah
open Bk (Nn Qv Ik Iq Fk Iv Oz)
structure Txt(mg:Str->Option JD):Prop where
 len:mg "len" = none
 range:mg "range" = none
 isi:mg "isinstance" = none
 list:mg "list" = none
 str:mg "str" = none
 all:mg "all" = none
 tup:mg "tuple" = none
 int:mg "int" = none
 bool:mg "bool" = none
theorem Ag{H:Hp}{p:JK}(h:H p=none)(o:HO):Am H (upd H p o):=λb u q=>by rw[Aj (Ai q h)];exact q
theorem Ub{kvs:List (Key×V)}{k:Key}{u v:V}(h:valV kvs k=some u):(putK kvs k v).length=kvs.length:=by
 unfold putK
 rw[Ey,h,if_pos (show (some u).isSome=true from rfl),JF]
theorem qF{kvs:List (Key×V)}{k:Key}{v:V}(h:valV kvs k=none):(putK kvs k v).length=kvs.length+1:=by
 unfold putK
 rw[Ey,h,if_neg (show ¬ (none:Option V).isSome=true from JN),JJ]
 rfl
theorem Bq{a b:Str}(h:decide (V.str a=V.str b)=true):a=b:=V.str.inj (of_decide_eq_true h)
theorem Dc{a b:Str}(h:¬ decide (V.str a=V.str b)=true):¬ a=b:=λe=>h (by rw[e];exact decide_eq_true rfl)
theorem IF{kd p q:Str}:kU (V.str kd) [V.str p,V.str q]=true ↔ kd=p∨kd=q:=by
 show ((p == kd) || ((q == kd) || false))=true ↔ _
 rw[Bool.or_false,Bool.or_eq_true,beq_iff_eq,beq_iff_eq]
 exact⟨λh=>h.imp Eq.symm Eq.symm,λh=>h.imp Eq.symm Eq.symm⟩
theorem sqt_same{K:JC}{H H':Hp}{a:JK}{xs:List V}(h:Am H H')(q:Co K H a xs):Co K H' a xs:=by
 rcases q with (q | ⟨o,q⟩) | q
 ·exact .inl (.inl (h _ _ q))
 ·exact .inl (.inr ⟨o,h _ _ q⟩)
 ·exact .inr q
def Fr(d:JK)(H H':Hp):Prop:=∀b o,H b=some o->b≠d->H' b=some o
theorem Fr.refl(d:JK)(H:Hp):Fr d H H:=λ_ _ h _=>h
theorem Fr.same{d:JK}{H H' H2:Hp}(f:Fr d H H')(s:Am H' H2):Fr d H H2:=λb o h n=>s _ _ (f b o h n)
theorem Fr.upd{d:JK}{H H':Hp}{o:HO}(f:Fr d H H'):Fr d H (upd H' d o):=λb u h n=>by rw[Aj n];exact f b u h n
theorem AU{K:JC}{H H':Hp}{a d:JK}{xs:List V}{kvs:List (Key×V)}(hd:H d=some (.dK kvs))(h:Fr d H H')(q:Co K H a xs):Co K H' a xs:=by
 rcases q with (q | ⟨o,q⟩) | q
 ·exact .inl (.inl (h _ _ q (Cd q hd (by intro z;cases z))))
 ·exact .inl (.inr ⟨o,h _ _ q (Cd q hd (by intro z;cases z))⟩)
 ·exact .inr q
def LdAt(H:Hp)(v:V):Ld->Prop
 | .none=>∃a,v=.ref a/\H a=some (.tup [.str "none"])
 | .go p=>∃a,v=.ref a/\H a=some (.tup [.str "go", .int (p:Nat)])
def StAt(H:Hp)(v:V):Stp->Prop
 | .ld l=>LdAt H v l
 | .ei x y=>∃a b c,v=.ref a/\H a=some (.tup [.str "either", b,c])/\LdAt H b x/\LdAt H c y
 | .oth=>∃(a:JK)(k:Str)(r:List V),v=.ref a/\H a=some (.tup (.str k::r))/\¬ k = "go" /\ ¬ k = "none" /\ ¬ k = "either" /\ (r=[] ∨ ∃n,r=[.int n])/\True/\True
theorem LdAt.keep{H H':Hp}(k:eS H H'){v:V}:∀ {l:Ld},LdAt H v l->LdAt H' v l
 | .none,⟨a,e,h⟩=>⟨a,e,k _ _ h⟩
 | .go _,⟨a,e,h⟩=>⟨a,e,k _ _ h⟩
theorem StAt.keep{H H':Hp}(k:eS H H'){v:V}:∀ {s:Stp},StAt H v s->StAt H' v s
 | .ld _,h=>LdAt.keep k h
 | .ei _ _,⟨a,b,c,e,h,h1,h2⟩=>⟨a,b,c,e,k _ _ h,h1.keep k,h2.keep k⟩
 | .oth,⟨a,x,r,e,h,z⟩=>⟨a,x,r,e,k _ _ h,z⟩
def StsAt(H:Hp):List V->List Stp->Prop:=RK (StAt H)
structure RwsAt(H:Hp)(ra:JK)(as:List JK)(vss:List (List V))(rows:List (List Stp)):Prop where
 lst:H ra=some (.lst (as.map V.ref))
 len:as.length=rows.length
 lev:vss.length=rows.length
 row:∀(i:Nat)(a:JK)(vs:List V),as[i]? = some a->vss[i]? = some vs->H a=some (.lst vs)
 sts:∀(i:Nat)(vs:List V)(r:List Stp),vss[i]? = some vs->rows[i]? = some r->StsAt H vs r
def wd:Nd->Str
 | .ans _ => "answers"
 | .una _ => "unanswered"
 | .nev => "never"
 | .need _ => "needs"
def ct:Nd->Int
 | .ans n=>(n:Nat)
 | .una n=>(n:Nat)
 | .nev=>0
 | .need p=>(p:Nat)
def EndV(K:JC)(H:Hp)(v:V)(e:Nd):Prop:=∃a,v=.ref a/\Co K H a [.str (wd e),.int (ct e)]
theorem EndV.same{K:JC}{H H':Hp}{v:V}{e:Nd}(h:EndV K H v e)(s:Am H H'):EndV K H' v e:=let ⟨a,z,q⟩:=h;⟨a,z,sqt_same s q⟩
theorem EndV.fr{K:JC}{H H':Hp}{d:JK}{kvs:List (Key×V)}{v:V}{e:Nd}(h:EndV K H v e)(hd:H d=some (.dK kvs))(f:Fr d H H'):EndV K H' v e:=let ⟨a,z,q⟩:=h;⟨a,z,AU hd f q⟩
theorem EndV.new{K:JC}{H:Hp}{a:JK}{e:Nd}(h:H a=some (.tup [.str (wd e),.int (ct e)])):EndV K H (.ref a) e:=⟨a,rfl,Co.of h⟩
theorem at0(x:V)(r:List V):Jb (x::r) 0=some x:=Bc (j:=0) rfl
theorem at1(x y:V)(r:List V):Jb (x::y::r) 1=some y:=Bc (j:=1) rfl
theorem at2(x y z:V)(r:List V):Jb (x::y::z::r) 2=some z:=Bc (j:=2) rfl
structure Dn(K:JC)(H:Hp)(d:JK)(kvs:List (Key×V))(n:Nat)(m:Mp):Prop where
 dic:H d=some (.dK kvs)
 len:kvs.length=cnt m n
 val:∀p:Nat,(m p=none/\valV kvs (NE (p:Int):Key)=none) ∨ ∃e v,m p=some e/\valV kvs (NE (p:Int):Key)=some v/\EndV K H v e
theorem Dn.same{K:JC}{H H':Hp}{d:JK}{kvs:List (Key×V)}{n:Nat}{m:Mp}(E:Dn K H d kvs n m)(s:Am H H'):Dn K H' d kvs n m:=
 ⟨s _ _ E.dic,E.len,λp=>(E.val p).imp id λ⟨e,v,h1,h2,h3⟩=>⟨e,v,h1,h2,h3.same s⟩⟩
theorem Dn.put{K:JC}{H:Hp}{d:JK}{kvs:List (Key×V)}{n q:Nat}{m:Mp}{v:V}{e:Nd}(E:Dn K H d kvs n m)(hq:q < n)(hv:EndV K H v e):Dn K (upd H d (.dK (putK kvs (NE (q:Int)) v))) d (putK kvs (NE (q:Int)) v) n (setM m q e):=by
 have f:Fr d H (upd H d (.dK (putK kvs (NE (q:Int)) v))):=(Fr.refl d H).upd
 refine⟨Aa,?_,λp=>?_⟩
 ·rcases E.val q with ⟨h1,h2⟩ | ⟨e',v',h1,h2,_⟩
  ·rw[qF h2,Vs h1 hq,E.len]
  ·rw[Ub h2,gO (by rw[h1];rfl),E.len]
 ·rw[Fp]
  by_cases c:p=q
  ·subst c
   rw[if_pos rfl,Cq]
   exact .inr ⟨e,v,rfl,rfl,hv.fr E.dic f⟩
  ·rw[if_neg (λz:(NE (p:Int):Key)=NE (q:Int)=>c (Int.ofNat.inj (NE.inj z))),Bh c]
   exact(E.val p).imp id λ⟨e',v',h1,h2,h3⟩=>⟨e',v',h1,h2,h3.fr E.dic f⟩
theorem gX{K:JC}{H:Hp}{a l:JK}{xs ys zs:List V}(hl:H l=some (.lst ys))(q:Co K H a xs):Co K (upd H l (.lst zs)) a xs:=by
 rcases q with (q | ⟨o,q⟩) | q
 ·exact .inl (.inl (by rw[Aj (Cd q hl (by intro z;cases z))];exact q))
 ·exact .inl (.inr ⟨o,by rw[Aj (Cd q hl (by intro z;cases z))];exact q⟩)
 ·exact .inr q
theorem Dn.other{K:JC}{H:Hp}{d l:JK}{kvs:List (Key×V)}{n:Nat}{m:Mp}{ys zs:List V}(E:Dn K H d kvs n m)(hl:H l=some (.lst ys))(hd:l≠d):Dn K (upd H l (.lst zs)) d kvs n m:=
 ⟨by rw[Aj (LH hd)];exact E.dic,E.len,λp=>(E.val p).imp id λ⟨e,v,h1,h2,a,z,h3⟩=>⟨e,v,h1,h2,a,z,gX hl h3⟩⟩
theorem kI{m:Mp}{q:Nat}{e e':Nd}:setM (setM m q e) q e'=setM m q e':=by
 funext x
 by_cases h:x=q
 ·subst h;rw[Cq,Cq]
 ·rw[Bh h,Bh h,Bh h]
theorem Jx:∀ {n:Nat} {ps:List Nat},ps.Nodup->(∀p∈ps,p < n)->ps.length<=n
 | 0,ps,_,h=>by
  cases ps with
  | nil=>exact JI _
  | cons p _=>exact absurd (h p (JS ..)) (Nat.not_lt_zero _)
 | n+1,ps,nd,h=>by
  have h1:(ps.erase n).Nodup:=nd.erase n
  have h2:∀p∈ps.erase n,p < n:=λp hp=>by
   have a1:=h p (List.mem_of_mem_erase hp)
   have a2:p≠n:=λz=>by rw[z] at hp;exact nd.not_mem_erase hp
   omega
  have h3:=Jx h1 h2
  rw[List.length_erase] at h3
  split at h3<;>omega
theorem iF{row:Nat->List Stp}{n:Nat}{m:Mp}{ps:List Nat}(h:Tr row n m ps):ps.length<=n:=Jx h.nd h.lt
section
variable {P:KC} {w:LL} {K:JC} {mg:Str->Option JD} {base:MQ} {f:JK} {fd:LB}
end
end Ak
namespace Ak
open PySem L2 Ah
open Bk (Nn Qv Ik Iq Fk Iv Oz)
def spEB(K:JC):Sp:=λvs H Q _=>∃(c:Nat)(v:V)(e:Nd),vs=[.int (c:Int),v]/\EndV K H v e/\∀v' H',Am H H'->EndV K H' v' (Nt c e)->Q v' H'
def spLd(K:JC):Sp:=λvs H Q _=>∃(v:V)(d:JK)(kvs:List (Key×V))(n:Nat)(m:Mp)(l:Ld),vs=[v,.ref d]/\LdAt H v l/\Dn K H d kvs n m/\∀v' H',Am H H'->EndV K H' v' (Hx m l)->Q v' H'
def spEi(K:JC):Sp:=λvs H Q _=>∃(v u:V)(d:JK)(kvs:List (Key×V))(n:Nat)(m:Mp)(l r:Ld),vs=[v,u,.ref d]/\LdAt H v l/\LdAt H u r/\Dn K H d kvs n m/\∀v' H',Am H H'->EndV K H' v' (rL (Hx m l) (Hx m r))->Q v' H'
def spSE(K:JC):Sp:=λvs H Q _=>∃(v:V)(d:JK)(kvs:List (Key×V))(n:Nat)(m:Mp)(st:Stp),vs=[v,.ref d]/\StAt H v st/\Dn K H d kvs n m/\∀v' H',Am H H'->EndV K H' v' (Rf m st)->Q v' H'
def spRE(K:JC):Sp:=λvs H Q _=>∃(a d:JK)(us:List V)(kvs:List (Key×V))(n:Nat)(m:Mp)(r:List Stp),vs=[.ref a,.ref d]/\H a=some (.lst us)/\StsAt H us r/\Dn K H d kvs n m/\∀v' H',Am H H'->EndV K H' v' (rowE m 1 r)->Q v' H'
theorem DR(e:Nd):(wd e = "needs" ∨ wd e = "never")->∀c,Nt c e=e:=by
 intro h c
 cases e with
 | ans n=>exact absurd h (by show ¬ (("answers" : Str) = "needs" ∨ ("answers" : Str) = "never");decide +kernel)
 | una n=>exact absurd h (by show ¬ (("unanswered" : Str) = "needs" ∨ ("unanswered" : Str) = "never");decide +kernel)
 | nev=>rfl
 | need p=>rfl
theorem AK(e:Nd)(c:Nat):¬ (wd e = "needs" ∨ wd e = "never")->wd (Nt c e)=wd e/\ct (Nt c e)=c+ct e:=by
 intro h
 cases e with
 | ans n=>exact⟨rfl,by show ((c+n:Nat):Int)=c+(n:Int);omega⟩
 | una n=>exact⟨rfl,by show ((c+n:Nat):Int)=c+(n:Int);omega⟩
 | nev=>exact absurd (.inr rfl) h
 | need p=>exact absurd (.inl rfl) h
theorem AT{e:Nd}(h:wd e = "unanswered"):∃n,e=.una n:=by
 cases e with
 | ans n=>exact absurd h (by show ¬ ("answers" : Str) = "unanswered"; decide +kernel)
 | una n=>exact⟨n,rfl⟩
 | nev=>exact absurd h (by show ¬ ("never" : Str) = "unanswered"; decide +kernel)
 | need p=>exact absurd h (by show ¬ ("needs" : Str) = "unanswered"; decide +kernel)
theorem xJ{e:Nd}(h:wd e = "answers"):∃n,e=.ans n:=by
 cases e with
 | ans n=>exact⟨n,rfl⟩
 | una n=>exact absurd h (by show ¬ ("unanswered" : Str) = "answers"; decide +kernel)
 | nev=>exact absurd h (by show ¬ ("never" : Str) = "answers"; decide +kernel)
 | need p=>exact absurd h (by show ¬ ("needs" : Str) = "answers"; decide +kernel)
theorem uH{e:Nd}(h:wd e = "needs"):∃p,e=.need p:=by
 cases e with
 | ans n=>exact absurd h (by show ¬ ("answers" : Str) = "needs"; decide +kernel)
 | una n=>exact absurd h (by show ¬ ("unanswered" : Str) = "needs"; decide +kernel)
 | nev=>exact absurd h (by show ¬ ("never" : Str) = "needs"; decide +kernel)
 | need p=>exact⟨p,rfl⟩
theorem sT{x y:Nd}(h:¬ wd x = "unanswered"):rL x y=x:=by
 cases x with
 | ans n=>rfl
 | una n=>exact absurd rfl h
 | nev=>rfl
 | need p=>rfl
section
variable {P:KC} {w:LL} {K:JC} {mg:Str->Option JD} {base:MQ} {f fB fS fE fR fT aN:JK} {fd dB dS dE dR dT:LB}
theorem FZ:An ["count","last"] ["count","last"] (Ad Iq):=Ez (by decide +kernel)
theorem ok_eb(F:Dj K "end_behind" "end_behind" Iq f fd):Al P w K mg base Bi 1 f fd ["count","last"] (spEB K):=by
 refine F.ok FZ (λvs H Q E h=>?_) (λcdv A outer s H vs Q E hr h=>?_)
 ·obtain⟨c,v,e,rfl,_⟩:=h
  rfl
 obtain⟨c,v,e,rfl,⟨a,rfl,hq⟩,q⟩:=h
 refine⟨_,Ac (Ay (Ar Hr (As Ax (pv 1) Ae (λ_ _=>rfl)) (Cb (Il (xs:=["needs","never"]) (by rfl))) rfl) (Af (Ao (pv 1))) Ap)
  (Af (Ao (Cb (Em (As Ax (pv 1) Ae (λ_ _=>rfl)) (Aq Cm (pv 0) (As Ax (pv 1) Ae (λ_ _=>rfl))))))),?_⟩
 refine⟨_,rfl,a,_,_,_,rfl,rfl,hq,at0 _ _,by show 2<=JM;decide,λtp htp=>⟨tp,_,rfl,.inr (Co.of Aa),rfl,rfl,_,rfl,Br (λc1=>?_) (λc1=>?_)⟩⟩
 ·have c2:=IF.mp (show kU (V.str (wd e)) [V.str "needs", V.str "never"]=true from c1)
  have s1:=Ag htp (.tup [V.str "needs", V.str "never"])
  refine⟨_,rfl,q _ _ s1 ?_⟩
  rw[DR e c2]
  exact⟨a,rfl,sqt_same s1 hq⟩
 ·have c2:¬ (wd e = "needs" ∨ wd e = "never"):=λz=>c1 (IF.mpr z)
  have s1:=Ag htp (.tup [V.str "needs", V.str "never"])
  refine⟨_,rfl,a,_,_,_,rfl,rfl,sqt_same s1 hq,at0 _ _,_,rfl,_,rfl,a,_,_,_,rfl,rfl,sqt_same s1 hq,at1 _ _ _,_,_,rfl,rfl,by show 2<=JM;decide,λt ht=>?_⟩
  refine q _ _ (s1.trans (Ag ht _)) (EndV.new ?_)
  obtain⟨e1,e2⟩:=AK e c c2
  rw[e1,e2]
  exact Aa
theorem DM:An ["step","ends"] ["step","ends"] (Ad Fk):=Ez (by decide +kernel)
theorem ok_ld(F:Dj K "end_of_step" "end_of_step" Fk f fd):Al P w K mg base Bi 1 f fd ["step","ends"] (spLd K):=by
 refine F.ok DM (λvs H Q E h=>?_) (λcdv A outer s H vs Q E hr h=>?_)
 ·obtain⟨v,d,kvs,n,m,l,rfl,_⟩:=h
  rfl
 obtain⟨v,d,kvs,n,m,l,rfl,hl,hE,q⟩:=h
 have hu:=Fm hr
 refine⟨_,Ac (Ay (Ar Cc (As Ax (pv 0) Ae (λ_ _=>rfl)) Ba (Au _)) (Af (Ao (Jh hu (pv 1) (As Ax (pv 0) Ae (λ_ _=>rfl)) (Cb (Em Ba (As Ax (pv 0) Ae (λ_ _=>rfl)))) ⟨rfl,rfl,rfl,rfl⟩))) Ap)
  (Ac (Ay (Ar Cc (As Ax (pv 0) Ae (λ_ _=>rfl)) Ba (Au _)) (Af (Ao (Cb (Em Ba Ae)))) Ap) Bs),?_⟩
 cases l with
 | none=>
  obtain⟨a,rfl,ha⟩:=hl
  refine⟨_,rfl,a,_,_,_,rfl,rfl,Co.of ha,at0 _ _,rfl,_,rfl,Br (λc=>?_) (λc=>?_)⟩
  ·exact absurd (Bq c) (by decide +kernel)
  refine⟨_,rfl,a,_,_,_,rfl,rfl,Co.of ha,at0 _ _,rfl,_,rfl,Br (λc=>?_) (λc=>absurd rfl (Dc c))⟩
  refine⟨by show 2<=JM;decide,λt ht=>?_⟩
  exact q _ _ (Ag ht _) (EndV.new (e:=.una 0) Aa)
 | go p=>
  obtain⟨a,rfl,ha⟩:=hl
  refine⟨_,rfl,a,_,_,_,rfl,rfl,Co.of ha,at0 _ _,rfl,_,rfl,Br (λc=>?_) (λc=>absurd rfl (Dc c))⟩
  refine⟨_,rfl,d,rfl,.inl ⟨kvs,.inl hE.dic⟩,_,rfl,a,_,_,_,rfl,rfl,Co.of ha,at1 _ _ _,_,rfl,a,_,_,_,rfl,rfl,Co.of ha,at1 _ _ _,by show 2<=JM;decide,λt ht=>?_⟩
  have s1:=Ag ht (.tup [.str "needs", .int (p:Nat)])
  refine⟨_,Er.k (k:=NE (p:Int)) (s1 _ _ hE.dic),?_⟩
  rcases hE.val p with ⟨h1,h2⟩ | ⟨e,v,h1,h2,h3⟩
  ·rw[h2]
   refine q _ _ s1 ?_
   have e1:Hx m (.go p)=.need p:=by show (m p).getD _=_;rw[h1];rfl
   rw[e1]
   exact EndV.new Aa
  ·rw[h2]
   refine q _ _ s1 ?_
   have e1:Hx m (.go p)=e:=by show (m p).getD _=_;rw[h1];rfl
   rw[e1]
   exact h3.same s1
theorem DP:An ["one","other","ends","first"] ["one","other","ends"] (Ad Iv):=Ez (by decide +kernel)
theorem ok_ei(F:Dj K "end_of_either" "end_of_either" Iv f fd)(GS:Al P w K mg base Bi 1 fS dS ["step","ends"] (spLd K))(kS:JR K (.ref fS)=true)(bS:Binds K dS ["step","ends"] [])(mS:mg "end_of_step" = some (.ref fS))(GB:Al P w K mg base Bi 1 fB dB ["count","last"] (spEB K))(kB:JR K (.ref fB)=true)(bB:Binds K dB ["count","last"] [])(mB:mg "end_behind" = some (.ref fB)):Al P w K mg base Bi 2 f fd ["one","other","ends"] (spEi K):=by
 refine F.ok DP (λvs H Q E h=>?_) (λcdv A outer s H vs Q E hr h=>?_)
 ·obtain⟨v,u,d,kvs,n,m,l,r,rfl,_⟩:=h
  rfl
 obtain⟨v,u,d,kvs,n,m,l,r,rfl,hl,hrr,hE,q⟩:=h
 refine⟨_,Ac (Bv 3 DP.nd (Cf GS hr mS kS bS (Em (pv 0) (pv 2))))
  (Ac (Ay (Ar Sw (As Ax (pv 3) Ae (λ_ _=>rfl)) Ba (Au _)) (Af (Ao (pv 3))) Ap)
  (Af (Ao (Cf GB hr mB kB bB (Em (As Ax (pv 3) Ae (λ_ _=>rfl)) (Cf GS hr mS kS bS (Em (pv 1) (pv 2)))))))),?_⟩
 refine⟨_,rfl,_,rfl,v,d,kvs,n,m,l,rfl,hl,hE,λv1 H1 s1 h1=>?_⟩
 obtain⟨a1,rfl,q1⟩:=h1
 refine⟨_,rfl,a1,_,_,_,rfl,rfl,q1,at0 _ _,rfl,_,rfl,Br (λc=>?_) (λc=>?_)⟩
 ·have c2:¬ wd (Hx m l) = "unanswered" := λz=>by rw[z] at c;exact absurd c (by decide +kernel)
  refine⟨_,rfl,q _ _ s1 ?_⟩
  rw[sT c2]
  exact⟨a1,rfl,q1⟩
 ·have c2:wd (Hx m l) = "unanswered" := by
   refine Classical.byContradiction λz=>c ?_
   rw[decide_eq_false (λy=>z (V.str.inj y))]
   rfl
  obtain⟨k,hk⟩:=AT c2
  rw[hk] at q1 q
  refine⟨_,rfl,a1,_,_,_,rfl,rfl,q1,at1 _ _ _,_,rfl,_,rfl,u,d,kvs,n,m,r,rfl,hrr.keep s1.keepT,hE.same s1,λv2 H2 s2 h2=>?_⟩
  exact⟨k,v2,_,rfl,h2,λv3 H3 s3 h3=>q _ _ ((s1.trans s2).trans s3) h3⟩
theorem ok_se(F:Dj K "end_of_step" "end_of_step" Fk f fd)(GL:Al P w K mg base Bi 1 f fd ["step","ends"] (spLd K))(GE:Al P w K mg base Bi 2 fE dE ["one","other","ends"] (spEi K))(kE:JR K (.ref fE)=true)(bE:Binds K dE ["one","other","ends"] [])(mE:mg "end_of_either" = some (.ref fE)):Al P w K mg base Bi 3 f fd ["step","ends"] (spSE K):=by
 refine F.ok DM (λvs H Q E h=>?_) (λcdv A outer s H vs Q E hr h=>?_)
 ·obtain⟨v,d,kvs,n,m,st,rfl,_⟩:=h
  rfl
 obtain⟨v,d,kvs,n,m,st,rfl,hs,hE,q⟩:=h
 have hu:=Fm hr
 refine⟨_,Ac (Ay (Ar Cc (As Ax (pv 0) Ae (λ_ _=>rfl)) Ba (Au _)) (Af (Ao (Jh hu (pv 1) (As Ax (pv 0) Ae (λ_ _=>rfl)) (Cb (Em Ba (As Ax (pv 0) Ae (λ_ _=>rfl)))) ⟨rfl,rfl,rfl,rfl⟩))) Ap)
  (Ac (Ay (Ar Cc (As Ax (pv 0) Ae (λ_ _=>rfl)) Ba (Au _)) (Af (Ao (Cb (Em Ba Ae)))) Ap)
  (Ac (Ay (Ar Cc (As Ax (pv 0) Ae (λ_ _=>rfl)) Ba (Au _)) (Af (Ao (Cf GE hr mE kE bE (Ja (As Ax (pv 0) Ae (λ_ _=>rfl)) (As Ax (pv 0) Ae (λ_ _=>rfl)) (pv 1))))) Ap)
  (Af (Ao (Cb (Em Ba Ae)))))),?_⟩
 have skip:∀ {x y:Str} {A B:Prop},¬ x=y->B->if decide (V.str x=V.str y)=true then A else B:=λhn hB=>by
  rw[if_neg (λz=>hn (Bq z))]
  exact hB
 have take:∀ {x:Str} {A B:Prop},A->if decide (V.str x=V.str x)=true then A else B:=λhA=>by
  rw[if_pos (decide_eq_true rfl)]
  exact hA
 cases st with
 | ld l=>
  cases l with
  | none=>
   obtain⟨a,rfl,ha⟩:=hs
   refine⟨_,rfl,a,_,_,_,rfl,rfl,Co.of ha,at0 _ _,rfl,_,rfl,skip (by decide +kernel) ?_⟩
   refine⟨_,rfl,a,_,_,_,rfl,rfl,Co.of ha,at0 _ _,rfl,_,rfl,take ?_⟩
   refine⟨by show 2<=JM;decide,λt ht=>?_⟩
   exact q _ _ (Ag ht _) (EndV.new (e:=.una 0) Aa)
  | go p=>
   obtain⟨a,rfl,ha⟩:=hs
   refine⟨_,rfl,a,_,_,_,rfl,rfl,Co.of ha,at0 _ _,rfl,_,rfl,take ?_⟩
   refine⟨_,rfl,d,rfl,.inl ⟨kvs,.inl hE.dic⟩,_,rfl,a,_,_,_,rfl,rfl,Co.of ha,at1 _ _ _,_,rfl,a,_,_,_,rfl,rfl,Co.of ha,at1 _ _ _,by show 2<=JM;decide,λt ht=>?_⟩
   have s1:=Ag ht (.tup [.str "needs", .int (p:Nat)])
   refine⟨_,Er.k (k:=NE (p:Int)) (s1 _ _ hE.dic),?_⟩
   rcases hE.val p with ⟨h1,h2⟩ | ⟨e,v,h1,h2,h3⟩
   ·rw[h2]
    refine q _ _ s1 ?_
    have e1:Rf m (.ld (.go p))=.need p:=by show (m p).getD _=_;rw[h1];rfl
    rw[e1]
    exact EndV.new Aa
   ·rw[h2]
    refine q _ _ s1 ?_
    have e1:Rf m (.ld (.go p))=e:=by show (m p).getD _=_;rw[h1];rfl
    rw[e1]
    exact h3.same s1
 | ei x y=>
  obtain⟨a,b,c,rfl,ha,hx,hy⟩:=hs
  refine⟨_,rfl,a,_,_,_,rfl,rfl,Co.of ha,at0 _ _,rfl,_,rfl,skip (by decide +kernel) ?_⟩
  refine⟨_,rfl,a,_,_,_,rfl,rfl,Co.of ha,at0 _ _,rfl,_,rfl,skip (by decide +kernel) ?_⟩
  refine⟨_,rfl,a,_,_,_,rfl,rfl,Co.of ha,at0 _ _,rfl,_,rfl,take ?_⟩
  exact⟨_,rfl,a,_,_,_,rfl,rfl,Co.of ha,at1 _ _ _,_,rfl,a,_,_,_,rfl,rfl,Co.of ha,at2 _ _ _ _,_,rfl,b,c,d,kvs,n,m,x,y,rfl,hx,hy,hE,λv' H' s' h'=>q _ _ s' h'⟩
 | oth=>
  obtain⟨a,k,r,rfl,ha,k1,k2,k3,_⟩:=hs
  refine⟨_,rfl,a,_,_,_,rfl,rfl,Co.of ha,at0 _ _,rfl,_,rfl,skip k1 ?_⟩
  refine⟨_,rfl,a,_,_,_,rfl,rfl,Co.of ha,at0 _ _,rfl,_,rfl,skip k2 ?_⟩
  refine⟨_,rfl,a,_,_,_,rfl,rfl,Co.of ha,at0 _ _,rfl,_,rfl,skip k3 ?_⟩
  refine⟨by show 2<=JM;decide,λt ht=>?_⟩
  exact q _ _ (Ag ht _) (EndV.new (e:=.ans 0) Aa)
end
end Ak
namespace Ak
open PySem L2 Ah
open Bk (Nn Qv Ik Iq Fk Iv Oz)
theorem iO{α:Type}{l:List α}{i:Nat}{x:α}(h:l[i]? = some x):l.drop i=x::l.drop (i+1):=by
 obtain⟨hi,rfl⟩:=JB.mp h
 exact ML hi
theorem tU{m:Mp}{c k:Nat}{s:Stp}{t:List Stp}(h:Rf m s=.ans k):rowE m c (s::t)=rowE m (c+k) t:=by
 show (match Rf m s with | .ans n=>rowE m (c+n) t | .una n=>.una (c+n) | .nev=>.nev | .need p=>.need p)=_
 rw[h]
theorem tJ{m:Mp}{c:Nat}{s:Stp}{t:List Stp}(h:¬ wd (Rf m s) = "answers"):rowE m c (s::t)=Nt c (Rf m s):=by
 show (match Rf m s with | .ans n=>rowE m (c+n) t | .una n=>.una (c+n) | .nev=>.nev | .need p=>.need p)=_
 cases e:Rf m s with
 | ans n=>rw[e] at h;exact absurd rfl h
 | una n=>rfl
 | nev=>rfl
 | need p=>rfl
theorem StsAt.keep{H H':Hp}(k:eS H H'){us:List V}{r:List Stp}(h:StsAt H us r):StsAt H' us r:=Paired.mapP h λ_ _ z=>z.keep k
theorem RwsAt.fr{H H':Hp}{ra d:JK}{as:List JK}{vss:List (List V)}{rows:List (List Stp)}{kvs:List (Key×V)}(R:RwsAt H ra as vss rows)(hd:H d=some (.dK kvs))(f:Fr d H H'):RwsAt H' ra as vss rows:=
 ⟨f _ _ R.lst (Cd R.lst hd (by intro z;cases z)),R.len,R.lev,λi a vs h1 h2=>f _ _ (R.row i a vs h1 h2) (Cd (R.row i a vs h1 h2) hd (by intro z;cases z)),λi vs r h1 h2=>(R.sts i vs r h1 h2).keep λb xs e=>f _ _ e (Cd e hd (by intro z;cases z))⟩
theorem RwsAt.same{H H':Hp}{ra:JK}{as:List JK}{vss:List (List V)}{rows:List (List Stp)}(R:RwsAt H ra as vss rows)(s:Am H H'):RwsAt H' ra as vss rows:=
 ⟨s _ _ R.lst,R.len,R.lev,λi a vs h1 h2=>s _ _ (R.row i a vs h1 h2),λi vs r h1 h2=>(R.sts i vs r h1 h2).keep s.keepT⟩
theorem RwsAt.get{H:Hp}{ra:JK}{as:List JK}{vss:List (List V)}{rows:List (List Stp)}(R:RwsAt H ra as vss rows){p:Nat}(h:p < rows.length):∃a us r,as[p]? = some a/\vss[p]? = some us/\rows[p]? = some r/\rows.getD p []=r/\H a=some (.lst us)/\StsAt H us r:=by
 have h1:p < as.length:=by rw[R.len];exact h
 have h2:p < vss.length:=by rw[R.lev];exact h
 refine⟨as[p],vss[p],rows[p],JG h1,JG h2,JG h,?_,R.row p _ _ (JG h1) (JG h2),R.sts p _ _ (JG h2) (JG h)⟩
 rw[LF,JG h]
 rfl
def rowF(rows:List (List Stp)):Nat->List Stp:=λi=>rows.getD i []
def LeadsOk(rows:List (List Stp)):Prop:=∀r∈rows,∀s∈r,∀p∈Qa s,p < rows.length
theorem LeadsOk.at{rows:List (List Stp)}(h:LeadsOk rows){q p:Nat}{s:Stp}(hs:s∈rowF rows q)(hp:p∈Qa s):p < rows.length:=by
 unfold rowF at hs
 rw[LF] at hs
 cases e:rows[q]? with
 | none=>rw[e] at hs;exact nomatch hs
 | some r=>
  rw[e] at hs
  exact h r (JY e) s hs p hp
def cZ(ps:List Nat):List V:=ps.reverse.map λp:Nat=>V.int (p:Int)
theorem Ma(q:Nat)(ps:List Nat):cZ (q::ps)=cZ ps++[.int (q:Int)]:=by
 unfold cZ
 rw[List.reverse_cons,JT]
 rfl
theorem rQ(ps:List Nat):(cZ ps).length=ps.length:=by
 unfold cZ
 rw[JF,OU]
theorem Yb(q:Nat)(ps:List Nat):Jb (cZ (q::ps)) (-1)=some (.int (q:Int)):=by
 rw[Ma]
 exact Wo _ _
theorem tS(q:Nat)(ps:List Nat):(cZ (q::ps))[(cZ (q::ps)).length-1]? = some (.int (q:Int))/\(cZ (q::ps)).dropLast=cZ ps:=by
 rw[Ma]
 refine⟨?_,List.dropLast_concat⟩
 rw[JJ,JU,Nat.add_sub_cancel]
 exact KA
def spTell(K:JC):Sp:=λvs H Q _=>∃(p:Nat)(ra d:JK)(as:List JK)(vss:List (List V))(rows:List (List Stp))(kvs:List (Key×V))(m:Mp),vs=[.int (p:Int),.ref ra,.ref d]/\RwsAt H ra as vss rows/\Dn K H d kvs rows.length m/\Told (rowF rows) rows.length m/\m p=none/\p < rows.length/\LeadsOk rows/\rows.length<=100000 /\
 ∀(H':Hp)(kvs':List (Key×V))(m':Mp),Fr d H H'->Dn K H' d kvs' rows.length m'->Told (rowF rows) rows.length m'->(∀x,m x≠none∨x=p->m' x≠none)->Q .non H'
def DC(n:Nat)(m:Mp):List Nat->Nat
 | []=>cnt m n
 | q::_=>cnt (setM m q .nev) n
section
variable {P:KC} {w:LL} {K:JC} {mg:Str->Option JD} {base:MQ} {f fB fS fE fR fT aN:JK} {fd dB dS dE dR dT:LB}
theorem pE:An ["row","ends","count","step","end"] ["row","ends"] (Ad Ik):=Ez (by decide +kernel)
theorem ok_re(F:Dj K "end_of_row" "end_of_row" Ik f fd)(GS:Al P w K mg base Bi 3 fS dS ["step","ends"] (spSE K))(kS:JR K (.ref fS)=true)(bS:Binds K dS ["step","ends"] [])(mS:mg "end_of_step" = some (.ref fS))(GB:Al P w K mg base Bi 1 fB dB ["count","last"] (spEB K))(kB:JR K (.ref fB)=true)(bB:Binds K dB ["count","last"] [])(mB:mg "end_behind" = some (.ref fB)):Al P w K mg base Bi 4 f fd ["row","ends"] (spRE K):=by
 refine F.ok pE (λvs H Q E h=>?_) (λcdv A outer s H vs Q E hr h=>?_)
 ·obtain⟨a,d,us,kvs,n,m,r,rfl,_⟩:=h
  rfl
 obtain⟨a,d,us,kvs,n,m,r,rfl,ha,hs,hE,q⟩:=h
 have hr1:Ck 1 _:=hr.mono (by decide)
 refine⟨_,Ac (Bv 2 pE.nd Ae)
  (Ac (Eg MJ rfl (Dk (pv 0)) (Dg 3 pE.nd)
   (Ac (Bv 4 pE.nd (Cf GS hr mS kS bS (Em (pv 3) (pv 1))))
   (Af (Ay (Ar Cc (As Ax (pv 4) Ae (λ_ _=>rfl)) Ba (Au _)) (Af (Bv 2 pE.nd (Aq Cm (pv 2) (As Ax (pv 4) Ae (λ_ _=>rfl)))))
    (Af (Ao (Cf GB hr1 mB kB bB (Em (pv 2) (pv 4)))))))))
  (Af (Ao (Cb (Em Ba (pv 2)))))),?_⟩
 refine⟨_,rfl,a,rfl,⟨_,Aw.of ha⟩,Fo (K:=K) (a:=a) (xs:=us) (λi σ H2=>∃(v3 v4:Option V)(c:Nat),σ=[some (.ref a),some (.ref d),some (.int (c:Int)),v3,v4]/\Am H H2/\rowE m 1 r=rowE m c (r.drop i))
  ⟨none,none,1,rfl,Am.refl _,rfl⟩ (λi σ H2 _ ⟨_,_,_,_,s2,_⟩=>Aw.of (s2 _ _ ha)) ?_ ?_⟩
 ·rintro i x σ H2 hx ⟨v3,v4,c,rfl,s2,hp⟩
  obtain⟨st,hst,hsa⟩:=Fh hs hx
  rw[iO hst] at hp
  refine⟨_,rfl,_,rfl,x,d,kvs,n,m,st,rfl,hsa.keep s2.keepT,hE.same s2,λv1 H3 s3 h3=>?_⟩
  obtain⟨a1,rfl,q1⟩:=h3
  refine⟨_,rfl,a1,_,_,_,rfl,rfl,q1,at0 _ _,rfl,_,rfl,Br (λc1=>?_) (λc1=>?_)⟩
  ·obtain⟨k,hk⟩:=xJ (Bq c1)
   refine⟨_,rfl,_,rfl,a1,_,_,_,rfl,rfl,q1,at1 _ _ _,_,_,rfl,rfl,?_⟩
   rw[tU hk] at hp
   refine⟨some x,some (.ref a1),c+k,?_,s2.trans s3,hp⟩
   rw[hk]
   show [some (V.ref a),some (V.ref d),some (V.int ((c:Int)+(k:Int))),some x,some (V.ref a1)]=_
   rw[Int.natCast_add]
  ·have c2:=Dc c1
   rw[tJ c2] at hp
   refine⟨_,rfl,_,rfl,c,_,_,rfl,⟨a1,rfl,q1⟩,λv' H' s' h'=>?_⟩
   rw[hp] at q
   exact q _ _ ((s2.trans s3).trans s') h'
 ·rintro σ H2 ⟨v3,v4,c,rfl,s2,hp⟩
  have hl:r.drop us.length=[]:=NX (by rw[NK hs];exact JI _)
  rw[hl] at hp
  refine⟨_,rfl,by show 2<=JM;decide,λt ht=>?_⟩
  rw[hp] at q
  exact q _ _ (s2.trans (Ag ht _)) (EndV.new (e:=.ans c) Aa)
theorem AS:An ["place","rows","ends","pile","end"] ["place","rows","ends"] (Ad Qv):=Ez (by decide +kernel)
theorem ok_te(F:Dj K "tell_end" "tell_end" Qv f fd)(GR:Al P w K mg base Bi 4 fR dR ["row","ends"] (spRE K))(kR:JR K (.ref fR)=true)(bR:Binds K dR ["row","ends"] [])(mR:mg "end_of_row" = some (.ref fR))(mN:mg "NEVER" = some (.ref aN))(hN:∀H,Co K H aN [.str "never", .int 0]):Al P w K mg base Bi 5 f fd ["place","rows","ends"] (spTell K):=by
 refine F.ok AS (λvs H Q E h=>?_) (λcdv A outer s H vs Q E hr h=>?_)
 ·obtain⟨p,ra,d,as,vss,rows,kvs,m,rfl,_⟩:=h
  rfl
 obtain⟨p,ra,d,as,vss,rows,kvs,m,rfl,R,hE,hT,hp,hpl,hL,hn,q⟩:=h
 have hu:=Fm hr
 refine⟨_,Ac (Bv 3 AS.nd (Df (Du (pv 0))))
  (Af (Lz MJ (oF (K:=K) (pv 3)) (Ac (Gc hu (pv 2) (As Bj (pv 3) (Jt Gs Ae) (λ_ _=>rfl)) (dZ (v:=.ref aN) rfl mN rfl) rfl) (Ac (Bv 4 AS.nd (Cf GR hr mR kR bR (Em (As Bj (pv 1) (As Bj (pv 3) (Jt Gs Ae) (λ_ _=>rfl)) (λ_ _=>rfl)) (pv 2))))
   (Af (Ay (Ar Cc (As Ax (pv 4) Ae (λ_ _=>rfl)) Ba (Au _))
    (Af (Bx (Lu MK MO MN Ed (pv 3) (Du (As Ax (pv 4) Ae (λ_ _=>rfl))))))
    (Af (Gc hu (pv 2) (zV MK PySem.F.slot_list_pop PySem.F.type_list_pop zE (pv 3)) (pv 4) rfl)))))))),?_⟩
 refine⟨_,rfl,by show 1<=JM;decide,λl hl=>?_⟩
 have hdl:l≠d:=λz=>by rw[z,hE.dic] at hl;cases hl
 have s0:=Ag hl (.lst [.int (p:Int)])
 refine⟨λμ σ H2=>∃(ps:List Nat)(kv:List (Key×V))(m2:Mp)(v4:Option V),σ=[some (.int (p:Int)),some (.ref ra),some (.ref d),some (.ref l),v4]/\H2 l=some (.lst (cZ ps))/\Dn K H2 d kv rows.length m2/\Tr (rowF rows) rows.length m2 ps/\Fr d H H2/\(∀x,m x≠none∨x=p->x∈ps∨m2 x≠none)/\μ=2 * (rows.length-DC rows.length m2 ps)+ps.length,
  ⟨_,[p],kvs,m,none,rfl,Aa,hE.same s0,hT.start hp hpl,(Fr.refl d H).same s0,λx hx=>hx.elim .inr λz=>.inl (JL.mpr z),rfl⟩,?_⟩
 rintro μ σ H2 ⟨ps,kv,m2,v4,rfl,el,E2,PL,fr,dom,rfl⟩
 refine⟨_,rfl,!(cZ ps).isEmpty,.inl ⟨_,Aw.of el,rfl⟩,Br (λc=>?_) (λc=>?_)⟩
 ·cases ps with
  | nil=>exact absurd c (by decide)
  | cons t ps=>
  have htn:t < rows.length:=PL.lt t (JS ..)
  have hkl:kv.length < JM:=by
   rw[E2.len,KO]
   have:=cQ m2 rows.length
   omega
  refine⟨λσ' H'=>∃μ',μ' < _/\_,λσ' H' h=>h,?_⟩
  refine⟨_,rfl,_,rfl,_,rfl,l,_,_,_,rfl,rfl,Aw.of el,Yb t ps,d,_,rfl,Kv.k (k:=NE (t:Int)) E2.dic hkl,?_⟩
  have E3:=E2.put (v:=.ref aN) (e:=.nev) htn ⟨aN,rfl,hN _⟩
  have f3:Fr d H2 (upd H2 d (.dK (putK kv (NE (t:Int)) (.ref aN)))):=(Fr.refl d H2).upd
  have el3:=f3 _ _ el hdl
  have R3:=(R.fr hE.dic (fr.upd (o:=.dK (putK kv (NE (t:Int)) (.ref aN)))))
  generalize upd H2 d (.dK (putK kv (NE (t:Int)) (.ref aN)))=H3 at *
  obtain⟨a,us,r,ha,hus,hr',hgr,har,hsr⟩:=R3.get htn
  refine⟨_,rfl,_,rfl,_,rfl,l,_,_,_,rfl,rfl,Aw.of el3,Yb t ps,ra,_,_,_,rfl,rfl,Aw.of R3.lst,Bc (v:=.ref a) (by rw[KJ,ha];rfl),_,rfl,a,d,us,_,_,_,r,rfl,har,hsr,E3,λv1 H4 s4 h4=>?_⟩
  obtain⟨a1,rfl,q1⟩:=h4
  have hrow:rowF rows t=r:=hgr
  have E4:=E3.same s4
  have el4:=s4 _ _ el3
  have fr4:Fr d H H4:=λb o hb hn=>s4 _ _ (f3 _ _ (fr b o hb hn) hn)
  refine⟨_,rfl,a1,_,_,_,rfl,rfl,q1,at0 _ _,rfl,_,rfl,Br (λc1=>?_) (λc1=>?_)⟩
  ·obtain⟨pp,hpp⟩:=uH (Bq c1)
   have hneed:rowE (setM m2 t .nev) 1 (rowF rows t)=.need pp:=by rw[hrow];exact hpp
   have hppl:pp < rows.length:=by
    obtain⟨_,s',hs',hp'⟩:=Qh PL.nnN hneed
    exact hL.at hs' hp'
   obtain⟨hno,PL2⟩:=PL.push hneed hppl
   have hct:ct (rowE (setM m2 t .nev) 1 r)=(pp:Int):=by rw[hpp];rfl
   rw[hct] at q1
   refine⟨_,rfl,.inl ⟨rfl,_,Aw.of el4⟩,_,rfl,a1,_,_,_,rfl,rfl,q1,at1 _ _ _,l,_,_,rfl,rfl,el4,?_,?_⟩
   ·rw[rQ,KO]
    have:(t::ps).length<=rows.length:=iF PL
    omega
   refine⟨_,?_,pp::t::ps,putK kv (NE (t:Int)) (.ref aN),setM m2 t .nev,some (.ref a1),rfl,?_,?_,PL2,?_,?_,rfl⟩
   ·show 2 * (rows.length-cnt (setM (setM m2 t .nev) pp .nev) rows.length)+(pp::t::ps).length < 2 * (rows.length-cnt (setM m2 t .nev) rows.length)+(t::ps).length
    have h1:=Vs (e:=.nev) hno hppl
    have h2:=cQ (setM (setM m2 t .nev) pp .nev) rows.length
    rw[LN (a:=pp)]
    omega
   ·rw[Aa,<- Ma]
   ·exact E4.other el4 hdl
   ·exact λb o hb hn=>by rw[Aj (Ai hb hl)];exact fr4 b o hb hn
   ·intro x hx
    rcases dom x hx with z | z
    ·exact .inl (JQ _ z)
    ·by_cases c2:x=t
     ·exact .inl (by rw[c2];exact JQ _ (JS ..))
     ·exact .inr (by rw[Bh c2];exact z)
  ·have c2:=Dc c1
   have hne:∀pp,rowE (setM m2 t .nev) 1 r ≠ .need pp:=λpp z=>c2 (by rw[z];rfl)
   have PL2:=PL.pop (e:=rowE (setM m2 t .nev) 1 r) (by rw[hrow]) hne
   obtain⟨hlast,hdrop⟩:=tS t ps
   refine⟨_,rfl,_,rfl,_,rfl,.inl ⟨rfl,_,Aw.of el4⟩,l,_,_,rfl,rfl,el4,hlast,?_⟩
   rw[hdrop]
   have E5:Dn K (upd H4 l (.lst (cZ ps))) d _ rows.length (setM m2 t .nev):=E4.other el4 hdl
   have hkl5:(putK kv (NE (t:Int)) (V.ref aN)).length < JM:=by
    rw[E5.len,KO]
    have:=cQ (setM m2 t .nev) rows.length
    omega
   have hv5:EndV K (upd H4 l (.lst (cZ ps))) (.ref a1) (rowE (setM m2 t .nev) 1 r):=⟨a1,rfl,gX el4 q1⟩
   refine⟨d,_,rfl,Kv.k (k:=NE (t:Int)) E5.dic hkl5,?_⟩
   have E6:=E5.put htn hv5
   rw[kI] at E6
   refine⟨_,?_,ps,_,_,_,rfl,?_,E6,PL2,?_,?_,rfl⟩
   ·have h1:DC rows.length (setM m2 t (rowE (setM m2 t .nev) 1 r)) ps=cnt (setM m2 t .nev) rows.length:=by
     have h2:cnt (setM m2 t (rowE (setM m2 t .nev) 1 r)) rows.length=cnt (setM m2 t .nev) rows.length:=Oi λx _=>by
      by_cases z:x=t
      ·subst z;rw[Cq,Cq];rfl
      ·rw[Bh z,Bh z]
     cases ps with
     | nil=>exact h2
     | cons y ps2=>
      show cnt (setM (setM m2 t _) y .nev) rows.length=_
      rw[gO]
      ·exact h2
      ·have hyt:y≠t:=λz=>(LQ.mp PL.nd).1 (by rw[<- z];exact JS ..)
       rw[Bh hyt,PL.tl y (JS ..)]
       rfl
    rw[h1]
    show _ < 2 * (rows.length-cnt (setM m2 t .nev) rows.length)+(t::ps).length
    rw[LN]
    omega
   ·rw[Aj hdl,Aa]
   ·exact λb o hb hn=>by rw[Aj hn,Aj (Ai hb hl)];exact fr4 b o hb hn
   ·intro x hx
    by_cases c3:x=t
    ·exact .inr (by rw[c3,Cq];exact nofun)
    ·rcases dom x hx with z | z
     ·exact .inl ((JP.mp z).resolve_left c3)
     ·exact .inr (by rw[Bh c3];exact z)
 ·cases ps with
  | cons t ps=>exact absurd (by rw[Ma];simp) c
  | nil=>
   refine q H2 kv m2 fr E2 PL.done λx hx=>?_
   rcases dom x hx with z | z
   ·exact nomatch z
   ·exact z
end
end Ak
namespace Ak
open PySem L2 Ah
open Bk (Nn Qv Ik Iq Fk Iv Oz)
def spTold(K:JC):Sp:=λvs H Q _=>∃(ra:JK)(as:List JK)(vss:List (List V))(rows:List (List Stp)),vs=[.ref ra]/\RwsAt H ra as vss rows/\LeadsOk rows/\rows.length<=100000 /\
 ∀(l:JK)(us:List V)(H':Hp)(m:Mp),H l=none->Am H H'->H' l=some (.lst us)->us.length=rows.length->Told (rowF rows) rows.length m->(∀p,p < rows.length->∃v e,us[p]? = some v/\m p=some e/\EndV K H' v e)->Q (.ref l) H'
section
variable {P:KC} {w:LL} {K:JC} {mg:Str->Option JD} {base:MQ} {f fT:JK} {fd dT:LB}
abbrev IM:List Str:=["rows","ends","place"]
theorem HY:(["place","ends"]:List Str).Nodup:=by decide +kernel
theorem xH:An ["rows","ends","place"] ["rows"] (Ad Nn):=Ez (by decide +kernel)
theorem ok_ta(F:Dj K "told_ahead" "told_ahead" Nn f fd)(T:Txt mg)(GT:Al P w K mg base Bi 5 fT dT ["place","rows","ends"] (spTell K))(kT:JR K (.ref fT)=true)(bT:Binds K dT ["place","rows","ends"] [])(mT:mg "tell_end" = some (.ref fT)):Al P w K mg base Bi 6 f fd ["rows"] (spTold K):=by
 refine F.ok xH (λvs H Q E h=>?_) (λcdv A outer s H vs Q E hr h=>?_)
 ·obtain⟨ra,as,vss,rows,rfl,_⟩:=h
  rfl
 obtain⟨ra,as,vss,rows,rfl,R,hL,hn,q⟩:=h
 have hu:=Fm hr
 refine⟨_,Ac (Mr (i:=1) xH.nd rfl (Or.inr rfl) Hn)
  (Ac (Eg MJ rfl (Fb rfl T.range (Du (Bw T.len (pv 0)))) (Dg 2 xH.nd)
   (Af (Ay (Fs (Kf hu (pv 2) (pv 1))) (Af (Bx (Cf GT hr mT kT bT (Ja (pv 2) (pv 0) (pv 1))))) Ap)))
  (Af (Ao (Hh (Ad Nn) IM ["place"] [("ends", 1)] rfl (Fb rfl T.range (Du (Bw T.len (pv 0)))) (Bm (i:=0) (by decide))
   (λ_ _ _ _ _ _=>⟨Dg 0 HY,Ds,Io hu (pv 1) (pv 0) (λ_ _=>rfl)⟩))))),?_⟩
 intro d hd
 have s0:=Ag hd (.dK [])
 have R0:=R.same s0
 have ed:(upd H d (.dK [])) d=some (.dK []):=Aa
 have frH:∀b o,H b=some o->b≠d:=λb o hb=>Ai hb hd
 generalize upd H d (.dK [])=H0 at *
 have hln:(as.map V.ref).length=rows.length:=by rw[JF,R.len]
 have E0:Dn K H0 d [] rows.length (λ_=>none):=⟨ed,by
  have:cnt (λ_=>none) rows.length=0:=by unfold cnt;rw[List.countP_eq_zero];exact λ_ _=>JN
  rw[this];rfl,λp=>.inl ⟨rfl,rfl⟩⟩
 refine⟨_,rfl,ra,_,rfl,.inl (Aw.of R0.lst),_,rfl,by rw[hln];omega,by rw[hln];omega,Hm (n:=((as.map V.ref).length:Int).toNat) (λi σ H2=>∃(v2:Option V)(kv:List (Key×V))(m:Mp),σ=[some (.ref ra),some (.ref d),v2]/\Fr d H0 H2/\Dn K H2 d kv rows.length m/\Told (rowF rows) rows.length m/\∀p,p < i->m p≠none)
  ⟨none,[],λ_=>none,rfl,Fr.refl _ _,E0,Told.nil _ _,λp hp=>absurd hp (Nat.not_lt_zero _)⟩ ?_ ?_⟩
 ·rintro i σ H2 hi ⟨v2,kv,m,rfl,fr,E2,T2,hm⟩
  rw[LR,hln] at hi
  have e0:(0:Int)+(i:Int)=(i:Int):=by omega
  rw[e0]
  refine⟨_,rfl,_,rfl,d,_,rfl,Er.k (k:=NE (i:Int)) E2.dic,_,rfl,?_⟩
  rcases E2.val i with ⟨h1,h2⟩ | ⟨e,v,h1,h2,h3⟩
  ·rw[h2]
   refine Ju ?_
   refine⟨_,rfl,_,rfl,_,rfl,i,ra,d,as,vss,rows,kv,m,rfl,R0.fr ed fr,E2,T2,h1,hi,hL,hn,λH3 kv3 m3 f3 E3 T3 d3=>?_⟩
   refine⟨_,kv3,m3,rfl,λb o hb hn=>f3 _ _ (fr _ _ hb hn) hn,E3,T3,λp hp=>?_⟩
   by_cases c:p=i
   ·exact d3 p (.inr c)
   ·exact d3 p (.inl (hm p (by omega)))
  ·rw[h2]
   refine Eb ?_
   refine⟨_,kv,m,rfl,fr,E2,T2,λp hp=>?_⟩
   by_cases c:p=i
   ·rw[c,h1];exact nofun
   ·exact hm p (by omega)
 ·rintro σ H2 ⟨v2,kv,m,rfl,fr,E2,T2,hm⟩
  rw[LR,hln] at hm
  have R2:=R0.fr ed fr
  refine⟨_,rfl,ra,_,rfl,.inl (Aw.of R2.lst),_,rfl,by rw[hln];omega,by rw[hln];omega,Ie (k:=((as.map V.ref).length:Int).toNat) (λi ys H3=>H3=H2/\ys.length=i/\∀p,p < i->∃v e,ys[p]? = some v/\m p=some e/\EndV K H2 v e)
   ⟨rfl,rfl,λp hp=>absurd hp (Nat.not_lt_zero _)⟩ ?_ ?_⟩
  ·rintro i ys H3 hi ⟨rfl,hy,hall⟩
   rw[LR,hln] at hi
   have e0:(0:Int)+(i:Int)=(i:Int):=by omega
   rw[e0]
   rcases E2.val i with ⟨h1,h2⟩ | ⟨e,v,h1,h2,h3⟩
   ·exact absurd h1 (hm i hi)
   refine⟨_,rfl,_,rfl,d,v,rfl,by rw[<- h2];exact Er.k (k:=NE (i:Int)) E2.dic,by rw[hy,KO];omega,rfl,by rw[JJ,hy];rfl,λp hp=>?_⟩
   by_cases c:p < i
   ·obtain⟨v',e',a1,a2,a3⟩:=hall p c
    exact⟨v',e',by rw[KH (by omega)];exact a1,a2,a3⟩
   ·obtain rfl:p=i:=by omega
    refine⟨v,e,?_,h1,h3⟩
    rw[<- hy]
    exact KA
  ·rintro ys H3 ⟨rfl,hy,hall⟩
   rw[LR,hln] at hy hall
   intro l hl
   have hl0:H l=none:=by
    cases e:H l with
    | none=>rfl
    | some o=>rw[fr _ _ (s0 _ _ e) (frH _ _ e)] at hl;cases hl
   have s3:=Ag hl (.lst ys)
   refine q l ys _ m hl0 (λb o hb=>s3 _ _ (fr _ _ (s0 _ _ hb) (frH _ _ hb))) Aa hy T2 λp hp=>?_
   obtain⟨v,e,a1,a2,a3⟩:=hall p hp
   exact⟨v,e,a1,a2,a3.same s3⟩
end
end Ak
namespace L2
open PySem PySem.Spec PyProof.Rows
section
variable {prog:KC} {w:LL} {A:LI} {s:JH} {E:JD->JH->Prop}
end
section
variable {X:Cx} {pos:Pos}
end
section
variable {κ:Type} [DecidableEq κ]
end
section
variable {prog:KC} {w:LL} {κ:Type} [DecidableEq κ] {knd:HeapKind prog w κ} {A:LI} {E:JD->JH->Prop} {s:JH}
end
section
variable {X:Cx} {pins:List (JK×Obj)} {σ:St} {H:Hp} {s:JH} {a b:JK} {kvs:List (List Key×V)} {k:List Key} {r:JD} {A:LI} {E:JD->JH->Prop}
end
section
variable {X:Cx} {o e f:Expr} {apos cpos:Pos} {td ty tx:TE}
end
section
variable {X:Cx} {pins:List (JK×Obj)} {σ:St} {H:Hp} {s:JH} {a:JK} {kvs:List (Key×V)} {k:Key} {u r:JD} {v:V} {A:LI} {E:JD->JH->Prop}
theorem xP{Q:JD->JH->Prop}(I:Inv X pins σ H s)(e:H a=some (.dK kvs))(ry:RelV (kV k) u)(rv:RelV v r)(hz:kvs.length < JM)(h1:∀x,valV kvs k=some x->∀w' s',Inv X pins σ H s'->RelV x w'->Q w' s')(h2:valV kvs k=none->∀s',Inv X pins σ (upd H a (.dK (putK kvs k v))) s'->Q r s'):
 KR (KU X.prog X.w) A (call (.builtin "dict.setdefault") [.ref a,u,r]) Q E s:=by
 obtain⟨z,hd,vs,rel,dd⟩:=wZ I.hok e
 have rl:=rel.val k
 have hl:(putK kvs k v).length<=JM:=by have:=Dm kvs k v;omega
 refine call_meetsIn PySem.F.slot_dict_setdefault dd.typeIs PySem.F.entry_dict_setdefault (PySem.F.args_dict_setdefault_3 _ _ _) (kt_meets_setdefault (Bo X.prog X.w) a (Lj ry) hd r) ⟨vs,dd,by rw[<- rel.length];exact z,λx hx=>?_,λhn h' dd' hs=>?_⟩
 ·cases q:valV kvs k with
  | none=>rw[q,hx] at rl;exact rl.elim
  | some y=>rw[q,hx] at rl;exact h1 y q _ _ (I.tok _) rl
 ·cases q:valV kvs k with
  | none=>
   have he:∃q,h'.get? a=some q:=let ⟨q,_,_,hq,_⟩:=dd';⟨q,hq⟩
   exact h2 q _ (Vg I (by rw[e];exact PB) hs he (lO hl hd (rel.put k rv) dd'))
  | some y=>rw[q,hn] at rl;exact rl.elim
end
def yQ(td ty tx:TE):TE:=λσ H Q=>td σ H λx H1=>∃a,x=.ref a/\FH H1 a/\ty σ H1 λy H2=>tx σ H2 λz H3=>∃kvs k,H3 a=some (.dK kvs)/\y=kV k/\kvs.length < JM /\
 (∀v,valV kvs k=some v->Q v H3)/\(valV kvs k=none->Q z (upd H3 a (.dK (putK kvs k z))))
section
variable {X:Cx} {o e f:Expr} {apos cpos:Pos} {td ty tx:TE}
theorem rJ(ho:PE X o td)(he:PE X e ty)(hf:PE X f tx)(m:M2 X o "setdefault" apos e f cpos):PE X (.Call (.Attribute o "setdefault" apos) [e,f] [] cpos) (yQ td ty tx):=by
 intro pins s σ H Q I h
 refine wpAny_Call_method m.base m.few m.line RJ PySem.F.slot_dict_setdefault PySem.F.type_dict_setdefault (Bu (ho pins s σ H _ I h) λu s1 ⟨x,H1,I1,rx,a,ex,d,q1⟩=>?_)
 subst ex
 obtain rfl:u=JV a:=rx
 obtain⟨t1,t2,_⟩:=Yx I1 d
 refine⟨t1,t2,?_⟩
 rw[m.trees]
 refine PN rfl (Calls.evalArgs_plain (QS (Bu (he pins s1 σ H1 _ I1 q1) λiv s2 ⟨y,H2,I2,ry,q2⟩=>
  QS (Bu (hf pins s2 σ H2 _ I2 q2) λfv s3 ⟨z,H3,I3,rz,kvs,k,ea,ey,hz,q3,q4⟩=>Calls.spliced_nil ?_))))
 subst ey
 exact xP I3 ea ry rz hz (λv l w' s4 I4 rw'=>⟨v,_,I4,rw',q3 v l⟩) (λl s4 I4=>⟨z,_,I4,rz,q4 l⟩)
end
section
variable {prog:KC} {w:LL} {KK:Type} [DecidableEq KK] {knd:KeyKind prog w KK} {A:LI} {E:JD->JH->Prop} {s:JH}
theorem pI{it d:JK}{i ep:Nat}{kvs:List (KK×JD)}{ok ov:JD}{Q:Option JD->JH->Prop}(hh:Bp A s.heap)(hit:IsItemIter s.heap it d i kvs.length ep ok ov)(hm:s.heap.DictAt knd d kvs ep)(hx:kvs[i]? = none)(hQ:∀h',OF it s.heap h'->Q none { s with heap:=h' }):KR (KU prog w) A (OW (.ref it)) Q E s:=by
 obtain⟨od,es,hod,hcd,hdd,hk,hpr,hn⟩:=id hm
 have ht:s.TypeIs (.ref it) "dict_itemiterator" := ⟨_,hit,rfl⟩
 have sz:es.size=kvs.length:=by rw[<- hpr.length];simp
 have ge:es.size<=i:=by rw[sz];simpa using hx
 unfold OW
 refine JA (OV (LK (name:=NH "__next__") ht F.slot_dict_itemiterator_next (MC F.slot_dict_itemiterator_next ht F.entry_dict_itemiterator_next ?_ (F.args_dict_itemiterator_next_1 _))))
 refine JA (JO (JA (JA ?_)))
 first | refine JA (wpAny_typeNameOfWhole_itemiter ht (JO (JA (wpAny_fieldsOf hit rfl ?_)))) | refine JA (wpAny_typeNameOf_itemiter ht (JO (JA (wpAny_fieldsOf hit rfl ?_))))
 simp only[show Builtin.Dict_items.ownsTuple "dict_itemiterator" = true by decide,if_true]
 show KR _ _ (if (JV d == .none)=true then _ else _) _ _ s
 rw[if_neg (show ¬ ((JV d == .none)=true) from JN)]
 refine JA (JO (JA (wpAny_dictEntries hod hdd ?_)))
 rw[if_neg (by rw[sz];simp)]
 refine JA (JO (JA (wpAny_dictEpoch hod hdd ?_)))
 rw[if_neg (by simp)]
 refine JO ?_
 simp only[show ¬ ((i:Int) < 0) from by omega,if_false,LR,Array.getElem?_eq_none ge]
 refine JA ?_
 first | refine JA (wpAny_typeNameOfWhole_itemiter ht (JO (JA (m:=setField (.ref it) 2 .none) (MM hit rfl (by simp) ?_)))) | refine JA (wpAny_typeNameOf_itemiter ht (JO (JA (m:=setField (.ref it) 2 .none) (MM hit rfl (by simp) ?_))))
 exact Dr (hh.in1.upd λo vs g dt c=>by
  obtain rfl:=KW (hit.symm.trans g)
  cases dt
  simp at c) λh' e kp ty=>Hu hQ kp ty
end
theorem qT:entryFor table "dict_itemiterator.__iter__" = some Builtin.«dict_keyiterator.__iter__» := entryFor_alias (id' := "dict_keyiterator.__iter__") (by kernel_rfl) rfl (by decide +kernel) (by kernel_rfl)
def FN(d:JK)(o:Obj)(kvs:List (Key×V)):It:=
 ⟨λi H=>H d=some (.frz o (.dK kvs))/\i < kvs.length,λi H v H'=>∃T kv,H T=none/\v=.ref T/\kvs[i]? = some kv/\H'=upd H T (.tup [kV kv.1,kv.2]),λi H=>H d=some (.frz o (.dK kvs))/\kvs.length<=i⟩
theorem aW{P:KC}{w:LL}{K:JC}{elts:List Expr}{kk:Nat}{tpos:Pos}{es:Array RO}{ep:Nat}(d it:JK)(o:Obj)(kvs:List (Key×V))(hd:o.data=.dict es ep):
 Turn P w K (.Tuple elts kk tpos) (FN d o kvs) [it] it (λi h=>∃ok ov,IsItemIter h it d i kvs.length ep ok ov) where
 mem:=by simp
 obj:=λi h st b hb=>by
  have e:b=it:=by simpa using hb
  subst e
  obtain⟨ok,ov,e⟩:=st
  exact⟨_,e,λv z=>nomatch z⟩
 keep:=λi h h' st k=>by
  obtain⟨ok,ov,e⟩:=st
  exact⟨ok,ov,k it (by simp) _ e⟩
 item:=by
  intro X hP hw hK hc i pins s σ H E I hf st hg
  subst hP hw hK
  obtain⟨e,hlt⟩:=hg
  obtain⟨_,vs,r,dd⟩:=I.dictAt e hd
  have hl:kvs.length=vs.length:=NK r
  have hk:kvs[i]? = some kvs[i]:=JG hlt
  obtain⟨⟨k,x⟩,hx,e1,e2⟩:=Fh r hk
  have e1':kvs[i].1=k:=e1
  have e2':RelV kvs[i].2 x:=e2
  obtain⟨ok,ov,st'⟩:=st
  rw[hl] at st'
  refine wpAny_pyNext_items_item st' dd hx λkey h' hkey a1 a2 a3 kp=>?_
  refine⟨_,rfl,wpAny_letOwnedTupleGo_items a1 λh2' he2 sb=>?_⟩
  have lt:it≠s.heap.objs.size:=KL (JW st')
  have I1:Inv X pins σ H { s with heap:=h2' }:=I.turns (t':=s.toks) (ch:=[it]) (λc o hc e=>by
   have hc':c≠it:=by simpa using hc
   exact(sb.2 c hc').trans (kp c o hc' e)) hf
  have fT:De X pins H s.heap.objs.size:=I.fpOk (JI _) (I.hok.fresh (JI _))
  have eT:h2'.get? s.heap.objs.size=some { cls:=.type "tuple", data:=.seq #[key,x] }:=(sb.2 _ (LH lt)).trans a2
  have rk:RelV (kV kvs[i].1) key:=by rw[e1'];exact xX hkey
  refine⟨.ref s.heap.objs.size,_,I1.adopt (o:=.tup [kV kvs[i].1,kvs[i].2]) fT.1 fT.2.1 I.sz fT.2.2.2.2.1 fT.2.2.2.2.2 ⟨by show 2<=JM;decide,[key,x],.cons rk (.cons e2' .nil),⟨_,eT,rfl,0,rfl⟩⟩,rfl,⟨_,_,fT.1,rfl,hk,rfl⟩,?_,λc hc=>?_⟩
  ·exact⟨_,_,by rw[hl];exact he2⟩
  ·have hc':c=it:=by simpa using hc
   rw[Aj (by rw[hc'];exact lt)]
   exact(hf c hc).1
 done:=by
  intro X hP hw hK hc i pins s σ H E I hf st hg
  subst hP hw hK
  obtain⟨f0,f1,f2,f3,f4,f5⟩:=hf it (by simp)
  obtain⟨e,hle⟩:=hg
  obtain⟨_,vs,r,dd⟩:=I.dictAt e hd
  have hl:kvs.length=vs.length:=NK r
  obtain⟨ok,ov,st'⟩:=st
  rw[hl] at st'
  exact pI (I.calmS hc) st' dd (List.getElem?_eq_none_iff.mpr (by omega)) λh' eb=>⟨rfl,I.turned (t':=s.toks) (λb o hb e=>eb b o hb e) f0 f1 f3 f4 f5⟩
 self:=λA i s Q E st h=>by
  obtain⟨ok,ov,st'⟩:=st
  have hT:s.TypeIs (.ref it) "dict_itemiterator" := ⟨_,st',rfl⟩
  refine wpAny_pyIter_slot hT F.slot_dict_itemiterator_iter (MC F.slot_dict_itemiterator_iter hT qT ?_ (F.args_dict_itemiterator_iter_1 _))
  show KR _ _ (ret (.ref it)) _ _ s
  exact JO ⟨_,rfl,"dict_itemiterator", _,hT,F.slot_dict_itemiterator_next.lookup,h⟩
def zG(H₀:Hp)(td:TE):TI:=λσ H R=>td σ H λx H1=>∃d kvs,x=.ref d/\H1 d=some (.dK kvs)/\∀o,fZ H₀ d->R (FN d o kvs) (upd H1 d (.frz o (.dK kvs)))
theorem lC{X:Cx}{elts:List Expr}{kk:Nat}{tpos apos cpos:Pos}{o:Expr}{td:TE}(ho:PE X o td)(hbase:RD o "items" X.env (OX o X.env)=OX o X.env:=by rfl)(hline:(apos.endLine == cpos.line)=true:=by rfl):
 PI X (.Tuple elts kk tpos) (.Call (.Attribute o "items" apos) [] [] cpos) (zG X.H₀ td):=by
 intro pins s σ H R I h
 refine wpAny_Call_method0_late hbase hline (Bu (ho pins s σ H _ I h) λv s1 ⟨x,H1,I1,r1,d,kvs,ex,hd,q⟩=>?_)
 subst ex
 cases r1
 obtain⟨t1,t2,hno⟩:=Yx I1 (.inl ⟨kvs,.inl hd⟩)
 refine⟨"dict","dict.items", RJ,PySem.F.slot_dict_items,PySem.F.type_dict_items,t1,t2,PN rfl (PySem.evalArgs_none ?_)⟩
 obtain⟨nf,ob,g,⟨es,ep,dt⟩,I2⟩:=I1.freeze hd
 obtain⟨lo,vs,r,dd⟩:=I2.dictAt Aa dt
 obtain⟨o',es',ho',hc',hdat',hk',hp',hn'⟩:=id dd
 refine call_meetsIn PySem.F.slot_dict_items t1 PySem.F.entry_dict_items (PySem.F.args_dict_items_1 _) (meets_dict_items (Bo X.prog X.w) d lo) ⟨⟨vs,_,es',ep,ho',hc',hdat',hk',hp',hn'⟩,?_⟩
 have hl:kvs.length=vs.length:=NK r
 have hv:(s1.heap.push { cls:=.type "dict_items", data:=.fields #[.ref d] }).IsItemsView s1.heap.objs.size d:=⟨_,JZ _ rfl,rfl,rfl⟩
 have I3:Inv X pins σ (upd H1 d (.frz ob (.dK kvs))) { s1 with heap:=s1.heap.push { cls:=.type "dict_items", data:=.fields #[.ref d] } }:=I2.kept (t':=s1.toks) λb o e=>JE _ e
 obtain⟨_,vs3,r3,dd3⟩:=I3.dictAt Aa dt
 have hl3:kvs.length=vs3.length:=NK r3
 refine wpAny_pyIter_items hv dd3 ?_
 refine⟨_,[_],_,_,_,rfl,I3.kept (t':=s1.toks) λb o e=>JE _ e,aW d _ ob kvs dt,⟨.none,.none,?_⟩,λb hb=>?_,q ob nf⟩
 ·rw[hl3]
  exact JZ _ rfl
 ·have e:b=(s1.heap.push { cls:=.type "dict_items", data:=.fields #[.ref d] }).objs.size:=by simpa using hb
  subst e
  exact I3.fpOk (JI _) (I3.hok.fresh (JI _))
theorem Vj{d:JK}{o:Obj}{kvs:List (Key×V)}{n:Nat}{fr:List (Str×Nat)}{g:TG}{te:TE}{σ:St}{H:Hp}{F:List V->Hp->Prop}(Pv:Nat->List V->Hp->Prop)(h0:Pv 0 [] H)(hl:∀i ys H,i<=kvs.length->Pv i ys H->H d=some (.frz o (.dK kvs)))(hs:∀i kv ys H T,kvs[i]? = some kv->Pv i ys H->H T=none->g (.ref T) (stC n fr σ) (upd H T (.tup [kV kv.1,kv.2])) λσ2 H2=>te σ2 H2 λy H4=>ys.length < JM/\Pv (i+1) (ys++[y]) H4)(hd:∀ys H,Pv kvs.length ys H->F ys H):Eu n fr g Po te σ (FN d o kvs) H F:=by
 refine⟨λi m ys H=>m=kvs.length-i/\i<=kvs.length/\Pv i ys H,⟨kvs.length,by simp,LG _,h0⟩,?_⟩
 rintro i m ys H ⟨rfl,hi,p⟩
 have q:=hl i ys H hi p
 by_cases hlt:i < kvs.length
 ·refine .inr ⟨⟨q,hlt⟩,Pv (i+1),λys' H' p'=>⟨kvs.length-(i+1),by omega,rfl,hlt,p'⟩,λy H' z=>?_⟩
  obtain⟨T,kv,hT,rfl,hc,rfl⟩:=z
  exact hs i kv ys _ T hc p hT
 ·have e:i=kvs.length:=by omega
  subst e
  exact .inl ⟨⟨q,JI _⟩,hd ys H p⟩
theorem Rz:entryFor table "dict.update.loop" = some Builtin.«dict.update.loop» := entryFor_of_tree (by kernel_rfl)
theorem Kd:plainId "dict.update.loop" = true:=by decide +kernel
theorem iW:typeLookup (.type "list") "keys" = pure none:=am_miss_of_fast (by decide +kernel)
section
variable {prog:KC} {w:LL} {A:LI} {E:JD->JH->Prop} {s:JH}
theorem iE{a:JK}{xs:Array JD}{k:Nat}{Q:Option JD->JH->Prop}(hx:s.heap.get? a=some { cls:=.type "list", data:=.seq xs k })(hA:A.handled=none)(h:∀h' tk,(∀b o,s.heap.get? b=some o->h'.get? b=some o)->Q none { s with heap:=h',toks:=tk }):KR (KU prog w) A (getAttr? (.ref a) "keys") Q E s:=by
 obtain⟨hp,g,d,tk,os⟩:=s
 have hT:∀tk',(⟨hp,g,d,tk',os⟩:JH).TypeIs (.ref a) "list" := λ_=>⟨_,hx,rfl⟩
 have f1:=sub_AttributeError
 have f3:=F.slot_list_getattribute.lookup
 have f4:=F.slot_list_getattribute.bind (.ref a)
 have f5:=am_list_getattr_none
 unfold getAttr? getAttrBy? getAttrBy
 repeat (any_goals (first | assumption | exact hT _ | ((with_reducible show KR _ _ (call (Value.builtin "list.__getattribute__") _ _) _ _ _);refine call_meets F.slot_list_getattribute (hT _) am_entry_list_getattribute (F.args_list_getattribute_2 _ _) (meets_getattribute_miss_list a xs k #[] "keys" _ iW (by decide +kernel) (by size_fits)) ⟨hx,hA,λh' tk' e hx'=>?_⟩) | wp_step))
 obtain⟨t',u',he⟩:=hx'.there
 show KR _ _ (getattributeRaised _ _ _ _ _ _ _) _ _ _
 unfold getattributeRaised
 repeat (any_goals (first | assumption | wp_step))
 exact h _ _ hx'.keeps
end
section
variable {KK:Type} [DecidableEq KK]
def Qs(ps:List (KK×JD)):List (KK×JD):=ps.foldl (λa p=>stored a p.1 p.2) []
theorem iS{ps:List (KK×JD)}{i:Nat}{p:KK×JD}(h:ps[i]? = some p):Qs (ps.take (i+1))=stored (Qs (ps.take i)) p.1 p.2:=by
 unfold Qs
 rw[MD,h,List.foldl_append]
 rfl
theorem jR(a:List (KK×JD))(k:KK)(v:JD):(stored a k v).length<=a.length+1:=by
 unfold stored
 split
 ·rw[JF];omega
 ·rw[JJ];exact JI _
theorem eV:∀(ps:List (KK×JD))(a:List (KK×JD)),(ps.foldl (λa p=>stored a p.1 p.2) a).length<=a.length+ps.length
 | [],a=>JI _
 | p::ps,a=>by
  rw[List.foldl_cons,LN]
  have h1:=eV ps (stored a p.1 p.2)
  have h2:=jR a p.1 p.2
  omega
variable {prog:KC} {w:LL} {A:LI} {R:Result->JH->Prop} {I:JK} {fp wr:List JK} {G:Array GenState->Array GenState->Prop} {n:Nat} {P:Nat->JD->Prop} {St:Nat->JH->Prop}
theorem nJ{D:JK}{t:JK}{o:Obj}{k v:JD}{m:Nat}{i:Int}{Q:Unit->JH->Prop}{E:JD->JH->Prop}{s:JH}(ho:s.heap.get? t=some o)(hc:o.cls=.type "tuple")(hd:o.data=.seq #[k,v] m)(h:KR (KU prog w) A (dictSet D k v) Q E s):
 KR (KU prog w) A (do
  let pair <- (Builtin.Dict.pairItems (.ref t)).tryCatch λe=>do
   if !(<- isInstance e (.type "TypeError")) then throw e
   rule "dict.update.element-no-sequence"
   raiseError "TypeError" s!"cannot convert dictionary update sequence element #{i} to a sequence"
  match pair with
  | [k,v]=>holding [k,v] (dictSet D k v)
  | l=>
   rule "dict.update.element-length"
   raiseError "ValueError" s!"dictionary update sequence element #{i} has length {l.length}; 2 is required") Q E s:=by
 have hT:s.TypeIs (.ref t) "tuple" := ⟨_,ho,hc⟩
 have e1:KR (KU prog w) A (Builtin.Dict.pairItems (.ref t)) (λl s'=>l=[k,v]/\s'=s) (λ_ _=>False) s:=by
  unfold Builtin.Dict.pairItems
  refine JA (wpAny_typeOf hT ?_)
  rw[if_pos (by decide)]
  refine JA (MX ho hd (JO ⟨rfl,rfl⟩))
 refine JA (wpAny_tryCatch (MY e1 (λl s' h1=>?_) (λe s' z=>z.elim)))
 obtain⟨rfl,rfl⟩:=h1
 exact NC h
variable {knd:KeyKind prog w KK}
theorem kD(W:WalksS prog w A.in1 I fp wr G n P St)(D:JK)(hD:D∉fp)(ps:List (KK×JD))(hn:ps.length=n)(tu:Nat->JK)(key:Nat->JD)(hval:∀i v,P i v->v=.ref (tu i))(hne:∀i,i < n->tu i≠D/\tu i∉wr)(hkey:∀(i:Nat)(p:KK×JD),ps[i]? = some p->knd.is p.1 (key i)=true)(hb:n<=JM)(res:JD):
 ∀(k i:Nat)(j:Int)(tk:Tok)(s:JH),n-i=k->i<=n->St i s->(∀(i:Nat)(p:KK×JD),ps[i]? = some p->IsTup s.heap (tu i) #[key i,p.2])->s.heap.DictOf knd D (Qs (ps.take i)) ->
  (∀s',Moved (D::wr) G s s'->s'.heap.DictOf knd D (Qs ps)->R (.ok (.ret res)) s') ->
  RV (KU prog w) A (.builtin "dict.update.loop" ⟨[.ref D,.ref I,.int j tk,res],[]⟩) R s:=by
 have hw:D∉wr:=λh=>hD (W.sub _ h)
 have up:∀b∈wr,b∈D::wr:=λb hb=>JQ _ hb
 intro k
 induction k with
 | zero=>
  intro i j tk s hk hi st htu hd hR
  obtain rfl:i=n:=by omega
  rw[<- hn,List.take_length] at hd
  refine ON Rz ?_
  rw[NY Kd _]
  refine JA (m:=OW (.ref I)) (W.done s _ _ st λs' hm=>?_)
  refine JA (m:=Builtin.Dict.addKeywords D []) (JO (JO (hR s' (hm.mono up) ?_)))
  obtain⟨o,es,ep,ho,r⟩:=hd
  exact⟨o,es,ep,hm.heap D o hw ho,r⟩
 | succ k ih=>
  intro i j tk s hk hi st htu hd hR
  have hlt:i < n:=by omega
  obtain⟨p,hp⟩:∃p,ps[i]? = some p:=⟨_,JG (by rw[hn];exact hlt)⟩
  refine ON Rz ?_
  rw[NY Kd _]
  refine JA (m:=OW (.ref I)) (W.item i s _ _ hlt st λv s' hP st' hm=>?_)
  obtain rfl:=hval i v hP
  have hd':s'.heap.DictOf knd D (Qs (ps.take i)):=let ⟨o,es,ep,ho,r⟩:=hd;⟨o,es,ep,hm.heap D o hw ho,r⟩
  obtain⟨o,ho,hc,m,hdt⟩:=htu i p hp
  have ho':=hm.heap _ o (hne i hlt).2 ho
  have hz:(Qs (ps.take i)).length<=JM:=by
   have h1:=eV (ps.take i) []
   rw[NN] at h1
   unfold Qs
   simp only[List.length_nil] at h1
   omega
  refine JA (NC (nJ ho' hc hdt (wpAny_dictSet_pairs (hsz:=hz) (hkey i p hp) hd' λh' hd2 hs=>?_)))
  rw[<- iS hp] at hd2
  have kp:∀b o,b∉D::wr->s.heap.get? b=some o->h'.get? b=some o:=λb o hb e=>(hs.2 b (λz=>hb (by rw[z];exact JS))).trans (hm.heap b o (λz=>hb (JQ _ z)) e)
  refine JO ⟨RC Kd _,ih (i+1) (j+1) _ _ (by omega) hlt (W.frame _ s' _ _ st' (OI _) λb hb o e=>(hs.2 b (λz=>hD (z ▸ hb))).trans e) (λi2 p2 h2=>?_) hd2 λs2 m2 f2=>hR s2 (Moved.trans W.gtrans ((hm.mono up).then_heap (OI _) λb o hb e=>(hs.2 b (λz=>hb (by rw[z];exact JS))).trans e) m2) f2⟩
  obtain⟨o2,g1,g2⟩:=htu i2 p2 h2
  have hi2:i2 < n:=by rw[<- hn];exact(JB.mp h2).1
  exact⟨o2,kp _ _ (λz=>(JP.mp z).elim (hne i2 hi2).1 (hne i2 hi2).2) g1,g2⟩
theorem Rh{E:JD->JH->Prop}{s:JH}{l:JK}{items:Array JD}{k0:Nat}{ps:List (KK×JD)}{tu:Nat->JK}{key:Nat->JD}{Q:JD->JH->Prop}(hA:A.handled=none)(hl:s.heap.get? l=some { cls:=.type "list", data:=.seq items k0 })(hn:ps.length=items.size)(hi:∀(i:Nat)(v:JD),items[i]? = some v->v=.ref (tu i))(hkey:∀(i:Nat)(p:KK×JD),ps[i]? = some p->knd.is p.1 (key i)=true)(htu:∀(i:Nat)(p:KK×JD),ps[i]? = some p->IsTup s.heap (tu i) #[key i,p.2])(hb:items.size<=JM)(h:∀h' tk,h'.DictOf knd s.heap.objs.size (Qs ps)->(∀b o,s.heap.get? b=some o->h'.get? b=some o)->Q (.ref s.heap.objs.size) { s with heap:=h',toks:=tk }):
 KR (KU prog w) A (call (.type "dict") [.ref l]) Q E s:=by
 refine callType_codes (Q₁:=λobj s₁=>obj=.ref s.heap.objs.size/\s₁={ s with heap:=s.heap.push { cls:=.type "dict", data:=.dict #[] } }) F.kt_called_dict (F.kt_typeCall_dict_1 _) F.entry_dict_init (kt_code_dict_new _ ⟨rfl,rfl⟩) ?_
 rintro obj s₁ ⟨rfl,rfl⟩
 have hnew:(s.heap.push { cls:=.type "dict", data:=.dict #[] }).DictOf knd s.heap.objs.size []:=Heap.DictOf.new s.heap
 have hl1:(s.heap.push { cls:=.type "dict", data:=.dict #[] }).get? l=some { cls:=.type "list", data:=.seq items k0 }:=JE _ hl
 have hlS:l < s.heap.objs.size:=JW hl
 refine⟨hnew.typeIs,F.args_dict_init_2 _ _,?_⟩
 unfold Builtin.«dict.__init__»
 refine JA ?_
 unfold Builtin.Dict.selfAndRest
 refine JA (wpAny_notOrdered_dict hnew.typeIs ?_)
 show KR _ _ (pure (s.heap.objs.size,[JV l])) _ _ _
 refine JO ?_
 show KR _ _ (Builtin.Dict.updateFrom "dict.__init__" s.heap.objs.size (.ref l) [] .none) _ _ _
 unfold Builtin.Dict.updateFrom
 refine JA (wpAny_typeOf (T := "list") ⟨_,hl1,rfl⟩ ?_)
 rw[if_pos (by decide)]
 refine JA (iE hl1 hA λh1 tk1 kp=>?_)
 rw[if_pos (show (none:Option JD).isNone=true from rfl)]
 have hl2:h1.IsList l items:=⟨_,kp _ _ hl1,rfl,k0,rfl⟩
 have hnew2:h1.DictOf knd s.heap.objs.size (Qs (ps.take 0)):=let ⟨o,es,ep,ho,r⟩:=hnew;⟨o,es,ep,kp _ _ ho,r⟩
 refine JA (OY (JA (wpAny_pyIter_list hl2 (JO ⟨RC Kd _,?_⟩))))
 have hS1:s.heap.objs.size < h1.objs.size:=let ⟨o,es,ep,ho,r⟩:=hnew2;JW ho
 have hneI:l≠h1.objs.size:=KL (Nat.lt_trans hlS hS1)
 refine kD (knd:=knd) ((Pg (A:=A.in1.in1) _ l hneI items).toS) s.heap.objs.size ?_ ps hn tu key hi (λi hi'=>?_) hkey hb .none (items.size-0) 0 0 _ _ (by omega) (LG _) ⟨⟨_,JZ _ rfl,rfl,rfl⟩,hl2.push _,.inl hA⟩ (λi p hp=>?_) (hnew2.push _) ?_
 ·simp only[JP,KG,or_false,not_or]
  refine⟨KL hS1,OC hlS,λz=>?_⟩
  unfold Ms at z
  rw[show A.in1.in1.handled=none from hA] at z
  cases z
 ·obtain⟨p,hp⟩:∃p,ps[i]? = some p:=⟨_,JG (by rw[hn];exact hi')⟩
  obtain⟨o,g1,_⟩:=htu i p hp
  have hlt:=JW g1
  refine⟨KL hlt,λz=>?_⟩
  rw[JL.mp z] at hlt
  exact absurd (Nat.lt_trans hlt hS1) (PK _)
 ·obtain⟨o,g1,g2⟩:=htu i p hp
  exact⟨o,JE _ (kp _ _ (JE _ g1)),g2⟩
 ·rintro⟨h',g',d',tk',os'⟩ hm hd
  obtain rfl:g'=s.gens:=hm.gens
  obtain rfl:d'=s.drawn:=hm.drawn
  obtain rfl:os'=s.os:=hm.os
  refine⟨rfl,h h' tk' hd λb o e=>hm.heap b o ?_ (JE _ (kp _ _ (JE _ e)))⟩
  simp only[JP,KG,or_false,not_or]
  exact⟨KL (JW e),KL (Nat.lt_trans (JW e) hS1)⟩
end
section
variable {X:Cx}
theorem CM{α:Type}(d:α){n:Nat}{Pr:Nat->α->Prop}(h:∀i:Nat,i < n->∃a,Pr i a):∃g:Nat->α,∀i,i < n->Pr i (g i):=
 ⟨λi=>if hi:i < n then Classical.choose (h i hi) else d,λi hi=>by
  dsimp only
  rw[dif_pos hi]
  exact Classical.choose_spec (h i hi)⟩
theorem KV.sto{kvs:List (Key×V)}{vs:List (Key×JD)}(r:KV kvs vs)(nd:(kvs.map (·.1)).Nodup):KV kvs (Qs vs):=by
 have key:∀(kvs:List (Key×V))(vs:List (Key×JD)),KV kvs vs->∀(as:List (Key×V))(bs:List (Key×JD)),KV as bs->((as++kvs).map (·.1)).Nodup->KV (as++kvs) (vs.foldl (λa p=>stored a p.1 p.2) bs):=by
  intro kvs vs r
  induction r with
  | nil=>intro as bs ab _;rw[LX];exact ab
  | @cons p q ps qs h t ih=>
   intro as bs ab nd
   obtain⟨h1,h2⟩:=h
   rw[List.foldl_cons]
   have e:putK as p.1 p.2=as++[p]:=Qw _ (by
    cases z:valV as p.1 with
    | none=>rfl
    | some v=>
     obtain⟨a,ha,e⟩:∃a∈as,a.1=p.1:=by
      unfold valV at z
      cases f:as.find? (λkv=>decide (kv.1=p.1)) with
      | none=>rw[f] at z;cases z
      | some a=>exact⟨a,List.mem_of_find?_eq_some f,by simpa using List.find?_some f⟩
     rw[JT,OA] at nd
     exact absurd e (nd.2.2 _ (LM.mpr ⟨a,ha,rfl⟩) _ (LM.mpr ⟨p,JS,rfl⟩)))
   have n:=ab.put p.1 h2
   rw[e,h1] at n
   have:=ih (as++[p]) _ n (by rw[OB];exact nd)
   rw[OB] at this
   exact this
 exact key kvs vs r [] [] .nil nd
theorem Nq(hc:X.sx=true):Fj X (.type "dict") (λys H Q=>∃(a:JK)(ts:List JK)(kvs:List (Key×V)),ys=[.ref a]/\H a=some (.lst (ts.map V.ref))/\ts.length=kvs.length/\(∀(i:Nat)(t:JK)(kv:Key×V),ts[i]? = some t->kvs[i]? = some kv->H t=some (.tup [kV kv.1,kv.2]))/\(kvs.map (·.1)).Nodup/\∀p,H p=none->Q (.ref p) (upd H p (.dK kvs))):=by
 intro pins s σ H ys us Q I r h
 obtain⟨a,ts,kvs,rfl,ha,hl,htk,nd,q⟩:=h
 obtain⟨u,rfl,ru⟩:=vals1 r
 cases ru
 obtain⟨z,its,n,rv,e⟩:=(Rd.of ha).ok I.hok
 have hlen:=rv.length
 rw[JF] at hlen z
 -- the pairs' values
 have hp:∀i:Nat,i < kvs.length->∃kx:JD×JD,IsTup s.heap (ts.getD i 0) #[kx.1,kx.2]/\RelV (kV (kvs.getD i (NE 0,.non)).1) kx.1/\RelV (kvs.getD i (NE 0,.non)).2 kx.2:=by
  intro i hi
  have h1:ts[i]? = some ts[i]:=JG (by omega)
  have h2:kvs[i]? = some kvs[i]:=JG hi
  obtain⟨its',rv',ht,_⟩:=I.tuple (Co.of (htk i _ _ h1 h2))
  obtain⟨x,y,rfl,r1,r2⟩:=vals2 rv'
  have e1:ts.getD i 0=ts[i]:=by rw[LF,h1];rfl
  have e2:kvs.getD i (NE 0,.non)=kvs[i]:=by rw[LF,h2];rfl
  rw[e1,e2]
  exact⟨(x,y),ht,r1,r2⟩
 obtain⟨kx,hkx⟩:=CM (.none,.none) hp
 obtain⟨ps,eps⟩:∃ps:List (Key×JD),ps=(SD kvs.length).map λi=>((kvs.getD i (NE 0,.non)).1,(kx i).2):=⟨_,rfl⟩
 have hps:ps.length=kvs.length:=by rw[eps,JF,List.length_range]
 have hpi:∀(i:Nat)(p:Key×JD),ps[i]? = some p->i < kvs.length/\p=((kvs.getD i (NE 0,.non)).1,(kx i).2):=λi p h=>by
  have hi:i < kvs.length:=by rw[<- hps];exact(JB.mp h).1
  have:ps[i]? = some ((kvs.getD i (NE 0,.non)).1,(kx i).2):=by rw[eps,KJ,List.getElem?_range hi];rfl
  rw[this] at h
  exact⟨hi,(KW h).symm⟩
 have hKV:KV kvs ps:=by
  have g:∀(m:Nat),m<=kvs.length->KV (kvs.take m) (((SD m).map λi=>((kvs.getD i (NE 0,.non)).1,(kx i).2))):=by
   intro m
   induction m with
   | zero=>intro _;exact .nil
   | succ m ih=>
    intro hm
    have h2:kvs[m]? = some kvs[m]:=JG (by omega)
    rw[MD,h2,List.range_succ,JT]
    refine Paired.snoc (ih (by omega)) ?_
    have e2:kvs.getD m (NE 0,.non)=kvs[m]:=by rw[LF,h2];rfl
    have:=(hkx m (by omega)).2.2
    rw[e2] at this
    refine⟨?_,this⟩
    show kvs[m].1=(kvs.getD m (NE 0,.non)).1
    rw[e2]
  have:=g kvs.length (JI _)
  rw[List.take_length,<- eps] at this
  exact this
 refine Rh (knd:=Bo X.prog X.w) (ps:=ps) (tu:=λi=>ts.getD i 0) (key:=λi=>(kx i).1) (I.ok.st hc) e (by rw[hps,KP];omega) (λi v hv=>?_) (λi p hp'=>?_) (λi p hp'=>?_) (by rw[KP];omega) λh' tk hd k=>?_
 ·have hv':its[i]? = some v:=by simpa using hv
  have hil:i < ts.length:=by rw[hlen];exact(JB.mp hv').1
  obtain⟨v2,e2,r2⟩:=rv.get (i:=i) (x:=.ref ts[i]) (by rw[KJ,JG hil]<;>rfl)
  rw[hv'] at e2
  cases e2
  cases r2
  rw[LF,JG hil]
  rfl
 ·obtain⟨hi,rfl⟩:=hpi i p hp'
  exact Lj (hkx i hi).2.1
 ·obtain⟨hi,rfl⟩:=hpi i p hp'
  exact(hkx i hi).1
 ·have hsz:kvs.length<=JM:=by omega
  exact⟨.ref s.heap.objs.size,_,I.laid (t':=tk) (o:=.dK kvs) k (JI _) ⟨hsz,beq_false_of_ne (OC I.big),_,hKV.sto nd,hd⟩,rfl,q _ (I.hok.fresh (JI _))⟩
end
end L2
namespace Bk
open PySem L2 Mg Nm Rk
structure Zt(H:Hp)(da:JK)(ws:List (Str×JK))(lad:Str->List Nat):Prop where
 dic:Rd H da (.dK (Mc ws))
 nd:(ws.map (·.1)).Nodup
 lst:∀q∈ws,H q.2=some (.lst (Je (lad q.1)))
 no:∀w,w∉ws.map (·.1)->lad w=[]
theorem Zt.same{H H':Hp}{da:JK}{ws:List (Str×JK)}{lad:Str->List Nat}(A:Zt H da ws lad)(s:Am H H'):Zt H' da ws lad:=⟨A.dic.imp (s _ _) λ⟨o,z⟩=>⟨o,s _ _ z⟩,A.nd,λq hq=>s _ _ (A.lst q hq),A.no⟩
theorem Mn{W:List (Str×JK)}{q:Str×JK}(nd:(W.map (·.1)).Nodup)(h:q∈W):valV (Mc W) (KD q.1:Key)=some (.ref q.2):=by
 rw[Tw]
 induction W with
 | nil=>cases h
 | cons e L ih=>
  rw[LU,LQ] at nd
  rcases JP.mp h with rfl | h
  ·rw[QH (by simp)]
   rfl
  ·rw[QI (by
    have:e.1≠q.1:=λz=>nd.1 (by rw[z];exact LM.mpr ⟨q,h,rfl⟩)
    rw[decide_eq_false this]
    exact JN)]
   exact ih nd.2 h
theorem fU{W:List (Str×JK)}{w:Str}(h:w∉W.map (·.1)):valV (Mc W) (KD w:Key)=none:=by
 rw[Tw,List.find?_eq_none.mpr]
 ·rfl
 ·intro q hq
  have:¬ q.1=w:=λz=>h (by rw[<- z];exact LM.mpr ⟨q,hq,rfl⟩)
  simp[this]
theorem Xr{W:List (Str×JK)}{w:Str}{v:V}(h:valV (Mc W) (KD w:Key)=some v):∃q∈W,q.1=w/\v=.ref q.2:=by
 rw[Tw] at h
 cases e:W.find? λp=>decide (p.1=w) with
 | none=>rw[e] at h;cases h
 | some q=>
  rw[e] at h
  cases h
  exact⟨q,List.mem_of_find?_eq_some e,by simpa using List.find?_some e,rfl⟩
theorem eZ{W:List (Str×JK)}{w:Str}{a:JK}(h:w∉W.map (·.1)):putK (Mc W) (KD w:Key) (.ref a)=Mc (W++[(w,a)]):=by
 rw[Qw _ (fU h)]
 unfold Mc
 rw[JT]
 rfl
def eX:Sp:=λvs H Q _=>∃(da:JK)(ws:List (Str×JK))(lad:Str->List Nat)(w:Str)(r:Nat),vs=[.ref da,.str w,.int (r:Int)]/\Zt H da ws lad/\∀v H',Am H H'->Ak.LdAt H' v (Fl lad w r)->Q v H'
def BP(lad:Str->List Nat)(l:Ah.Ld):Stp->Ah.Stp
 | .sm _=>.oth
 | .onw=>.ld l
 | .ask y=>.ld (Fl lad y 0)
 | .tri y z=>.ei (Fl lad y 0) (Fl lad z 0)
theorem yD(lad:Str->List Nat)(w:Str)(r:Nat):∀s:Stp,DD lad w r s=BP lad (Fl lad w r) s
 | .sm _=>rfl
 | .onw=>rfl
 | .ask _=>rfl
 | .tri _ _=>rfl
def aO:Sp:=λvs H Q _=>∃(t da:JK)(ov:V)(ws:List (Str×JK))(lad:Str->List Nat)(l:Ah.Ld)(s:Stp),vs=[.ref t,ov,.ref da]/\H t=some (.tup (.str s.pr.1::s.pr.2))/\nH s/\Zt H da ws lad/\Ak.LdAt H ov l/\∀v H',Am H H'->Ak.StAt H' v (BP lad l s)->Q v H'
def Vn:Sp:=λvs H Q _=>∃(ba da:JK)(ov:V)(ts:List JK)(ss:List Stp)(ws:List (Str×JK))(lad:Str->List Nat)(l:Ah.Ld),vs=[.ref ba,ov,.ref da]/\H ba=some (.lst (ts.map V.ref))/\Dq H ts (ss.map Stp.pr)/\(∀s∈ss,nH s)/\ss.length<=30/\Zt H da ws lad/\Ak.LdAt H ov l /\
 ∀(r:JK)(us:List V)(H':Hp),H r=none->Am H H'->H' r=some (.lst us)->Ak.StsAt H' us (ss.map (BP lad l))->Q (.ref r) H'
section
variable {P:KC} {w:LL} {K:JC} {mg:Str->Option JD} {base:MQ} {f fW fO:JK} {fd dW dO:LB}
theorem xE:An ["ladders","word","rung","ladder"] ["ladders","word","rung"] (Ad xY):=Ez (by decide +kernel)
theorem yA(F:Dj K "way" "way" xY f fd)(T:Txt mg):Al P w K mg base Bi 1 f fd ["ladders","word","rung"] eX:=by
 refine F.ok xE (λvs H Q E h=>?_) (λcdv A outer s H vs Q E hr h=>?_)
 ·obtain⟨da,ws,lad,w,r,rfl,_⟩:=h
  rfl
 obtain⟨da,ws,lad,w,r,rfl,L,q⟩:=h
 have hu:=Fm hr
 refine⟨_,Ac (Bv 3 xE.nd (Jh hu (pv 0) (pv 1) (Df Fu) ⟨rfl,rfl,rfl,rfl⟩))
  (Ac (Ay (Ar Qx (pv 2) (Bw T.len (pv 3)) (Au _)) (Af (Ao (Cb (Em Ba (As Bj (pv 3) (pv 2) (λ_ _=>rfl)))))) Ap)
  (Af (Ao (Cb (Du Ba))))),?_⟩
 refine⟨_,rfl,da,rfl,.inl ⟨_,L.dic⟩,_,rfl,(by show 0<=JM;decide),λl0 hl0=>?_⟩
 obtain⟨H1,zz,s1,e1⟩:=lay hl0 (.lst [])
 rw[zz]
 have L1:=L.same s1
 refine⟨_,.inl ⟨_,KD w,L1.dic,rfl,rfl⟩,?_⟩
 obtain⟨a,ea,ha⟩:∃a,((valV (Mc ws) (KD w:Key)).getD (V.ref l0))=.ref a/\H1 a=some (.lst (Je (lad w))):=by
  by_cases hw:w∈ws.map (·.1)
  ·obtain⟨q0,hq,rfl⟩:=LM.mp hw
   rw[Mn L.nd hq]
   exact⟨q0.2,rfl,L1.lst q0 hq⟩
  ·rw[fU hw,L.no w hw]
   exact⟨l0,rfl,e1⟩
 rw[ea]
 have z2:2<=JM:=by rw[KO];decide
 refine⟨_,rfl,_,rfl,a,_,rfl,.inl (Aw.of ha),_,_,rfl,rfl,_,rfl,Br (λc=>?_) (λc=>?_)⟩
 ·have c':(r:Int) < ((Je (lad w)).length:Int):=of_decide_eq_true c
  rw[Hg] at c'
  have hr':r < (lad w).length:=by omega
  have hp:=JG hr'
  have hway:Fl lad w r=.go (lad w)[r]:=by unfold Fl;rw[hp]
  rw[hway] at q
  refine⟨_,rfl,_,rfl,a,_,_,_,rfl,rfl,Aw.of ha,Bc (qM hp),by show 2<=JM;exact z2,λt ht=>?_⟩
  exact q _ _ (s1.trans (Ag ht _)) ⟨t,rfl,Aa⟩
 ·have c':¬ (r:Int) < ((Je (lad w)).length:Int):=of_decide_eq_false (NG.mpr c)
  rw[Hg] at c'
  have hway:Fl lad w r=.none:=by unfold Fl;rw[List.getElem?_eq_none (by omega)]
  rw[hway] at q
  refine⟨by show 1<=JM;exact KS (by decide) z2,λt ht=>?_⟩
  exact q _ _ (s1.trans (Ag ht _)) ⟨t,rfl,Aa⟩
theorem xW:An ["step","onwards","ladders"] ["step","onwards","ladders"] (Ad pC):=Ez (by decide +kernel)
theorem tK(F:Dj K "without_elders" "without_elders" pC f fd)(GW:Al P w K mg base Bi 1 fW dW ["ladders","word","rung"] eX)(kW:JR K (.ref fW)=true)(bW:Binds K dW ["ladders","word","rung"] [])(mW:mg "way" = some (.ref fW)):Al P w K mg base Bi 2 f fd ["step","onwards","ladders"] aO:=by
 refine F.ok xW (λvs H Q E h=>?_) (λcdv A outer s H vs Q E hr h=>?_)
 ·obtain⟨t,da,ov,ws,lad,l,s,rfl,_⟩:=h
  rfl
 obtain⟨t,da,ov,ws,lad,l,s,rfl,ht,ok,L,ho,q⟩:=h
 refine⟨_,Ac (Ay (Ar Cc (As Ax (pv 0) Ae (λ_ _=>rfl)) Ba (Au _)) (Af (Ao (pv 1))) Ap)
  (Ac (Ay (Ar Cc (As Ax (pv 0) Ae (λ_ _=>rfl)) Ba (Au _)) (Af (Ao (Cf GW hr mW kW bW (Ja (pv 2) (As Ax (pv 0) Ae (λ_ _=>rfl)) Ae)))) Ap)
  (Ac (Ay (Ar Cc (As Ax (pv 0) Ae (λ_ _=>rfl)) Ba (Au _)) (Af (Ao (Cb (Ja Ba (Cf GW hr mW kW bW (Ja (pv 2) (As Ax (pv 0) Ae (λ_ _=>rfl)) Ae)) (Cf GW hr mW kW bW (Ja (pv 2) (As Ax (pv 0) Ae (λ_ _=>rfl)) Ae)))))) Ap)
  (Af (Ao (pv 0))))),?_⟩
 have at0:Jb (V.str s.pr.1::s.pr.2) 0=some (.str s.pr.1):=Bc (j:=0) rfl
 refine⟨_,rfl,t,_,_,_,rfl,rfl,Co.of ht,at0,rfl,_,rfl,Br (λc=>?_) (λc1=>?_)⟩
 ·have hs:s=.onw:=by
   cases s with
   | sm s=>exact absurd (Bq c) (Kz ok (by decide +kernel))
   | onw=>rfl
   | ask w=>exact absurd (Bq c) (show ¬ ("ask" : Str) = "onwards" by decide +kernel)
   | tri w o=>exact absurd (Bq c) (show ¬ ("try" : Str) = "onwards" by decide +kernel)
  subst hs
  exact⟨_,rfl,q _ _ (Am.refl _) ho⟩
 refine⟨_,rfl,t,_,_,_,rfl,rfl,Co.of ht,at0,rfl,_,rfl,Br (λc=>?_) (λc2=>?_)⟩
 ·obtain⟨y,rfl⟩:∃y,s=.ask y:=by
   cases s with
   | sm s=>exact absurd (Bq c) (Kz ok (by decide +kernel))
   | onw=>exact absurd (Bq c) (by decide +kernel)
   | ask w=>exact⟨w,rfl⟩
   | tri w o=>exact absurd (Bq c) (show ¬ ("try" : Str) = "ask" by decide +kernel)
  have at1:Jb [V.str "ask", V.str y] 1=some (.str y):=Bc (j:=1) rfl
  refine⟨_,rfl,_,rfl,t,_,_,_,rfl,rfl,Co.of ht,at1,?_⟩
  exact⟨da,ws,lad,y,0,rfl,L,λv H' s1 h1=>q v H' s1 h1⟩
 refine⟨_,rfl,t,_,_,_,rfl,rfl,Co.of ht,at0,rfl,_,rfl,Br (λc=>?_) (λc3=>?_)⟩
 ·obtain⟨y,z,rfl⟩:∃y z,s=.tri y z:=by
   cases s with
   | sm s=>exact absurd (Bq c) (Kz ok (by decide +kernel))
   | onw=>exact absurd (Bq c) (by decide +kernel)
   | ask w=>exact absurd (Bq c) (show ¬ ("ask" : Str) = "try" by decide +kernel)
   | tri w o=>exact⟨w,o,rfl⟩
  have at1:Jb [V.str "try", V.str y,V.str z] 1=some (.str y):=Bc (j:=1) rfl
  have at2:Jb [V.str "try", V.str y,V.str z] 2=some (.str z):=Bc (j:=2) rfl
  refine⟨_,rfl,_,rfl,t,_,_,_,rfl,rfl,Co.of ht,at1,da,ws,lad,y,0,rfl,L,λv1 H1 s1 h1=>?_⟩
  refine⟨_,rfl,_,rfl,t,_,_,_,rfl,rfl,Co.of (s1 _ _ ht),at2,da,ws,lad,z,0,rfl,L.same s1,λv2 H2 s2 h2=>?_⟩
  refine⟨by show 3<=JM;decide,λr hr'=>?_⟩
  have s3:=Ag hr' (.tup [.str "either", v1,v2])
  exact q _ _ ((s1.trans s2).trans s3) ⟨r,v1,v2,rfl,Aa,h1.keep (s2.trans s3).keepT,h2.keep s3.keepT⟩
 obtain⟨s',rfl⟩:∃s',s=.sm s':=by
  cases s with
  | sm s=>exact⟨s,rfl⟩
  | onw=>exact absurd rfl (Dc c1)
  | ask w=>exact absurd rfl (Dc c2)
  | tri w o=>exact absurd rfl (Dc c3)
 refine⟨_,rfl,q _ _ (Am.refl _) ⟨t,_,_,rfl,ht,Kz ok (by decide +kernel),Kz ok (by decide +kernel),Kz ok (by decide +kernel),?_,trivial,trivial⟩⟩
 cases s' with
 | say=>exact .inl rfl
 | op kd a=>exact .inr ⟨a,rfl⟩
theorem DQ:(["step","ladders","onwards"]:List Str).Nodup:=by decide +kernel
theorem vA:An ["body","onwards","ladders"] ["body","onwards","ladders"] (Ad Vx):=Ez (by decide +kernel)
theorem oW(F:Dj K "row_of" "row_of" Vx f fd)(GO:Al P w K mg base Bi 2 fO dO ["step","onwards","ladders"] aO)(kO:JR K (.ref fO)=true)(bO:Binds K dO ["step","onwards","ladders"] [])(mO:mg "without_elders" = some (.ref fO)):Al P w K mg base Bi 3 f fd ["body","onwards","ladders"] Vn:=by
 refine F.ok vA (λvs H Q E h=>?_) (λcdv A outer s H vs Q E hr h=>?_)
 ·obtain⟨ba,da,ov,ts,ss,ws,lad,l,rfl,_⟩:=h
  rfl
 obtain⟨ba,da,ov,ts,ss,ws,lad,l,rfl,hb,hst,hok,hsl,L,ho,q⟩:=h
 refine⟨_,Af (Ao (Hh (Ad Vx) ["body","onwards","ladders"] ["step"] [("ladders", 2),("onwards", 1)] rfl (Dk (pv 0)) (Bm (i:=0) (by decide))
  (λ_ _ _ _ _ _=>⟨Dg 0 DQ,Ds,Cf GO hr mO kO bO (Ja (pv 0) (pv 2) (pv 1))⟩))),?_⟩
 refine⟨_,rfl,ba,rfl,⟨_,Aw.of hb⟩,Dz (K:=K) (a:=ba) (xs:=ts.map V.ref) (λi ys H2=>Am H H2/\Ak.StsAt H2 ys ((ss.take i).map (BP lad l))/\ys.length=i) ⟨Am.refl _,.nil,rfl⟩ (λi ys H2 _ h=>Aw.of (h.1 _ _ hb)) ?_ ?_⟩
 ·rintro i v ys H2 hi ⟨s2,hp,hl⟩
  obtain⟨t,ht,rfl⟩:=Ea hi
  have hil:i < ss.length:=by
   have h1:=hst.1
   rw[JF] at h1
   rw[<- h1]
   exact(JB.mp ht).1
  have hsi:=JG hil
  have hH:=hst.2 i t (Stp.pr ss[i]) ht (by rw[KJ,hsi];rfl)
  refine⟨_,rfl,_,rfl,_,rfl,t,da,ov,ws,lad,l,ss[i],rfl,s2 _ _ hH,hok _ (OJ hil),L.same s2,ho.keep s2.keepT,λv' H3 s3 h3=>?_⟩
  refine⟨by rw[hl,KO];omega,s2.trans s3,?_,by rw[JJ,hl];rfl⟩
  rw[MD,hsi,JT]
  exact Paired.snoc (Paired.mapP hp λ_ _ z=>z.keep s3.keepT) h3
 ·rintro ys H2 ⟨s2,hp,hl⟩ r hr'
  have h1:=hst.1
  rw[JF] at h1
  rw[JF,h1,List.take_length] at hp
  have s3:=Ag hr' (.lst ys)
  exact q r ys _ (s2.free hr') (s2.trans s3) Aa (Paired.mapP hp λ_ _ z=>z.keep s3.keepT)
end
theorem AC{xs:List Str}(h:xs.Nodup):(xs.map λw:Str=>(KD w:Key)).Nodup:=by
 induction xs with
 | nil=>exact OR
 | cons x xs ih=>
  rw[LQ] at h
  rw[LU,LQ]
  refine⟨λz=>?_,ih h.2⟩
  obtain⟨y,hy,e⟩:=LM.mp z
  exact h.1 (KD.inj e ▸ hy)
def BZ(H:Hp)(l:JK)(ss:List Stp):Prop:=∃ts:List JK,H l=some (.lst (ts.map V.ref))/\Dq H ts (ss.map Stp.pr)/\(∀s∈ss,nH s)/\ss.length<=30
theorem BZ.same{H H':Hp}{l:JK}{ss:List Stp}(h:BZ H l ss)(s:Am H H'):BZ H' l ss:=let ⟨ts,a,b,c,d⟩:=h;⟨ts,s _ _ a,⟨b.1,λi t p h1 h2=>s _ _ (b.2 i t p h1 h2)⟩,c,d⟩
theorem Qe{H H':Hp}{ts:List JK}{ps:List (Str×List V)}(h:Dq H ts ps)(s:Am H H'):Dq H' ts ps:=⟨h.1,λi t p h1 h2=>s _ _ (h.2 i t p h1 h2)⟩
structure Pj(M H:Hp)(da ea:JK)(ws:List (Str×JK))(lad:Str->List Nat)(ts:List JK)(es:List (Str×Nat×List Stp)):Prop where
 same:Am M H
 md:M da=none
 me:M ea=none
 ml:∀q∈ws,M q.2=none
 dk:H da=some (.dK (Mc ws))
 nd:(ws.map (·.1)).Nodup
 lst:∀q∈ws,H q.2=some (.lst (Je (lad q.1)))
 no:∀w,w∉ws.map (·.1)->lad w=[]
 na:∀q∈ws,∀r∈ws,q.2=r.2->q.1=r.1
 ne:∀q∈ws,q.2≠ea
 ent:H ea=some (.lst (ts.map V.ref))
 len:ts.length=es.length
 row:∀(i:Nat)(t:JK)(e:Str×Nat×List Stp),ts[i]? = some t->es[i]? = some e->∃l,M t=some (.tup [.str e.1,.int ((e.2.1:Nat):Int),.ref l])/\BZ M l e.2.2
section
variable {M H:Hp} {da ea:JK} {ws:List (Str×JK)} {lad:Str->List Nat} {ts:List JK} {es:List (Str×Nat×List Stp)}
theorem Pj.init(H:Hp)(da ea:JK)(h1:H da=none)(h2:upd H da (.dK []) ea=none):Pj H (upd (upd H da (.dK [])) ea (.lst [])) da ea [] (λ_=>[]) [] []:=by
 have s1:=Ag h1 (.dK [])
 have s2:=Ag h2 (.lst [])
 exact⟨s1.trans s2,h1,s1.free h2,(λq hq=>nomatch hq),s2 _ _ Aa,OR,(λq hq=>nomatch hq),λ_ _=>rfl,(λq hq=>nomatch hq),(λq hq=>nomatch hq),Aa,rfl,λi t e h=>by simp at h⟩
theorem Pj.lay(I:Pj M H da ea ws lad ts es){l:JK}(h:H l=none)(o:HO):Pj (upd M l o) (upd H l o) da ea ws lad ts es:=by
 have hM:M l=none:=I.same.free h
 have s:=Ag h o
 have sM:=Ag hM o
 refine⟨λb u e=>?_,?_,?_,λq hq=>?_,s _ _ I.dk,I.nd,λq hq=>s _ _ (I.lst q hq),I.no,I.na,I.ne,s _ _ I.ent,I.len,λi t e h1 h2=>?_⟩
 ·by_cases hb:b=l
  ·subst hb
   rw[Aa] at e ⊢
   exact e
  ·rw[Aj hb] at e ⊢
   exact I.same b u e
 ·rw[Aj (Ai I.dk h)];exact I.md
 ·rw[Aj (Ai I.ent h)];exact I.me
 ·rw[Aj (Ai (I.lst q hq) h)];exact I.ml q hq
 ·obtain⟨x,a,b⟩:=I.row i t e h1 h2
  exact⟨x,sM _ _ a,b.same sM⟩
theorem Pj.add(I:Pj M H da ea ws lad ts es){v:Str}{l:JK}(h:H l=none)(hv:v∉ws.map (·.1)):Pj M (upd (upd H l (.lst [])) da (.dK (Mc (ws++[(v,l)])))) da ea (ws++[(v,l)]) lad ts es:=by
 have s:=Ag h (.lst [])
 have nd:l≠da:=LH (Ai I.dk h)
 have k:∀b o,upd H l (.lst []) b=some o->(∀z,o ≠ .dK z)->(upd (upd H l (.lst [])) da (.dK (Mc (ws++[(v,l)])))) b=some o:=λb o e n=>by
  rw[Aj (Cd e (s _ _ I.dk) (n _))]
  exact e
 refine⟨λb u e=>?_,I.md,I.me,λq hq=>?_,Aa,?_,λq hq=>?_,λw hw=>I.no w λz=>hw (by rw[JT];exact MG _ z),λq hq r hr e=>?_,λq hq=>?_,k _ _ (s _ _ I.ent) (by intro z y;cases y),I.len,I.row⟩
 ·rw[Aj (Ai e I.md)]
  exact s _ _ (I.same b u e)
 ·rcases KI.mp hq with h1 | h1
  ·exact I.ml q h1
  ·rw[JL.mp h1]
   exact I.same.free h
 ·rw[JT,OA]
  exact⟨I.nd,by simp,λa ha b hb=>by rw[show b=v by simpa using hb];exact λz=>hv (z ▸ ha)⟩
 ·rcases KI.mp hq with h1 | h1
  ·exact k _ _ (s _ _ (I.lst q h1)) (by intro z y;cases y)
  ·rw[JL.mp h1]
   show _=some (HO.lst (Je (lad v)))
   rw[I.no v hv]
   exact k _ _ Aa (by intro z y;cases y)
 ·rcases KI.mp hq with h1 | h1<;>rcases KI.mp hr with h2 | h2
  ·exact I.na q h1 r h2 e
  ·rw[JL.mp h2] at e
   exact absurd e (Ai (I.lst q h1) h)
  ·rw[JL.mp h1] at e
   exact absurd e.symm (Ai (I.lst r h2) h)
  ·rw[JL.mp h1,JL.mp h2]
 ·rcases KI.mp hq with h1 | h1
  ·exact I.ne q h1
  ·rw[JL.mp h1]
   exact LH (Ai I.ent h)
theorem tR{q r:Str×JK}(nd:(ws.map (·.1)).Nodup)(hq:q∈ws)(hr:r∈ws)(e:q.1=r.1):q.2=r.2:=by
 have h1:=Mn nd hq
 have h2:=Mn nd hr
 rw[e,h2] at h1
 injection h1 with h1
 injection h1 with h1
 exact h1.symm
theorem Pj.push(I:Pj M H da ea ws lad ts es){v:Str}{a:JK}(hq:(v,a)∈ws)(n:Nat):Pj M (upd H a (.lst (Je (lad v)++[.int (n:Int)]))) da ea ws (Kr lad v n) ts es:=by
 have ha:=I.lst _ hq
 have k:∀b o,H b=some o->b≠a->(upd H a (.lst (Je (lad v)++[.int (n:Int)]))) b=some o:=λb o e n=>by rw[Aj n];exact e
 refine⟨λb u e=>?_,I.md,I.me,I.ml,k _ _ I.dk (Cd I.dk ha (by intro z;cases z)),I.nd,λr hr=>?_,λw hw=>?_,I.na,I.ne,k _ _ I.ent (LH (I.ne _ hq)),I.len,I.row⟩
 ·exact k _ _ (I.same b u e) (Ai e (I.ml _ hq))
 ·by_cases hv:r.1=v
  ·have e2:r.2=a:=tR I.nd hr hq hv
   rw[e2,Aa]
   unfold Kr
   rw[if_pos hv,hv]
   unfold Je
   rw[JT]
   rfl
  ·have e2:r.2≠a:=λz=>hv (I.na r hr _ hq z)
   rw[k _ _ (I.lst r hr) e2]
   unfold Kr
   rw[if_neg hv]
 ·unfold Kr
  rw[if_neg (λz=>hw (by rw[z];exact LM.mpr ⟨_,hq,rfl⟩))]
  exact I.no w hw
theorem Pj.put(I:Pj M H da ea ws lad ts es){v:Str}{n:Nat}{b:List Stp}{t l:JK}(ht:M t=some (.tup [.str v,.int ((n:Nat):Int),.ref l]))(hb:BZ M l b):Pj M (upd H ea (.lst (ts.map V.ref++[.ref t]))) da ea ws lad (ts++[t]) (es++[(v,n,b)]):=by
 have k:∀b o,H b=some o->b≠ea->(upd H ea (.lst (ts.map V.ref++[.ref t]))) b=some o:=λb o e n=>by rw[Aj n];exact e
 refine⟨λb u e=>k _ _ (I.same b u e) (Ai e I.me),I.md,I.me,I.ml,k _ _ I.dk (Cd I.dk I.ent (by intro z;cases z)),I.nd,λr hr=>k _ _ (I.lst r hr) (I.ne r hr),I.no,I.na,I.ne,by rw[Aa,JT];rfl,by rw[JJ,JJ,I.len];rfl,λi t' e h1 h2=>?_⟩
 by_cases hi:i < ts.length
 ·rw[KH hi] at h1
  rw[KH (by rw[<- I.len];exact hi)] at h2
  exact I.row i t' e h1 h2
 ·have hi':i=ts.length:=by
   have:=(JB.mp h1).1
   rw[JJ,JU] at this
   omega
  subst hi'
  rw[KA] at h1
  rw[I.len,KA] at h2
  cases h1
  cases h2
  exact⟨l,ht,hb⟩
end
def Lx(ws:List Str)(lad:Str->List Nat):List (Key×V):=ws.map λw=>((KD w:Key),V.int (((lad w).getD 0 0:Nat):Int))
def Vq(CB CH:JK):Sp:=λvs H Q _=>∃(p d:JK)(L:List Ent)(x:Str)(e:Ent)(B:Ci),vs=[.ref p,.str x]/\Hl L x=some e/\QB CB CH H p d L e.od B/\(∀y∈e.od,∀e',Hl L y=some e'->∃W:List (Str×JK),e'.bd=Mc W/\(W.map (·.1)).Nodup/\W.length<=500)/\e.od.length<=40 /\
 ∀(pr dd ra:JK)(H':Hp)(ws:List Str)(lad:Str->List Nat)(es:List (Str×Nat×List Stp))(as:List JK)(vss:List (List V)),Am H H'->H dd=none->H' pr=some (.tup [.ref dd,.ref ra])->H' dd=some (.dK (Lx ws lad))->ws.Nodup->(∀w∈ws,lad w≠[])->Ak.RwsAt H' ra as vss (Hc lad es)->Kh B e.od e.od.length [] lad es->es.length<=20000->Q (.ref pr) H'
section
variable {P:KC} {w:LL} {K:JC} {mg:Str->Option JD} {base:MQ} {f fO fW fY fA fR CB CH:JK} {fd dO dW dY dA dR:LB}
abbrev FD:List Str:=["book","name","ladders","entries","house","word","ladder","starts","rows"]
theorem Jn:An FD ["book","name"] (Ad Pe):=Ez (by decide +kernel)
theorem CI:(["word","ladder"]:List Str).Nodup:=by decide +kernel
theorem xQ:(["word","rung","body","ladders"]:List Str).Nodup:=by decide +kernel
theorem sI(F:Dj K "left_out" "left_out" Pe f fd)(T:Gz K mg CB CH)(Tx:Txt mg)(md:mg "dict" = none)(GO:Al P w K mg base Bi 2 fO dO ["self","name"] (Ig CB CH))(bO:Binds K dO ["self","name"] [])(mO:Dt K CB "order" fO)(GW:Al P w K mg base Jd 2 fW dW ["self","name"] (nA CB CH))(bW:Binds K dW ["self","name"] [])(mW:Dt K CB "own_words" fW)(GY:Al P w K mg base Bi 2 fY dY ["self","name","word"] (Qo CB CH))(bY:Binds K dY ["self","name","word"] [])(mY:Dt K CB "body" fY)(GA:Al P w K mg base Bi 1 fA dA ["ladders","word","rung"] eX)(kA:JR K (.ref fA)=true)(bA:Binds K dA ["ladders","word","rung"] [])(mA:mg "way" = some (.ref fA))(GR:Al P w K mg base Bi 3 fR dR ["body","onwards","ladders"] Vn)(kR:JR K (.ref fR)=true)(bR:Binds K dR ["body","onwards","ladders"] [])(mR:mg "row_of" = some (.ref fR)):Al P w K mg base Jd 4 f fd ["book","name"] (Vq CB CH):=by
 refine F.ok1 Jn (λvs H Q E h=>?_) (λcdv A outer s H vs Q E hr h=>?_)
 ·obtain⟨p,d,L,x,e,B,rfl,_⟩:=h
  rfl
 obtain⟨p,d,L,x,e,B,rfl,he,U,hW,hod,q⟩:=h
 have hr1:=hr.mono (j:=1) (by decide)
 have hr2:=hr.mono (j:=2) (by decide)
 have hu:=Fm hr
 -- starts,rows,the pair
 refine Gh (tail:=(Bg Pe).drop 3) (λtt=>∀(M H1:Hp)(da ea:JK)(ws:List (Str×JK))(lad:Str->List Nat)(ts:List JK)(es:List (Str×Nat×List Stp))(v4 v5 v6:Option V),Pj M H1 da ea ws lad ts es->Am H M->(∀q∈ws,lad q.1≠[])->Kh B e.od e.od.length [] lad es->es.length<=20000->ws.length<=es.length->tt { nx:=λ_ H'=>Q .non H',rt:=Q } [some (.ref p),some (.str x),some (.ref da),some (.ref ea),v4,v5,v6,none,none] H1) ?_ ?_
 ·refine⟨_,Ac (Dd (i:=7) (Ad Pe) FD ["word","ladder"] [] rfl Jn.nd rfl rfl (lC (pv 2)) (Kb (K:=K) (Cs (Bm (i:=0) (by decide)) (Cs (Bm (i:=1) (by decide)) Ht)))
   (λ_ _ _ _ _ _=>⟨Ji (n:=2) rfl (Ce (Dg 0 CI) (Ce (Dg 1 CI) Hf)),Ds,Cb (Em (pv 0) (As (Wk (K:=K)) (pv 1) Ae (λ_ _=>rfl)))⟩))
   (Ac (Dd (i:=8) (Ad Pe) FD ["word","rung","body"] [("ladders", 2)] rfl Jn.nd rfl rfl (Dk (pv 3)) (Kb (K:=K) (Cs (Bm (i:=0) (by decide)) (Cs (Bm (i:=1) (by decide)) (Cs (Bm (i:=2) (by decide)) Ht))))
    (λ_ _ _ _ _ _=>⟨Ji (n:=3) rfl (Ce (Dg 0 xQ) (Ce (Dg 1 xQ) (Ce (Dg 2 xQ) Hf))),Ds,
     Cf GR hr mR kR bR (Ja (pv 2) (Cf GA hr1 mA kA bA (Ja (pv 3) (pv 0) (pv 1))) (pv 3))⟩))
   (Af (Ao (Cb (Em (Dl (Nq rfl) rfl md PyProof.Rows.boot_dict (Du (pv 7))) (pv 8)))))),?_⟩
  intro M H1 da ea ws lad ts es v4 v5 v6 I sM pos LS hes hwl
  refine⟨_,rfl,da,_,rfl,I.dk,λo nf=>?_⟩
  have ez:(upd H1 da (.frz o (.dK (Mc ws)))) da=some (.frz o (.dK (Mc ws))):=Aa
  have kz:∀b u,H1 b=some u->b≠da->(upd H1 da (.frz o (.dK (Mc ws)))) b=some u:=λb u z n=>by rw[Aj n];exact z
  generalize upd H1 da (.frz o (.dK (Mc ws)))=Hz at *
  have mz:Am M Hz:=λb u z=>kz b u (I.same b u z) (Ai z I.md)
  have lz:∀q∈ws,Hz q.2=some (.lst (Je (lad q.1))):=λq hq=>kz _ _ (I.lst q hq) (Cd (I.lst q hq) I.dk (by intro z;cases z))
  have LA:Zt Hz da ws lad:=⟨.inr ⟨o,ez⟩,I.nd,lz,I.no⟩
  have entz:Hz ea=some (.lst (ts.map V.ref)):=kz _ _ I.ent (Cd I.ent I.dk (by intro z;cases z))
  have hwl':ws.length<=20000:=by omega
  refine Vj (λi ys H2=>Am Hz H2/\∃us:List JK,ys=us.map V.ref/\us.length=i/\∀(j:Nat)(u:JK)(q:Str×JK),us[j]? = some u->ws[j]? = some q->H2 u=some (.tup [.str q.1,.int (((lad q.1).getD 0 0:Nat):Int)])) ⟨Am.refl _,[],rfl,rfl,λj u q h=>by simp at h⟩ (λi ys H2 _ h=>h.1 _ _ ez) ?_ ?_
  ·rintro i kv ys H2 Tp hkv ⟨s2,us,rfl,hul,hus⟩ hT
   obtain⟨q,hq,rfl⟩:∃q,ws[i]? = some q/\kv=((KD q.1:Key),V.ref q.2):=by
    unfold Mc at hkv
    rw[KJ] at hkv
    cases hq:ws[i]? with
    | none=>rw[hq] at hkv;cases hkv
    | some q=>rw[hq] at hkv;cases hkv;exact⟨q,rfl,rfl⟩
   have hqm:=JY hq
   have hil:i < ws.length:=(JB.mp hq).1
   have s3:=Ag hT (.tup [kV (KD q.1:Key),V.ref q.2])
   obtain⟨a0,r0,e0⟩:∃a0 r0,lad q.1=a0::r0:=by
    cases z:lad q.1 with
    | nil=>exact absurd z (pos q hqm)
    | cons a0 r0=>exact⟨a0,r0,rfl⟩
   refine⟨Tp,_,rfl,Co.of Aa,rfl,_,_,rfl,_,_,rfl,rfl,?_⟩
   refine⟨_,rfl,_,rfl,q.2,_,_,_,rfl,rfl,Aw.of (s3 _ _ (s2 _ _ (lz q hqm))),Bc (j:=0) (v:=.int ((a0:Nat):Int)) (by rw[e0];rfl),by show 2<=JM;decide,λu hu'=>?_⟩
   have s4:=Ag hu' (.tup [V.str q.1,V.int ((a0:Nat):Int)])
   refine⟨by rw[JF,hul,KO];omega,(s2.trans s3).trans s4,us++[u],by rw[JT];rfl,by rw[JJ,hul];rfl,λj u' q' h1 h2=>?_⟩
   by_cases hj:j < us.length
   ·rw[KH hj] at h1
    exact s4 _ _ (s3 _ _ (hus j u' q' h1 h2))
   ·have hjl:j < (us++[u]).length:=(JB.mp h1).1
    rw[JJ,JU] at hjl
    obtain rfl:j=us.length:=by omega
    rw[KA] at h1
    cases h1
    rw[hul,hq] at h2
    cases h2
    rw[e0]
    exact Aa
  rintro ys H2 ⟨s2,us,rfl,hul,hus⟩ st hst
  rw[Uz] at hul
  have s3:=Ag hst (.lst (us.map V.ref))
  have est:(upd H2 st (.lst (us.map V.ref))) st=some (.lst (us.map V.ref)):=Aa
  have hus3:∀(j:Nat)(u:JK)(q:Str×JK),us[j]? = some u->ws[j]? = some q->(upd H2 st (.lst (us.map V.ref))) u=some (.tup [.str q.1,.int (((lad q.1).getD 0 0:Nat):Int)]):=λj u q h1 h2=>s3 _ _ (hus j u q h1 h2)
  generalize upd H2 st (.lst (us.map V.ref))=H3 at *
  have s13:=s2.trans s3
  have LA3:=LA.same s13
  refine⟨_,rfl,ea,rfl,⟨_,Aw.of (s13 _ _ entz)⟩,Dz (K:=K) (a:=ea) (xs:=ts.map V.ref) (λi ys H4=>Am H3 H4/\∃(rs:List JK)(vss:List (List V)),ys=rs.map V.ref/\rs.length=i/\vss.length=i/\∀(j:Nat)(r:JK)(uv:List V)(en:Str×Nat×List Stp),rs[j]? = some r->vss[j]? = some uv->es[j]? = some en->H4 r=some (.lst uv)/\Ak.StsAt H4 uv (en.2.2.map (DD lad en.1 en.2.1))) ⟨Am.refl _,[],[],rfl,rfl,rfl,λj r uv en h=>by simp at h⟩ (λi ys H4 _ h=>Aw.of (h.1 _ _ (s13 _ _ entz))) ?_ ?_⟩
  ·rintro i v ys H4 hi ⟨s4,rs,vss,rfl,hrl,hvl,hrs⟩
   obtain⟨t,ht,rfl⟩:=Ea hi
   have hil:i < es.length:=by rw[<- I.len];exact(JB.mp ht).1
   obtain⟨en,hen⟩:∃en,es[i]? = some en:=⟨_,JG hil⟩
   obtain⟨l,hMt,hMb⟩:=I.row i t en ht hen
   have sm4:Am M H4:=mz.trans (s13.trans s4)
   obtain⟨tsb,b1,b2,b3,b4⟩:=hMb.same sm4
   refine⟨t,_,rfl,Co.of (sm4 _ _ hMt),rfl,_,_,rfl,_,_,rfl,_,_,rfl,rfl,?_⟩
   refine⟨_,rfl,_,rfl,_,rfl,_,rfl,da,ws,lad,en.1,en.2.1,rfl,LA3.same s4,λv1 H5 s5 h5=>?_⟩
   refine⟨_,rfl,l,da,v1,tsb,en.2.2,ws,lad,_,rfl,s5 _ _ b1,Qe b2 s5,b3,b4,LA3.same (s4.trans s5),h5,λr uv H6 hr6 s6 e6 st6=>?_⟩
   refine⟨by rw[JF,hrl,KO];omega,(s4.trans s5).trans s6,rs++[r],vss++[uv],by rw[JT];rfl,by rw[JJ,hrl];rfl,by rw[JJ,hvl];rfl,λj r' uv' en' h1 h2 h3=>?_⟩
   by_cases hj:j < rs.length
   ·rw[KH hj] at h1
    rw[KH (by omega)] at h2
    obtain⟨c1,c2⟩:=hrs j r' uv' en' h1 h2 h3
    exact⟨(s5.trans s6) _ _ c1,Paired.mapP c2 λ_ _ z=>z.keep (s5.trans s6).keepT⟩
   ·have hjl:j < (rs++[r]).length:=(JB.mp h1).1
    rw[JJ,JU] at hjl
    obtain rfl:j=rs.length:=by omega
    rw[KA] at h1
    rw[hrl,<- hvl,KA] at h2
    cases h1
    cases h2
    rw[hrl,hen] at h3
    cases h3
    refine⟨e6,?_⟩
    rw[List.map_congr_left (g:=BP lad (Fl lad en.1 en.2.1)) λs _=>yD lad en.1 en.2.1 s]
    exact st6
  rintro ys H4 ⟨s4,rs,vss,rfl,hrl,hvl,hrs⟩ ra hra
  rw[JF,I.len] at hrl hvl
  have s5:=Ag hra (.lst (rs.map V.ref))
  have era:(upd H4 ra (.lst (rs.map V.ref))) ra=some (.lst (rs.map V.ref)):=Aa
  have rows_:∀(j:Nat)(r:JK)(uv:List V)(en:Str×Nat×List Stp),rs[j]? = some r->vss[j]? = some uv->es[j]? = some en->(upd H4 ra (.lst (rs.map V.ref))) r=some (.lst uv)/\Ak.StsAt (upd H4 ra (.lst (rs.map V.ref))) uv (en.2.2.map (DD lad en.1 en.2.1)):=λj r uv en h1 h2 h3=>by
   obtain⟨c1,c2⟩:=hrs j r uv en h1 h2 h3
   exact⟨s5 _ _ c1,Paired.mapP c2 λ_ _ z=>z.keep s5.keepT⟩
  generalize upd H4 ra (.lst (rs.map V.ref))=H5 at *
  have s35:=s4.trans s5
  refine⟨_,rfl,st,us,Lx (ws.map (·.1)) lad,rfl,s35 _ _ est,?_,λi u kv h1 h2=>?_,?_,λdd hdd=>?_⟩
  ·unfold Lx
   rw[JF,JF,hul]
  ·unfold Lx at h2
   rw[List.map_map,KJ] at h2
   cases hq:ws[i]? with
   | none=>rw[hq] at h2;cases h2
   | some q=>
    rw[hq] at h2
    cases h2
    exact s35 _ _ (hus3 i u q h1 hq)
  ·unfold Lx
   rw[List.map_map]
   have:((λx:Key×V=>x.1) ∘ λw:Str=>((KD w:Key),V.int (((lad w).getD 0 0:Nat):Int)))=λw:Str=>(KD w:Key):=rfl
   rw[this]
   exact AC I.nd
  obtain⟨H6,zz,s6,edd⟩:=lay hdd (.dK (Lx (ws.map (·.1)) lad))
  rw[zz]
  refine⟨_,rfl,by show 2<=JM;decide,λpr hpr=>?_⟩
  have s7:=Ag hpr (.tup [V.ref dd,V.ref ra])
  have s57:=s6.trans s7
  refine q pr dd ra _ (ws.map (·.1)) lad es rs vss (sM.trans (mz.trans (s13.trans (s35.trans s57)))) ((sM.trans (mz.trans (s13.trans s35))).free hdd) Aa (s7 _ _ edd) I.nd (λw hw=>?_) ⟨s57 _ _ era,?_,?_,λi r uv h1 h2=>?_,λi uv rr h1 h2=>?_⟩ LS hes
  ·obtain⟨q',hq',rfl⟩:=LM.mp hw
   exact pos q' hq'
  ·unfold Hc
   rw[JF,hrl]
  ·unfold Hc
   rw[JF,hvl]
  ·have hi:i < es.length:=by rw[<- hrl];exact(JB.mp h1).1
   exact s57 _ _ (rows_ i r uv es[i] h1 h2 (JG hi)).1
  ·unfold Hc at h2
   rw[KJ] at h2
   cases hen:es[i]? with
   | none=>rw[hen] at h2;cases h2
   | some en=>
    rw[hen] at h2
    cases h2
    have hi:i < rs.length:=by rw[hrl];exact(JB.mp hen).1
    exact Paired.mapP (rows_ i rs[i] uv en (JG hi) h1 hen).2 λ_ _ z=>z.keep s57.keepT
 intro t3 h3 p3
 -- an entry more
 refine Gh (tail:=(fBody ((fBody ((Bg Pe).getD 2 (.Pass ⟨0,0,0,0⟩))).getD 0 (.Pass ⟨0,0,0,0⟩))).drop 1) (λtt=>∀(D:L2.Ends)(M H1:Hp)(da ea a:JK)(ws:List (Str×JK))(lad:Str->List Nat)(ts:List JK)(es:List (Str×Nat×List Stp))(y v:Str)(e':Ent)(b:List Stp),Pj M H1 da ea ws lad ts es->Am H M->(v,a)∈ws->Hl L y=some e'->y∈e.od->B y v=some b->es.length<=20000->(lad v).length<=20000 ->
  (∀(M2 H2:Hp)(t:JK),Pj M2 H2 da ea ws (Kr lad v es.length) (ts++[t]) (es++[(v,(lad v).length+1,b)])->Am M M2->D.nx [some (.ref p),some (.str x),some (.ref da),some (.ref ea),some (.str y),some (.str v),some (.ref a),none,none] H2) ->
  tt D [some (.ref p),some (.str x),some (.ref da),some (.ref ea),some (.str y),some (.str v),some (.ref a),none,none] H1) ?_ ?_
 ·refine⟨_,Ac (Bx (Lu MK MO MN Ed (pv 6) (Du (Bw Tx.len (pv 3)))))
   (Af (Bx (Lu MK MO MN Ed (pv 3) (Du (Cb (Ja (pv 5) (Bw Tx.len (pv 6)) (Ee (pv 0) T.clB mY GY hr2 bY .nil Dh (Em (pv 4) (pv 5))))))))),?_⟩
  intro D M H1 da ea a ws lad ts es y v e' b I sM hq he' hy hb hes hlv k
  have z0:(Je (lad v)).length < JM:=by rw[Hg,KO];omega
  have z1:(ts.map V.ref).length < JM:=by rw[JF,I.len,KO];omega
  refine⟨_,rfl,.inl ⟨rfl,_,Aw.of (I.lst _ hq)⟩,_,rfl,ea,_,rfl,.inl (Aw.of I.ent),a,_,_,rfl,rfl,I.lst _ hq,z0,?_⟩
  rw[JF,I.len]
  have I1:=I.push hq es.length
  generalize upd H1 a (.lst (Je (lad v)++[V.int (es.length:Int)]))=H2 at *
  have sH2:=sM.trans I1.same
  have B2:=U.bk.same sH2
  obtain⟨dx,hp⟩:=B2.ob
  obtain⟨la,tsb,hv,hla,hst⟩:=U.yes y hy e' v b he' hb
  have ha2:=I1.lst _ hq
  have hlen2:((Je (Kr lad v es.length v)).length:Int)=(((lad v).length+1:Nat):Int):=by
   rw[Hg]
   unfold Kr
   rw[if_pos rfl,JJ]
   rfl
  refine⟨_,rfl,.inl ⟨rfl,_,Aw.of I1.ent⟩,_,rfl,_,rfl,a,_,rfl,.inl (Aw.of ha2),_,rfl,p,dx,_,rfl,hp,Gr d (by decide +kernel),_,rfl,_,rfl,p,d,L,y,v,e',rfl,B2,he',.inr ⟨la,_,hv,sH2 _ _ hla,λl hl=>?_⟩⟩
  dsimp only
  rw[hlen2]
  have I2:=I1.lay hl (.lst (tsb.map V.ref))
  have sM2:Am M (upd M l (.lst (tsb.map V.ref))):=Ag (I1.same.free hl) _
  have eM2:(upd M l (.lst (tsb.map V.ref))) l=some (.lst (tsb.map V.ref)):=Aa
  generalize upd M l (.lst (tsb.map V.ref))=M2 at *
  generalize upd H2 l (.lst (tsb.map V.ref))=H3 at *
  refine⟨by show 3<=JM;decide,λt ht=>?_⟩
  have I3:=I2.lay ht (.tup [V.str v,V.int (((lad v).length+1:Nat):Int),V.ref l])
  have sM3:=Ag (I2.same.free ht) (.tup [V.str v,V.int (((lad v).length+1:Nat):Int),V.ref l])
  have eM3:(upd M2 t (.tup [V.str v,V.int (((lad v).length+1:Nat):Int),V.ref l])) t=some (.tup [V.str v,V.int (((lad v).length+1:Nat):Int),V.ref l]):=Aa
  generalize upd M2 t (.tup [V.str v,V.int (((lad v).length+1:Nat):Int),V.ref l])=M3 at *
  generalize upd H3 t (.tup [V.str v,V.int (((lad v).length+1:Nat):Int),V.ref l])=H4 at *
  refine⟨ea,_,_,rfl,rfl,I3.ent,z1,?_⟩
  have sMM:=sM2.trans sM3
  exact k M3 _ t (I3.put eM3 ⟨tsb,sM3 _ _ eM2,Qe hst (sM.trans sMM),U.ok y hy v b hb⟩) sMM
 intro t2 h2 p2
 refine⟨_,Ac (Mr (i:=2) Jn.nd rfl (Or.inr rfl) Hn)
  (Ac (Bv 3 Jn.nd (Df Fu))
  (Ac (Eg MJ rfl (Dk (Ee (pv 0) T.clB mO GO hr2 bO .nil Dh (Du (pv 1)))) (Dg 4 Jn.nd)
   (Af (Eg MJ rfl (Dk (Ee (pv 0) T.clB mW GW hr2 bW .nil Sq (Du (pv 4)))) (Dg 5 Jn.nd)
    (Ac (Bv 6 Jn.nd (rJ (pv 2) (pv 5) (Df Fu) ⟨rfl,rfl,rfl,rfl⟩)) h2)))) h3)),?_⟩
 intro da hda
 refine⟨by show 0<=JM;decide,λea hea=>?_⟩
 have I0:=Pj.init H da ea hda hea
 generalize upd (upd H da (.dK [])) ea (.lst [])=H1 at *
 have B1:=U.bk.same I0.same
 obtain⟨dx,hp⟩:=B1.ob
 refine⟨_,rfl,p,dx,_,rfl,hp,Gr d (by decide +kernel),_,rfl,p,d,L,x,e,rfl,B1,he,λoa hoa=>?_⟩
 have I1:=I0.lay hoa (.lst (Az e.od))
 have sM1:=Ag (I0.same.free hoa) (.lst (Az e.od))
 have eM1:(upd H oa (.lst (Az e.od))) oa=some (.lst (Az e.od)):=Aa
 generalize upd H oa (.lst (Az e.od))=M1 at *
 generalize upd H1 oa (.lst (Az e.od))=H2 at *
 refine⟨oa,rfl,⟨_,Aw.of (I1.same _ _ eM1)⟩,Fo (K:=K) (a:=oa) (xs:=Az e.od) (λi σ H3=>∃(v4 v5 v6:Option V)(M:Hp)(ws:List (Str×JK))(lad:Str->List Nat)(ts:List JK)(es:List (Str×Nat×List Stp)),σ=[some (.ref p),some (.str x),some (.ref da),some (.ref ea),v4,v5,v6,none,none]/\Pj M H3 da ea ws lad ts es/\Am M1 M/\Kh B e.od i [] lad es/\(∀q∈ws,lad q.1≠[])/\es.length<=500 * i/\ws.length<=es.length)
  ⟨none,none,none,M1,[],_,[],[],rfl,I1,Am.refl _,Kh.nil B e.od,(λq hq=>nomatch hq),LG _,JI _⟩ (λi σ H3 _ ⟨_,_,_,_,_,_,_,_,_,I,s,_⟩=>Aw.of (I.same _ _ (s _ _ eM1))) ?_ ?_⟩
 ·rintro i v σ H3 hi ⟨v4,v5,v6,M,ws,lad,ts,es,rfl,I,sM,LS,pos,hel,hwl⟩
  obtain⟨y,hy,rfl⟩:=Ic hi
  have hym:=JY hy
  have hil:i < e.od.length:=(JB.mp hy).1
  obtain⟨e',he'⟩:=U.hs y hym
  obtain⟨W,eW,ndW,hWl⟩:=hW y hym e' he'
  have B3:=U.bk.same ((sM1.trans sM).trans I.same)
  obtain⟨dx3,hp3⟩:=B3.ob
  refine⟨_,rfl,p,dx3,_,rfl,hp3,Gr d (by decide +kernel),_,rfl,p,d,L,y,e',W,rfl,B3,he',eW,λwl hwl'=>?_⟩
  have I4:=I.lay hwl' (.lst (Az (W.map (·.1))))
  have sM4:=Ag (I.same.free hwl') (.lst (Az (W.map (·.1))))
  have eM4:(upd M wl (.lst (Az (W.map (·.1))))) wl=some (.lst (Az (W.map (·.1)))):=Aa
  generalize upd M wl (.lst (Az (W.map (·.1))))=M4 at *
  generalize upd H3 wl (.lst (Az (W.map (·.1))))=H4 at *
  have sB4:=sM.trans sM4
  have inB:∀v,v∈W.map (·.1) ↔ (B y v).isSome=true:=λv=>by
   constructor
   ·intro hv
    obtain⟨q,hq,rfl⟩:=LM.mp hv
    cases z:B y q.1 with
    | some b=>rfl
    | none=>
     have:=U.no y hym e' q.1 he' z
     rw[eW,Mn ndW hq] at this
     cases this
   ·intro hv
    cases z:B y v with
    | none=>rw[z] at hv;cases hv
    | some b=>
     obtain⟨la,tsb,h1,_⟩:=U.yes y hym e' v b he' z
     rw[eW] at h1
     obtain⟨q,hq,rfl,_⟩:=Xr h1
     exact LM.mpr ⟨q,hq,rfl⟩
  refine⟨wl,rfl,⟨_,Aw.of (I4.same _ _ eM4)⟩,Fo (K:=K) (a:=wl) (xs:=Az (W.map (·.1))) (λj σ H5=>∃(v5 v6:Option V)(M:Hp)(ws:List (Str×JK))(lad:Str->List Nat)(ts:List JK)(es:List (Str×Nat×List Stp)),σ=[some (.ref p),some (.str x),some (.ref da),some (.ref ea),some (.str y),v5,v6,none,none]/\Pj M H5 da ea ws lad ts es/\Am M4 M/\Kh B e.od i ((W.map (·.1)).take j) lad es/\(∀q∈ws,lad q.1≠[])/\es.length<=500 * i+j/\ws.length<=es.length)
   ⟨_,_,M4,ws,lad,ts,es,rfl,I4,Am.refl _,LS,pos,hel,hwl⟩ (λi σ H3 _ ⟨_,_,_,_,_,_,_,_,I,s,_⟩=>Aw.of (I.same _ _ (s _ _ eM4))) ?_ ?_⟩
  ·rintro j v σ H5 hj ⟨v5,v6,M5,ws5,lad5,ts5,es5,rfl,I5,s5,LS5,pos5,hel5,hwl5⟩
   obtain⟨v,hv,rfl⟩:=Ic hj
   have hvm:=JY hv
   have hjl:j < W.length:=by have:=(JB.mp hv).1;rwa [JF] at this
   obtain⟨b,hb⟩:∃b,B y v=some b:=RH.mp ((inB v).mp hvm)
   have hvt:v∉(W.map (·.1)).take j:=λz=>by
    obtain⟨m,hm⟩:=MI z
    have hmj:m < j:=by have:=(JB.mp hm).1;rw[NN] at this;omega
    rw[List.getElem?_take_of_lt hmj] at hm
    have:=(List.getElem?_inj (JB.mp hm).1 ndW).mp (hm.trans hv.symm)
    omega
   have hll:(lad5 v).length<=20000:=by
    rw[LS5.len v,if_neg hvt]
    unfold kn
    have h1:=List.length_filter_le (λy=>(B y v).isSome) (e.od.take i)
    rw[NN] at h1
    omega
   have hes5:es5.length<=20000:=by omega
   have sH5:Am H M5:=(sM1.trans sB4).trans s5
   have fin:∀(M6 H6:Hp)(a:JK)(ws6:List (Str×JK)),Pj M6 H6 da ea ws6 lad5 ts5 es5->Am M5 M6->(v,a)∈ws6->(∀q∈ws6,q.1≠v->lad5 q.1≠[])->ws6.length<=ws5.length+1->∀(M2 H2:Hp)(t:JK),Pj M2 H2 da ea ws6 (Kr lad5 v es5.length) (ts5++[t]) (es5++[(v,(lad5 v).length+1,b)])->Am M6 M2->(∃(v5 v6:Option V)(M:Hp)(ws:List (Str×JK))(lad:Str->List Nat)(ts:List JK)(es:List (Str×Nat×List Stp)),[some (.ref p),some (.str x),some (.ref da),some (.ref ea),some (.str y),some (.str v),some (.ref a),none,none]=[some (.ref p),some (.str x),some (.ref da),some (.ref ea),some (.str y),v5,v6,none,none]/\Pj M H2 da ea ws lad ts es/\Am M4 M/\Kh B e.od i ((W.map (·.1)).take (j+1)) lad es/\(∀q∈ws,lad q.1≠[])/\es.length<=500 * i+(j+1)/\ws.length<=es.length):=by
    intro M6 H6 a ws6 I6 s6 hin pos6 hwl6 M2 H2 t I2 s2
    refine⟨_,_,M2,ws6,_,_,_,rfl,I2,(s5.trans s6).trans s2,?_,λq hq=>?_,?_,?_⟩
    ·rw[MD,hv]
     exact LS5.add hy hvt hb
    ·unfold Kr
     by_cases hqv:q.1=v
     ·rw[if_pos hqv]
      simp
     ·rw[if_neg hqv]
      exact pos6 q hq hqv
    ·rw[JJ,JU]
     omega
    ·rw[JJ,JU]
     omega
   refine⟨_,rfl,da,rfl,.inl ⟨_,.inl I5.dk⟩,_,rfl,by show 0<=JM;decide,λl0 hl0=>?_⟩
   have I6:=I5.lay hl0 (.lst [])
   have sM6:=Ag (I5.same.free hl0) (.lst [])
   refine⟨_,KD v,I6.dk,rfl,by rw[Uz,KO];omega,λu hu'=>?_,λhn=>?_⟩
   ·obtain⟨q,hq,rfl,rfl⟩:=Xr hu'
    exact p2 _ _ _ da ea q.2 ws5 lad5 ts5 es5 y q.1 e' b I6 (sH5.trans sM6) hq he' hym hb hes5 hll (fin _ _ q.2 ws5 I6 sM6 hq (λq hq _=>pos5 q hq) (by omega))
   ·have hv5:v∉ws5.map (·.1):=λz=>by
     obtain⟨q,hq,rfl⟩:=LM.mp z
     rw[Mn I5.nd hq] at hn
     cases hn
    have I7:=I5.add hl0 hv5
    rw[eZ hv5]
    have hin:(v,l0)∈ws5++[(v,l0)]:=JX _ (JL.mpr rfl)
    exact p2 _ _ _ da ea l0 _ lad5 ts5 es5 y v e' b I7 sH5 hin he' hym hb hes5 hll (fin _ _ l0 _ I7 (Am.refl _) hin (λq hq hqv=>by
     rcases KI.mp hq with z | z
     ·exact pos5 q z
     ·exact absurd (by rw[JL.mp z]) hqv) (by rw[JJ];exact JI _))
  ·rintro σ H5 ⟨v5,v6,M5,ws5,lad5,ts5,es5,rfl,I5,s5,LS5,pos5,hel5,hwl5⟩
   rw[Av,List.take_length] at LS5
   refine⟨_,_,_,M5,ws5,lad5,ts5,es5,rfl,I5,sB4.trans s5,LS5.next hy inB,pos5,?_,hwl5⟩
   rw[Av,JF] at hel5
   omega
 ·rintro σ H3 ⟨v4,v5,v6,M,ws,lad,ts,es,rfl,I,sM,LS,pos,hel,hwl⟩
  rw[Av] at LS hel
  exact p3 M H3 da ea ws lad ts es v4 v5 v6 I (sM1.trans sM) pos LS (by omega) hwl
end
end Bk
namespace Bk
open PySem L2 Mg Nm Rk PySem.SeqAt
def Hq(H:Hp)(la:JK)(ss:List Stp):Prop:=∃ts:List JK,H la=some (.lst (ts.map V.ref))/\Dq H ts (ss.map Stp.pr)
def wW(H H':Hp)(ba:JK):Prop:=∀b o,H b=some o->b≠ba->H' b=some o
theorem Hq.keep{H H':Hp}{la:JK}{ss:List Stp}(h:Hq H la ss)(k:∀b o,H b=some o->((∃xs,o=.lst xs) ∨ ∃xs,o=.tup xs)->H' b=some o):Hq H' la ss:=by
 obtain⟨ts,e,c1,c2⟩:=h
 exact⟨ts,k _ _ e (.inl ⟨_,rfl⟩),c1,λi t pr h1 h2=>k _ _ (c2 i t pr h1 h2) (.inr ⟨_,rfl⟩)⟩
theorem Ef{α β:Type}{f:α->β}{L:List α}{a:Nat}{e e':α}(h:L[a]? = some e)(he:f e'=f e):(L.set a e').map f=L.map f:=by
 refine List.ext_getElem? λj=>?_
 rw[KJ,KJ]
 by_cases hj:a=j
 ·subst hj
  rw[NW (JB.mp h).1,h]
  show some (f e')=some (f e)
  rw[he]
 ·rw[NJ hj]
theorem Li{α:Type}{L:List α}{a j:Nat}{e b:α}(ha:a < L.length)(h:(L.set a e)[j]? = some b):(j=a/\b=e)∨(j≠a/\L[j]? = some b):=by
 by_cases hj:a=j
 ·subst hj
  rw[NW ha] at h
  exact .inl ⟨rfl,(KW h).symm⟩
 ·rw[NJ hj] at h
  exact .inr ⟨LH hj,h⟩
theorem Be.putBd{CB CH:JK}{H H':Hp}{p d:JK}{L:List Ent}{a:Nat}{e:Ent}{bd:List (Key×V)}(B:Be CB CH H p d L)(he:L[a]? = some e)(k:wW H H' e.ba)(hb:H' e.ba=some (.dK bd)):Be CB CH H' p d (L.set a { e with bd:=bd }):=by
 have hem:=JY he
 have hal:a < L.length:=(JB.mp he).1
 have E:=B.en e hem
 obtain⟨dx,hp⟩:=B.ob
 have kd:∀b o,H b=some o->(∀z,o ≠ .dK z)->H' b=some o:=λb o h hn=>k b o h (Cd h E.bd (hn _))
 have ed:qW (L.set a { e with bd:=bd })=qW L:=Ef he rfl
 refine⟨⟨dx,kd _ _ hp (by intro _ z;cases z)⟩,?_,λx hx=>?_,λx hx=>?_,?_,?_⟩
 ·rw[ed]
  exact k _ _ B.dc (LH (B.nb e hem))
 ·obtain⟨j,hj⟩:=MI hx
  rcases Li hal hj with ⟨rfl,rfl⟩ | ⟨hne,hj'⟩
  ·exact⟨kd _ _ E.ob (by intro _ z;cases z),kd _ _ E.el (by intro _ z;cases z),kd _ _ E.od (by intro _ z;cases z),hb⟩
  ·have hx':=JY hj'
   have A:=B.en x hx'
   have nb:x.ba≠e.ba:=λz=>by
    have hx1:(L.map (·.ba))[j]? = some x.ba:=by rw[KJ,hj'];rfl
    have hx2:(L.map (·.ba))[a]? = some e.ba:=by rw[KJ,he];rfl
    rw[z] at hx1
    have l1:j < (L.map (·.ba)).length:=(JB.mp hx1).1
    exact hne ((List.getElem?_inj l1 B.nn).mp (hx1.trans hx2.symm))
   exact⟨kd _ _ A.ob (by intro _ z;cases z),kd _ _ A.el (by intro _ z;cases z),kd _ _ A.od (by intro _ z;cases z),k _ _ A.bd nb⟩
 ·obtain⟨j,hj⟩:=MI hx
  rcases Li hal hj with ⟨rfl,rfl⟩ | ⟨hne,hj'⟩
  ·exact B.nb e hem
  ·exact B.nb x (JY hj')
 ·rw[Ef (f:=λx:Ent=>x.nm) (e':={ e with bd:=bd }) he rfl]
  exact B.nd
 ·rw[Ef (f:=λx:Ent=>x.ba) (e':={ e with bd:=bd }) he rfl]
  exact B.nn
def nX(B:Ci)(x w:Str)(o:Option (List Stp)):Ci:=λy v=>if y=x/\v=w then o else B y v
theorem Be.keepT{CB CH:JK}{H H':Hp}{p d:JK}{L:List Ent}(B:Be CB CH H p d L)(k:∀b o,H b=some o->(∀z,o ≠ .dT z)->H' b=some o):Be CB CH H' p d L:=
 ⟨let ⟨dx,e⟩:=B.ob;⟨dx,k _ _ e (by intro z y;cases y)⟩,k _ _ B.dc (by intro z y;cases y),λe he=>let E:=B.en e he;⟨k _ _ E.ob (by intro z y;cases y),k _ _ E.el (by intro z y;cases y),k _ _ E.od (by intro z y;cases y),k _ _ E.bd (by intro z y;cases y)⟩,B.nb,B.nd,B.nn⟩
theorem Gw.set{L:List Ent}(h:Gw L){i:Nat}{e:Ent}(he:L[i]? = some e)(bd:List (Key×V)):Gw (L.set i { e with bd:=bd }):=by
 intro e' he'
 rw[Ef (f:=λx:Ent=>x.nm) (e':={ e with bd:=bd }) he rfl]
 rcases QY he' with z | z
 ·exact h e' z
 ·rw[z]
  exact h e (JY he)
theorem BM{L:List Ent}(nd:(L.map (·.nm)).Nodup){i j:Nat}{e e':Ent}(h:L[i]? = some e)(h':L[j]? = some e')(hne:j≠i):e'.nm≠e.nm:=λz=>by
 have a1:(L.map (·.nm))[j]? = some e'.nm:=by rw[KJ,h'];rfl
 have a2:(L.map (·.nm))[i]? = some e.nm:=by rw[KJ,h];rfl
 rw[z] at a1
 exact hne ((List.getElem?_inj (JB.mp a1).1 nd).mp (a1.trans a2.symm))
structure Zp(CB CH:JK)(H:Hp)(p d:JK)(L:List Ent)(B:Ci):Prop where
 bk:Be CB CH H p d L
 od:Gw L
 no:∀e∈L,∀w,B e.nm w=none->valV e.bd (KD w:Key)=none
 yes:∀e∈L,∀w ss,B e.nm w=some ss->∃la:JK,valV e.bd (KD w:Key)=some (.ref la)/\Hq H la ss
 ok:∀y w ss,B y w=some ss->(∀s∈ss,nH s)/\ss.length<=30
 tx:∀e∈L,∃W:List (Str×JK),e.bd=Mc W/\(W.map (·.1)).Nodup
theorem sZ{W:List (Str×JK)}(nd:(W.map (·.1)).Nodup)(w:Str)(a:JK):∃W':List (Str×JK),putK (Mc W) (KD w:Key) (.ref a)=Mc W'/\(W'.map (·.1)).Nodup:=by
 by_cases h:w∈W.map (·.1)
 ·refine⟨W.map λq=>if q.1=w then (w,a) else q,?_,?_⟩
  ·obtain⟨q,hq,rfl⟩:=LM.mp h
   unfold putK
   rw[Ey,Mn nd hq,if_pos (show (some (V.ref q.2)).isSome=true from rfl)]
   unfold Mc
   rw[List.map_map,List.map_map]
   refine List.map_congr_left λr _=>?_
   show (if (KD r.1:Key)=KD q.1 then ((KD r.1:Key),V.ref a) else ((KD r.1:Key),V.ref r.2))=((KD (if r.1=q.1 then (q.1,a) else r).1:Key),V.ref (if r.1=q.1 then (q.1,a) else r).2)
   by_cases e:r.1=q.1
   ·rw[if_pos (by rw[e]),if_pos e,e]
   ·rw[if_neg (λz=>e (KD.inj z)),if_neg e]
  ·rw[List.map_map,List.map_congr_left (g:=(·.1))]
   ·exact nd
   ·intro r _
    show (if r.1=w then (w,a) else r).1=r.1
    by_cases e:r.1=w
    ·rw[if_pos e,e]
    ·rw[if_neg e]
 ·refine⟨W++[(w,a)],eZ h,?_⟩
  rw[JT,OA]
  exact⟨nd,by simp,λx hx y hy=>by rw[show y=w by simpa using hy];exact λz=>h (z ▸ hx)⟩
section
variable {CB CH:JK} {H H':Hp} {p d:JK} {L:List Ent} {B:Ci}
theorem Zp.qb(S:Zp CB CH H p d L B)(hl:L.length<=1000){e:Ent}(he:e∈L):QB CB CH H p d L e.od B:=by
 have inn:=(S.od e he).2.2
 have fn:∀y∈e.od,∃e',Hl L y=some e':=λy hy=>by
  obtain⟨e',he',rfl⟩:=LM.mp (inn y hy)
  exact⟨e',Me S.bk.nd he'⟩
 refine⟨S.bk,KS (Oc S.od he) hl,fn,λy _ e' w h1 h2=>?_,λy _ e' w ss h1 h2=>?_,λy _ w ss h=>S.ok y w ss h⟩
 ·obtain⟨m,rfl⟩:=Fy h1
  exact S.no e' m w h2
 ·obtain⟨m,rfl⟩:=Fy h1
  obtain⟨la,a,ts,b,c⟩:=S.yes e' m w ss h2
  exact⟨la,ts,a,b,c⟩
theorem Zp.keepT(S:Zp CB CH H p d L B)(k:∀b o,H b=some o->(∀z,o ≠ .dT z)->H' b=some o):Zp CB CH H' p d L B:=
 ⟨S.bk.keepT k,S.od,S.no,λe he w ss h=>let ⟨la,a,b⟩:=S.yes e he w ss h;⟨la,a,b.keep λx o hx z=>k x o hx (by rcases z with ⟨xs,rfl⟩ | ⟨xs,rfl⟩<;>intro y e<;>cases e)⟩,S.ok,S.tx⟩
theorem Zp.same(S:Zp CB CH H p d L B)(s:Am H H'):Zp CB CH H' p d L B:=S.keepT λb o h _=>s b o h
theorem Zp.put(S:Zp CB CH H p d L B){i:Nat}{e:Ent}(he:L[i]? = some e){w:Str}{ss:List Stp}{la:JK}(hok:(∀s∈ss,nH s)/\ss.length<=30)(k2:wW H H' e.ba)(hba:H' e.ba=some (.dK (putK e.bd (KD w:Key) (.ref la))))(hla:Hq H' la ss):
 Zp CB CH H' p d (L.set i { e with bd:=putK e.bd (KD w:Key) (.ref la) }) (nX B e.nm w (some ss)):=by
 have hem:=JY he
 have hal:i < L.length:=(JB.mp he).1
 have E1:=(S.bk.en e hem).bd
 have lt1:∀b o,H b=some o->((∃xs,o=.lst xs) ∨ ∃xs,o=.tup xs)->H' b=some o:=λb o e1 z=>k2 b o e1 (Cd e1 E1 (by rcases z with ⟨xs,rfl⟩ | ⟨xs,rfl⟩<;>intro y<;>cases y))
 have hpos:nX B e.nm w (some ss) e.nm w=some ss:=if_pos ⟨rfl,rfl⟩
 refine⟨S.bk.putBd he k2 hba,S.od.set he _,λe1 he1 v h=>?_,λe1 he1 v ss1 h=>?_,λy v ss1 h=>?_,λe1 he1=>?_⟩
 ·obtain⟨j,hj⟩:=MI he1
  have hno:¬ (e1.nm=e.nm/\v=w):=λz=>by
   rw[z.1,z.2,hpos] at h
   cases h
  have hB:B e1.nm v=none:=by
   have:=h
   unfold nX at this
   rwa [if_neg hno] at this
  rcases Li hal hj with ⟨rfl,rfl⟩ | ⟨hne,hj'⟩
  ·have hv:¬ v=w:=λz=>hno ⟨rfl,z⟩
   show valV (putK e.bd (KD w:Key) (.ref la)) (KD v:Key)=none
   rw[Fp,if_neg (λy=>hv (KD.inj y))]
   exact S.no e hem v hB
  ·exact S.no e1 (JY hj') v hB
 ·obtain⟨j,hj⟩:=MI he1
  by_cases hyes:e1.nm=e.nm/\v=w
  ·obtain⟨z1,z2⟩:=hyes
   subst z2
   rw[z1,hpos] at h
   cases h
   rcases Li hal hj with ⟨rfl,rfl⟩ | ⟨hne,hj'⟩
   ·refine⟨la,?_,hla⟩
    show valV (putK e.bd (KD v:Key) (.ref la)) (KD v:Key)=_
    rw[Fp,if_pos rfl]
   ·exact absurd z1 (BM S.bk.nd he hj' hne)
  ·have hB:B e1.nm v=some ss1:=by
    have:=h
    unfold nX at this
    rwa [if_neg hyes] at this
   rcases Li hal hj with ⟨rfl,rfl⟩ | ⟨hne,hj'⟩
   ·have hv:¬ v=w:=λz=>hyes ⟨rfl,z⟩
    obtain⟨a,c1,c2⟩:=S.yes e hem v ss1 hB
    refine⟨a,?_,c2.keep lt1⟩
    show valV (putK e.bd (KD w:Key) (.ref la)) (KD v:Key)=_
    rw[Fp,if_neg (λy=>hv (KD.inj y))]
    exact c1
   ·obtain⟨a,c1,c2⟩:=S.yes e1 (JY hj') v ss1 hB
    exact⟨a,c1,c2.keep lt1⟩
 ·by_cases hyes:y=e.nm/\v=w
  ·rw[hyes.1,hyes.2,hpos] at h
   cases h
   exact hok
  ·unfold nX at h
   rw[if_neg hyes] at h
   exact S.ok y v ss1 h
 ·rcases QY he1 with z | z
  ·exact S.tx e1 z
  ·rw[z]
   obtain⟨W,e2,nd⟩:=S.tx e hem
   show ∃W:List (Str×JK),putK e.bd (KD w:Key) (.ref la)=Mc W/\_
   rw[e2]
   exact sZ nd w la
end
end Bk
namespace Bk
open PySem L2 Mg Nm Rk
def xI(ws:List Str):Stp->Prop
 | .sm s=>CN s
 | .onw=>True
 | .ask y=>y∈ws
 | .tri y z=>y∈ws/\z∈ws
theorem xI.ok{ws:List Str}:∀ {s:Stp},xI ws s->nH s
 | .sm _,h=>h
 | .onw,_=>trivial
 | .ask _,_=>trivial
 | .tri _ _,_=>trivial
def Ny:Sp:=λvs H Q _=>∃c k:Int,vs=[.int c,.int k]/\∀m:Int,0<=m->Q (.int m) H
def Pw:Sp:=λvs H Q _=>∃(wa:JK)(ws:List Str)(a:Nat)(m:Int),vs=[.ref wa,.int (a:Int),.int m]/\H wa=some (.lst (Az ws))/\a < ws.length/\ws.length<=1000/\∀(t:JK)(H':Hp)(s:Stp),Am H H'->H' t=some (.tup (.str s.pr.1::s.pr.2))->xI ws s->Q (.ref t) H'
def Jf:Sp:=λvs H Q _=>∃(wa:JK)(ws:List Str)(a:Nat)(c:Int),vs=[.ref wa,.int (a:Int),.int c]/\H wa=some (.lst (Az ws))/\a < ws.length/\ws.length<=1000/\∀(l:JK)(ts:List JK)(ss:List Stp)(H':Hp),H l=none->Am H H'->H' l=some (.lst (ts.map V.ref))->Dq H' ts (ss.map Stp.pr)->(∀s∈ss,xI ws s)->ss.length<=4->Q (.ref l) H'
def Rm:List Str:=["say","say","say","plus","times","odd","part","onwards","onwards","ask","ask","ask"]
def Rn:List Str:=["try","try","try","try","try","put","both","any","over","up","down"]
def kdAt(c:Int):Str:=(Rm++Rn).getD (c % 23).toNat "say"
theorem uB(c:Int):Jb (Rm.map V.str++Rn.map V.str) (c % 23)=some (.str (kdAt c)):=by
 have h:(c % 23).toNat < (Rm++Rn).length:=by
  show (c % 23).toNat < 23
  omega
 obtain⟨n,hn⟩:=NF (LY c (show (23:Int)≠0 by decide))
 unfold kdAt
 rw[hn] at h ⊢
 rw[show ((n:Int)).toNat=n from LR n] at h ⊢
 refine Bc ?_
 rw[<- JT,KJ,JG h,LF,JG h]
 rfl
theorem pL(c:Int):kdAt c∈Rm++Rn:=by
 unfold kdAt
 have h:(c % 23).toNat < (Rm++Rn).length:=by
  show (c % 23).toNat < 23
  omega
 rw[LF,JG h]
 exact OJ h
theorem xV:∀x∈Rm++Rn,¬ x = "say" -> ¬ x = "onwards" -> ¬ x = "ask" -> ¬ x = "try" -> x∈Qq:=by decide +kernel
theorem Xn{kd p q:Str}:kU (V.str kd) [V.str p,V.str q]=true ↔ kd=p∨kd=q:=by
 show ((p == kd) || ((q == kd) || false))=true ↔ _
 rw[Bool.or_false,Bool.or_eq_true,beq_iff_eq,beq_iff_eq]
 exact⟨λh=>h.imp Eq.symm Eq.symm,λh=>h.imp Eq.symm Eq.symm⟩
abbrev IT:List Str:=["_law_words","_law_first","_law_mixed_here","_law_sorts","_law_sort","_law_amount","_law_some","_law_word"]
def sA:OQ:=(Bg He).getD 0 (.Pass ⟨0,0,0,0⟩)
def sB:OQ:=(Bg He).getD 1 (.Pass ⟨0,0,0,0⟩)
theorem tZ{X:Cx}{i:Nat}{x y:Str}{es:List Expr}{t:TA}{tn:TE}{pos pos' p1 p2 p3:Pos}(hN:X.N.Nodup)(hi:X.N[i]? = some x)(hx:Loc X.env.scope x)(hv:PE X (.Name y p1) tn)(h:FV X es t)(hf:X.fn x=true∨X.env.scope.names.lookup x=some .local)(hs:swapsWith (.BinOp (.Name y p1) .Add (.List es p2) p3) (some (.Name x pos')) pos.line X.env=pure false):CJ X (.Assign [.Name x pos'] (.BinOp (.Name y p1) .Add (.List es p2) p3) pos) (Wp (BH AZ tn (pS t)) (Kk i)):=⟨Mr hN hi hx (Aq Jp hv (Df h.ok)) hs hf⟩
theorem EF{X:Cx}{tail:List OQ}{t:TS}(_:Hy X tail t)(hN:X.N=(["_law_words","_law_first","_law_mixed_here","_law_sorts","_law_sort","_law_amount","_law_some","_law_word"]:List Str))(hs:X.env.scope=Ad He):CJ X sA (Wp (pS (eQ (Rm.map V.str))) (Kk 3)):=by
 refine tV (x := "_law_sorts") ?_ ?_ ?_ (Wl (xs:=Rm) (by rfl)) ?_
 ·rw[hN];decide +kernel
 ·rw[hN];rfl
 ·rw[hs];exact Or.inl rfl
 ·rw[hs];exact Or.inr rfl
theorem BK{X:Cx}{tail:List OQ}{t:TS}{tn:TE}(_:Hy X tail t)(hN:X.N=(["_law_words","_law_first","_law_mixed_here","_law_sorts","_law_sort","_law_amount","_law_some","_law_word"]:List Str))(hs:X.env.scope=Ad He)(hv:∀p1,PE X (.Name "_law_sorts" p1) tn):CJ X sB (Wp (BH AZ tn (pS (eQ (Rn.map V.str)))) (Kk 3)):=by
 refine tZ (x := "_law_sorts") (y := "_law_sorts") ?_ ?_ ?_ (hv _) (Wl (xs:=Rn) (by rfl)) ?_ ?_
 ·rw[hN];decide +kernel
 ·rw[hN];rfl
 ·rw[hs];exact Or.inl rfl
 ·rw[hs];exact Or.inr rfl
 ·rfl
theorem Vc{x:Int}{n:Nat}(h:0 < n):∃k:Nat,x % (n:Int)=(k:Int)/\k < n:=by
 have b0:0<=x % (n:Int):=LY _ (by omega)
 have b1:x % (n:Int) < (n:Int):=LV _ (by omega)
 obtain⟨k,hk⟩:=NF b0
 exact⟨k,hk,by omega⟩
section
variable {P:KC} {w:LL} {K:JC} {mg:Str->Option JD} {base:MQ} {f fM fS:JK} {fd dM dS:LB}
theorem eP:An ["_law_cell","_law_k","_law_found"] ["_law_cell","_law_k"] (Ad Zo):=Ez (by decide +kernel)
theorem nN(F:Dj K "_law_mixed" "_law_mixed" Zo f fd):Al P w K mg base Bi 1 f fd ["_law_cell","_law_k"] Ny:=by
 refine F.ok eP (λvs H Q E h=>?_) (λcdv A outer s H vs Q E hr h=>?_)
 ·obtain⟨c,k,rfl,_⟩:=h
  rfl
 obtain⟨c,k,rfl,q⟩:=h
 refine⟨_,Ac (Bv 2 eP.nd (Aq Ca (Aq Kq (Aq Cm (Aq Cm (pv 0) (Aq Kq Ae (pv 1))) Ae) Ae) Ae))
  (Af (Ao (Aq Ca (Aq Kq (pv 2) (pv 2)) Ae))),?_⟩
 refine⟨_,rfl,_,rfl,_,_,rfl,rfl,.inl ⟨by decide,by decide⟩,_,_,rfl,rfl,_,_,rfl,rfl,_,_,rfl,rfl,.inr ⟨by decide,by decide⟩,_,_,rfl,rfl,(by show (0:Int) < 2147483647;decide),?_⟩
 have b0:0<=(c+977 * k+31) * 48271 % 2147483647:=LY _ (by decide)
 have b1:(c+977 * k+31) * 48271 % 2147483647 < 2147483647:=LV _ (by decide)
 generalize (c+977 * k+31) * 48271 % 2147483647=y at *
 refine⟨_,rfl,_,rfl,_,_,rfl,rfl,.inl ⟨by omega,by omega⟩,_,_,rfl,rfl,(by show (0:Int) < 2147483629;decide),?_⟩
 exact q _ (LY _ (by decide))
theorem pM:An IT ["_law_words","_law_first","_law_mixed_here"] (Ad He):=Ez (by decide +kernel)
theorem EC(F:Dj K "_law_step_by" "_law_step_by" He f fd)(T:Txt mg)(mAbs:mg "abs" = none):Al P w K mg base Bi 1 f fd ["_law_words","_law_first","_law_mixed_here"] Pw:=by
 refine F.ok pM (λvs H Q E h=>?_) (λcdv A outer s H vs Q E hr h=>?_)
 ·obtain⟨wa,ws,a,m,rfl,_⟩:=h
  rfl
 obtain⟨wa,ws,a,m,rfl,hwa,ha,hwl,q⟩:=h
 -- what stands behind the two rows of texts
 refine Gh (tail:=(Bg He).drop 2) (λtt=>∀(D:L2.Ends)(H1:Hp)(l:JK),D.rt=Q->Am H H1->H1 l=some (.lst (Rm.map V.str++Rn.map V.str))->tt D [some (.ref wa),some (.int (a:Int)),some (.int m),some (.ref l),none,none,none,none] H1) ?_ ?_
 ·refine⟨_,Ac (Bv 4 pM.nd (As Bj (pv 3) (Aq Ca (pv 2) Ae) (λ_ _=>rfl)))
   (Ac (Bv 5 pM.nd (Aq Jg (Aq Ca (Aq Dy (pv 2) Ae) Ae) Ae))
   (Ac (Bv 6 pM.nd (Cj El (pv 0) (Cy (pv 1)) Dx))
   (Ac (Bv 7 pM.nd (As Bj (pv 6) (Aq Ca (Aq Dy (pv 2) Ae) (Bw T.len (pv 6))) (λ_ _=>rfl)))
   (Ac (Ay (Ar Hr (pv 4) (Cb (Il (xs:=["say","onwards"]) (by rfl))) rfl) (Af (Ao (Cb (Du (pv 4))))) Ap)
   (Ac (Ay (Ar Cc (pv 4) Ba (Au _)) (Af (Ao (Cb (Em (pv 4) (pv 7))))) Ap)
   (Ac (Ay (Ar Cc (pv 4) Ba (Au _)) (Af (Ao (Cb (Ja (pv 4) (pv 7) (As Bj (pv 6) (Aq Ca (Aq Dy (pv 2) Ae) (Bw T.len (pv 6))) (λ_ _=>rfl)))))) Ap)
   (Ac (Ay (PW.pt (Qn (Ar Hr (pv 4) (Cb (Il (xs:=["part","over"]) (by rfl))) rfl) (Lc (Ar Cc (pv 5) Ae (Au _))))) (Af (Ao (Cb (Em (pv 4) (Jt Gs Ae))))) Ap)
   (Ac (Ay (Ar Hr (pv 4) (Cb (Il (xs:=["down","up"]) (by rfl))) rfl) (Af (Ao (Cb (Em (pv 4) (Bz pZ rfl mAbs PyProof.Rows.boot_abs (Du (pv 5))))))) Ap)
   (Af (Ao (Cb (Em (pv 4) (pv 5))))))))))))),λD H1 l hD s1 el=>?_⟩
  refine⟨_,rfl,_,rfl,_,_,rfl,rfl,(by show (0:Int) < 23;decide),l,_,_,_,rfl,rfl,Aw.of el,uB m,?_⟩
  have kop:=xV _ (pL m)
  generalize kdAt m=kd at *
  refine⟨_,rfl,_,_,rfl,rfl,⟨by decide,by decide⟩,_,_,rfl,rfl,(by show (0:Int) < 15;decide),_,_,rfl,rfl,?_⟩
  have a0:0<=m / 23 % 15:=LY _ (by decide)
  have a1:m / 23 % 15 < 15:=LV _ (by decide)
  generalize m / 23 % 15=am at *
  refine⟨_,rfl,_,rfl,_,rfl,wa,_,rfl,Aw.of (s1 _ _ hwa),λsm hsm=>?_⟩
  rw[Nw _ _ (by rw[Av];omega)]
  have e2:(Az ws).drop a=Az (ws.drop a):=by unfold Az;rw[RL]
  rw[e2]
  obtain⟨H2,zz,s2,esm⟩:=lay hsm (.lst (Az (ws.drop a)))
  rw[zz]
  have hdl:0 < (ws.drop a).length:=by rw[MR];omega
  have sA':=s1.trans s2
  have pick:∀x:Int,∃y,Jb (Az (ws.drop a)) (x % ((Az (ws.drop a)).length:Int))=some (.str y)/\y∈ws:=λx=>by
   rw[Av]
   obtain⟨k,hk,hk2⟩:=Vc (x:=x) hdl
   rw[hk]
   exact⟨(ws.drop a)[k],Bc (Mm (JG hk2)),PP (OJ hk2)⟩
  obtain⟨y1,hy1,hy1m⟩:=pick (m / 345)
  obtain⟨y2,hy2,hy2m⟩:=pick (m / 2415)
  have hln:(0:Int) < ((Az (ws.drop a)).length:Int):=by rw[Av];omega
  refine⟨_,rfl,_,rfl,_,_,rfl,rfl,⟨by decide,by decide⟩,_,rfl,sm,_,rfl,.inl (Aw.of esm),_,_,rfl,rfl,hln,sm,_,_,_,rfl,rfl,Aw.of esm,hy1,?_⟩
  have z2:2<=JM:=by rw[KO];decide
  have z1:1<=JM:=by rw[KO];decide
  refine⟨_,rfl,by show 2<=JM;exact z2,λtp htp=>⟨tp,_,rfl,.inr (Co.of Aa),rfl,rfl,_,rfl,?_⟩⟩
  have s3:=Ag htp (.tup ((["say","onwards"]:List Str).map V.str))
  have sB':=sA'.trans s3
  have esm3:=s3 _ _ esm
  generalize upd H2 tp (.tup ((["say","onwards"]:List Str).map V.str))=H3 at *
  refine Br (λc=>?_) (λc=>?_)
  ·refine⟨_,rfl,by show 1<=JM;exact z1,λt ht=>?_⟩
   rw[hD]
   rcases Xn.mp c with e | e
   ·subst e
    exact q t _ (.sm .say) (sB'.trans (Ag ht _)) Aa trivial
   ·subst e
    exact q t _ .onw (sB'.trans (Ag ht _)) Aa trivial
  have c1:¬ kd = "say" := λz=>c (Xn.mpr (.inl z))
  have c2:¬ kd = "onwards" := λz=>c (Xn.mpr (.inr z))
  refine⟨_,rfl,rfl,_,rfl,Br (λc3=>?_) (λc3=>?_)⟩
  ·refine⟨_,rfl,_,rfl,by show 2<=JM;exact z2,λt ht=>?_⟩
   rw[hD]
   obtain rfl:=Bq c3
   exact q t _ (.ask y1) (sB'.trans (Ag ht _)) Aa hy1m
  refine⟨_,rfl,rfl,_,rfl,Br (λc4=>?_) (λc4=>?_)⟩
  ·refine⟨_,rfl,_,rfl,_,rfl,_,rfl,_,_,rfl,rfl,⟨by decide,by decide⟩,_,rfl,sm,_,rfl,.inl (Aw.of esm3),_,_,rfl,rfl,hln,sm,_,_,_,rfl,rfl,Aw.of esm3,hy2,by rw[KO];show 3<=_;decide,λt ht=>?_⟩
   rw[hD]
   obtain rfl:=Bq c4
   exact q t _ (.tri y1 y2) (sB'.trans (Ag ht _)) Aa ⟨hy1m,hy2m⟩
  have hm:=kop c1 c2 (Dc c3) (Dc c4)
  have eb:big=1000000000000000000000000000000:=by decide
  have fin:∀(b:Int)(t:JK)(H4:Hp),Am H3 H4->H4 t=none -> -big<=b->b<=big->(kd = "over" ∨ kd = "part" -> b≠0)->(kd = "up" ∨ kd = "down" -> 0<=b/\b<=64)->Q (.ref t) (upd H4 t (.tup [.str kd,.int b])):=λb t H4 s4 ht b0 b1 b2 b3=>
   q t _ (.sm (.op kd b)) (sB'.trans (s4.trans (Ag ht _))) Aa ⟨hm,b0,b1,b2,b3⟩
  refine⟨_,rfl,by show 2<=JM;exact z2,λtp2 htp2=>⟨tp2,_,rfl,.inr (Co.of Aa),rfl,rfl,_,rfl,?_⟩⟩
  have s4:=Ag htp2 (.tup ((["part","over"]:List Str).map V.str))
  generalize upd H3 tp2 (.tup ((["part","over"]:List Str).map V.str))=H4 at *
  have z7:∀ {p q:Str},kd=p->kd=q->p≠q->False:=λh1 h2 h3=>h3 (h1.symm.trans h2)
  refine Br (λc5=>?_) (λc5=>Eb ?_)
  ·have k5:=Xn.mp c5
   refine⟨_,rfl,rfl,_,rfl,Br (λc6=>?_) (λc6=>?_)⟩
   ·refine⟨_,rfl,_,rfl,by show 2<=JM;exact z2,λt ht=>?_⟩
    rw[hD]
    refine fin (-5) t H4 s4 ht (by rw[eb];decide) (by rw[eb];decide) (λ_=>by decide) (λz=>?_)
    rcases k5 with h | h<;>rcases z with z | z<;>rw[h] at z<;>revert z<;>decide +kernel
   ·have c7:am-7≠0:=λh=>c6 (decide_eq_true (congrArg V.int h))
    refine⟨_,rfl,by show 2<=JM;exact z2,λtp3 htp3=>⟨tp3,_,rfl,.inr (Co.of Aa),rfl,rfl,_,rfl,?_⟩⟩
    have s5:=s4.trans (Ag htp3 (.tup ((["down","up"]:List Str).map V.str)))
    refine Br (λc8=>?_) (λc8=>?_)
    ·exfalso
     rcases Xn.mp c8 with z | z<;>rcases k5 with h | h<;>rw[h] at z<;>revert z<;>decide +kernel
    ·refine⟨_,rfl,_,rfl,by show 2<=JM;exact z2,λt ht=>?_⟩
     rw[hD]
     exact fin _ t _ s5 ht (by rw[eb];omega) (by rw[eb];omega) (λ_=>c7) (λz=>absurd (Xn.mpr z.symm) c8)
  ·have k5:¬ (kd = "part" ∨ kd = "over"):=λz=>c5 (Xn.mpr z)
   refine⟨_,rfl,by show 2<=JM;exact z2,λtp3 htp3=>⟨tp3,_,rfl,.inr (Co.of Aa),rfl,rfl,_,rfl,?_⟩⟩
   have s5:=s4.trans (Ag htp3 (.tup ((["down","up"]:List Str).map V.str)))
   refine Br (λc8=>?_) (λc8=>?_)
   ·refine⟨_,rfl,_,rfl,_,rfl,by show 2<=JM;exact z2,λt ht=>?_⟩
    rw[hD]
    exact fin _ t _ s5 ht (by rw[eb];split<;>omega) (by rw[eb];split<;>omega) (λz=>absurd z.symm k5) (λ_=>by split<;>omega)
   ·refine⟨_,rfl,_,rfl,by show 2<=JM;exact z2,λt ht=>?_⟩
    rw[hD]
    exact fin _ t _ s5 ht (by rw[eb];omega) (by rw[eb];omega) (λz=>absurd z.symm k5) (λz=>absurd (Xn.mpr z.symm) c8)
 intro t4 h4 p4
 have hA:=EF h4 rfl rfl
 have hB:=BK h4 rfl rfl (λ_=>pv 3)
 refine eK hA ?_
 refine eK hB ?_
 refine⟨_,h4,?_⟩
 refine⟨by show 12<=JM;decide,λl1 hl1=>?_⟩
 refine⟨_,rfl,by show 11<=JM;decide,λl2 hl2=>?_⟩
 have n12:l1≠l2:=λz=>by rw[<- z,Aa] at hl2;cases hl2
 have s1:=Ag hl1 (.lst (Rm.map V.str))
 have s2:=Ag hl2 (.lst (Rn.map V.str))
 refine⟨l1,l2,_,_,rfl,rfl,by rw[Aj n12];exact Aa,Aa,by show 23<=JM;decide,λl3 hl3=>?_⟩
 exact p4 _ _ l3 rfl ((s1.trans s2).trans (Ag hl3 _)) Aa
abbrev IA:List Str:=["_law_words","_law_first","_law_cell"]
theorem EV:An IA ["_law_words","_law_first","_law_cell"] (Ad Oa):=Ez (by decide +kernel)
theorem FK:(["_law_k","_law_cell","_law_first","_law_words"]:List Str).Nodup:=by decide +kernel
theorem DJ(F:Dj K "_law_body_by" "_law_body_by" Oa f fd)(T:Txt mg)(GM:Al P w K mg base Bi 1 fM dM ["_law_cell","_law_k"] Ny)(kM:JR K (.ref fM)=true)(bM:Binds K dM ["_law_cell","_law_k"] [])(mM:mg "_law_mixed" = some (.ref fM))(GS:Al P w K mg base Bi 1 fS dS ["_law_words","_law_first","_law_mixed_here"] Pw)(kS:JR K (.ref fS)=true)(bS:Binds K dS ["_law_words","_law_first","_law_mixed_here"] [])(mS:mg "_law_step_by" = some (.ref fS)):Al P w K mg base Bi 2 f fd ["_law_words","_law_first","_law_cell"] Jf:=by
 refine F.ok EV (λvs H Q E h=>?_) (λcdv A outer s H vs Q E hr h=>?_)
 ·obtain⟨wa,ws,a,c,rfl,_⟩:=h
  rfl
 obtain⟨wa,ws,a,c,rfl,hwa,ha,hwl,q⟩:=h
 refine⟨_,Af (Ao (Hh (Ad Oa) IA ["_law_k"] [("_law_cell", 2),("_law_first", 1),("_law_words", 0)] rfl (Fb rfl T.range (Du (Aq Ca (pv 2) Ae))) (Bm (i:=0) (by decide))
  (λ_ _ _ _ _ _=>⟨Dg 0 FK,Ds,Cf GS hr mS kS bS (Ja (pv 3) (pv 2) (Cf GM hr mM kM bM (Em (Aq Dy (pv 1) Ae) (pv 0))))⟩))),?_⟩
 have b0:0<=c % 5:=LY _ (by decide)
 have b1:c % 5 < 5:=LV _ (by decide)
 refine⟨_,rfl,_,_,rfl,rfl,(by show (0:Int) < 5;decide),_,rfl,by omega,by omega,Ie (k:=(c % 5).toNat) (λi ys H2=>Am H H2/\∃(ts:List JK)(ss:List Stp),ys=ts.map V.ref/\ts.length=i/\Dq H2 ts (ss.map Stp.pr)/\∀s∈ss,xI ws s) ⟨Am.refl _,[],[],rfl,rfl,⟨rfl,λi t p h=>by simp at h⟩,λs hs=>nomatch hs⟩ ?_ ?_⟩
 ·rintro i ys H2 hi ⟨s2,ts,ss,rfl,htl,hst,hok⟩
  refine⟨_,rfl,_,rfl,_,rfl,_,_,rfl,rfl,⟨by decide,by decide⟩,_,rfl,_,_,rfl,λm hm=>?_⟩
  refine⟨wa,ws,a,m,rfl,s2 _ _ hwa,ha,hwl,λt H3 s' s3 et hw=>?_⟩
  have hsl:ss.length=ts.length:=by rw[hst.1,JF]
  refine⟨by rw[JF,htl,KO];omega,s2.trans s3,ts++[t],ss++[s'],by rw[JT];rfl,by rw[JJ,htl];rfl,⟨by rw[JJ,JT,JJ,hst.1];rfl,λj t' p h1 h2=>?_⟩,λz hz=>?_⟩
  ·by_cases hj:j < ts.length
   ·rw[KH hj] at h1
    rw[JT,KH (by rw[JF,hsl];exact hj)] at h2
    exact s3 _ _ (hst.2 j t' p h1 h2)
   ·have hjl:j < (ts++[t]).length:=(JB.mp h1).1
    rw[JJ,JU] at hjl
    obtain rfl:j=ts.length:=by omega
    rw[KA] at h1
    cases h1
    rw[JT,<- hsl,<- JF (f:=Stp.pr),List.map_singleton,KA] at h2
    cases h2
    exact et
  ·rcases KI.mp hz with h | h
   ·exact hok z h
   ·rw[JL.mp h]
    exact hw
 ·rintro ys H2 ⟨s2,ts,ss,rfl,htl,hst,hok⟩ l hl
  have s3:=Ag hl (.lst (ts.map V.ref))
  refine q l ts ss _ (s2.free hl) (s2.trans s3) Aa (hst.same s3) hok ?_
  have:ss.length=ts.length:=by rw[hst.1,JF]
  omega
end
end Bk
namespace Bk
open PySem L2 Mg Nm Rk PySem.SeqAt
structure aL(ks:List (Str×JK×List Str)):Prop where
 non:∀kd∈(["say","onwards"]:List Str),∃a,kindsOf ks kd=some (a,[])
 amt:∀kd∈(["put","plus","times","both","any","odd"]:List Str),∃a,kindsOf ks kd=some (a,([("amount" : Str)]:List Str))
 dv:∀kd∈(["over","part"]:List Str),∃a,kindsOf ks kd=some (a,([("divisor" : Str)]:List Str))
 sh:∀kd∈(["up","down"]:List Str),∃a,kindsOf ks kd=some (a,([("shift" : Str)]:List Str))
 ask:∃a,kindsOf ks "ask" = some (a,([("word" : Str)]:List Str))
 try_:∃a,kindsOf ks "try" = some (a,([("word" : Str),("word" : Str)]:List Str))
theorem Ue{y:Str}(h:Gb y=true):Ew "word" (.str y)=true:=by
 unfold Ew
 rw[if_pos rfl]
 exact h
theorem Ov{lo hi a:Int}(h0:lo<=a)(h1:a<=hi):rT lo hi (.int a)=true:=by
 show (decide (lo<=a) && decide (a<=hi))=true
 rw[decide_eq_true h0,decide_eq_true h1]
 rfl
theorem qN{a:Int}(h0 : -big<=a)(h1:a<=big):Ew "amount" (.int a)=true:=by
 unfold Ew
 rw[if_neg (by decide +kernel),if_neg (by decide +kernel),if_neg (by decide +kernel)]
 exact Ov h0 h1
theorem sN{a:Int}(h0 : -big<=a)(h1:a<=big)(hz:a≠0):Ew "divisor" (.int a)=true:=by
 unfold Ew
 rw[if_neg (by decide +kernel),if_neg (by decide +kernel),if_pos rfl,Ov h0 h1,decide_eq_false (λz=>hz (V.int.inj z))]
 rfl
theorem wF{a:Int}(h0:0<=a)(h1:a<=64):Ew "shift" (.int a)=true:=by
 unfold Ew
 rw[if_neg (by decide +kernel),if_pos rfl]
 exact Ov h0 h1
theorem Rr{ks:List (Str×JK×List Str)}{kd:Str}{ad:JK}(hk:kindsOf ks kd=some (ad,[])):Hv ks kd []:=⟨ad,[],hk,rfl,λi v k hv _=>by simp at hv⟩
theorem Lb{ks:List (Str×JK×List Str)}{kd k:Str}{u:V}{ad:JK}(hk:kindsOf ks kd=some (ad,[k]))(hp:Ew k u=true):Hv ks kd [u]:=⟨ad,[k],hk,rfl,λi v k' hv hk'=>by
 have hi:i < 1:=(JB.mp hv).1
 obtain rfl:i=0:=by omega
 cases hv
 cases hk'
 exact hp⟩
theorem lG{ks:List (Str×JK×List Str)}{kd k k2:Str}{u u2:V}{ad:JK}(hk:kindsOf ks kd=some (ad,[k,k2]))(hp:Ew k u=true)(hp2:Ew k2 u2=true):Hv ks kd [u,u2]:=⟨ad,[k,k2],hk,rfl,λi v k' hv hk'=>by
 have hi:i < 2:=(JB.mp hv).1
 match i,hi with
 | 0,_=>cases hv;cases hk';exact hp
 | 1,_=>cases hv;cases hk';exact hp2⟩
theorem oK{ks:List (Str×JK×List Str)}(T:aL ks){ws:List Str}(hw:∀y∈ws,Gb y=true){s:Stp}(h:xI ws s):Hv ks s.pr.1 s.pr.2/\(∀v∈s.pr.2,PV v)/\s.pr.2.length<=100:=by
 have pvs:∀ {y:Str},y∈ws->PV (.str y):=λ{y} hy=>.inr ⟨y,rfl,by
  have:=hw y hy
  unfold Gb at this
  rw[ME,ME] at this
  have:=of_decide_eq_true this.1.2
  rw[KO]
  omega⟩
 cases s with
 | onw=>
  obtain⟨a,ha⟩:=T.non "onwards" (by decide +kernel)
  exact⟨Rr ha,(λv hv=>nomatch hv),by show 0<=100;decide⟩
 | ask y=>
  obtain⟨a,ha⟩:=T.ask
  have hy:y∈ws:=h
  refine⟨Lb ha (Ue (hw y hy)),λv hv=>?_,by show 1<=100;decide⟩
  rw[JL.mp hv]
  exact pvs hy
 | tri y z=>
  obtain⟨a,ha⟩:=T.try_
  have hh:y∈ws/\z∈ws:=h
  refine⟨lG ha (Ue (hw y hh.1)) (Ue (hw z hh.2)),λv hv=>?_,by show 2<=100;decide⟩
  rcases JP.mp hv with rfl | hv
  ·exact pvs hh.1
  ·rw[JL.mp hv]
   exact pvs hh.2
 | sm s=>
  cases s with
  | say=>
   obtain⟨a,ha⟩:=T.non "say" (by decide +kernel)
   exact⟨Rr ha,(λv hv=>nomatch hv),by show 0<=100;decide⟩
  | op kd a=>
   have h':wR kd a:=h
   refine⟨?_,λv hv=>.inl ⟨a,JL.mp hv⟩,by show 1<=100;decide⟩
   have m:=h'.mem
   unfold Qq at m
   simp only[JP,KG,or_false] at m
   by_cases hd:kd = "over" ∨ kd = "part"
   ·obtain⟨ad,e⟩:=T.dv kd (by rcases hd with rfl | rfl<;>decide +kernel)
    exact Lb e (sN h'.lo h'.hi (h'.dv hd))
   by_cases hs:kd = "up" ∨ kd = "down"
   ·obtain⟨ad,e⟩:=T.sh kd (by rcases hs with rfl | rfl<;>decide +kernel)
    exact Lb e (wF (h'.sh hs).1 (h'.sh hs).2)
   ·obtain⟨ad,e⟩:=T.amt kd (by
     rcases m with rfl | rfl | rfl | rfl | rfl | rfl | rfl | rfl | rfl | rfl
     ·decide +kernel
     ·decide +kernel
     ·decide +kernel
     ·exact absurd (.inl rfl) hd
     ·decide +kernel
     ·decide +kernel
     ·decide +kernel
     ·exact absurd (.inl rfl) hs
     ·exact absurd (.inr rfl) hs
     ·exact absurd (.inr rfl) hd)
    exact Lb e (qN h'.lo h'.hi)
theorem Sl{ks:List (Str×JK×List Str)}(T:aL ks){ws:List Str}(hw:∀y∈ws,Gb y=true){ss:List Stp}(h:∀s∈ss,xI ws s)(hl:ss.length<=30):Mq ks (ss.map Stp.pr):=by
 refine⟨by rw[JF];exact hl,λp hp=>?_⟩
 obtain⟨s,hs,rfl⟩:=LM.mp hp
 exact oK T hw (h s hs)
def Md(H H':Hp):Prop:=∀b o,H b=some o->(∀z,o ≠ .dK z)->(∀z,o ≠ .dT z)->H' b=some o
theorem Md.of_same{H H':Hp}(s:Am H H'):Md H H':=λb o h _ _=>s b o h
theorem Md.trans{H H' H'':Hp}(a:Md H H')(b:Md H' H''):Md H H'':=λc o h n m=>b c o (a c o h n m) n m
theorem Md.lst{H H':Hp}(k:Md H H'){b:JK}{xs:List V}(h:H b=some (.lst xs)):H' b=some (.lst xs):=k b _ h (by intro z e;cases e) (by intro z e;cases e)
theorem Hq.kp{H H':Hp}{la:JK}{ss:List Stp}(h:Hq H la ss)(k:Md H H'):Hq H' la ss:=h.keep λb o e z=>k b o e (by rcases z with ⟨xs,rfl⟩ | ⟨xs,rfl⟩<;>intro y e<;>cases e) (by rcases z with ⟨xs,rfl⟩ | ⟨xs,rfl⟩<;>intro y e<;>cases e)
def eY(CB CH:JK)(H0 H:Hp)(p d ka:JK)(ns:List Str)(m:Nat):Prop:=∃(L:List Ent)(kvs:List (List Key×V))(B:Ci),Zp CB CH H p d L B/\H ka=some (.dT kvs)/\L.map (·.nm)=ns/\kvs.length<=m/\(∀e∈L,e.bd.length<=m)/\Md H0 H
theorem eY.same{CB CH:JK}{H0 H H':Hp}{p d ka:JK}{ns:List Str}{m:Nat}(h:eY CB CH H0 H p d ka ns m)(s:Am H H'):eY CB CH H0 H' p d ka ns m:=
 let ⟨L,kvs,B,a,z,b,c,e,k⟩:=h;⟨L,kvs,B,a.same s,s _ _ z,b,c,e,k.trans (Md.of_same s)⟩
theorem eY.mono{CB CH:JK}{H0 H:Hp}{p d ka:JK}{ns:List Str}{m m':Nat}(h:eY CB CH H0 H p d ka ns m)(hm:m<=m'):eY CB CH H0 H p d ka ns m':=
 let ⟨L,kvs,B,a,z,b,c,e,k⟩:=h;⟨L,kvs,B,a,z,b,KS c hm,λx hx=>KS (e x hx) hm,k⟩
def Ke(CB CH:JK):Sp:=λvs H Q _=>∃(p d na wa:JK)(L:List Ent)(ws:List Str)(sd:Int),vs=[.ref p,.ref na,.ref wa,.int sd]/\Be CB CH H p d L/\Gw L/\L.length<=40/\(∀e∈L,e.bd=[])/\H na=some (.lst (Az (L.map (·.nm))))/\H wa=some (.lst (Az ws))/\ws.length<=7/\(∀y∈ws,Gb y=true) /\
 ∀ka H',eY CB CH H H' p d ka (L.map (·.nm)) 300->Q (.ref ka) H'
section
variable {P:KC} {w:LL} {K:JC} {mg:Str->Option JD} {base:MQ} {f fM fB fE CB CH:JK} {fd dM dB dE:LB} {ks:List (Str×JK×List Str)}
theorem Fd:An ["_law_book","_law_names","_law_words","_law_seed","_law_known","_law_at","_law_k","_law_mixed_here","_law_first"] ["_law_book","_law_names","_law_words","_law_seed"] (Ad Vl):=Ez (by decide +kernel)
theorem aG(F:Dj K "_law_taught" "_law_taught" Vl f fd)(T:Gz K mg CB CH)(Tx:Txt mg)(Tp:aL ks)(GM:Al P w K mg base Bi 1 fM dM ["_law_cell","_law_k"] Ny)(kM:JR K (.ref fM)=true)(bM:Binds K dM ["_law_cell","_law_k"] [])(mM:mg "_law_mixed" = some (.ref fM))(GB:Al P w K mg base Bi 3 fB dB ["_law_words","_law_first","_law_cell"] Jf)(kB:JR K (.ref fB)=true)(bB:Binds K dB ["_law_words","_law_first","_law_cell"] [])(mB:mg "_law_body_by" = some (.ref fB))(GE:Al P w K mg base Bi 6 fE dE ["self","name","word","body"] (La CB CH ks))(bE:Binds K dE ["self","name","word","body"] [])(mE:Dt K CB "teach" fE):Al P w K mg base Bi 7 f fd ["_law_book","_law_names","_law_words","_law_seed"] (Ke CB CH):=by
 refine F.ok Fd (λvs H Q E h=>?_) (λcdv A outer s H vs Q E hr h=>?_)
 ·obtain⟨p,d,na,wa,L,ws,sd,rfl,_⟩:=h
  rfl
 obtain⟨p,d,na,wa,L,ws,sd,rfl,B,O,hL,hbd,ena,ewa,hws,hok,q⟩:=h
 have hr1:=hr.mono (j:=1) (by decide)
 have hr3:=hr.mono (j:=3) (by decide)
 have hu:=Fm hr
 refine⟨_,Ac (Bv 4 Fd.nd lH)
  (Ac (Eg MJ rfl (Fb rfl Tx.range (Du (Bw Tx.len (pv 1)))) (Dg 5 Fd.nd)
   (Af (Eg MJ rfl (Fb rfl Tx.range (Du (Aq Jg (Bw Tx.len (pv 2)) Ae))) (Dg 6 Fd.nd)
    (Ac (Bv 7 Fd.nd (Cf GM hr1 mM kM bM (Em (pv 3) (Aq Cm (Aq Kq Ae (pv 5)) (pv 6)))))
    (Af (Ay (Ar Yl (Aq Ca (pv 7) Ae) Ae (Au _))
     (Ac (Bv 8 Fd.nd Ae)
     (Ac (Ay (Ar Yl (Aq Ca (pv 3) Ae) Ae (Au _)) (Af (Bv 8 Fd.nd (Aq Cm (pv 6) Ae))) Ap)
     (Ac (Gc hu (pv 4) (Cb (Em (As Bj (pv 1) (pv 5) (λ_ _=>rfl)) (As Bj (pv 2) (pv 6) (λ_ _=>rfl)))) (Cf GB hr3 mB kB bB (Ja (pv 2) (pv 8) (Aq Dy (pv 7) Ae))) rfl)
     (Af (Bx (Ee (pv 0) T.clB mE GE hr bE .nil Dh (Ja (As Bj (pv 1) (pv 5) (λ_ _=>rfl)) (As Bj (pv 2) (pv 6) (λ_ _=>rfl)) (Io hu (pv 4) (Cb (Em (As Bj (pv 1) (pv 5) (λ_ _=>rfl)) (As Bj (pv 2) (pv 6) (λ_ _=>rfl)))) (λ_ _=>rfl))))))))) Ap))))))
  (Af (Ao (pv 4)))),?_⟩
 intro ka hka
 obtain⟨H1,zz,s1,e1⟩:=lay hka (.dT [])
 rw[zz]
 have S1:eY CB CH H H1 p d ka (L.map (·.nm)) 0:=⟨L,[],λ_ _=>none,⟨B.same s1,O,λe he w _=>by rw[hbd e he];rfl,(λe he w ss h=>nomatch h),(λy w ss h=>nomatch h),λe he=>⟨[],hbd e he,OR⟩⟩,e1,rfl,JI _,λe he=>by rw[hbd e he];exact JI _,Md.of_same s1⟩
 have ln:(Az (L.map (·.nm))).length=L.length:=by rw[Av,JF]
 have lw:(Az ws).length=ws.length:=Av ws
 refine⟨_,rfl,na,_,rfl,.inl (Aw.of (s1 _ _ ena)),_,rfl,by rw[ln];omega,by rw[ln];omega,Hm (n:=((Az (L.map (·.nm))).length:Int).toNat) (λi σ H2=>∃v5 v6 v7 v8,σ=[some (.ref p),some (.ref na),some (.ref wa),some (.int sd),some (.ref ka),v5,v6,v7,v8]/\eY CB CH H H2 p d ka (L.map (·.nm)) (i * 7)) ⟨_,_,_,_,rfl,S1⟩ ?_ ?_⟩
 ·rintro i σ H2 hi ⟨v5,v6,v7,v8,rfl,S2⟩
  rw[Int.zero_add]
  have hi':i < L.length:=by omega
  have ena2:H2 na=some (.lst (Az (L.map (·.nm)))):=let ⟨_,_,_,_,_,_,_,_,kx⟩:=S2;kx.lst ena
  have ewa2:H2 wa=some (.lst (Az ws)):=let ⟨_,_,_,_,_,_,_,_,kx⟩:=S2;kx.lst ewa
  obtain⟨x,hx⟩:∃x,(L.map (·.nm))[i]? = some x:=⟨_,JG (by rw[JF];exact hi')⟩
  have atx:Jb (Az (L.map (·.nm))) (i:Int)=some (.str x):=Bc (by unfold Az;rw[KJ,hx];rfl)
  refine⟨_,rfl,wa,_,rfl,.inl (Aw.of ewa2),_,_,rfl,rfl,_,rfl,by rw[lw];omega,by rw[lw];omega,Hm (n:=(((Az ws).length:Int)-1).toNat) (λj σ H3=>∃v6 v7 v8,σ=[some (.ref p),some (.ref na),some (.ref wa),some (.int sd),some (.ref ka),some (.int (i:Int)),v6,v7,v8]/\eY CB CH H H3 p d ka (L.map (·.nm)) (i * 7+j)) ⟨_,_,_,rfl,S2⟩ ?_ ?_⟩
  ·rintro j σ H3 hj ⟨v6,v7,v8,rfl,hS⟩
   rw[Int.zero_add]
   have hj':j+1 < ws.length:=by omega
   have ena3:H3 na=some (.lst (Az (L.map (·.nm)))):=let ⟨_,_,_,_,_,_,_,_,kx⟩:=hS;kx.lst ena
   have ewa3:H3 wa=some (.lst (Az ws)):=let ⟨_,_,_,_,_,_,_,_,kx⟩:=hS;kx.lst ewa
   obtain⟨y,hy⟩:∃y,ws[j]? = some y:=⟨_,JG (by omega)⟩
   have aty:Jb (Az ws) (j:Int)=some (.str y):=Bc (by unfold Az;rw[KJ,hy];rfl)
   refine⟨_,rfl,_,rfl,_,_,rfl,rfl,.inl ⟨by decide,by decide⟩,_,rfl,_,_,rfl,rfl,sd,_,rfl,λm hm=>?_⟩
   refine⟨_,rfl,_,_,rfl,rfl,(by show (0:Int) < 4;decide),_,_,rfl,rfl,_,rfl,Br (λc1=>?_) (λc1=>⟨_,_,_,rfl,hS.mono (by omega)⟩)⟩
   refine⟨_,rfl,_,_,rfl,rfl,(by show (0:Int) < 3;decide),_,_,rfl,rfl,_,rfl,Br (λc2=>⟨_,rfl,_,_,rfl,rfl,?_⟩) (λc2=>?_)⟩
   all_goals
    first
     | refine⟨_,rfl,_,rfl,_,rfl,_,_,rfl,rfl,⟨by decide,by decide⟩,wa,ws,j+1,_,rfl,ewa3,by omega,by omega,λlb ts ss H4 hlb s4 elb hst hss hsl=>?_⟩
     | refine⟨_,rfl,_,rfl,_,rfl,_,_,rfl,rfl,⟨by decide,by decide⟩,wa,ws,0,_,rfl,ewa3,by omega,by omega,λlb ts ss H4 hlb s4 elb hst hss hsl=>?_⟩
    obtain⟨L',kvs,Bd,S,hdc,hns,hkl,hbl,kx⟩:=(hS.same s4)
    have ena4:=s4 _ _ ena3
    have ewa4:=s4 _ _ ewa3
    obtain⟨e,he,hnm⟩:∃e,L'[i]? = some e/\e.nm=x:=by
     rw[<- hns,KJ] at hx
     cases z:L'[i]? with
     | none=>rw[z] at hx;cases hx
     | some e=>rw[z] at hx;exact⟨e,rfl,KW hx⟩
    subst hnm
    refine⟨_,rfl,_,rfl,_,rfl,na,_,_,_,rfl,rfl,Aw.of ena4,atx,_,rfl,_,rfl,wa,_,_,_,rfl,rfl,Aw.of ewa4,aty,by show 2<=JM;decide,λtk htk=>?_⟩
    obtain⟨H5,zz,s5,e5⟩:=lay htk (.tup [V.str e.nm,V.str y])
    rw[zz]
    have S5:=S.same s5
    have dc5:=s5 _ _ hdc
    refine⟨ka,_,rfl,Kv.t (k:=[(KD e.nm:Key),KD y]) dc5 e5 (by rw[KO];omega),?_⟩
    have k6:∀b o,H5 b=some o->b≠ka->(upd H5 ka (.dT (putK kvs [(KD e.nm:Key),KD y] (.ref lb)))) b=some o:=λb o h n=>by rw[Aj n];exact h
    have d6:(upd H5 ka (.dT (putK kvs [(KD e.nm:Key),KD y] (.ref lb)))) ka=some (.dT (putK kvs [(KD e.nm:Key),KD y] (.ref lb))):=Aa
    generalize upd H5 ka (.dT (putK kvs [(KD e.nm:Key),KD y] (.ref lb)))=H6 at *
    have kx6:Md H5 H6:=λb o h _ n=>k6 b o h (Cd h dc5 (n _))
    have ena6:=kx6.lst (s5 _ _ ena4)
    have ewa6:=kx6.lst (s5 _ _ ewa4)
    have S6:Zp CB CH H6 p d L' Bd:=S5.keepT λb o h n=>k6 b o h (Cd h dc5 (n _))
    have B6:=S6.bk
    obtain⟨dx6,hp6⟩:=B6.ob
    refine⟨_,rfl,p,dx6,_,rfl,hp6,Gr d (by decide +kernel),_,rfl,_,rfl,na,_,_,_,rfl,rfl,Aw.of ena6,atx,_,rfl,_,rfl,wa,_,_,_,rfl,rfl,Aw.of ewa6,aty,_,rfl,_,rfl,_,rfl,na,_,_,_,rfl,rfl,Aw.of ena6,atx,_,rfl,_,rfl,wa,_,_,_,rfl,rfl,Aw.of ewa6,aty,by show 2<=JM;decide,λtk2 htk2=>?_⟩
    obtain⟨H7,zz,s7,e7⟩:=lay htk2 (.tup [V.str e.nm,V.str y])
    rw[zz]
    have d7:=s7 _ _ d6
    have g7:=Er.t (k:=[(KD e.nm:Key),KD y]) d7 e7
    rw[Fp,if_pos rfl] at g7
    have hb5:Hq H5 lb ss:=Hq.kp ⟨ts,elb,hst⟩ (Md.of_same s5)
    have hb7:Hq H7 lb ss:=(hb5.kp kx6).kp (Md.of_same s7)
    obtain⟨ts',elb7,hst7⟩:=hb7
    have B7:=B6.same s7
    have hem:=JY he
    have hyk:=hok y (JY hy)
    have hyl:y.length<=20:=by
     unfold Gb at hyk
     rw[ME,ME] at hyk
     exact of_decide_eq_true hyk.1.2
    refine⟨ka,.ref lb,rfl,g7,p,d,lb,L',e.nm,y,e,ts',ss.map Stp.pr,rfl,B7,Me B7.nd hem,hyk,by rw[KO];omega,elb7,hst7,Sl Tp hok hss (by omega),by have:=hbl e hem;omega,λla H8 hla ela eba k8=>?_⟩
    have E7:=(B7.en e hem).bd
    have kx8:Md H7 H8:=λb o h n _=>k8 b o h (Cd h E7 (n _))
    have hla8:Hq H8 la ss:=⟨ts',ela,hst7.1,λa t pr h1 h2=>kx8 _ _ (hst7.2 a t pr h1 h2) (by intro z e;cases e) (by intro z e;cases e)⟩
    have S8:=(S6.same s7).put he (w:=y) (ss:=ss) ⟨λs hs=>(hss s hs).ok,by omega⟩ k8 eba hla8
    have d8:=k8 _ _ d7 (Cd d7 E7 (by intro z;cases z))
    refine⟨_,_,_,rfl,_,_,_,S8,d8,(Ef (f:=λx:Ent=>x.nm) (e':={ e with bd:=putK e.bd (KD y:Key) (.ref la) }) he rfl).trans hns,?_,λe1 he1=>?_,(((kx.trans (Md.of_same s5)).trans kx6).trans (Md.of_same s7)).trans kx8⟩
    ·have:=Dm kvs [(KD e.nm:Key),KD y] (.ref lb)
     omega
    ·rcases QY he1 with z | z
     ·have:=hbl e1 z
      omega
     ·rw[z]
      have h1:=Dm e.bd (KD y:Key) (.ref la)
      have h2:=hbl e hem
      show (putK e.bd (KD y:Key) (.ref la)).length<=_
      omega
  ·rintro σ H3 ⟨v6,v7,v8,rfl,hS⟩
   exact⟨_,_,_,_,rfl,hS.mono (by omega)⟩
 ·rintro σ H2 ⟨v5,v6,v7,v8,rfl,S2⟩
  exact⟨_,rfl,q ka H2 (S2.mono (by omega))⟩
end
end Bk
namespace L2
open PySem PySem.Spec PyProof.Rows
def BO(K:JC):List V->Hp->VK->Prop:=λxs H Q=>∃p ys T b,xs=[.ref p,.ty T]/\Co K H p ys/\QG K (.type "tuple") (.type T)=some b/\Q (.bl b) H
theorem jA{X:Cx}:Fj X (.builtin "isinstance") (BO X.K):=by
 intro pins s σ H xs us Q I r h
 obtain⟨p,ys,T,b,rfl,hq,e,q⟩:=h
 obtain⟨u,w',rfl,ru,rw'⟩:=vals2 r
 cases ru
 cases rw'
 obtain⟨its,rv,⟨o,h1,h2,_⟩,_⟩:=I.tuple hq
 exact NM PySem.W.kitx_tuple I.kIn ⟨o,h1,h2⟩ e (λz=>nomatch z) λtk=>⟨.bl b,H,I.tok _,rfl,q⟩
end L2
namespace Bk
open PySem L2 Mg Nm Rk PySem.SeqAt
def EQ:Res->Str
 | .ok _ _ _ => "answers"
 | .una _ _ => "unanswered"
 | .spent => "spent"
def BG:Ah.CR->Str
 | .ans _ => "answers"
 | .una _ => "unanswered"
 | .spent => "spent"
theorem DL:∀r:Res,EQ r=BG (AB r)
 | .ok _ _ _=>rfl
 | .una _ _=>rfl
 | .spent=>rfl
theorem IY{kd a b c:Str}(h:kd=a∨kd=b∨kd=c):kU (V.str kd) [V.str a,V.str b,V.str c]=true:=by
 show ((a == kd) || ((b == kd) || ((c == kd) || false)))=true
 rcases h with rfl | rfl | rfl<;>simp
def jE(e:Ah.Nd)(k:Nat):Str:=if ¬ Ak.wd e = "never" /\ Ak.ct e<=(k:Int) then Ak.wd e else "spent"
theorem yB{e:Ah.Nd}(hn:∀p,e ≠ .need p)(k:Nat):BG (Ah.val e k)=jE e k:=by
 cases e with
 | ans j=>
  show BG (if j<=k then Ah.CR.ans (k-j) else .spent)=if ¬ ("answers" : Str) = "never" /\ (j:Int)<=(k:Int) then ("answers" : Str) else "spent"
  by_cases c:j<=k
  ·rw[if_pos c,if_pos ⟨by decide +kernel,by omega⟩];rfl
  ·rw[if_neg c,if_neg (λz=>c (by omega))];rfl
 | una j=>
  show BG (if j<=k then Ah.CR.una (k-j) else .spent)=if ¬ ("unanswered" : Str) = "never" /\ (j:Int)<=(k:Int) then ("unanswered" : Str) else "spent"
  by_cases c:j<=k
  ·rw[if_pos c,if_pos ⟨by decide +kernel,by omega⟩];rfl
  ·rw[if_neg c,if_neg (λz=>c (by omega))];rfl
 | nev=>
  show ("spent" : Str)=if ¬ ("never" : Str) = "never" /\ (0:Int)<=(k:Int) then ("never" : Str) else "spent"
  rw[if_neg (λz=>z.1 rfl)]
 | need p=>exact absurd rfl (hn p)
theorem QB.same{CB CH:JK}{M M':Hp}{p d:JK}{L:List Ent}{rs:List Str}{B:Ci}(U:QB CB CH M p d L rs B)(s:Am M M'):QB CB CH M' p d L rs B:=
 ⟨U.bk.same s,U.rl,U.hs,U.no,λy hy e w ss h1 h2=>let ⟨la,ts,a,b,c⟩:=U.yes y hy e w ss h1 h2;⟨la,ts,a,s _ _ b,Qe c s⟩,U.ok⟩
def Tq(CB CH:JK):Sp:=λvs H Q _=>∃(p d:JK)(x y:Str)(n:Int)(c:Nat)(L:List Ent)(e:Ent)(B:Ci),vs=[.ref p,.str x,.str y,.int n,.int (c:Int)]/\Hl L x=some e/\QB CB CH H p d L e.od B /\ -big<=n/\n<=big/\c<=40/\∀H':Hp,Am H H'->Q (.str (EQ (rS B e.od y 0 n c []))) H'
def Od(K:JC)(CB CH:JK):Sp:=λvs H Q _=>∃(p d:JK)(x y:Str)(n:Int)(ev:V)(nd:Ah.Nd)(L:List Ent)(e:Ent)(B:Ci),vs=[.ref p,.str x,.str y,.int n,ev]/\Hl L x=some e/\QB CB CH H p d L e.od B /\ -big<=n/\n<=big/\Ak.EndV K H ev nd/\(∀q,nd ≠ .need q)/\(∀k,EQ (rS B e.od y 0 n k [])=jE nd k)/\∀H':Hp,Am H H'->Q (.bl true) H'
section
variable {P:KC} {w:LL} {K:JC} {mg:Str->Option JD} {base:MQ} {f fQ fM CB CH CU CS:JK} {fd dQ dM:LB} {bU bS:List JD}
abbrev EE:List Str:=["_law_book","_law_name","_law_word","_law_number","_law_count"]
theorem uZ:An EE EE (Ad Zi):=Ez (by decide +kernel)
theorem qC(F:Dj K "_law_comes" "_law_comes" Zi f fd)(X:Zv K mg CU CS bU bS)(ss:QV K (.ref CS) (.ref CS)=some true)(GQ:Al P w K mg base (Gp P w) 168 fQ dQ ["book","name","word","number","count"] (oH CB CH CU CS))(kQ:JR K (.ref fQ)=true)(bQ5:Binds K dQ ["book","name","word","number","count"] [])(mQ:mg "answered" = some (.ref fQ)):
 Al P w K mg base Jd 169 f fd EE (Tq CB CH):=by
 refine F.ok1 uZ (λvs H Q E h=>?_) (λcdv A outer s H vs Q E hr h=>?_)
 ·obtain⟨p,d,x,y,n,c,L,e,B,rfl,_⟩:=h
  rfl
 obtain⟨p,d,x,y,n,c,L,e,B,rfl,he,U,n0,n1,hc,g⟩:=h
 refine⟨_,Ac (aA (EX:=xU) Kl (λ_ _ h=>BQ h) (λpn EX1=>Af (Bx (Pp GQ hr rfl mQ kQ bQ5 .nil (Fz (pv 0) (rO (pv 1) (pv 2) (pv 3) (pv 4))))))
  (λpn=>Ps (K:=K) rfl X.mgU (λx oe=>Af (Ao Ba)) (Ps (K:=K) rfl X.mgS (λx oe=>Af (Ao Ba)) (Ze ⟨rfl,rfl,rfl⟩))))
  (Af (Ao Ba)),?_⟩
 refine⟨_,rfl,_,rfl,_,rfl,_,rfl,_,rfl,p,d,x,y,n,c,L,e,B,rfl,he,U,n0,n1,hc,?_⟩
 cases hres:rS B e.od y 0 n c [] with
 | ok a k sd=>
  rw[hres] at g
  intro l5 H5 hl5 s5 e5
  exact g H5 s5
 | una k sd=>
  rw[hres] at g
  intro H5 s5
  exact⟨true,X.uu,Ju (g H5 s5)⟩
 | spent=>
  rw[hres] at g
  intro H5 s5
  exact⟨false,X.su,Eb ⟨true,ss,Ju (g H5 s5)⟩⟩
abbrev IV:List Str:=["_law_book","_law_name","_law_word","_law_number","_law_end","_law_count","_law_due"]
theorem rY:An IV ["_law_book","_law_name","_law_word","_law_number","_law_end"] (Ad cN):=Ez (by decide +kernel)
theorem qI(F:Dj K "_law_right" "_law_right" cN f fd)(Tx:Txt mg)(GM:Al P w K mg base Jd 169 fM dM EE (Tq CB CH))(kM:JR K (.ref fM)=true)(bM:Binds K dM EE [])(mM:mg "_law_comes" = some (.ref fM)):
 Al P w K mg base Jd 170 f fd ["_law_book","_law_name","_law_word","_law_number","_law_end"] (Od K CB CH):=by
 refine F.ok1 rY (λvs H Q E h=>?_) (λcdv A outer s H vs Q E hr h=>?_)
 ·obtain⟨p,d,x,y,n,ev,nd,L,e,B,rfl,_⟩:=h
  rfl
 obtain⟨p,d,x,y,n,ev,nd,L,e,B,rfl,he,U,n0,n1,⟨ae,rfl,qe⟩,hne,hdue,q⟩:=h
 refine⟨_,Ac (Ay (PW.pt (Xt (Hi (Fv (Bz jA rfl Tx.isi MW (Em (pv 4) (Ib (v:=.ty "tuple") rfl Tx.tup PyProof.Rows.boot_tuple rfl)))))
  (Xt (Ar Sw (Bw Tx.len (pv 4)) Ae (Au _))
  (Zq (Ar Uc (As Ax (pv 4) Ae (λ_ _=>rfl)) (Cb (Il (xs:=["answers","unanswered","never"]) (by rfl))) rfl))))) Bs Ap)
  (Ac (Eg MJ rfl (Dk (Df (Fz Ae (rO Ae (As Ax (pv 4) Ae (λ_ _=>rfl)) (Aq Jg (As Ax (pv 4) Ae (λ_ _=>rfl)) Ae) (Aq Cm (As Ax (pv 4) Ae (λ_ _=>rfl)) Ae))))) (Dg 5 rY.nd)
   (Af (Ay (lI Pl Pl Ae (pv 5) Ae)
    (Ac (Bv 6 rY.nd Ba)
    (Ac (Ay (PW.pt (Qn (Ar Sw (As Ax (pv 4) Ae (λ_ _=>rfl)) Ba (Au _)) (Lc (Ar BW (pv 5) (As Ax (pv 4) Ae (λ_ _=>rfl)) (Au _))))) (Af (Bv 6 rY.nd (As Ax (pv 4) Ae (λ_ _=>rfl)))) Ap)
    (Af (Ay (Ar Sw (Di GM hr rfl mM kM bM .nil Sq (Fz (pv 0) (rO (pv 1) (pv 2) (pv 3) (pv 5)))) (pv 6) (Au _)) Bs Ap)))) Ap)))
  (Af (Ao xA))),?_⟩
 have hwd:Ak.wd nd = "answers" ∨ Ak.wd nd = "unanswered" ∨ Ak.wd nd = "never" := by
  cases nd with
  | ans j=>exact .inl rfl
  | una j=>exact .inr (.inl rfl)
  | nev=>exact .inr (.inr rfl)
  | need x=>exact absurd rfl (hne x)
 refine⟨_,rfl,ae,_,_,_,rfl,qe,Hw K "tuple", _,rfl,Eb ?_⟩
 refine⟨_,rfl,ae,_,rfl,.inr qe,rfl,_,rfl,Eb ?_⟩
 refine⟨_,rfl,ae,_,_,_,rfl,rfl,qe,Ak.at0 _ _,by show 3<=JM;decide,λtp htp=>⟨tp,_,rfl,.inr (Co.of Aa),rfl,rfl,_,rfl,?_⟩⟩
 have hin:=IY hwd
 have hin2:(if true=true then !kU (V.str (Ak.wd nd)) [V.str "answers", V.str "unanswered", V.str "never"] else kU (V.str (Ak.wd nd)) [V.str "answers", V.str "unanswered", V.str "never"])=false:=by rw[if_pos rfl,hin];rfl
 refine Br (λc=>?_) (λc=>?_)
 ·exact absurd (show (if true=true then !kU (V.str (Ak.wd nd)) [V.str "answers", V.str "unanswered", V.str "never"] else kU (V.str (Ak.wd nd)) [V.str "answers", V.str "unanswered", V.str "never"])=true from c) (by rw[hin2];exact JN)
 have s5:=Ag htp (.tup (List.map V.str (["answers","unanswered","never"]:List Str)))
 generalize upd H tp (.tup (List.map V.str (["answers","unanswered","never"]:List Str)))=H1 at *
 have q1:=Ak.sqt_same s5 qe
 refine⟨_,rfl,ae,_,_,_,rfl,rfl,q1,Ak.at1 _ _ _,_,rfl,ae,_,_,_,rfl,rfl,q1,Ak.at1 _ _ _,_,_,rfl,rfl,_,rfl,ae,_,_,_,rfl,rfl,q1,Ak.at1 _ _ _,_,_,rfl,rfl,by show 5<=JM;decide,λlc hlc=>?_⟩
 have hints:∀(i:Nat)(x:V),([V.int 0,V.int 40,V.int (Ak.ct nd),V.int (Ak.ct nd-1),V.int (Ak.ct nd+1)]:List V)[i]? = some x->∃z,x=.int z:=by
  intro i x hx
  have:=JY hx
  simp only[JP,KG,or_false] at this
  rcases this with h | h | h | h | h<;>exact⟨_,h⟩
 obtain⟨H2,zz,slc,elc⟩:=lay hlc (.lst [V.int 0,V.int 40,V.int (Ak.ct nd),V.int (Ak.ct nd-1),V.int (Ak.ct nd+1)])
 rw[zz]
 have s2:=s5.trans slc
 refine⟨lc,rfl,⟨_,Aw.of elc⟩,Fo (K:=K) (a:=lc) (xs:=[V.int 0,V.int 40,V.int (Ak.ct nd),V.int (Ak.ct nd-1),V.int (Ak.ct nd+1)]) (H:=H2) (λi σ H3=>∃(v5 v6:Option V),σ=[some (.ref p),some (.str x),some (.str y),some (.int n),some (.ref ae),v5,v6]/\Am H2 H3) ⟨none,none,rfl,Am.refl _⟩ (λi σ H3 _ ⟨_,_,_,s3⟩=>Aw.of (s3 _ _ elc)) ?_ ?_⟩
 ·rintro i x' σ H3 hx ⟨v5,v6,rfl,s3⟩
  obtain⟨z,rfl⟩:=hints i x' hx
  have sA:=s2.trans s3
  have q3:=Ak.sqt_same sA qe
  refine⟨_,rfl,_,_,rfl,rfl,_,rfl,Br (λc1=>?_) (λc1=>⟨_,rfl,Eb ⟨_,_,rfl,s3⟩⟩)⟩
  refine⟨_,_,rfl,rfl,_,rfl,Br (λc2=>?_) (λc2=>⟨_,_,rfl,s3⟩)⟩
  have c1:(0:Int)<=z:=of_decide_eq_true c1
  have c2:z<=40:=of_decide_eq_true c2
  obtain⟨k,rfl⟩:=NF c1
  have U3:QB CB CH H3 p d L e.od B:=U.same sA
  refine⟨_,rfl,ae,_,_,_,rfl,rfl,q3,Ak.at0 _ _,rfl,_,rfl,Br (λc3=>?_) (λc3=>?_)⟩
  ·have c3:¬ Ak.wd nd = "never" := λz=>by rw[z] at c3;exact absurd c3 (by decide +kernel)
   refine⟨_,rfl,_,rfl,ae,_,_,_,rfl,rfl,q3,Ak.at1 _ _ _,_,_,rfl,rfl,_,rfl,Br (λc4=>?_) (λc4=>?_)⟩
   ·have c4:Ak.ct nd<=(k:Int):=of_decide_eq_true c4
    have hdk:jE nd k=Ak.wd nd:=if_pos ⟨c3,c4⟩
    refine⟨_,rfl,ae,_,_,_,rfl,rfl,q3,Ak.at0 _ _,?_⟩
    refine⟨_,rfl,_,rfl,_,rfl,_,rfl,_,rfl,p,d,x,y,n,k,L,e,B,rfl,he,U3,n0,n1,by omega,λH4 s4=>?_⟩
    exact⟨_,rfl,rfl,_,rfl,gZ (by rw[hdue k,hdk]) ⟨_,_,rfl,s3.trans s4⟩⟩
   ·have c4:¬ Ak.ct nd<=(k:Int):=λz=>c4 (decide_eq_true z)
    have hdk:jE nd k = "spent" := if_neg (λz=>c4 z.2)
    refine⟨_,rfl,_,rfl,_,rfl,_,rfl,_,rfl,p,d,x,y,n,k,L,e,B,rfl,he,U3,n0,n1,by omega,λH4 s4=>?_⟩
    exact⟨_,rfl,rfl,_,rfl,gZ (by rw[hdue k,hdk]) ⟨_,_,rfl,s3.trans s4⟩⟩
  ·have c3:Ak.wd nd = "never" := by
    refine Classical.byContradiction λz=>c3 ?_
    rw[decide_eq_false (λy=>z (V.str.inj y))]
    rfl
   have hdk:jE nd k = "spent" := if_neg (λz=>z.1 c3)
   refine⟨_,rfl,_,rfl,_,rfl,_,rfl,_,rfl,p,d,x,y,n,k,L,e,B,rfl,he,U3,n0,n1,by omega,λH4 s4=>?_⟩
   exact⟨_,rfl,rfl,_,rfl,gZ (by rw[hdue k,hdk]) ⟨_,_,rfl,s3.trans s4⟩⟩
 ·rintro σ H3 ⟨v5,v6,rfl,s3⟩
  exact q _ (s2.trans s3)
end
end Bk
namespace Bk
open PySem L2 Mg Nm
section
variable {P:KC} {w:LL} {K:JC} {mg:Str->Option JD} {base:MQ} {f:JK} {fd:LB}
theorem Uj:An ["_law_k","_law_cell","_law_letters","_law_fill","_law_place"] ["_law_k","_law_cell"] (Ad lD):=Ez (by decide +kernel)
theorem sG(F:Dj K "_law_name_by" "_law_name_by" lD f fd)(T:Txt mg):Al P w K mg base Bi 1 f fd ["_law_k","_law_cell"] Qi:=by
 refine F.ok Uj (λvs H Q E h=>?_) (λcdv A outer s H vs Q E hr h=>?_)
 ·obtain⟨k,c,rfl,_⟩:=h
  rfl
 obtain⟨k,c,rfl,q⟩:=h
 refine⟨_,Ac (Bv 2 Uj.nd Ba)
  (Ac (Bv 3 Uj.nd (Cj aT (Aq Iw (pv 2) (pv 2)) (Cy (Aq Ca (pv 1) Ae)) (Cy (Aq Cm (Aq Ca (pv 1) Ae) (Aq Ca (Aq Dy (pv 1) Ae) Ae)))))
  (Ac (Bv 4 Uj.nd (Aq Ca (Aq Dy (pv 1) Ae) (Aq Cm (Bz Lr rfl T.len PySem.boot_len (Du (pv 3))) Ae)))
  (Af (Ao (Aq Iw (Aq Iw (Aq Iw (Cj aT (pv 3) Dx (Cy (pv 4))) (As qG (pv 2) (Aq Ca (Aq Dy (pv 0) Ae) Ae) (λ_ _=>rfl))) (As qG (pv 2) (Aq Ca (pv 0) Ae) (λ_ _=>rfl))) (Cj aT (pv 3) (Cy (pv 4)) Dx)))))),?_⟩
 have ll:=Ni
 have l52:=sl52
 have fl:(fill c).length<=52:=KS (Xu c) (by decide)
 have lz:Ek.length<=JM:=by omega
 refine⟨_,rfl,_,rfl,Ek,Ek,rfl,rfl,by omega,?_⟩
 refine⟨_,rfl,_,_,rfl,rfl,(by show (0:Int) < 26;decide),_,rfl,?_⟩
 refine⟨_,rfl,_,_,rfl,rfl,(by show (0:Int) < 26;decide),_,rfl,_,_,rfl,rfl,⟨by decide,by decide⟩,_,_,rfl,rfl,(by show (0:Int) < 19;decide),_,_,rfl,rfl,_,rfl,?_⟩
 refine⟨_,rfl,by rw[len_app];omega,?_⟩
 refine⟨_,rfl,_,_,rfl,rfl,⟨by decide,by decide⟩,_,rfl,fill c,rfl,by omega,_,_,rfl,rfl,_,_,rfl,rfl,(by show (0:Int) < ((fill c).length:Int)+1;omega),?_⟩
 have z1:(SH (fill c) none (some (place c))).length<=52:=KS (Txt.slice_le _ _ _) fl
 have z2:(SH (fill c) (some (place c)) none).length<=52:=KS (Txt.slice_le _ _ _) fl
 have zs:∀i:Int,(sign i).length=1:=λi=>rfl
 have zl:(200:Nat)<=JM:=by rw[KO];decide
 refine⟨_,rfl,_,rfl,_,rfl,fill c,rfl,by omega,?_⟩
 refine⟨_,rfl,_,rfl,_,_,rfl,rfl,⟨by decide,by decide⟩,_,_,rfl,rfl,(by show (0:Int) < 26;decide),Ek,_,_,rfl,rfl,lz,Sk (LY _ (by decide)) (LV _ (by decide)),?_⟩
 refine⟨_,sign (k / 26 % 26),rfl,rfl,by rw[zs];exact KS (Nat.add_le_add_right z1 1) (by omega),?_⟩
 refine⟨_,rfl,_,rfl,_,_,rfl,rfl,(by show (0:Int) < 26;decide),Ek,_,_,rfl,rfl,lz,Sk (LY _ (by decide)) (LV _ (by decide)),?_⟩
 have z1':(SH (fill c) none (some (c / 494 % (((fill c).length:Int)+1)))).length<=52:=z1
 have z2':(SH (fill c) (some (c / 494 % (((fill c).length:Int)+1))) none).length<=52:=z2
 refine⟨_,sign (k % 26),rfl,rfl,by rw[len_app,zs,zs];omega,?_⟩
 refine⟨_,rfl,_,rfl,_,rfl,fill c,rfl,by omega,?_⟩
 refine⟨_,_,rfl,rfl,by rw[len_app,len_app,zs,zs];omega,?_⟩
 exact q
end
end Bk
namespace Bk
open PySem L2 Mg Nm Rk PySem.SeqAt
abbrev Uu:List Str:=["_law_script","_law_book","_law_names","_law_many","_law_k","_law_name","_law_words","_law_cell","_law_body","_law_pair","_law_ends","_law_number","_law_word"]
theorem Gm:An Uu ["_law_script"] (Ad Fq):=Ez (by decide +kernel)
theorem qV(ns:List Int)(lo hi:Nat):∃ms:List Int,Ga (ns.map V.int) (some (lo:Int)) (some (hi:Int))=ms.map V.int/\ms.length<=hi-lo:=by
 refine⟨(ns.drop (HT.sIx (ns.map V.int).length 0 (some (lo:Int)))).take (HT.sIx (ns.map V.int).length (ns.map V.int).length (some (hi:Int))-HT.sIx (ns.map V.int).length 0 (some (lo:Int))),?_,?_⟩
 ·unfold Ga
  rw[List.map_take,RL]
 ·rw[NN,MR,HT.sIx_nat,HT.sIx_nat,JF]
  omega
theorem pR{ms:List Int}{i:Nat}{v:V}(h:(ms.map V.int)[i]? = some v):∃c,ms[i]? = some c/\v=V.int c:=by
 rw[KJ] at h
 cases e:ms[i]? with
 | none=>rw[e] at h;cases h
 | some c=>rw[e] at h;exact⟨c,rfl,(KW h).symm⟩
theorem eY.kp{CB CH:JK}{H0 H:Hp}{p d ka:JK}{ns:List Str}{m:Nat}(h:eY CB CH H0 H p d ka ns m):Md H0 H:=let ⟨_,_,_,_,_,_,_,_,k⟩:=h;k
theorem qK{ws:List Str}{lad:Str->List Nat}{w:Str}(h:w∈ws):valV (Lx ws lad) (KD w:Key)=some (.int (((lad w).getD 0 0:Nat):Int)):=by
 unfold Lx
 induction ws with
 | nil=>cases h
 | cons e L ih=>
  rw[LU]
  by_cases he:e=w
  ·rw[Cu (by rw[he]),he]
  ·rw[Ct (λz=>he (KD.inj z))]
   exact ih ((JP.mp h).resolve_left λz=>he z.symm)
theorem mJ{xs:List V}{r:Nat}{v:V}(hr:r < xs.length)(h:xs[xs.length-1-r]? = some v):Jb xs (-1-(r:Int))=some v:=by
 have e:jW xs.length (-1-(r:Int))=some (xs.length-1-r):=by
  unfold jW
  rw[if_neg (by omega),if_pos (by omega)]
  congr 1
  omega
 unfold Jb
 rw[e]
 exact h
theorem Md.seq{K:JC}{H H':Hp}(k:Md H H'){a:JK}{xs:List V}(h:Aw K H a xs):Aw K H' a xs:=by
 rcases h with (h | ⟨o,h⟩) | h
 ·exact .inl (.inl (k.lst h))
 ·exact .inl (.inr ⟨o,k _ _ h (by intro z e;cases e) (by intro z e;cases e)⟩)
 ·exact .inr h
def mask1(H:Hp)(l:JK):Hp:=λb=>if b=l then none else H b
theorem Gu{H:Hp}{l b:JK}{o:HO}(e:H b=some o)(h:b≠l):mask1 H l b=some o:=by
 unfold mask1
 rw[if_neg h]
 exact e
theorem cK(H:Hp)(l:JK):mask1 H l l=none:=by
 unfold mask1
 rw[if_pos rfl]
theorem Tj{H:Hp}{l:JK}:Am (mask1 H l) H:=λb o e=>by
 unfold mask1 at e
 split at e
 ·cases e
 ·exact e
theorem Am.mask1{M H:Hp}{l:JK}(s:Am M H)(h:M l=none):Am M (mask1 H l):=λb o e=>Gu (s _ _ e) (Ai e h)
def Yv(CB CH:JK)(H0 H:Hp)(p d:JK)(ns:List Str)(m:Nat):Prop:=∃(L:List Ent)(B:Ci),Zp CB CH H p d L B/\L.map (·.nm)=ns/\(∀e∈L,e.bd.length<=m)/\Md H0 H
theorem eY.m{CB CH:JK}{H0 H:Hp}{p d ka:JK}{ns:List Str}{m:Nat}(h:eY CB CH H0 H p d ka ns m):Yv CB CH H H p d ns m:=let ⟨L,_,B,S,_,a,_,b,_⟩:=h;⟨L,B,S,a,b,Md.of_same (Am.refl _)⟩
theorem Yv.same{CB CH:JK}{H0 H H':Hp}{p d:JK}{ns:List Str}{m:Nat}(h:Yv CB CH H0 H p d ns m)(s:Am H H'):Yv CB CH H0 H' p d ns m:=let ⟨L,B,S,a,b,k⟩:=h;⟨L,B,S.same s,a,b,k.trans (Md.of_same s)⟩
theorem Yv.kp{CB CH:JK}{H0 H:Hp}{p d:JK}{ns:List Str}{m:Nat}(h:Yv CB CH H0 H p d ns m):Md H0 H:=let ⟨_,_,_,_,_,k⟩:=h;k
theorem Yv.re{CB CH:JK}{H0 H:Hp}{p d:JK}{ns:List Str}{m:Nat}(h:Yv CB CH H0 H p d ns m):Yv CB CH H H p d ns m:=let ⟨L,B,S,a,b,_⟩:=h;⟨L,B,S,a,b,Md.of_same (Am.refl _)⟩
def row(c:Int)(n:Nat):List Str:=(SD n).map λi:Nat=>Fw (i:Int) c
theorem Vd(c:Int)(n:Nat):(row c n).length=n:=by unfold row;simp
theorem AX{c:Int}{n:Nat}{x:Str}(h:x∈row c n):jS x:=by
 unfold row at h
 obtain⟨i,_,e⟩:=LM.mp h
 rw[<- e]
 exact gG _ _
theorem kY(c:Int)(n:Nat):Az (row c n)++[V.str (Fw (n:Int) c)]=Az (row c (n+1)):=by
 unfold Az row
 rw[List.range_succ,JT,JT]
 rfl
theorem oP{c:Int}{n i:Nat}(h:i < (row c n).length):(row c n)[i]=Fw (i:Int) c:=by
 simp[row]
theorem yJ{c:Int}{n:Nat}(h:n<=676):(row c n).Nodup:=by
 refine List.pairwise_iff_getElem.mpr λi j hi hj hlt z=>?_
 rw[oP hi,oP hj] at z
 rw[Vd] at hi hj
 have:=Xl (by omega) (by omega) (by omega) (by omega) z
 omega
theorem Kc{H:Hp}{l b:JK}{o:HO}(h:mask1 H l b=some o):b≠l:=λz=>by
 rw[z,cK] at h
 cases h
theorem oA(H:Hp)(l:JK)(o:HO):mask1 (upd H l o) l=mask1 H l:=by
 funext b
 unfold mask1
 by_cases h:b=l
 ·rw[if_pos h,if_pos h]
 ·rw[if_neg h,if_neg h,Aj h]
theorem Be.mask{CB CH:JK}{H:Hp}{p d na:JK}{L:List Ent}(B:Be CB CH H p d L)(hp:p≠na)(hd:d≠na)(he:∀e∈L,e.at_≠na/\e.ea≠na/\e.oa≠na/\e.ba≠na):Be CB CH (mask1 H na) p d L:=
 ⟨let ⟨dx,e⟩:=B.ob;⟨dx,Gu e hp⟩,Gu B.dc hd,λe m=>let E:=B.en e m;let ⟨n1,n2,n3,n4⟩:=he e m;⟨Gu E.ob n1,Gu E.el n2,Gu E.od n3,Gu E.bd n4⟩,B.nb,B.nd,B.nn⟩
theorem Be.maskAdd{CB CH:JK}{H H':Hp}{p d na:JK}{L:List Ent}{e:Ent}{o:HO}(B:Be CB CH (mask1 H na) p d L)(B':Be CB CH H' p d (L++[e]))(fr:gM H e)(ho:H na=some o):Be CB CH (mask1 H' na) p d (L++[e]):=by
 obtain⟨dx,hp⟩:=B.ob
 refine B'.mask (Kc hp) (Kc B.dc) λe' he'=>?_
 rcases KI.mp he' with z | z
 ·have E:=B.en e' z
  exact⟨Kc E.ob,Kc E.el,Kc E.od,Kc E.bd⟩
 ·rw[JL.mp z]
  have nn:∀ {b:JK},H b=none->b≠na:=λ{b} hb z=>by
   rw[z,ho] at hb
   cases hb
  exact⟨nn fr.at_,nn fr.ea,nn fr.oa,nn fr.ba⟩
def eJ(K:JC):Sp:=λvs H Q _=>∃(a:JK)(ns:List Int),vs=[.ref a]/\Aw K H a (ns.map V.int)/\ns.length<=63/\∀H',Q (.bl true) H'
section
variable {P:KC} {w:LL} {K:JC} {mg:Str->Option JD} {base:MQ} {f fO fC fD fL fG fT fB fE fN fK fF fI fR CB CH:JK} {fd dO dC dD dL dG dT dB dE dN dK dF dI dR:LB} {ks:List (Str×JK×List Str)}
theorem tE(T:Gz K mg CB CH)(Tx:Txt mg)(GC:Al P w K mg base Bi 1 fC dC ["_law_script","_law_k"] (Mx K))(kC:JR K (.ref fC)=true)(bC:Binds K dC ["_law_script","_law_k"] [])(mC:mg "_law_cell_at" = some (.ref fC))(GL:Al P w K mg base Jd 4 fL dL ["book","name"] (Vq CB CH))(kL:JR K (.ref fL)=true)(bL:Binds K dL ["book","name"] [])(mL:mg "left_out" = some (.ref fL))(GT:Al P w K mg base Bi 6 fT dT ["rows"] (Ak.spTold K))(kT:JR K (.ref fT)=true)(bT:Binds K dT ["rows"] [])(mT:mg "told_ahead" = some (.ref fT))(GR:Al P w K mg base Jd 170 fR dR ["_law_book","_law_name","_law_word","_law_number","_law_end"] (Od K CB CH))(kR:JR K (.ref fR)=true)(bR:Binds K dR ["_law_book","_law_name","_law_word","_law_number","_law_end"] [])(mR:mg "_law_right" = some (.ref fR))(cdv:JD)(A:LI)(outer:List Env)(s:JH)(H:Hp)(E:XK)(hr:Ck 170 (A.deeper (PZ "law" (Ad Fq) s.heap.objs.size f cdv)))(Q:VK):
 ∃tt,Hy (Ex Jd P w K mg base Uu "law" (Ad Fq) f cdv A outer s H E).nox ((Bg Fq).drop 8) tt /\
  ∀(H1:Hp)(a p d na:JK)(ns:List Str)(m:Nat)(zs:List Int)(v3 v4 v5 v6 v7 v8:Option V),Yv CB CH H1 H1 p d ns m->m<=500->0 < ns.length->ns.length<=40->H1 na=some (.lst (Az ns))->Aw K H1 a (zs.map V.int)->(∀H',Q (.bl true) H') ->
   tt { nx:=λ_ H'=>Q .non H',rt:=Q } [some (.ref a),some (.ref p),some (.ref na),v3,v4,v5,v6,v7,v8,none,none,none,none] H1:=by
 have hr1:=hr.mono (j:=1) (by decide)
 have hr4:=hr.mono (j:=4) (by decide)
 have hr6:=hr.mono (j:=6) (by decide)
 have hu:=Fm hr
 refine⟨_,Ac (Bv 5 Gm.nd (As Bj (pv 2) (Aq Jg (Jt Gs Ae) (Aq Ca (Cf GC hr1 mC kC bC (Em (pv 0) Ae)) (Bw Tx.len (pv 2)))) (λ_ _=>rfl)))
  (Ac (Bv 9 Gm.nd (Di GL hr4 rfl mL kL bL .nil Sq (Em (pv 1) (pv 5))))
  (Ac (Bv 10 Gm.nd (Cf GT hr6 mT kT bT (Du (As Ax (pv 9) Ae (λ_ _=>rfl)))))
  (Ac (Bv 11 Gm.nd (Aq Jg (Aq Ca (Aq Dy (Cf GC hr1 mC kC bC (Em (pv 0) Ae)) Ae) (Aq Cm (Aq Kq Ae (Aq Ug Ae Ae)) Ae)) (Aq Ug Ae Ae)))
  (Ac (Eg MJ rfl (tQ (As Ax (pv 9) Ae (λ_ _=>rfl))) (Dg 12 Gm.nd)
   (Af (Ay (Hi (Fv (Di GR hr rfl mR kR bR .nil Sq (Fz (pv 1) (rO (pv 5) (pv 12) (pv 11) (As Bj (pv 10) (Io hu (As Ax (pv 9) Ae (λ_ _=>rfl)) (pv 12) (λ_ _=>rfl)) (λ_ _=>rfl))))))) Bs Ap)))
  (Af (Ao xA)))))),?_⟩
 intro H1 a p d na ns m zs v3 v4 v5 v6 v7 v8 S hm hn0 hn ena esa q
 obtain⟨L,B,S,rfl,hbl,_⟩:=S
 rw[JF] at hn0 hn
 have lsv:(Az (L.map (·.nm))).length=L.length:=by rw[Av,JF]
 have b0:0<=zs.getD 2 0 % ((Az (L.map (·.nm))).length:Int):=LY _ (by omega)
 have b1:zs.getD 2 0 % ((Az (L.map (·.nm))).length:Int) < ((Az (L.map (·.nm))).length:Int):=LV _ (by omega)
 obtain⟨r,hr0⟩:=NF b0
 have hrl:r < L.length:=by omega
 have hix:L.length-1-r < L.length:=by omega
 obtain⟨e,he⟩:∃e,L[L.length-1-r]? = some e:=⟨_,JG hix⟩
 have hem:=JY he
 have pick:Jb (Az (L.map (·.nm))) (-1-zs.getD 2 0 % ((Az (L.map (·.nm))).length:Int))=some (.str e.nm):=by
  rw[hr0]
  refine mJ (by omega) ?_
  rw[lsv]
  exact Mm (by rw[KJ,he];rfl)
 have U:=S.qb (by omega) hem
 refine⟨_,rfl,_,rfl,_,rfl,a,zs,2,rfl,esa,_,rfl,na,_,rfl,.inl (Aw.of ena),_,_,rfl,rfl,(by rw[lsv];omega),_,_,rfl,rfl,na,_,_,_,rfl,rfl,Aw.of ena,pick,?_⟩
 have hod:e.od.length<=40:=KS (Oc S.od hem) hn
 refine⟨_,rfl,_,rfl,p,d,L,e.nm,e,B,rfl,Me S.bk.nd hem,U,λy hy e' he'=>?_,hod,λpr dd ra H2 ws lad es as vss s2 fdd epr edd wnd wpos R LS hes=>?_⟩
 ·have hm':=(Fy he').1
  obtain⟨W,eW,nd⟩:=S.tx e' hm'
  refine⟨W,eW,nd,?_⟩
  have:=hbl e' hm'
  rw[eW,Uz] at this
  omega
 have LO:=LS.left
 have hlen:(Hc lad es).length=es.length:=by unfold Hc;rw[JF]
 have way_lt:∀(w:Str)(r:Nat),∀x∈Ah.ldsL (Fl lad w r),x < es.length:=λw r x hx=>by
  unfold Fl at hx
  cases z:(lad w)[r]? with
  | none=>rw[z] at hx;cases hx
  | some y=>
   rw[z] at hx
   have hx':x∈[y]:=hx
   rw[JL.mp hx']
   exact LS.lt w y (JY z)
 have hLd:Ak.LeadsOk (Hc lad es):=by
  intro rr hrr st hst x hx
  rw[hlen]
  unfold Hc at hrr
  obtain⟨en,_,rfl⟩:=LM.mp hrr
  obtain⟨sp,_,rfl⟩:=LM.mp hst
  cases sp with
  | sm _=>cases hx
  | onw=>exact way_lt _ _ x hx
  | ask y=>exact way_lt _ _ x hx
  | tri y z=>
   rcases KI.mp hx with h | h
   ·exact way_lt _ _ x h
   ·exact way_lt _ _ x h
 refine⟨_,rfl,pr,_,_,_,rfl,rfl,Co.of epr,Ak.at1 _ _ _,ra,as,vss,Hc lad es,rfl,R,hLd,by omega,λle us H3 mm hle s3 el hul T3 hv=>?_⟩
 have s13:=s2.trans s3
 have esa3:=s13.seq esa
 refine⟨_,rfl,a,zs,4,rfl,esa3,_,_,rfl,rfl,⟨by decide,by decide⟩,_,_,rfl,rfl,⟨by decide,by decide,by decide⟩,_,_,rfl,rfl,.inl ⟨by decide,by decide⟩,_,_,rfl,rfl,_,_,rfl,rfl,(by show (0:Int) < 2 * 10 ^ (30:Int).toNat+1;decide),_,_,rfl,rfl,⟨by decide,by decide,by decide⟩,_,_,rfl,rfl,?_⟩
 have hb1:(0:Int)<=zs.getD 4 0 / 6 % (2 * 10 ^ (30:Int).toNat+1):=LY _ (by decide)
 have hb2:zs.getD 4 0 / 6 % (2 * 10 ^ (30:Int).toNat+1) < 2 * 10 ^ (30:Int).toNat+1:=LV _ (by decide)
 have hnb0 : -big<=zs.getD 4 0 / 6 % (2 * 10 ^ (30:Int).toNat+1)-10 ^ (30:Int).toNat:=by
  show -(10 ^ 30:Int)<=_-10 ^ 30
  omega
 have hnb1:zs.getD 4 0 / 6 % (2 * 10 ^ (30:Int).toNat+1)-10 ^ (30:Int).toNat<=big:=by
  have hb2':zs.getD 4 0 / 6 % (2 * 10 ^ (30:Int).toNat+1) < 2 * 10 ^ 30+1:=hb2
  show _-10 ^ 30<=(10 ^ 30:Int)
  omega
 dsimp only
 generalize zs.getD 4 0 / 6 % (2 * 10 ^ (30:Int).toNat+1)-10 ^ (30:Int).toNat=n at *
 refine⟨_,rfl,pr,_,_,_,rfl,rfl,Co.of (s3 _ _ epr),Ak.at0 _ _,dd,_,rfl,s3 _ _ edd,λo nf=>?_⟩
 have ez:(upd H3 dd (.frz o (.dK (Lx ws lad)))) dd=some (.frz o (.dK (Lx ws lad))):=Aa
 have fz:Ak.Fr dd H3 (upd H3 dd (.frz o (.dK (Lx ws lad)))):=λb u z n=>by rw[Aj n];exact z
 generalize upd H3 dd (.frz o (.dK (Lx ws lad)))=Hz at *
 have edd3:=s3 _ _ edd
 have sz:Am H1 Hz:=λb u z=>fz b u (s13 b u z) (Ai z fdd)
 have eprz:=fz _ _ (s3 _ _ epr) (Cd (s3 _ _ epr) edd3 (by intro z;cases z))
 have elz:=fz _ _ el (Cd el edd3 (by intro z;cases z))
 refine lZ (d:=dd) (o:=o) (kvs:=Lx ws lad) (λi σ H4=>∃v12:Option V,σ=[some (.ref a),some (.ref p),some (.ref na),v3,v4,some (.str e.nm),v6,v7,v8,some (.ref pr),some (.ref le),some (.int n),v12]/\Am Hz H4) ⟨none,rfl,Am.refl _⟩ (λi σ H4 _ ⟨_,_,s4⟩=>s4 _ _ ez) ?_ ?_
 ·rintro i kv σ H4 hkv ⟨v12,rfl,s4⟩
  obtain⟨w,hw,rfl⟩:∃w,ws[i]? = some w/\kv=((KD w:Key),V.int (((lad w).getD 0 0:Nat):Int)):=by
   unfold Lx at hkv
   rw[KJ] at hkv
   cases hq:ws[i]? with
   | none=>rw[hq] at hkv;cases hkv
   | some w=>rw[hq] at hkv;cases hkv;exact⟨w,rfl,rfl⟩
  have hwm:=JY hw
  obtain⟨p0,r0,e0⟩:∃p0 r0,lad w=p0::r0:=by
   cases z:lad w with
   | nil=>exact absurd z (wpos w hwm)
   | cons p0 r0=>exact⟨p0,r0,rfl⟩
  have hval:=qK (lad:=lad) hwm
  rw[e0] at hval
  have hp0:p0 < (Hc lad es).length:=by rw[hlen];exact LS.lt w p0 (by rw[e0];exact JS)
  obtain⟨v',nd,a1,a2,ev⟩:=hv p0 hp0
  have ev4:=(ev.fr edd3 fz).same s4
  have hne:∀x,nd ≠ .need x:=λx z=>T3.nn p0 x (by rw[a2,z])
  have htv:=λk=>Ah.told_val T3 (λx hx=>let ⟨_,_,_,z2,_⟩:=hv x hx;by rw[z2];exact nofun) (λx hx s' hs' y hy=>hLd.at hs' hy) k k (JI _) p0 nd a2
  have hdue:∀k,EQ (rS B e.od w 0 n k [])=jE nd k:=λk=>by
   rw[DL,Wz LO k k (JI _) w 0 n []]
   show BG (Ah.cLd _ k (Fl lad w (kn B e.od w 0)))=_
   rw[fX,show Fl lad w 0=.go p0 by unfold Fl;rw[e0];rfl]
   show BG (Ah.cR (Ak.rowF (Hc lad es)) p0 k)=_
   rw[htv k]
   exact yB hne k
  refine⟨_,rfl,_,rfl,_,rfl,_,rfl,_,rfl,_,rfl,pr,_,_,_,rfl,rfl,Co.of (s4 _ _ eprz),Ak.at0 _ _,_,rfl,dd,_,rfl,.inl ⟨_,KD w,.inr ⟨o,s4 _ _ ez⟩,rfl,hval.symm⟩,le,_,_,_,rfl,rfl,Aw.of (s4 _ _ elz),Bc a1,?_⟩
  refine⟨p,d,e.nm,w,n,v',nd,L,e,B,rfl,Me S.bk.nd hem,U.same (sz.trans s4),hnb0,hnb1,ev4,hne,hdue,λH5 s5=>?_⟩
  exact⟨_,rfl,Eb ⟨_,rfl,s4.trans s5⟩⟩
 ·rintro σ H4 ⟨v12,rfl,s4⟩
  exact q _
theorem Yv.at{H0 H1:Hp}{p d:JK}{ns:List Str}{m:Nat}{x:Str}(h:Yv CB CH H0 H1 p d ns m)(hx:x∈ns):∃(L:List Ent)(B:Ci)(j:Nat)(en:Ent),Zp CB CH H1 p d L B/\L.map (·.nm)=ns/\(∀e∈L,e.bd.length<=m)/\Md H0 H1/\L[j]? = some en/\en.nm=x:=by
 obtain⟨L,B,S,rfl,b,k⟩:=h
 obtain⟨en,he,rfl⟩:=LM.mp hx
 obtain⟨j,hj⟩:=MI he
 exact⟨L,B,j,en,S,rfl,b,k,hj,rfl⟩
theorem yN{y:Str}(h:Gb y=true):y.length<=20:=by
 unfold Gb at h
 rw[ME,ME] at h
 exact of_decide_eq_true h.1.2
theorem Zw(T:Gz K mg CB CH)(Tx:Txt mg)(Tp:aL ks)(GB:Al P w K mg base Bi 3 fB dB ["_law_words","_law_first","_law_cell"] Jf)(kB:JR K (.ref fB)=true)(bB:Binds K dB ["_law_words","_law_first","_law_cell"] [])(mB:mg "_law_body_by" = some (.ref fB))(GE:Al P w K mg base Bi 6 fE dE ["self","name","word","body"] (La CB CH ks))(bE:Binds K dE ["self","name","word","body"] [])(mE:Dt K CB "teach" fE)(cdv:JD)(A:LI)(outer:List Env)(s:JH)(H:Hp)(E:XK)(hr:Ck 170 (A.deeper (PZ "law" (Ad Fq) s.heap.objs.size f cdv)))(Q:VK)(h8:∃tt,Hy (Ex Jd P w K mg base Uu "law" (Ad Fq) f cdv A outer s H E).nox ((Bg Fq).drop 8) tt /\
  ∀(H1:Hp)(a p d na:JK)(ns:List Str)(m:Nat)(zs:List Int)(v3 v4 v5 v6 v7 v8:Option V),Yv CB CH H1 H1 p d ns m->m<=500->0 < ns.length->ns.length<=40->H1 na=some (.lst (Az ns))->Aw K H1 a (zs.map V.int)->(∀H',Q (.bl true) H') ->
   tt { nx:=λ_ H'=>Q .non H',rt:=Q } [some (.ref a),some (.ref p),some (.ref na),v3,v4,v5,v6,v7,v8,none,none,none,none] H1):
 ∃tt,Hy (Ex Jd P w K mg base Uu "law" (Ad Fq) f cdv A outer s H E).nox ((Bg Fq).drop 7) tt /\
  ∀(H1:Hp)(a p d na wa:JK)(ns ws:List Str)(m:Nat)(zs:List Int)(v3 v4 v5:Option V),Yv CB CH H1 H1 p d ns m->m<=300->0 < ns.length->ns.length<=40->H1 na=some (.lst (Az ns))->H1 wa=some (.lst (Az ws))->0 < ws.length->ws.length<=7->(∀y∈ws,Gb y=true)->Aw K H1 a (zs.map V.int)->(∀H',Q (.bl true) H') ->
   tt { nx:=λ_ H'=>Q .non H',rt:=Q } [some (.ref a),some (.ref p),some (.ref na),v3,v4,v5,some (.ref wa),none,none,none,none,none,none] H1:=by
 have hr3:=hr.mono (j:=3) (by decide)
 have hr6:=hr.mono (j:=6) (by decide)
 obtain⟨t8,h8,p8⟩:=h8
 refine⟨_,Ac (Eg MJ rfl (Dk (Cj El (pv 0) (Cy Ae) (Cy Ae))) (Dg 7 Gm.nd)
  (Ac (Bv 8 Gm.nd (Cf GB hr3 mB kB bB (Ja (pv 6) Ae (Aq Dy (pv 7) Ae))))
  (Af (Bx (Ee (pv 1) T.clB mE GE hr6 bE .nil Dh (Ja (As Bj (pv 2) (Aq Ca (pv 7) (Bw Tx.len (pv 2))) (λ_ _=>rfl)) (As Bj (pv 6) (Aq Ca (Aq Dy (pv 7) Ae) (Bw Tx.len (pv 6))) (λ_ _=>rfl)) (pv 8))))))) h8,?_⟩
 intro H1 a p d na wa ns ws m zs v3 v4 v5 S hm hn0 hn ena ewa hw0 hwl hws esa q
 have lsv:(Az ns).length=ns.length:=Av _
 have lsw:(Az ws).length=ws.length:=Av _
 refine⟨_,rfl,_,rfl,_,rfl,a,_,rfl,esa,λsl hsl=>?_⟩
 obtain⟨ms,ems,hms⟩:=qV zs 5 63
 rw[show Ga (zs.map V.int) (some 5) (some 63)=ms.map V.int from ems]
 obtain⟨H2,zz,s1,esl⟩:=lay hsl (.lst (ms.map V.int))
 rw[zz]
 have S2:=(S.same s1).re
 have ena2:=s1 _ _ ena
 have ewa2:=s1 _ _ ewa
 have esa2:=s1.seq esa
 refine⟨sl,rfl,⟨_,Aw.of esl⟩,Fo (K:=K) (a:=sl) (xs:=ms.map V.int) (λi σ H3=>∃v7 v8:Option V,σ=[some (.ref a),some (.ref p),some (.ref na),v3,v4,v5,some (.ref wa),v7,v8,none,none,none,none]/\Yv CB CH H2 H3 p d ns (m+i)) ⟨_,_,rfl,S2⟩ (λi σ H3 _ ⟨_,_,_,S3⟩=>Aw.of (S3.kp.lst esl)) ?_ ?_⟩
 ·rintro i v σ H3 hi ⟨v7,v8,rfl,S3⟩
  obtain⟨c,hc,rfl⟩:=pR hi
  have hil:i < ms.length:=(JB.mp hc).1
  obtain⟨k5,hk5,hk5l⟩:=Vc (x:=c) hn0
  have pickn:Jb (Az ns) (c % ((Az ns).length:Int))=some (.str ns[k5]):=by
   rw[lsv,hk5]
   exact Bc (Mm (JG hk5l))
  have hxm:ns[k5]∈ns:=OJ hk5l
  generalize ns[k5]=x at *
  obtain⟨k6,hk6,hk6l⟩:=Vc (x:=c / 7) hw0
  have pickw:Jb (Az ws) (c / 7 % ((Az ws).length:Int))=some (.str ws[k6]):=by
   rw[lsw,hk6]
   exact Bc (Mm (JG hk6l))
  have hyw:ws[k6]∈ws:=OJ hk6l
  generalize ws[k6]=y at *
  have hyk:=hws y hyw
  have hyl:=yN hyk
  refine⟨_,rfl,_,rfl,_,_,rfl,rfl,⟨by decide,by decide⟩,wa,ws,0,_,rfl,S3.kp.lst ewa2,hw0,by omega,λlb ts ss H5 hlb s5 elb hst hss hsl=>?_⟩
  have ena5:=s5 _ _ (S3.kp.lst ena2)
  have ewa5:=s5 _ _ (S3.kp.lst ewa2)
  obtain⟨L,B,j,en,S5,hns,hbl,kx,hj,rfl⟩:=(S3.same s5).at hxm
  obtain⟨dx5,hp5⟩:=S5.bk.ob
  have hem:=JY hj
  refine⟨_,rfl,p,dx5,_,rfl,hp5,Gr d (by decide +kernel),_,rfl,_,rfl,_,rfl,na,_,rfl,.inl (Aw.of ena5),_,_,rfl,rfl,(by rw[lsv];omega),na,_,_,_,rfl,rfl,Aw.of ena5,pickn,_,rfl,_,rfl,_,_,rfl,rfl,⟨by decide,by decide⟩,_,rfl,wa,_,rfl,.inl (Aw.of ewa5),_,_,rfl,rfl,(by rw[lsw];omega),wa,_,_,_,rfl,rfl,Aw.of ewa5,pickw,_,rfl,p,d,lb,L,en.nm,y,en,ts,ss.map Stp.pr,rfl,S5.bk,Me S5.bk.nd hem,hyk,by rw[KO];omega,elb,hst,Sl Tp hws hss (by omega),by have:=hbl en hem;omega,λla H8 hla ela eba k8=>?_⟩
  have E5:=(S5.bk.en en hem).bd
  have kx8:Md H5 H8:=λb o h n _=>k8 b o h (Cd h E5 (n _))
  have hla8:Hq H8 la ss:=⟨ts,ela,hst.1,λa t pr h1 h2=>kx8 _ _ (hst.2 a t pr h1 h2) (by intro z e;cases e) (by intro z e;cases e)⟩
  refine⟨_,_,rfl,_,_,S5.put hj (w:=y) (ss:=ss) ⟨λs hs=>(hss s hs).ok,by omega⟩ k8 eba hla8,(Ef (f:=λx:Ent=>x.nm) (e':={ en with bd:=putK en.bd (KD y:Key) (.ref la) }) hj rfl).trans hns,λe1 he1=>?_,kx.trans kx8⟩
  rcases QY he1 with z | z
  ·have:=hbl e1 z
   omega
  ·rw[z]
   have h1:=Dm en.bd (KD y:Key) (.ref la)
   have h2:=hbl en hem
   show (putK en.bd (KD y:Key) (.ref la)).length<=_
   omega
 ·rintro σ H3 ⟨v7,v8,rfl,S3⟩
  rw[JF] at S3
  exact p8 H3 a p d na ns _ zs _ _ _ _ _ _ S3.re (by omega) hn0 hn (S3.kp.lst ena2) (S3.kp.seq esa2) q
end
section
variable {P:KC} {w:LL} {K:JC} {mg:Str->Option JD} {base:MQ} {f fO fC fD fL fG fT fB fE fN fK fF fI fR CB CH:JK} {fd dO dC dD dL dG dT dB dE dN dK dF dI dR:LB} {ks:List (Str×JK×List Str)}
theorem GD:(["_law_k","_law_script"]:List Str).Nodup:=by decide +kernel
theorem jH(T:Gz K mg CB CH)(Tx:Txt mg)(Tp:aL ks)(GC:Al P w K mg base Bi 1 fC dC ["_law_script","_law_k"] (Mx K))(kC:JR K (.ref fC)=true)(bC:Binds K dC ["_law_script","_law_k"] [])(mC:mg "_law_cell_at" = some (.ref fC))(GN:Al P w K mg base Bi 1 fN dN ["_law_k","_law_cell"] Qi)(kN:JR K (.ref fN)=true)(bN:Binds K dN ["_law_k","_law_cell"] [])(mN:mg "_law_name_by" = some (.ref fN))(GK:Al P w K mg base Bi 7 fK dK ["_law_book","_law_names","_law_words","_law_seed"] (Ke CB CH))(kK:JR K (.ref fK)=true)(bK:Binds K dK ["_law_book","_law_names","_law_words","_law_seed"] [])(mK:mg "_law_taught" = some (.ref fK))(cdv:JD)(A:LI)(outer:List Env)(s:JH)(H:Hp)(E:XK)(hr:Ck 170 (A.deeper (PZ "law" (Ad Fq) s.heap.objs.size f cdv)))(Q:VK)(h7:∃tt,Hy (Ex Jd P w K mg base Uu "law" (Ad Fq) f cdv A outer s H E).nox ((Bg Fq).drop 7) tt /\
  ∀(H1:Hp)(a p d na wa:JK)(ns ws:List Str)(m:Nat)(zs:List Int)(v3 v4 v5:Option V),Yv CB CH H1 H1 p d ns m->m<=300->0 < ns.length->ns.length<=40->H1 na=some (.lst (Az ns))->H1 wa=some (.lst (Az ws))->0 < ws.length->ws.length<=7->(∀y∈ws,Gb y=true)->Aw K H1 a (zs.map V.int)->(∀H',Q (.bl true) H') ->
   tt { nx:=λ_ H'=>Q .non H',rt:=Q } [some (.ref a),some (.ref p),some (.ref na),v3,v4,v5,some (.ref wa),none,none,none,none,none,none] H1):
 ∃tt,Hy (Ex Jd P w K mg base Uu "law" (Ad Fq) f cdv A outer s H E).nox ((Bg Fq).drop 5) tt /\
  ∀(H1:Hp)(a p d na:JK)(L:List Ent)(zs:List Int)(v3 v4 v5:Option V),Be CB CH H1 p d L->Gw L->0 < L.length->L.length<=40->(∀e∈L,e.bd=[])->H1 na=some (.lst (Az (L.map (·.nm))))->Aw K H1 a (zs.map V.int)->(∀H',Q (.bl true) H') ->
   tt { nx:=λ_ H'=>Q .non H',rt:=Q } [some (.ref a),some (.ref p),some (.ref na),v3,v4,v5,none,none,none,none,none,none,none] H1:=by
 have hr1:=hr.mono (j:=1) (by decide)
 have hr7:=hr.mono (j:=7) (by decide)
 obtain⟨t7,h7,p7⟩:=h7
 refine⟨_,Ac (Dd (i:=6) (Ad Fq) Uu ["_law_k"] [("_law_script", 0)] rfl Gm.nd rfl rfl (Fb rfl Tx.range (Du (Aq Cm Ae (Aq Ca (Cf GC hr1 mC kC bC (Em (pv 0) Ae)) Ae)))) (Bm (i:=0) (by decide)) (λ_ _ _ _ _ _=>⟨Dg 0 GD,Ds,
  Cf GN hr1 mN kN bN (Em (pv 0) (Cf GC hr1 mC kC bC (Em (pv 1) Ae)))⟩))
  (Ac (Bx (Cf GK hr7 mK kK bK (rO (pv 1) (pv 2) (pv 6) (Aq Cm (Cf GC hr1 mC kC bC (Em (pv 0) Ae)) (Cf GC hr1 mC kC bC (Em (pv 0) Ae)))))) h7),?_⟩
 intro H1 a p d na L zs v3 v4 v5 B O hL0 hL hbd ena esa q
 have hq0:0<=zs.getD 4 0 % 5:=LY _ (by decide)
 have hq1:zs.getD 4 0 % 5 < 5:=LV _ (by decide)
 obtain⟨m,hm⟩:=NF (show 0<=2+zs.getD 4 0 % 5 by omega)
 refine⟨_,rfl,a,zs,4,rfl,esa,_,_,rfl,rfl,(by show (0:Int) < 5;decide),_,_,rfl,rfl,(m:Int),by show [V.int (2+zs.getD 4 0 % 5)]=_;rw[hm],by omega,by omega,Ie (k:=(m:Int).toNat) (λi ys H5=>H5=H1/\ys=Az (row (zs.getD 3 0) i)) ⟨rfl,rfl⟩ ?_ ?_⟩
 ·rintro i ys H5 hi ⟨rfl,rfl⟩
  rw[LR] at hi
  have e0:(0:Int)+(i:Int)=(i:Int):=by omega
  rw[e0]
  refine⟨_,rfl,_,rfl,a,zs,3,rfl,esa,_,_,rfl,?_,rfl,kY _ _⟩
  rw[Av,Vd,KO]
  omega
 rintro ys H5 ⟨rfl,rfl⟩ wa hwa
 rw[LR]
 have s2:=Ag hwa (.lst (Az (row (zs.getD 3 0) m)))
 have ewa:(upd H5 wa (.lst (Az (row (zs.getD 3 0) m)))) wa=some (.lst (Az (row (zs.getD 3 0) m))):=Aa
 have wl:(row (zs.getD 3 0) m).length=m:=Vd _ _
 have wnd:(row (zs.getD 3 0) m).Nodup:=yJ (by omega)
 have wok:∀y∈row (zs.getD 3 0) m,Gb y=true:=λy hy=>Tv (AX hy)
 generalize row (zs.getD 3 0) m=ws at *
 generalize upd H5 wa (.lst (Az ws))=H6 at *
 have esa6:=s2.seq esa
 refine⟨_,rfl,_,rfl,_,rfl,_,rfl,a,zs,2,rfl,esa6,_,rfl,a,zs,4,rfl,esa6,_,_,rfl,rfl,p,d,na,wa,L,ws,_,rfl,B.same s2,O,hL,hbd,s2 _ _ ena,ewa,by omega,wok,λka H7 S7=>?_⟩
 have k7:=S7.kp
 exact p7 H7 a p d na wa _ ws 300 zs _ _ _ S7.m (by decide) (by rw[JF];exact hL0) (by rw[JF];exact hL) (k7.lst (s2 _ _ ena)) (k7.lst ewa) (by omega) (by omega) wok (k7.seq esa6) q
theorem aZ(T:Gz K mg CB CH)(Tx:Txt mg)(GC:Al P w K mg base Bi 1 fC dC ["_law_script","_law_k"] (Mx K))(kC:JR K (.ref fC)=true)(bC:Binds K dC ["_law_script","_law_k"] [])(mC:mg "_law_cell_at" = some (.ref fC))(GN:Al P w K mg base Bi 1 fN dN ["_law_k","_law_cell"] Qi)(kN:JR K (.ref fN)=true)(bN:Binds K dN ["_law_k","_law_cell"] [])(mN:mg "_law_name_by" = some (.ref fN))(GF:Al P w K mg base Jd 6 fF dF ["_law_book","_law_names","_law_name","_law_cell"] (Ka CB CH))(kF:JR K (.ref fF)=true)(bF4:Binds K dF ["_law_book","_law_names","_law_name","_law_cell"] [])(mF:mg "_law_founded" = some (.ref fF))(cdv:JD)(A:LI)(outer:List Env)(s:JH)(H:Hp)(E:XK)(hr:Ck 170 (A.deeper (PZ "law" (Ad Fq) s.heap.objs.size f cdv)))(Q:VK)(h5:∃tt,Hy (Ex Jd P w K mg base Uu "law" (Ad Fq) f cdv A outer s H E).nox ((Bg Fq).drop 5) tt /\
  ∀(H1:Hp)(a p d na:JK)(L:List Ent)(zs:List Int)(v3 v4 v5:Option V),Be CB CH H1 p d L->Gw L->0 < L.length->L.length<=40->(∀e∈L,e.bd=[])->H1 na=some (.lst (Az (L.map (·.nm))))->Aw K H1 a (zs.map V.int)->(∀H',Q (.bl true) H') ->
   tt { nx:=λ_ H'=>Q .non H',rt:=Q } [some (.ref a),some (.ref p),some (.ref na),v3,v4,v5,none,none,none,none,none,none,none] H1):
 ∃tt,Hy (Ex Jd P w K mg base Uu "law" (Ad Fq) f cdv A outer s H E).nox ((Bg Fq).drop 4) tt /\
  ∀(H0 H1:Hp)(a p d na:JK)(n:Nat)(zs:List Int),Be CB CH (mask1 H1 na) p d []->Am H0 H1->H0 d=none->H0 na=none->0 < n->n<=40->H1 na=some (.lst [])->Aw K H0 a (zs.map V.int)->(∀H',Q (.bl true) H') ->
   tt { nx:=λ_ H'=>Q .non H',rt:=Q } [some (.ref a),some (.ref p),some (.ref na),some (.int (n:Int)),none,none,none,none,none,none,none,none,none] H1:=by
 have hr1:=hr.mono (j:=1) (by decide)
 have hr6:=hr.mono (j:=6) (by decide)
 obtain⟨t5,h5,p5⟩:=h5
 refine⟨_,Ac (Eg MJ rfl (Fb rfl Tx.range (Du (pv 3))) (Dg 4 Gm.nd)
  (Ac (Bv 5 Gm.nd (Cf GN hr1 mN kN bN (Em (pv 4) (Cf GC hr1 mC kC bC (Em (pv 0) Ae)))))
  (Ac (Bx (Di GF hr6 rfl mF kF bF4 .nil Sq (rO (pv 1) (pv 2) (pv 5) (Aq Cm (Cf GC hr1 mC kC bC (Em (pv 0) Ae)) (Aq Kq Ae (pv 4))))))
  (Af (Bx (Lu MK MO MN Ed (pv 2) (Du (pv 5)))))))) h5,?_⟩
 intro H0 H1 a p d na n zs B0 s0 fd0 fna hn0 hn ena esa q
 refine⟨_,rfl,_,rfl,by omega,by omega,Hm (n:=(n:Int).toNat) (λi σ H7=>∃(L:List Ent)(v4 v5:Option V),σ=[some (.ref a),some (.ref p),some (.ref na),some (.int (n:Int)),v4,v5,none,none,none,none,none,none,none]/\Be CB CH (mask1 H7 na) p d L/\Gw L/\L.length=i/\(∀(j:Nat)(e:Ent),L[j]? = some e->e.nm=Fw (j:Int) (zs.getD 1 0)/\e.bd=[])/\H7 na=some (.lst (Az (L.map (·.nm))))/\Am H0 H7)
  ⟨[],none,none,rfl,B0,(λe he=>nomatch he),rfl,(λj e h=>by simp at h),ena,s0⟩ ?_ ?_⟩
 ·rintro i σ H7 hi ⟨L,v4,v5,rfl,B,O,hLl,hL,ena7,s7⟩
  rw[LR] at hi
  have e0:(0:Int)+(i:Int)=(i:Int):=by omega
  rw[e0]
  have esa7:=s7.seq esa
  have hnx:=gG (i:Int) (zs.getD 1 0)
  have hnew:Hl L (Fw (i:Int) (zs.getD 1 0))=none:=nB λe he z=>by
   obtain⟨j,hj⟩:=MI he
   have hjl:j < L.length:=(JB.mp hj).1
   rw[(hL j e hj).1] at z
   have:=Xl (by omega) (by omega) (by omega) (by omega) z
   omega
  refine⟨_,rfl,_,rfl,a,zs,1,rfl,esa7,_,_,rfl,?_⟩
  have Bf:Be CB CH H7 p d L:=B.same Tj
  refine⟨_,rfl,_,rfl,_,rfl,_,rfl,a,zs,2,rfl,esa7,_,rfl,_,_,rfl,rfl,.inl ⟨by decide,by decide⟩,_,_,rfl,rfl,p,d,na,L,_,_,rfl,Bf,ena7,O,by omega,hnx,hnew,λH8 e B8 hnm hbd O8 fr k8=>?_⟩
  have nad:na≠d:=Cd ena7 Bf.dc (by intro z;cases z)
  have ena8:=k8 _ _ ena7 nad
  refine⟨_,rfl,.inl ⟨rfl,_,Aw.of ena8⟩,_,rfl,na,_,_,rfl,rfl,ena8,?_,?_⟩
  ·show (Az (L.map (·.nm))).length < JM
   rw[Av,JF,KO]
   omega
  refine⟨L++[e],_,_,rfl,?_,O8,by rw[JJ,hLl];rfl,λj e' he'=>?_,?_,λb o hb=>?_⟩
  ·rw[oA]
   exact B.maskAdd B8 fr ena7
  ·by_cases hj:j < L.length
   ·rw[KH hj] at he'
    exact hL j e' he'
   ·have hjl:j < (L++[e]).length:=(JB.mp he').1
    rw[JJ,JU] at hjl
    obtain rfl:j=L.length:=by omega
    rw[KA] at he'
    cases he'
    exact⟨by rw[hnm,hLl],hbd⟩
  ·rw[Aa,JT]
   unfold Az
   rw[JT]
   show some (HO.lst (_++[V.str _]))=some (HO.lst (_++[V.str e.nm]))
   rw[hnm]
  ·rw[Aj (Ai hb fna)]
   exact k8 b o (s7 _ _ hb) (Ai hb fd0)
 ·rintro σ H7 ⟨L,v4,v5,rfl,B,O,hLl,hL,ena7,s7⟩
  rw[LR] at hLl
  refine p5 H7 a p d na L zs _ _ _ (B.same Tj) O (by omega) (by omega) (λe he=>?_) ena7 (s7.seq esa) q
  obtain⟨j,hj⟩:=MI he
  exact(hL j e hj).2
theorem zN(F:Dj K "law" "law" Fq f fd)(T:Gz K mg CB CH)(Tx:Txt mg)(Tp:aL ks)(GC:Al P w K mg base Bi 1 fC dC ["_law_script","_law_k"] (Mx K))(kC:JR K (.ref fC)=true)(bC:Binds K dC ["_law_script","_law_k"] [])(mC:mg "_law_cell_at" = some (.ref fC))(GL:Al P w K mg base Jd 4 fL dL ["book","name"] (Vq CB CH))(kL:JR K (.ref fL)=true)(bL:Binds K dL ["book","name"] [])(mL:mg "left_out" = some (.ref fL))(GT:Al P w K mg base Bi 6 fT dT ["rows"] (Ak.spTold K))(kT:JR K (.ref fT)=true)(bT:Binds K dT ["rows"] [])(mT:mg "told_ahead" = some (.ref fT))(GR:Al P w K mg base Jd 170 fR dR ["_law_book","_law_name","_law_word","_law_number","_law_end"] (Od K CB CH))(kR:JR K (.ref fR)=true)(bR:Binds K dR ["_law_book","_law_name","_law_word","_law_number","_law_end"] [])(mR:mg "_law_right" = some (.ref fR))(GB:Al P w K mg base Bi 3 fB dB ["_law_words","_law_first","_law_cell"] Jf)(kB:JR K (.ref fB)=true)(bB:Binds K dB ["_law_words","_law_first","_law_cell"] [])(mB:mg "_law_body_by" = some (.ref fB))(GE:Al P w K mg base Bi 6 fE dE ["self","name","word","body"] (La CB CH ks))(bE:Binds K dE ["self","name","word","body"] [])(mE:Dt K CB "teach" fE)(GN:Al P w K mg base Bi 1 fN dN ["_law_k","_law_cell"] Qi)(kN:JR K (.ref fN)=true)(bN:Binds K dN ["_law_k","_law_cell"] [])(mN:mg "_law_name_by" = some (.ref fN))(GK:Al P w K mg base Bi 7 fK dK ["_law_book","_law_names","_law_words","_law_seed"] (Ke CB CH))(kK:JR K (.ref fK)=true)(bK:Binds K dK ["_law_book","_law_names","_law_words","_law_seed"] [])(mK:mg "_law_taught" = some (.ref fK))(GF:Al P w K mg base Jd 6 fF dF ["_law_book","_law_names","_law_name","_law_cell"] (Ka CB CH))(kF:JR K (.ref fF)=true)(bF4:Binds K dF ["_law_book","_law_names","_law_name","_law_cell"] [])(mF:mg "_law_founded" = some (.ref fF))(GI:Al P w K mg base Bi 1 fI dI ["self"] (Ve CB))(bI:Binds K dI ["self"] [])(MB:Mk K CB fI):Al P w K mg base Jd 171 f fd ["_law_script"] (eJ K):=by
 refine F.ok1 Gm (λvs H Q E h=>?_) (λcdv A outer s H vs Q E hr h=>?_)
 ·obtain⟨a,zs,rfl,_⟩:=h
  rfl
 obtain⟨a,zs,rfl,S,h63,q⟩:=h
 have hr1:=hr.mono (j:=1) (by decide)
 have hr2:=hr.mono (j:=2) (by decide)
 obtain⟨t4,h4,p4⟩:=aZ (f:=f) T Tx GC kC bC mC GN kN bN mN GF kF bF4 mF cdv A outer s H E hr Q
  (jH (f:=f) T Tx Tp GC kC bC mC GN kN bN mN GK kK bK mK cdv A outer s H E hr Q
   (Zw (f:=f) T Tx Tp GB kB bB mB GE bE mE cdv A outer s H E hr Q
    (tE (f:=f) T Tx GC kC bC mC GL kL bL mL GT kT bT mT GR kR bR mR cdv A outer s H E hr Q)))
 refine⟨_,Ac (Bv 1 Gm.nd (oY MB GI hr2 rfl T.mgB bI .nil Dh))
  (Ac (Bv 2 Gm.nd (Df Fu))
  (Ac (Bv 3 Gm.nd (Aq Cm Ae (Aq Ca (Cf GC hr1 mC kC bC (Em (pv 0) Ae)) Ae)))
  (Ac (Ay (Ar Cc (Aq Ca (Aq Dy (Cf GC hr1 mC kC bC (Em (pv 0) Ae)) Ae) Ae) Ae (Au _)) (Af (Bv 3 Gm.nd (Aq Cm Ae (Aq Ca (Aq Dy (Cf GC hr1 mC kC bC (Em (pv 0) Ae)) Ae) Ae)))) Ap) h4))),?_⟩
 -- Book()
 intro p dx np ndx nex
 refine⟨p,dx,rfl,Aa,λd hd=>⟨rfl,?_⟩⟩
 have hd1:d≠p:=λz=>by rw[z,Aa] at hd;cases hd
 have fd0:H d=none:=Nj (Nj hd)
 have sb:Am H (upd (upd (upd (upd H dx (.own p)) p (.ins CB dx [])) d (.dK [])) p (.ins CB dx (bF d))):=λb o e=>by
  rw[Aj (Ai e np),Aj (Ai e fd0),Aj (Ai e np),Aj (Ai e ndx)]
  exact e
 have ep:(upd (upd (upd (upd H dx (.own p)) p (.ins CB dx [])) d (.dK [])) p (.ins CB dx (bF d))) p=some (.ins CB dx (bF d)):=Aa
 have ed:(upd (upd (upd (upd H dx (.own p)) p (.ins CB dx [])) d (.dK [])) p (.ins CB dx (bF d))) d=some (.dK []):=by rw[Aj hd1];exact Aa
 generalize upd (upd (upd (upd H dx (.own p)) p (.ins CB dx [])) d (.dK [])) p (.ins CB dx (bF d))=H1 at *
 have B0:Be CB CH H1 p d []:=⟨⟨dx,ep⟩,ed,(λe he=>nomatch he),(λe he=>nomatch he),OR,OR⟩
 -- names
 refine⟨by show 0<=JM;decide,λna hna=>?_⟩
 obtain⟨H2,zz,s2,ena⟩:=lay hna (.lst [])
 rw[zz]
 have sA:=sb.trans s2
 have S2:=sA.seq S
 have B2:Be CB CH (mask1 H2 na) p d []:=B0.same (Am.mask1 s2 hna)
 have m0:0<=zs.getD 0 0 % 7:=LY _ (by decide)
 have m1:zs.getD 0 0 % 7 < 7:=LV _ (by decide)
 have m2:0<=zs.getD 0 0 / 56 % 13:=LY _ (by decide)
 have m3:zs.getD 0 0 / 56 % 13 < 13:=LV _ (by decide)
 refine⟨_,rfl,a,zs,0,rfl,S2,_,_,rfl,rfl,(by show (0:Int) < 7;decide),_,_,rfl,rfl,?_⟩
 refine⟨_,rfl,a,zs,0,rfl,S2,_,_,rfl,rfl,⟨by decide,by decide⟩,_,_,rfl,rfl,(by show (0:Int) < 8;decide),rfl,_,rfl,Br (λe=>?_) (λe=>?_)⟩
 ·obtain⟨n,hn⟩:=NF (show 0<=8+zs.getD 0 0 / 56 % 13 by omega)
  have z:=p4 H H2 a p d na n zs B2 sA fd0 (sb.free hna) (by omega) (by omega) ena S q
  rw[<- hn] at z
  exact⟨_,rfl,a,zs,0,rfl,S2,_,_,rfl,rfl,⟨by decide,by decide⟩,_,_,rfl,rfl,(by show (0:Int) < 13;decide),_,_,rfl,rfl,z⟩
 ·obtain⟨n,hn⟩:=NF (show 0<=1+zs.getD 0 0 % 7 by omega)
  have z:=p4 H H2 a p d na n zs B2 sA fd0 (sb.free hna) (by omega) (by omega) ena S q
  rw[<- hn] at z
  exact z
end
end Bk
namespace Bk
open PySem L2 Mg Nm
def wO(w:LL)(p:Str×Tok×JK):RO:=⟨MZ w.params p.1,.str p.1 p.2.1,.ref p.2.2⟩
theorem oO{P:KC}{w:LL}:∀ents:List (Str×Tok×JK),Pairs (Bo P w) (ents.map (wO w)) (ents.map λp=>((KD p.1:Key),JV p.2.2)):=by
 intro ents
 induction ents with
 | nil=>exact .nil
 | cons p ents ih=>exact .cons (My p.1 p.2.1) rfl ih
theorem uS{P:KC}{w:LL}{K:JC}{aP:JK}{es:Array RO}{ep:Nat}(ents:List (Str×Tok×JK))(l:K.lookup aP=some ⟨.type "dict", none,.dict es ep,#[]⟩)(hes:es.toList=ents.map (wO w))(nd:(ents.map (·.1)).Nodup)(sm:(aP == OE)=false):cD P w K aP (ents.map λp=>((KD p.1:Key),V.ref p.2.2)):=by
 refine⟨_,es,ep,ents.map λp=>((KD p.1:Key),JV p.2.2),l,⟨rfl,rfl,rfl⟩,rfl,λe he=>?_,by rw[hes];exact oO ents,?_,?_,sm⟩
 ·have he':e∈es.toList:=by simpa using he
  rw[hes] at he'
  obtain⟨p,hp,rfl⟩:=LM.mp he'
  exact⟨KD p.1,My p.1 p.2.1,rfl⟩
 ·rw[List.map_map]
  have:((λq:Key×JD=>q.1) ∘ λp:Str×Tok×JK=>((KD p.1:Key),JV p.2.2))=λp=>(KD p.1:Key):=rfl
  rw[this]
  have h2:(ents.map λp=>(KD p.1:Key))=(ents.map (·.1)).map KD:=by rw[List.map_map];rfl
  rw[h2]
  exact List.pairwise_map.mpr (nd.imp λh z=>h (KD.inj z))
 ·clear l hes nd
  induction ents with
  | nil=>exact .nil
  | cons p ents ih=>exact .cons ⟨rfl,rfl⟩ ih
theorem Es{K:JC}{H:Hp}{a:JK}{od:Option JK}{its:Array JD}{n:Nat}{sl:Array (Option JD)}{r:List Str}(l:K.lookup a=some ⟨.type "tuple", od,.seq its n,sl⟩)(v:Bb (Az r) its.toList)(hl:its.size<=JM):Co K H a (Az r):=.inr ⟨_,its,n,l,rfl,rfl,hl,v⟩
end Bk
namespace Bk
open PySem L2 Mg PySem.W
theorem Ux{K:Frag}{cls:JD}{C:JK}(h1:isClsIn K C=true)(h2:typeIn K (.ref C)=some (.type "type"))(h3:subIn K (.ref C) (.type "BaseException")=some true){b:Bool}(h4:subIn K cls (.ref C)=some b):exmOne K cls (.ref C)=some b:=by
 have e1:(clsIn K C).isSome=true:=h1
 unfold exmOne kitCls
 simp only[h2,h3,h4,e1]
 rfl
end Bk
namespace Bk
open PySem L2 Mg Nm Rk PySem.W
abbrev BI(p0 p1 p2 p3 p4 p5 p6 p7 p8 p9 p10 p11 p12 p13:JK):List (Str×JK×List Str):=[(("say" : Str),p0,([]:List Str)),(("put" : Str),p1,([("amount" : Str)]:List Str)),(("plus" : Str),p2,([("amount" : Str)]:List Str)),(("times" : Str),p3,([("amount" : Str)]:List Str)),(("both" : Str),p4,([("amount" : Str)]:List Str)),(("any" : Str),p5,([("amount" : Str)]:List Str)),(("odd" : Str),p6,([("amount" : Str)]:List Str)),(("over" : Str),p7,([("divisor" : Str)]:List Str)),(("part" : Str),p8,([("divisor" : Str)]:List Str)),(("up" : Str),p9,([("shift" : Str)]:List Str)),(("down" : Str),p10,([("shift" : Str)]:List Str)),(("onwards" : Str),p11,([]:List Str)),(("ask" : Str),p12,([("word" : Str)]:List Str)),(("try" : Str),p13,([("word" : Str),("word" : Str)]:List Str))]
abbrev aU(K:Frag)(f:JK)(oc:JD)(od:Option JK)(x q:Str)(st:OQ)(kV dc pm:JD)(an:Option JK)(cd ct:JD)(sl:Array (Option JD)):Prop:=K.lookup f=some ⟨oc,od,.func (fnOf x q (Dw st) (Bg st) (Ad st) .none kV dc pm an cd ct),sl⟩/\codeIn K cd q=true/\keepIn K (.ref f)=true
abbrev aN(K:Frag)(x:Str)(f:JK):Prop:=nsIn K LC x=some (some (.ref f))
abbrev aM(K:Frag)(C:JK)(x:Str)(f:JK):Prop:=RU K (.ref C) x=some (some (.ref f))/\isFn K (.ref f)=true
abbrev aK(K:Frag)(C:JK):Prop:=plainGet K C Str.empty=true/\hasDictIn K C=true/\plainOver K C=true/\RU K (.ref C) "__setattr__" = some (some (.builtin "object.__setattr__"))/\makesIn K C=true/\keepIn K (.ref C)=true
theorem Bl{K:Frag}{f:JK}{oc:JD}{od:Option JK}{x q:Str}{st:OQ}{kV dc pm:JD}{an:Option JK}{cd ct:JD}{sl:Array (Option JD)}(h:aU K f oc od x q st kV dc pm an cd ct sl):Dj K x q st f (fnOf x q (Dw st) (Bg st) (Ad st) .none kV dc pm an cd ct):=oG h.1 h.2.1 h.2.2
theorem yT{l:PySem.W.OpenLaw}{w:LL}{K:JC}{h:MQ}{mg:Str->Option JD}{fa f1 f2 f3 f4 f5 f6 f7 f8 f11 f12 f13 f14 f16 f18 f19 f20 f21 f22 f23 f26 f29 f28 f30 f31 f32 f40 f41 f42 f43 f44 f45 f46 f47 f50 f48 f51 f52 f60 f61 f62 f63 f64 f80 f81 f82 f83 f84 f85 f86 f87 f88 f89 f90 f91 CB CH CA CL T14 T43:JK}(X:K.In h)(G:h.Ns LC mg)(hfa:mg "law" = some (.ref fa)){od1 an1 od2 an2 od3 an3 od4 an4 od5 an5 od6 an6 od7 an7 od8 an8 od11 an11 od12 an12 od13 an13 od14 an14 od16 an16 od18 an18 od19 an19 od20 an20 od21 an21 od22 an22 od23 an23 od26 an26 od29 an29 od28 an28 od30 an30 od31 an31 od32 an32 od40 an40 od41 an41 od42 an42 od43 an43 od44 an44 od45 an45 od46 an46 od47 an47 od50 an50 od48 an48 od51 an51 od52 an52 od60 an60 od61 an61 od62 an62 od63 an63 od64 an64 od80 an80 od81 an81 od82 an82 od83 an83 od84 an84 od85 an85 od86 an86 od87 an87 od88 an88 od89 an89 od90 an90 od91 an91:Option JK}{sl1 sl2 sl3 sl4 sl5 sl6 sl7 sl8 sl11 sl12 sl13 sl14 sl16 sl18 sl19 sl20 sl21 sl22 sl23 sl26 sl29 sl28 sl30 sl31 sl32 sl40 sl41 sl42 sl43 sl44 sl45 sl46 sl47 sl50 sl48 sl51 sl52 sl60 sl61 sl62 sl63 sl64 sl80 sl81 sl82 sl83 sl84 sl85 sl86 sl87 sl88 sl89 sl90 sl91:Array (Option JD)}{oc1 kV1 dc1 pm1 cd1 ct1 oc2 kV2 dc2 pm2 cd2 ct2 oc3 kV3 dc3 pm3 cd3 ct3 oc4 kV4 dc4 pm4 cd4 ct4 oc5 kV5 dc5 pm5 cd5 ct5 oc6 kV6 dc6 pm6 cd6 ct6 oc7 kV7 dc7 pm7 cd7 ct7 oc8 kV8 dc8 pm8 cd8 ct8 oc11 kV11 dc11 pm11 cd11 ct11 oc12 kV12 dc12 pm12 cd12 ct12 oc13 kV13 dc13 pm13 cd13 ct13 oc14 kV14 dc14 pm14 cd14 ct14 oc16 kV16 dc16 pm16 cd16 ct16 oc18 kV18 dc18 pm18 cd18 ct18 oc19 kV19 dc19 pm19 cd19 ct19 oc20 kV20 dc20 pm20 cd20 ct20 oc21 kV21 dc21 pm21 cd21 ct21 oc22 kV22 dc22 pm22 cd22 ct22 oc23 kV23 dc23 pm23 cd23 ct23 oc26 kV26 dc26 pm26 cd26 ct26 oc29 kV29 dc29 pm29 cd29 ct29 oc28 kV28 dc28 pm28 cd28 ct28 oc30 kV30 dc30 pm30 cd30 ct30 oc31 kV31 dc31 pm31 cd31 ct31 oc32 kV32 dc32 pm32 cd32 ct32 oc40 kV40 dc40 pm40 cd40 ct40 oc41 kV41 dc41 pm41 cd41 ct41 oc42 kV42 dc42 pm42 cd42 ct42 oc43 kV43 dc43 pm43 cd43 ct43 oc44 kV44 dc44 pm44 cd44 ct44 oc45 kV45 dc45 pm45 cd45 ct45 oc46 kV46 dc46 pm46 cd46 ct46 oc47 kV47 dc47 pm47 cd47 ct47 oc50 kV50 dc50 pm50 cd50 ct50 oc48 kV48 dc48 pm48 cd48 ct48 oc51 kV51 dc51 pm51 cd51 ct51 oc52 kV52 dc52 pm52 cd52 ct52 oc60 kV60 dc60 pm60 cd60 ct60 oc61 kV61 dc61 pm61 cd61 ct61 oc62 kV62 dc62 pm62 cd62 ct62 oc63 kV63 dc63 pm63 cd63 ct63 oc64 kV64 dc64 pm64 cd64 ct64 oc80 kV80 dc80 pm80 cd80 ct80 oc81 kV81 dc81 pm81 cd81 ct81 oc82 kV82 dc82 pm82 cd82 ct82 oc83 kV83 dc83 pm83 cd83 ct83 oc84 kV84 dc84 pm84 cd84 ct84 oc85 kV85 dc85 pm85 cd85 ct85 oc86 kV86 dc86 pm86 cd86 ct86 oc87 kV87 dc87 pm87 cd87 ct87 oc88 kV88 dc88 pm88 cd88 ct88 oc89 kV89 dc89 pm89 cd89 ct89 oc90 kV90 dc90 pm90 cd90 ct90 oc91 kV91 dc91 pm91 cd91 ct91:JD}{ocT14:JD}{odT14:Option JK}{slT14:Array (Option JD)}{nT14:Nat}{ocT43:JD}{odT43:Option JK}{slT43:Array (Option JD)}{nT43:Nat}{aP:JK}{esP:Array RO}{epP:Nat}{t0 t1 t2 t3 t4 t5 t6 t7 t8 t9 t10 t11 t12 t13:Tok}{p0 p1 p2 p3 p4 p5 p6 p7 p8 p9 p10 p11 p12 p13:JK}{oq0 oq1 oq2 oq3 oq4 oq5 oq6 oq7 oq8 oq9 oq10 oq11 oq12 oq13:Option JK}{nq0 nq1 nq2 nq3 nq4 nq5 nq6 nq7 nq8 nq9 nq10 nq11 nq12 nq13:Nat}{sq0 sq1 sq2 sq3 sq4 sq5 sq6 sq7 sq8 sq9 sq10 sq11 sq12 sq13:Array (Option JD)}{u1_0 u2_0 u3_0 u4_0 u5_0 u6_0 u7_0 u8_0 u9_0 u10_0 u12_0 u13_0 u13_1:Tok}{aV:JK}{tkN tkM:Tok}{oqN:Option JK}{nqN:Nat}{sqN:Array (Option JD)}{tkA tkB:Tok}{CO CU CS CE f99 NB:JK}{ocB ocN oc99 kV99 dc99 pm99 cd99 ct99:JD}{odB odN od99 an99:Option JK}{cdB:ClassData}{slB slN sl99:Array (Option JD)}{esN:Array RO}{epN:Nat}{NO:JK}{bmO bsO subO:List JD}{nmO qnO:Str}{hdctO abO:Bool}{snO:List Str}{colO:Option Bool}{ddO:Option JK}{y0O y1O y2O y3O y5O:Option JD}{NU:JK}{bmU bsU subU:List JD}{nmU qnU:Str}{hdctU abU:Bool}{snU:List Str}{colU:Option Bool}{ddU:Option JK}{y0U y1U y2U y3U y5U:Option JD}{NS:JK}{bmS bsS subS:List JD}{nmS qnS:Str}{hdctS abS:Bool}{snS:List Str}{colS:Option Bool}{ddS:Option JK}{y0S y1S y2S y3S y5S:Option JD}(aCB:nsIn K LC "Book" = some (some (.ref CB)))(pkB:aK K CB)(nB_by_name:RU K (.ref CB) "by_name" = some none)(aCH:nsIn K LC "House" = some (some (.ref CH)))(pkH:aK K CH)(nH_elder_row:RU K (.ref CH) "elder_row" = some none)(nH_order_row:RU K (.ref CH) "order_row" = some none)(nH_bodies:RU K (.ref CH) "bodies" = some none)(aCA:nsIn K LC "Asking" = some (some (.ref CA)))(pkA:aK K CA)(nA_book:RU K (.ref CA) "book" = some none)(nA_row:RU K (.ref CA) "row" = some none)(nA_tally:RU K (.ref CA) "tally" = some none)(aCL:nsIn K LC "Tally" = some (some (.ref CL)))(pkL:aK K CL)(nL_left:RU K (.ref CL) "left" = some none)(nL_said:RU K (.ref CL) "said" = some none)(a1:aN K "merged" f1)(u1:aU K f1 oc1 od1 "merged" "merged" Fx kV1 dc1 pm1 an1 cd1 ct1 sl1)(a2:aN K "counts_behind" f2)(u2:aU K f2 oc2 od2 "counts_behind" "counts_behind" Lk kV2 dc2 pm2 an2 cd2 ct2 sl2)(a3:aN K "free_name" f3)(u3:aU K f3 oc3 od3 "free_name" "free_name" Xj kV3 dc3 pm3 an3 cd3 ct3 sl3)(a4:aN K "take_out" f4)(u4:aU K f4 oc4 od4 "take_out" "take_out" Wd kV4 dc4 pm4 an4 cd4 ct4 sl4)(a5:aN K "made_order" f5)(u5:aU K f5 oc5 od5 "made_order" "made_order" Xy kV5 dc5 pm5 an5 cd5 ct5 sl5)(a6:aN K "is_name" f6)(u6:aU K f6 oc6 od6 "is_name" "is_name" Nz kV6 dc6 pm6 an6 cd6 ct6 sl6)(a7:aN K "_law_cell_at" f7)(u7:aU K f7 oc7 od7 "_law_cell_at" "_law_cell_at" Oz kV7 dc7 pm7 an7 cd7 ct7 sl7)(a8:aN K "_law_name_by" f8)(u8:aU K f8 oc8 od8 "_law_name_by" "_law_name_by" lD kV8 dc8 pm8 an8 cd8 ct8 sl8)(a11:aN K "law" f11)(u11:aU K f11 oc11 od11 "law" "law" Fq kV11 dc11 pm11 an11 cd11 ct11 sl11)(m12:aM K CH "__init__" f12)(u12:aU K f12 oc12 od12 "__init__" "House.__init__" bD kV12 dc12 pm12 an12 cd12 ct12 sl12)(m13:aM K CB "__init__" f13)(u13:aU K f13 oc13 od13 "__init__" "Book.__init__" cX kV13 dc13 pm13 an13 cd13 ct13 sl13)(m14:aM K CB "found" f14)(l14:K.lookup f14=some ⟨oc14,od14,.func (fnOf "found" "Book.found" (Dw Ii) (Bg Ii) (Ad Ii) (.ref T14) kV14 dc14 pm14 an14 cd14 ct14),sl14⟩)(c14:codeIn K cd14 "Book.found" = true)(k14:keepIn K (.ref f14)=true)(lT14:K.lookup T14=some ⟨ocT14,odT14,.seq #[.none] nT14,slT14⟩)(m16:aM K CB "order" f16)(u16:aU K f16 oc16 od16 "order" "Book.order" Zm kV16 dc16 pm16 an16 cd16 ct16 sl16)(m18:aM K CB "house" f18)(u18:aU K f18 oc18 od18 "house" "Book.house" aY kV18 dc18 pm18 an18 cd18 ct18 sl18)(a19:aN K "is_whole" f19)(u19:aU K f19 oc19 od19 "is_whole" "is_whole" Zl kV19 dc19 pm19 an19 cd19 ct19 sl19)(a20:aN K "is_amount" f20)(u20:aU K f20 oc20 od20 "is_amount" "is_amount" Vk kV20 dc20 pm20 an20 cd20 ct20 sl20)(a21:aN K "is_body" f21)(u21:aU K f21 oc21 od21 "is_body" "is_body" Oo kV21 dc21 pm21 an21 cd21 ct21 sl21)(a22:aN K "is_step" f22)(u22:aU K f22 oc22 od22 "is_step" "is_step" Oq kV22 dc22 pm22 an22 cd22 ct22 sl22)(a23:aN K "is_part" f23)(u23:aU K f23 oc23 od23 "is_part" "is_part" Tn kV23 dc23 pm23 an23 cd23 ct23 sl23)(m26:aM K CB "teach" f26)(u26:aU K f26 oc26 od26 "teach" "Book.teach" Zh kV26 dc26 pm26 an26 cd26 ct26 sl26)(m29:aM K CB "own_words" f29)(u29:aU K f29 oc29 od29 "own_words" "Book.own_words" yZ kV29 dc29 pm29 an29 cd29 ct29 sl29)(m28:aM K CB "body" f28)(u28:aU K f28 oc28 od28 "body" "Book.body" pD kV28 dc28 pm28 an28 cd28 ct28 sl28)(a30:aN K "ring_of" f30)(u30:aU K f30 oc30 od30 "ring_of" "ring_of" pY kV30 dc30 pm30 an30 cd30 ct30 sl30)(a31:aN K "first_name" f31)(u31:aU K f31 oc31 od31 "first_name" "first_name" Ql kV31 dc31 pm31 an31 cd31 ct31 sl31)(a32:aN K "leaning_against" f32)(u32:aU K f32 oc32 od32 "leaning_against" "leaning_against" Wu kV32 dc32 pm32 an32 cd32 ct32 sl32)(a40:aN K "check_question" f40)(u40:aU K f40 oc40 od40 "check_question" "check_question" cW kV40 dc40 pm40 an40 cd40 ct40 sl40)(a41:aN K "reckoned" f41)(u41:aU K f41 oc41 od41 "reckoned" "reckoned" oU kV41 dc41 pm41 an41 cd41 ct41 sl41)(a42:aN K "changed" f42)(u42:aU K f42 oc42 od42 "changed" "changed" Pd kV42 dc42 pm42 an42 cd42 ct42 sl42)(a43:aN K "answered" f43)(l43:K.lookup f43=some ⟨oc43,od43,.func (fnOf "answered" "answered" (Dw Gi) (Bg Gi) (Ad Gi) (.ref T43) kV43 dc43 pm43 an43 cd43 ct43),sl43⟩)(c43:codeIn K cd43 "answered" = true)(k43:keepIn K (.ref f43)=true)(lT43:K.lookup T43=some ⟨ocT43,odT43,.seq #[.int 0 tkA,.int 40 tkB] nT43,slT43⟩)(m44:aM K CA "__init__" f44)(u44:aU K f44 oc44 od44 "__init__" "Asking.__init__" cC kV44 dc44 pm44 an44 cd44 ct44 sl44)(m45:aM K CA "asked" f45)(u45:aU K f45 oc45 od45 "asked" "Asking.asked" Qf kV45 dc45 pm45 an45 cd45 ct45 sl45)(m46:aM K CA "entered" f46)(u46:aU K f46 oc46 od46 "entered" "Asking.entered" Ll kV46 dc46 pm46 an46 cd46 ct46 sl46)(m47:aM K CA "behind" f47)(u47:aU K f47 oc47 od47 "behind" "Asking.behind" Oh kV47 dc47 pm47 an47 cd47 ct47 sl47)(m50:aM K CA "tried" f50)(u50:aU K f50 oc50 od50 "tried" "Asking.tried" Pc kV50 dc50 pm50 an50 cd50 ct50 sl50)(m48:aM K CL "__init__" f48)(u48:aU K f48 oc48 od48 "__init__" "Tally.__init__" Zy kV48 dc48 pm48 an48 cd48 ct48 sl48)(m51:aM K CL "enter" f51)(u51:aU K f51 oc51 od51 "enter" "Tally.enter" Zc kV51 dc51 pm51 an51 cd51 ct51 sl51)(m52:aM K CL "take_back" f52)(u52:aU K f52 oc52 od52 "take_back" "Tally.take_back" mU kV52 dc52 pm52 an52 cd52 ct52 sl52)(a60:aN K "_law_founded" f60)(u60:aU K f60 oc60 od60 "_law_founded" "_law_founded" Ej kV60 dc60 pm60 an60 cd60 ct60 sl60)(a61:aN K "_law_mixed" f61)(u61:aU K f61 oc61 od61 "_law_mixed" "_law_mixed" Zo kV61 dc61 pm61 an61 cd61 ct61 sl61)(a62:aN K "_law_step_by" f62)(u62:aU K f62 oc62 od62 "_law_step_by" "_law_step_by" He kV62 dc62 pm62 an62 cd62 ct62 sl62)(a63:aN K "_law_body_by" f63)(u63:aU K f63 oc63 od63 "_law_body_by" "_law_body_by" Oa kV63 dc63 pm63 an63 cd63 ct63 sl63)(a64:aN K "_law_taught" f64)(u64:aU K f64 oc64 od64 "_law_taught" "_law_taught" Vl kV64 dc64 pm64 an64 cd64 ct64 sl64)(a80:aN K "left_out" f80)(u80:aU K f80 oc80 od80 "left_out" "left_out" Pe kV80 dc80 pm80 an80 cd80 ct80 sl80)(a81:aN K "row_of" f81)(u81:aU K f81 oc81 od81 "row_of" "row_of" Vx kV81 dc81 pm81 an81 cd81 ct81 sl81)(a82:aN K "without_elders" f82)(u82:aU K f82 oc82 od82 "without_elders" "without_elders" pC kV82 dc82 pm82 an82 cd82 ct82 sl82)(a83:aN K "way" f83)(u83:aU K f83 oc83 od83 "way" "way" xY kV83 dc83 pm83 an83 cd83 ct83 sl83)(a84:aN K "told_ahead" f84)(u84:aU K f84 oc84 od84 "told_ahead" "told_ahead" Nn kV84 dc84 pm84 an84 cd84 ct84 sl84)(a85:aN K "tell_end" f85)(u85:aU K f85 oc85 od85 "tell_end" "tell_end" Qv kV85 dc85 pm85 an85 cd85 ct85 sl85)(a86:aN K "end_of_row" f86)(u86:aU K f86 oc86 od86 "end_of_row" "end_of_row" Ik kV86 dc86 pm86 an86 cd86 ct86 sl86)(a87:aN K "end_behind" f87)(u87:aU K f87 oc87 od87 "end_behind" "end_behind" Iq kV87 dc87 pm87 an87 cd87 ct87 sl87)(a88:aN K "end_of_step" f88)(u88:aU K f88 oc88 od88 "end_of_step" "end_of_step" Fk kV88 dc88 pm88 an88 cd88 ct88 sl88)(a89:aN K "end_of_either" f89)(u89:aU K f89 oc89 od89 "end_of_either" "end_of_either" Iv kV89 dc89 pm89 an89 cd89 ct89 sl89)(a90:aN K "_law_comes" f90)(u90:aU K f90 oc90 od90 "_law_comes" "_law_comes" Zi kV90 dc90 pm90 an90 cd90 ct90 sl90)(a91:aN K "_law_right" f91)(u91:aU K f91 oc91 od91 "_law_right" "_law_right" cN kV91 dc91 pm91 an91 cd91 ct91 sl91)(z1:nsIn K LC "len" = some none)(z2:nsIn K LC "zip" = some none)(z3:nsIn K LC "enumerate" = some none)(z4:nsIn K LC "any" = some none)(z5:nsIn K LC "range" = some none)(z6:nsIn K LC "isinstance" = some none)(z7:nsIn K LC "list" = some none)(z8:nsIn K LC "str" = some none)(z9:nsIn K LC "all" = some none)(z10:nsIn K LC "reversed" = some none)(z11:nsIn K LC "set" = some none)(z12:nsIn K LC "tuple" = some none)(z13:nsIn K LC "int" = some none)(z14:nsIn K LC "bool" = some none)(z15:nsIn K LC "ValueError" = some none)(gP:nsIn K LC "PARTS" = some (some (.ref aP)))(aXO:nsIn K LC "AtOdds" = some (some (.ref CO)))(aXU:nsIn K LC "Unanswered" = some (some (.ref CU)))(aXS:nsIn K LC "Spent" = some (some (.ref CS)))(zab:nsIn K LC "abs" = some none)(zdi:nsIn K LC "dict" = some none)(gN:nsIn K LC "NEVER" = some (some (.ref aV)))(aE:nsIn K LC "BookError" = some (some (.ref CE)))(lP:K.lookup aP=some ⟨.type "dict", none,.dict esP epP,#[]⟩)(hes:esP.toList=[⟨MZ w.params "say", .str "say" t0,.ref p0⟩,⟨MZ w.params "put", .str "put" t1,.ref p1⟩,⟨MZ w.params "plus", .str "plus" t2,.ref p2⟩,⟨MZ w.params "times", .str "times" t3,.ref p3⟩,⟨MZ w.params "both", .str "both" t4,.ref p4⟩,⟨MZ w.params "any", .str "any" t5,.ref p5⟩,⟨MZ w.params "odd", .str "odd" t6,.ref p6⟩,⟨MZ w.params "over", .str "over" t7,.ref p7⟩,⟨MZ w.params "part", .str "part" t8,.ref p8⟩,⟨MZ w.params "up", .str "up" t9,.ref p9⟩,⟨MZ w.params "down", .str "down" t10,.ref p10⟩,⟨MZ w.params "onwards", .str "onwards" t11,.ref p11⟩,⟨MZ w.params "ask", .str "ask" t12,.ref p12⟩,⟨MZ w.params "try", .str "try" t13,.ref p13⟩])(smP:(aP == OE)=false)(q0:K.lookup p0=some ⟨.type "tuple", oq0,.seq #[] nq0,sq0⟩)(q1:K.lookup p1=some ⟨.type "tuple", oq1,.seq #[.str "amount" u1_0] nq1,sq1⟩)(q2:K.lookup p2=some ⟨.type "tuple", oq2,.seq #[.str "amount" u2_0] nq2,sq2⟩)(q3:K.lookup p3=some ⟨.type "tuple", oq3,.seq #[.str "amount" u3_0] nq3,sq3⟩)(q4:K.lookup p4=some ⟨.type "tuple", oq4,.seq #[.str "amount" u4_0] nq4,sq4⟩)(q5:K.lookup p5=some ⟨.type "tuple", oq5,.seq #[.str "amount" u5_0] nq5,sq5⟩)(q6:K.lookup p6=some ⟨.type "tuple", oq6,.seq #[.str "amount" u6_0] nq6,sq6⟩)(q7:K.lookup p7=some ⟨.type "tuple", oq7,.seq #[.str "divisor" u7_0] nq7,sq7⟩)(q8:K.lookup p8=some ⟨.type "tuple", oq8,.seq #[.str "divisor" u8_0] nq8,sq8⟩)(q9:K.lookup p9=some ⟨.type "tuple", oq9,.seq #[.str "shift" u9_0] nq9,sq9⟩)(q10:K.lookup p10=some ⟨.type "tuple", oq10,.seq #[.str "shift" u10_0] nq10,sq10⟩)(q11:K.lookup p11=some ⟨.type "tuple", oq11,.seq #[] nq11,sq11⟩)(q12:K.lookup p12=some ⟨.type "tuple", oq12,.seq #[.str "word" u12_0] nq12,sq12⟩)(q13:K.lookup p13=some ⟨.type "tuple", oq13,.seq #[.str "word" u13_0,.str "word" u13_1] nq13,sq13⟩)(lXO:K.lookup CO=some (excClassObj nmO qnO CO NO bsO bmO hdctO snO subO abO colO ddO y0O y1O y2O y3O y5O "ValueError.__new__"))(kXO:keepIn K (.ref CO)=true)(hbmO:bmO=.ref CE::Nu)(lXU:K.lookup CU=some (excClassObj nmU qnU CU NU bsU bmU hdctU snU subU abU colU ddU y0U y1U y2U y3U y5U "ValueError.__new__"))(kXU:keepIn K (.ref CU)=true)(hbmU:bmU=.ref CE::Nu)(ixU:RU K (.ref CU) "__init__" = some (some (.builtin "ValueError.__init__")))(lXS:K.lookup CS=some (excClassObj nmS qnS CS NS bsS bmS hdctS snS subS abS colS ddS y0S y1S y2S y3S y5S "ValueError.__new__"))(kXS:keepIn K (.ref CS)=true)(hbmS:bmS=.ref CE::Nu)(ixS:RU K (.ref CS) "__init__" = some (some (.builtin "ValueError.__init__")))(csO:isClsIn K CO=true)(tyO:typeIn K (.ref CO)=some (.type "type"))(beO:subIn K (.ref CO) (.type "BaseException")=some true)(sOO:subIn K (.ref CO) (.ref CO)=some true)(csU:isClsIn K CU=true)(tyU:typeIn K (.ref CU)=some (.type "type"))(beU:subIn K (.ref CU) (.type "BaseException")=some true)(sUU:subIn K (.ref CU) (.ref CU)=some true)(csS:isClsIn K CS=true)(tyS:typeIn K (.ref CS)=some (.type "type"))(beS:subIn K (.ref CS) (.type "BaseException")=some true)(sSS:subIn K (.ref CS) (.ref CS)=some true)(sSU:subIn K (.ref CS) (.ref CU)=some false)(lB:K.lookup CE=some ⟨ocB,odB,.cls cdB,slB⟩)(hB:cdB.ns=NB)(lN:K.lookup NB=some ⟨ocN,odN,.dict esN epN,slN⟩)(uN:To esN.toList=true)(iN:nsIn K NB "__init__" = some none)(iC:RU K (.ref CO) "__init__" = some (some (.ref f99)))(nC:isFn K (.ref f99)=true)(l99:K.lookup f99=some ⟨oc99,od99,.func (fnOf "__init__" "AtOdds.__init__" (Dw Pb) (Bg Pb) (Ad Pb) .none kV99 dc99 pm99 an99 cd99 ct99),sl99⟩)(c99:codeIn K cd99 "AtOdds.__init__" = true)(k99:keepIn K (.ref f99)=true)(x1:RU K (.ref CO) "__setattr__" = some (some (.builtin "object.__setattr__")))(x2:RU K (.ref CO) "ring" = some none)(x3:hasDictIn K CO=true)(g1O:RU K (.ref CO) "__getattribute__" = some (some (.builtin "BaseException.__getattribute__")))(g2O:RU K (.ref CO) "__getattr__" = some none)(g3O:mroIn K CO (.type "BaseException")=some true)(lN2:K.lookup aV=some ⟨.type "tuple", oqN,.seq #[.str "never" tkN,.int 0 tkM] nqN,sqN⟩):
 ∃fd:LB,(∀(s:JH)(v:JD),BindsTo s fd ⟨[v],[]⟩ [("_law_script", v)])/\∀base:MQ,K.In base->base.Ns LC mg->Al l.prog w K mg base Jd 171 fa fd ["_law_script"] (eJ K):=by
 have e:=hfa.symm.trans (NT X G a11)
 cases e
 have Tx:Txt mg:=⟨OH X G z1,OH X G z2,OH X G z3,OH X G z4,OH X G z5,OH X G z6,OH X G z7,OH X G z8,OH X G z9,OH X G z10,OH X G z11,OH X G z12,OH X G z13,OH X G z14,OH X G z15⟩
 have F1:=Bl u1
 have b1:=F1.binds (ps:=["rows","labels"]) λ_ _ _ _ _ _ us hl=>match us,hl with | [_,_],_=>rfl
 have F2:=Bl u2
 have b2:=F2.binds (ps:=["rows"]) λ_ _ _ _ _ _ us hl=>match us,hl with | [_],_=>rfl
 have F3:=Bl u3
 have b3:=F3.binds (ps:=["rows","starts","behind"]) λ_ _ _ _ _ _ us hl=>match us,hl with | [_,_,_],_=>rfl
 have F4:=Bl u4
 have b4:=F4.binds (ps:=["name","rows","starts","behind"]) λ_ _ _ _ _ _ us hl=>match us,hl with | [_,_,_,_],_=>rfl
 have F5:=Bl u5
 have b5:=F5.binds (ps:=["name","elders","orders"]) λ_ _ _ _ _ _ us hl=>match us,hl with | [_,_,_],_=>rfl
 have F6:=Bl u6
 have b6:=F6.binds (ps:=["value"]) λ_ _ _ _ _ _ us hl=>match us,hl with | [_],_=>rfl
 have F7:=Bl u7
 have b7:=F7.binds (ps:=["_law_script","_law_k"]) λ_ _ _ _ _ _ us hl=>match us,hl with | [_,_],_=>rfl
 have F8:=Bl u8
 have b8:=F8.binds (ps:=["_law_k","_law_cell"]) λ_ _ _ _ _ _ us hl=>match us,hl with | [_,_],_=>rfl
 have F11:=Bl u11
 have F12:=Bl u12
 have b12:=F12.binds (ps:=["self","elder_row","order_row"]) λ_ _ _ _ _ _ us hl=>match us,hl with | [_,_,_],_=>rfl
 have F13:=Bl u13
 have b13:=F13.binds (ps:=["self"]) λ_ _ _ _ _ _ us hl=>match us,hl with | [_],_=>rfl
 have F14:=hJ (st:=Ii) l14 c14 k14
 have b14_3:=F14.binds (ps:=["self","name","elders"]) (ds:=[]) lT14 rfl 3 rfl λ_ _ _ _ _ _ us hl=>match us,hl with | [_,_,_],_=>⟨_,rfl,rfl⟩
 have F16:=Bl u16
 have b16:=F16.binds (ps:=["self","name"]) λ_ _ _ _ _ _ us hl=>match us,hl with | [_,_],_=>rfl
 have F18:=Bl u18
 have b18:=F18.binds (ps:=["self","name"]) λ_ _ _ _ _ _ us hl=>match us,hl with | [_,_],_=>rfl
 have F19:=Bl u19
 have b19:=F19.binds (ps:=["value","least","most"]) λ_ _ _ _ _ _ us hl=>match us,hl with | [_,_,_],_=>rfl
 have F20:=Bl u20
 have b20:=F20.binds (ps:=["value"]) λ_ _ _ _ _ _ us hl=>match us,hl with | [_],_=>rfl
 have F21:=Bl u21
 have b21:=F21.binds (ps:=["value"]) λ_ _ _ _ _ _ us hl=>match us,hl with | [_],_=>rfl
 have F22:=Bl u22
 have b22:=F22.binds (ps:=["value"]) λ_ _ _ _ _ _ us hl=>match us,hl with | [_],_=>rfl
 have F23:=Bl u23
 have b23:=F23.binds (ps:=["part","kind"]) λ_ _ _ _ _ _ us hl=>match us,hl with | [_,_],_=>rfl
 have F26:=Bl u26
 have b26:=F26.binds (ps:=["self","name","word","body"]) λ_ _ _ _ _ _ us hl=>match us,hl with | [_,_,_,_],_=>rfl
 have F29:=Bl u29
 have b29:=F29.binds (ps:=["self","name"]) λ_ _ _ _ _ _ us hl=>match us,hl with | [_,_],_=>rfl
 have F28:=Bl u28
 have b28:=F28.binds (ps:=["self","name","word"]) λ_ _ _ _ _ _ us hl=>match us,hl with | [_,_,_],_=>rfl
 have F30:=Bl u30
 have b30:=F30.binds (ps:=["rests","labels"]) λ_ _ _ _ _ _ us hl=>match us,hl with | [_,_],_=>rfl
 have F31:=Bl u31
 have b31:=F31.binds (ps:=["rests"]) λ_ _ _ _ _ _ us hl=>match us,hl with | [_],_=>rfl
 have F32:=Bl u32
 have b32:=F32.binds (ps:=["name","rests","labels"]) λ_ _ _ _ _ _ us hl=>match us,hl with | [_,_,_],_=>rfl
 have F40:=Bl u40
 have b40:=F40.binds (ps:=["number","count"]) λ_ _ _ _ _ _ us hl=>match us,hl with | [_,_],_=>rfl
 have F41:=Bl u41
 have b41:=F41.binds (ps:=["step","number","said"]) λ_ _ _ _ _ _ us hl=>match us,hl with | [_,_,_],_=>rfl
 have F42:=Bl u42
 have b42:=F42.binds (ps:=["number","sort","amount"]) λ_ _ _ _ _ _ us hl=>match us,hl with | [_,_,_],_=>rfl
 have F43:=hJ (st:=Gi) l43 c43 k43
 have b43_4:=F43.binds (ps:=["book","name","word","number","count"]) (ds:=[.int 40 tkB]) lT43 rfl 4 rfl λ_ _ _ _ _ _ us hl=>match us,hl with | [_,_,_,_],_=>⟨_,rfl,rfl⟩
 have b43_5:=F43.binds (ps:=["book","name","word","number","count"]) (ds:=[]) lT43 rfl 5 rfl λ_ _ _ _ _ _ us hl=>match us,hl with | [_,_,_,_,_],_=>⟨_,rfl,rfl⟩
 have F44:=Bl u44
 have b44:=F44.binds (ps:=["self","book","row","tally"]) λ_ _ _ _ _ _ us hl=>match us,hl with | [_,_,_,_],_=>rfl
 have F45:=Bl u45
 have b45:=F45.binds (ps:=["self","word","place","number"]) λ_ _ _ _ _ _ us hl=>match us,hl with | [_,_,_,_],_=>rfl
 have F46:=Bl u46
 have b46:=F46.binds (ps:=["self","body","word","index","number"]) λ_ _ _ _ _ _ us hl=>match us,hl with | [_,_,_,_,_],_=>rfl
 have F47:=Bl u47
 have b47:=F47.binds (ps:=["self","step","word","index","number"]) λ_ _ _ _ _ _ us hl=>match us,hl with | [_,_,_,_,_],_=>rfl
 have F50:=Bl u50
 have b50:=F50.binds (ps:=["self","word","other","number"]) λ_ _ _ _ _ _ us hl=>match us,hl with | [_,_,_,_],_=>rfl
 have F48:=Bl u48
 have b48:=F48.binds (ps:=["self","left"]) λ_ _ _ _ _ _ us hl=>match us,hl with | [_,_],_=>rfl
 have F51:=Bl u51
 have b51:=F51.binds (ps:=["self"]) λ_ _ _ _ _ _ us hl=>match us,hl with | [_],_=>rfl
 have F52:=Bl u52
 have b52:=F52.binds (ps:=["self","length"]) λ_ _ _ _ _ _ us hl=>match us,hl with | [_,_],_=>rfl
 have F60:=Bl u60
 have b60:=F60.binds (ps:=["_law_book","_law_names","_law_name","_law_cell"]) λ_ _ _ _ _ _ us hl=>match us,hl with | [_,_,_,_],_=>rfl
 have F61:=Bl u61
 have b61:=F61.binds (ps:=["_law_cell","_law_k"]) λ_ _ _ _ _ _ us hl=>match us,hl with | [_,_],_=>rfl
 have F62:=Bl u62
 have b62:=F62.binds (ps:=["_law_words","_law_first","_law_mixed_here"]) λ_ _ _ _ _ _ us hl=>match us,hl with | [_,_,_],_=>rfl
 have F63:=Bl u63
 have b63:=F63.binds (ps:=["_law_words","_law_first","_law_cell"]) λ_ _ _ _ _ _ us hl=>match us,hl with | [_,_,_],_=>rfl
 have F64:=Bl u64
 have b64:=F64.binds (ps:=["_law_book","_law_names","_law_words","_law_seed"]) λ_ _ _ _ _ _ us hl=>match us,hl with | [_,_,_,_],_=>rfl
 have F80:=Bl u80
 have b80:=F80.binds (ps:=["book","name"]) λ_ _ _ _ _ _ us hl=>match us,hl with | [_,_],_=>rfl
 have F81:=Bl u81
 have b81:=F81.binds (ps:=["body","onwards","ladders"]) λ_ _ _ _ _ _ us hl=>match us,hl with | [_,_,_],_=>rfl
 have F82:=Bl u82
 have b82:=F82.binds (ps:=["step","onwards","ladders"]) λ_ _ _ _ _ _ us hl=>match us,hl with | [_,_,_],_=>rfl
 have F83:=Bl u83
 have b83:=F83.binds (ps:=["ladders","word","rung"]) λ_ _ _ _ _ _ us hl=>match us,hl with | [_,_,_],_=>rfl
 have F84:=Bl u84
 have b84:=F84.binds (ps:=["rows"]) λ_ _ _ _ _ _ us hl=>match us,hl with | [_],_=>rfl
 have F85:=Bl u85
 have b85:=F85.binds (ps:=["place","rows","ends"]) λ_ _ _ _ _ _ us hl=>match us,hl with | [_,_,_],_=>rfl
 have F86:=Bl u86
 have b86:=F86.binds (ps:=["row","ends"]) λ_ _ _ _ _ _ us hl=>match us,hl with | [_,_],_=>rfl
 have F87:=Bl u87
 have b87:=F87.binds (ps:=["count","last"]) λ_ _ _ _ _ _ us hl=>match us,hl with | [_,_],_=>rfl
 have F88:=Bl u88
 have b88:=F88.binds (ps:=["step","ends"]) λ_ _ _ _ _ _ us hl=>match us,hl with | [_,_],_=>rfl
 have F89:=Bl u89
 have b89:=F89.binds (ps:=["one","other","ends"]) λ_ _ _ _ _ _ us hl=>match us,hl with | [_,_,_],_=>rfl
 have F90:=Bl u90
 have b90:=F90.binds (ps:=["_law_book","_law_name","_law_word","_law_number","_law_count"]) λ_ _ _ _ _ _ us hl=>match us,hl with | [_,_,_,_,_],_=>rfl
 have F91:=Bl u91
 have b91:=F91.binds (ps:=["_law_book","_law_name","_law_word","_law_number","_law_end"]) λ_ _ _ _ _ _ us hl=>match us,hl with | [_,_,_,_,_],_=>rfl
 have T:Gz K mg CB CH:=⟨⟨pkB.1,pkB.2.1,pkB.2.2.1,pkB.2.2.2.1⟩,⟨pkH.1,pkH.2.1,pkH.2.2.1,pkH.2.2.2.1⟩,nB_by_name,nH_elder_row,nH_order_row,nH_bodies,NT X G aCB,NT X G aCH⟩
 have TA:Xk K mg CA:=⟨⟨pkA.1,pkA.2.1,pkA.2.2.1,pkA.2.2.2.1⟩,nA_book,nA_row,nA_tally,NT X G aCA⟩
 have TT:Vb K mg CL:=⟨⟨pkL.1,pkL.2.1,pkL.2.2.1,pkL.2.2.2.1⟩,nL_left,nL_said,NT X G aCL⟩
 have F99:=oG (st:=Pb) l99 c99 k99
 have b99:=F99.binds (ps:=["self","ring"]) λ_ _ _ _ _ _ us hl=>match us,hl with | [_,_],_=>rfl
 have Tb:Tab l.prog w K aP (BI p0 p1 p2 p3 p4 p5 p6 p7 p8 p9 p10 p11 p12 p13):=by
  refine⟨uS [(("say" : Str),t0,p0),(("put" : Str),t1,p1),(("plus" : Str),t2,p2),(("times" : Str),t3,p3),(("both" : Str),t4,p4),(("any" : Str),t5,p5),(("odd" : Str),t6,p6),(("over" : Str),t7,p7),(("part" : Str),t8,p8),(("up" : Str),t9,p9),(("down" : Str),t10,p10),(("onwards" : Str),t11,p11),(("ask" : Str),t12,p12),(("try" : Str),t13,p13)] lP hes (show ([("say" : Str),("put" : Str),("plus" : Str),("times" : Str),("both" : Str),("any" : Str),("odd" : Str),("over" : Str),("part" : Str),("up" : Str),("down" : Str),("onwards" : Str),("ask" : Str),("try" : Str)]:List Str).Nodup by decide +kernel) smP,λp hp H=>?_⟩
  simp only[BI,JP,KG,or_false] at hp
  rcases hp with rfl | rfl | rfl | rfl | rfl | rfl | rfl | rfl | rfl | rfl | rfl | rfl | rfl | rfl
  ·exact Es q0 .nil (by show 0<=JM;decide)
  ·exact Es q1 (.cons ⟨_,rfl⟩ .nil) (by show 1<=JM;decide)
  ·exact Es q2 (.cons ⟨_,rfl⟩ .nil) (by show 1<=JM;decide)
  ·exact Es q3 (.cons ⟨_,rfl⟩ .nil) (by show 1<=JM;decide)
  ·exact Es q4 (.cons ⟨_,rfl⟩ .nil) (by show 1<=JM;decide)
  ·exact Es q5 (.cons ⟨_,rfl⟩ .nil) (by show 1<=JM;decide)
  ·exact Es q6 (.cons ⟨_,rfl⟩ .nil) (by show 1<=JM;decide)
  ·exact Es q7 (.cons ⟨_,rfl⟩ .nil) (by show 1<=JM;decide)
  ·exact Es q8 (.cons ⟨_,rfl⟩ .nil) (by show 1<=JM;decide)
  ·exact Es q9 (.cons ⟨_,rfl⟩ .nil) (by show 1<=JM;decide)
  ·exact Es q10 (.cons ⟨_,rfl⟩ .nil) (by show 1<=JM;decide)
  ·exact Es q11 .nil (by show 0<=JM;decide)
  ·exact Es q12 (.cons ⟨_,rfl⟩ .nil) (by show 1<=JM;decide)
  ·exact Es q13 (.cons ⟨_,rfl⟩ (.cons ⟨_,rfl⟩ .nil)) (by show 2<=JM;decide)
 have Tp:aL (BI p0 p1 p2 p3 p4 p5 p6 p7 p8 p9 p10 p11 p12 p13):=⟨λkd h=>by
  simp only[JP,KG,or_false] at h
  rcases h with rfl | rfl
  ·exact⟨p0,rfl⟩
  ·exact⟨p11,rfl⟩,λkd h=>by
  simp only[JP,KG,or_false] at h
  rcases h with rfl | rfl | rfl | rfl | rfl | rfl
  ·exact⟨p1,rfl⟩
  ·exact⟨p2,rfl⟩
  ·exact⟨p3,rfl⟩
  ·exact⟨p4,rfl⟩
  ·exact⟨p5,rfl⟩
  ·exact⟨p6,rfl⟩,λkd h=>by
  simp only[JP,KG,or_false] at h
  rcases h with rfl | rfl
  ·exact⟨p7,rfl⟩
  ·exact⟨p8,rfl⟩,λkd h=>by
  simp only[JP,KG,or_false] at h
  rcases h with rfl | rfl
  ·exact⟨p9,rfl⟩
  ·exact⟨p10,rfl⟩,⟨p12,rfl⟩,⟨p13,rfl⟩⟩
 subst hB
 have bE:(JV CE::Nu).contains (.type "BaseException")=true:=by rw[List.contains_cons,show Nu.contains (.type "BaseException")=true by decide +kernel,Bool.or_true]
 subst hbmO
 have exO:Ku K CO (.ref CE::Nu):=by
  refine⟨⟨nmO,qnO,NO,bsO,hdctO,snO,subO,abO,colO,ddO,y0O,y1O,y2O,y3O,y5O,lXO⟩,λh' X'=>?_,kXO⟩
  exact .own (X' CE _ lB) (Sb X' lN uN) (ns_none_of X' (Sb X' lN uN) iN) .base
 subst hbmU
 have exU:Ku K CU (.ref CE::Nu):=by
  refine⟨⟨nmU,qnU,NU,bsU,hdctU,snU,subU,abU,colU,ddU,y0U,y1U,y2U,y3U,y5U,lXU⟩,λh' X'=>?_,kXU⟩
  exact .own (X' CE _ lB) (Sb X' lN uN) (ns_none_of X' (Sb X' lN uN) iN) .base
 subst hbmS
 have exS:Ku K CS (.ref CE::Nu):=by
  refine⟨⟨nmS,qnS,NS,bsS,hdctS,snS,subS,abS,colS,ddS,y0S,y1S,y2S,y3S,y5S,lXS⟩,λh' X'=>?_,kXS⟩
  exact .own (X' CE _ lB) (Sb X' lN uN) (ns_none_of X' (Sb X' lN uN) iN) .base
 have hf:wC K CO "ring" := ⟨x1,x2,x3,g1O,g2O,g3O⟩
 have CX:Zv K mg CU CS (.ref CE::Nu) (.ref CE::Nu):=⟨exU,bE,ixU,NT X G aXU,exS,bE,ixS,NT X G aXS,Ux csU tyU beU sUU,Ux csU tyU beU sSU⟩
 have GF4:We l.prog w K mg 4 f14 _ ["self","name","elders"] (Oj CB CH):=λbase _ _=>by
  have GM:Al l.prog w K mg base Bi 2 f1 _ ["rows","labels"] Pz:=iU F1 Tx F2 b2 (NT X G a2) F3 b3 (NT X G a3) F4 b4 (NT X G a4)
  have G5:Al l.prog w K mg base Bi 3 f5 _ ["name","elders","orders"] Zb:=sW F5 Tx GM u1.2.2 b1 (NT X G a1)
  have G6:Al l.prog w K mg base Bi 1 f6 _ ["value"] Gk:=Sd F6 Tx
  have G12:Al l.prog w K mg base Bi 1 f12 _ ["self","elder_row","order_row"] (Kw CH):=Yj F12 T
  have G18:Al l.prog w K mg base Bi 1 f18 _ ["self","name"] (Iy CB CH):=Xm F18 T
  have G16:Al l.prog w K mg base Bi 2 f16 _ ["self","name"] (Ig CB CH):=Yi F16 T Tx G18 b18 ⟨m18.1,m18.2,u18.2.2⟩
  exact qL F14 T Tx G16 b16 ⟨m16.1,m16.2,u16.2.2⟩ G6 u6.2.2 b6 (NT X G a6) G5 u5.2.2 b5 (NT X G a5) G12 b12 ⟨pkH.2.2.2.2.1,m12.1,m12.2,pkH.2.2.2.2.2⟩
 refine⟨fnOf "law" "law" (Dw Fq) (Bg Fq) (Ad Fq) .none kV11 dc11 pm11 an11 cd11 ct11,λs v=>.of_eq rfl,λbase _ _=>?_⟩
 have G30:Al l.prog w K mg base Jd 2 f30 _ ["rests","labels"] Zr:=vE F30 Tx F31 b31 (NT X G a31) F32 b32 (NT X G a32)
 have GM:Al l.prog w K mg base (Gp l.prog w) 3 f1 _ ["rows","labels"] (Mw CO):=aC F1 Tx F2 b2 (NT X G a2) F3 b3 (NT X G a3) F4 b4 (NT X G a4) G30 u30.2.2 b30 (NT X G a30) F99 b99 (NT X G aXO) exO hf bE iC nC
 have G5:Al l.prog w K mg base (Gp l.prog w) 4 f5 _ ["name","elders","orders"] (Vm CO):=oN F5 Tx GM u1.2.2 b1 (NT X G a1)
 have G6:Al l.prog w K mg base Bi 1 f6 _ ["value"] Gk:=Sd F6 Tx
 have G12:Al l.prog w K mg base Bi 1 f12 _ ["self","elder_row","order_row"] (Kw CH):=Yj F12 T
 have G13:Al l.prog w K mg base Bi 1 f13 _ ["self"] (Ve CB):=qH F13 T
 have G18:Al l.prog w K mg base Bi 1 f18 _ ["self","name"] (Iy CB CH):=Xm F18 T
 have G16:Al l.prog w K mg base Bi 2 f16 _ ["self","name"] (Ig CB CH):=Yi F16 T Tx G18 b18 ⟨m18.1,m18.2,u18.2.2⟩
 have G14:Al l.prog w K mg base (Gp l.prog w) 5 f14 _ ["self","name","elders"] (Ly CB CH CO):=iT F14 T Tx G16 b16 ⟨m16.1,m16.2,u16.2.2⟩ G6 u6.2.2 b6 (NT X G a6) G5 u5.2.2 b5 (NT X G a5) G12 b12 ⟨pkH.2.2.2.2.1,m12.1,m12.2,pkH.2.2.2.2.2⟩
 have G7:Al l.prog w K mg base Bi 1 f7 _ ["_law_script","_law_k"] (Mx K):=sK F7 Tx
 have G8:Al l.prog w K mg base Bi 1 f8 _ ["_law_k","_law_cell"] Qi:=sG F8 Tx
 have G19:Al l.prog w K mg base Bi 1 f19 _ ["value","least","most"] Lq:=nS F19 Tx
 have G20:Al l.prog w K mg base Bi 2 f20 _ ["value"] Mb:=jG F20 Tx G19 u19.2.2 b19 (NT X G a19)
 have G23:Al l.prog w K mg base Bi 3 f23 _ ["part","kind"] cT:=uV F23 Tx G19 u19.2.2 b19 (NT X G a19) G20 u20.2.2 b20 (NT X G a20) G6 u6.2.2 b6 (NT X G a6)
 have G22:Al l.prog w K mg base Bi 4 f22 _ ["value"] (cJ K (BI p0 p1 p2 p3 p4 p5 p6 p7 p8 p9 p10 p11 p12 p13)):=tG F22 Tx Tb (NT X G gP) G23 u23.2.2 b23 (NT X G a23)
 have G21:Al l.prog w K mg base Bi 5 f21 _ ["value"] (Pf (BI p0 p1 p2 p3 p4 p5 p6 p7 p8 p9 p10 p11 p12 p13)):=jD F21 Tx G22 u22.2.2 b22 (NT X G a22)
 have G26:Al l.prog w K mg base Bi 6 f26 _ ["self","name","word","body"] (La CB CH (BI p0 p1 p2 p3 p4 p5 p6 p7 p8 p9 p10 p11 p12 p13)):=pT F26 T Tx G18 b18 ⟨m18.1,m18.2,u18.2.2⟩ G6 u6.2.2 b6 (NT X G a6) G21 u21.2.2 b21 (NT X G a21)
 have G29:Al l.prog w K mg base Jd 2 f29 _ ["self","name"] (nA CB CH):=yS F29 T Tx G18 b18 ⟨m18.1,m18.2,u18.2.2⟩
 have G28:Al l.prog w K mg base Bi 2 f28 _ ["self","name","word"] (Qo CB CH):=uC F28 T Tx G18 b18 ⟨m18.1,m18.2,u18.2.2⟩
 have G40:Al l.prog w K mg base Bi 3 f40 _ ["number","count"] Tu:=oI F40 Tx G19 u19.2.2 b19 (NT X G a19) G20 u20.2.2 b20 (NT X G a20)
 have G42:Al l.prog w K mg base Bi 1 f42 _ ["number","sort","amount"] Mh:=cH F42 Tx
 have G41:Al l.prog w K mg base Bi 2 f41 _ ["step","number","said"] Uk:=uP F41 Tx G42 u42.2.2 b42 (NT X G a42)
 have G44:Al l.prog w K mg base Bi 1 f44 _ ["self","book","row","tally"] (Uy CA):=nR F44 TA
 have G48:Al l.prog w K mg base Bi 1 f48 _ ["self","left"] (Ua CL):=qD F48 TT
 have G51:Al l.prog w K mg base (Gp l.prog w) 1 f51 _ ["self"] (Ol CL CS):=oE F51 TT CX
 have G52:Ry l.prog w K mg base 1 f52 _ ["self","length"] (Vh CL):=tI F52 TT
 have G45:Al l.prog w K mg base (Gp l.prog w) (4 * 41+3) f45 _ ["self","word","place","number"] (Qz CA CL CB CH CU CS 41):=eR F45 b45 ⟨m45.1,m45.2,u45.2.2⟩ F46 b46 ⟨m46.1,m46.2,u46.2.2⟩ F47 b47 ⟨m47.1,m47.2,u47.2.2⟩ F50 b50 ⟨m50.1,m50.2,u50.2.2⟩ G52 b52 ⟨m52.1,m52.2,u52.2.2⟩ G51 b51 ⟨m51.1,m51.2,u51.2.2⟩ TA TT T Tx CX G41 u41.2.2 b41 (NT X G a41) G28 b28 ⟨m28.1,m28.2,u28.2.2⟩ 41
 have G43:Al l.prog w K mg base (Gp l.prog w) 168 f43 _ ["book","name","word","number","count"] (oH CB CH CU CS):=yX F43 TA TT T G16 b16 ⟨m16.1,m16.2,u16.2.2⟩ G40 u40.2.2 b40 (NT X G a40) G44 b44 ⟨pkA.2.2.2.2.1,m44.1,m44.2,pkA.2.2.2.2.2⟩ G48 b48 ⟨pkL.2.2.2.2.1,m48.1,m48.2,pkL.2.2.2.2.2⟩ G45 b45 ⟨m45.1,m45.2,u45.2.2⟩
 have G61:Al l.prog w K mg base Bi 1 f61 _ ["_law_cell","_law_k"] Ny:=nN F61
 have G62:Al l.prog w K mg base Bi 1 f62 _ ["_law_words","_law_first","_law_mixed_here"] Pw:=EC F62 Tx (OH X G zab)
 have G63:Al l.prog w K mg base Bi 3 f63 _ ["_law_words","_law_first","_law_cell"] Jf:=(DJ F63 Tx G61 u61.2.2 b61 (NT X G a61) G62 u62.2.2 b62 (NT X G a62)).mono (by decide)
 have G64:Al l.prog w K mg base Bi 7 f64 _ ["_law_book","_law_names","_law_words","_law_seed"] (Ke CB CH):=aG F64 T Tx Tp G61 u61.2.2 b61 (NT X G a61) G63 u63.2.2 b63 (NT X G a63) G26 b26 ⟨m26.1,m26.2,u26.2.2⟩
 have G60:Al l.prog w K mg base Jd 6 f60 _ ["_law_book","_law_names","_law_name","_law_cell"] (Ka CB CH):=Zg F60 T Tx (NT X G aXO) (Ux csO tyO beO sOO) G14 GF4 b14_3 ⟨m14.1,m14.2,k14⟩
 have Tx2:Ak.Txt mg:=⟨Tx.len,Tx.range,Tx.isi,Tx.list,Tx.str,Tx.all,Tx.tup,Tx.int,Tx.bool⟩
 have hN:∀H,Co K H aV [.str "never", .int 0]:=λH=>.inr ⟨_,_,_,lN2,rfl,rfl,by show 2<=JM;decide,.cons ⟨_,rfl⟩ (.cons ⟨_,rfl⟩ .nil)⟩
 have G87:Al l.prog w K mg base Bi 1 f87 _ ["count","last"] (Ak.spEB K):=Ak.ok_eb F87
 have G88:Al l.prog w K mg base Bi 1 f88 _ ["step","ends"] (Ak.spLd K):=Ak.ok_ld F88
 have G89:Al l.prog w K mg base Bi 2 f89 _ ["one","other","ends"] (Ak.spEi K):=Ak.ok_ei F89 G88 u88.2.2 b88 (NT X G a88) G87 u87.2.2 b87 (NT X G a87)
 have G88b:Al l.prog w K mg base Bi 3 f88 _ ["step","ends"] (Ak.spSE K):=Ak.ok_se F88 G88 G89 u89.2.2 b89 (NT X G a89)
 have G86:Al l.prog w K mg base Bi 4 f86 _ ["row","ends"] (Ak.spRE K):=Ak.ok_re F86 G88b u88.2.2 b88 (NT X G a88) G87 u87.2.2 b87 (NT X G a87)
 have G85:Al l.prog w K mg base Bi 5 f85 _ ["place","rows","ends"] (Ak.spTell K):=Ak.ok_te F85 G86 u86.2.2 b86 (NT X G a86) (NT X G gN) hN
 have G84:Al l.prog w K mg base Bi 6 f84 _ ["rows"] (Ak.spTold K):=Ak.ok_ta F84 Tx2 G85 u85.2.2 b85 (NT X G a85)
 have G83:Al l.prog w K mg base Bi 1 f83 _ ["ladders","word","rung"] eX:=yA F83 Tx
 have G82:Al l.prog w K mg base Bi 2 f82 _ ["step","onwards","ladders"] aO:=tK F82 G83 u83.2.2 b83 (NT X G a83)
 have G81:Al l.prog w K mg base Bi 3 f81 _ ["body","onwards","ladders"] Vn:=oW F81 G82 u82.2.2 b82 (NT X G a82)
 have G80:Al l.prog w K mg base Jd 4 f80 _ ["book","name"] (Vq CB CH):=sI F80 T Tx (OH X G zdi) G16 b16 ⟨m16.1,m16.2,u16.2.2⟩ G29 b29 ⟨m29.1,m29.2,u29.2.2⟩ G28 b28 ⟨m28.1,m28.2,u28.2.2⟩ G83 u83.2.2 b83 (NT X G a83) G81 u81.2.2 b81 (NT X G a81)
 have G90:Al l.prog w K mg base Jd 169 f90 _ ["_law_book","_law_name","_law_word","_law_number","_law_count"] (Tq CB CH):=qC F90 CX (Ux csS tyS beS sSS) G43 k43 b43_5 (NT X G a43)
 have G91:Al l.prog w K mg base Jd 170 f91 _ ["_law_book","_law_name","_law_word","_law_number","_law_end"] (Od K CB CH):=qI F91 Tx G90 u90.2.2 b90 (NT X G a90)
 exact zN F11 T Tx Tp G7 u7.2.2 b7 (NT X G a7) G80 u80.2.2 b80 (NT X G a80) G84 u84.2.2 b84 (NT X G a84) G91 u91.2.2 b91 (NT X G a91) G63 u63.2.2 b63 (NT X G a63) G26 b26 ⟨m26.1,m26.2,u26.2.2⟩ G8 u8.2.2 b8 (NT X G a8) G64 u64.2.2 b64 (NT X G a64) G60 u60.2.2 b60 (NT X G a60) G13 b13 ⟨pkB.2.2.2.2.1,m13.1,m13.2,pkB.2.2.2.2.2⟩
theorem walk{l:PySem.W.OpenLaw}{q:KC}{loose:List Str}{XP:(Str->Option JD)->MQ->Prop}{YP:LL->MQ->Prop}{d:DefRec}{K:Params->JC}(hn:l.most=some 63)(hdf:d.params.defaults=[])(hY:∀(w:LL)(h:MQ),YP w h->(K w.params).In h)(F:∀(w:LL)(mg:Str->Option JD)(fa:JK)(h:MQ),(K w.params).In h->h.Ns LC mg->mg d.name=some (.ref fa) ->
  ∃fd:LB,(∀(s:JH)(u:JD),BindsTo s fd ⟨[u],[]⟩ [("_law_script", u)])/\∀base:MQ,(K w.params).In base->base.Ns LC mg->Al l.prog w (K w.params) mg base Jd 171 fa fd ["_law_script"] (eJ (K w.params))):
 PySem.W.WalkO q loose XP YP l.row.toRowW d [] (λf vs=>PySem.call f vs):=
 L2.sR (n:=63) (k:=171) (x := "_law_script") (CX:=λ_=>Jd) (sp:=λw=>eJ (K w.params)) hn (by decide) hdf ⟨by decide,by decide⟩ hY F (λ_ _ a ns hl _ hS=>⟨a,ns,rfl,hS,hl,λ_=>rfl⟩) λ_ _ _ _ _ z=>z
end Bk
theorem PySem.W.Fast.tw12621899625743462168 : True := trivial
theorem PySem.W.Fast.tw3120629258010993146 : True := trivial
theorem PySem.W.Fast.tw872320755993640296 : True := trivial
theorem PySem.W.Fast.tw2896255638697077461 : True := trivial
theorem PySem.W.Fast.tw16963490663528116766 : True := trivial
theorem PySem.W.Fast.tw5123036214339114465 : True := trivial
theorem PySem.W.Fast.tw10535292527047486922 : True := trivial
theorem PySem.W.Fast.tw8030699985589636188 : True := trivial
theorem PySem.W.Fast.tw12083818805017906341 : True := trivial
theorem PySem.W.Fast.tw5702524476644392716 : True := trivial
theorem PySem.W.Fast.tw1779320608771397679 : True := trivial
theorem PySem.W.Fast.tw13621364516795305840 : True := trivial
theorem PySem.W.Fast.tw7371298928496573120 : True := trivial
theorem PySem.W.Fast.tw14515513271105325331 : True := trivial
theorem PySem.W.Fast.tw13392101905122845672 : True := trivial
theorem PySem.W.Fast.tw6898256954635806066 : True := trivial
theorem PySem.W.Fast.tw9506853479354605570 : True := trivial
theorem PySem.W.Fast.tw16768203846645645312 : True := trivial
theorem PySem.W.Fast.tw12537117855637971430 : True := trivial
theorem PySem.W.Fast.tw14103345993200375261 : True := trivial
theorem PySem.W.Fast.tw9368771031700132252 : True := trivial
theorem PySem.W.Fast.tw6919255933262243912 : True := trivial
theorem PySem.W.Fast.tw9744851344094535219 : True := trivial
theorem PySem.W.Fast.tw2734081157950412848 : True := trivial
open PySem PySem.W PyProof.Rows
set_option maxHeartbeats 0 in
theorem PySem.Challenge.cw_elderline_k16_whole_house_ahead_holds : PySem.Challenge.rw_elderline_k16_whole_house_ahead.Holds := by
  w_on; o_law; k_head; (case hw => w_witness2)
  k_fill
  refine Bk.walk (l := PySem.Challenge.rw_elderline_k16_whole_house_ahead) rfl rfl (fun w h Y => PySem.W.kIn_of Y) ?F
  case F =>
    intro w mg fa h KX G hmg
    refine' Bk.yT KX G hmg ?aCB ?pkB ?nB_by_name ?aCH ?pkH ?nH_elder_row ?nH_order_row ?nH_bodies ?aCA ?pkA ?nA_book ?nA_row ?nA_tally ?aCL ?pkL ?nL_left ?nL_said ?a1 ?u1 ?a2 ?u2 ?a3 ?u3 ?a4 ?u4 ?a5 ?u5 ?a6 ?u6 ?a7 ?u7 ?a8 ?u8 ?a11 ?u11 ?m12 ?u12 ?m13 ?u13 ?m14 ?l14 ?c14 ?k14 ?lT14 ?m16 ?u16 ?m18 ?u18 ?a19 ?u19 ?a20 ?u20 ?a21 ?u21 ?a22 ?u22 ?a23 ?u23 ?m26 ?u26 ?m29 ?u29 ?m28 ?u28 ?a30 ?u30 ?a31 ?u31 ?a32 ?u32 ?a40 ?u40 ?a41 ?u41 ?a42 ?u42 ?a43 ?l43 ?c43 ?k43 ?lT43 ?m44 ?u44 ?m45 ?u45 ?m46 ?u46 ?m47 ?u47 ?m50 ?u50 ?m48 ?u48 ?m51 ?u51 ?m52 ?u52 ?a60 ?u60 ?a61 ?u61 ?a62 ?u62 ?a63 ?u63 ?a64 ?u64 ?a80 ?u80 ?a81 ?u81 ?a82 ?u82 ?a83 ?u83 ?a84 ?u84 ?a85 ?u85 ?a86 ?u86 ?a87 ?u87 ?a88 ?u88 ?a89 ?u89 ?a90 ?u90 ?a91 ?u91 ?z1 ?z2 ?z3 ?z4 ?z5 ?z6 ?z7 ?z8 ?z9 ?z10 ?z11 ?z12 ?z13 ?z14 ?z15 ?gP ?aXO ?aXU ?aXS ?zab ?zdi ?gN ?aE ?lP ?hes ?smP ?q0 ?q1 ?q2 ?q3 ?q4 ?q5 ?q6 ?q7 ?q8 ?q9 ?q10 ?q11 ?q12 ?q13 ?lXO ?kXO ?hbmO ?lXU ?kXU ?hbmU ?ixU ?lXS ?kXS ?hbmS ?ixS ?csO ?tyO ?beO ?sOO ?csU ?tyU ?beU ?sUU ?csS ?tyS ?beS ?sSS ?sSU ?lB ?hB ?lN ?uN ?iN ?iC ?nC ?l99 ?c99 ?k99 ?x1 ?x2 ?x3 ?g1O ?g2O ?g3O ?lN2
    (case aCB => k_is)
    (case pkB => exact ⟨by k_is, by k_is, by k_is, by k_is, by k_is, by k_is⟩)
    (case nB_by_name | aCH => k_is)
    (case pkH => exact ⟨by k_is, by k_is, by k_is, by k_is, by k_is, by k_is⟩)
    (case nH_elder_row | nH_order_row | nH_bodies | aCA => k_is)
    (case pkA => exact ⟨by k_is, by k_is, by k_is, by k_is, by k_is, by k_is⟩)
    (case nA_book | nA_row | nA_tally | aCL => k_is)
    (case pkL => exact ⟨by k_is, by k_is, by k_is, by k_is, by k_is, by k_is⟩)
    (case nL_left | nL_said => k_is)
    (case a1 => show _ = _; k_is)
    (case u1 => exact ⟨by k_is, by k_is, by k_is⟩)
    (case a2 => show _ = _; k_is)
    (case u2 => exact ⟨by k_is, by k_is, by k_is⟩)
    (case a3 => show _ = _; k_is)
    (case u3 => exact ⟨by k_is, by k_is, by k_is⟩)
    (case a4 => show _ = _; k_is)
    (case u4 => exact ⟨by k_is, by k_is, by k_is⟩)
    (case a5 => show _ = _; k_is)
    (case u5 => exact ⟨by k_is, by k_is, by k_is⟩)
    (case a6 => show _ = _; k_is)
    (case u6 => exact ⟨by k_is, by k_is, by k_is⟩)
    (case a7 => show _ = _; k_is)
    (case u7 => exact ⟨by k_is, by k_is, by k_is⟩)
    (case a8 => show _ = _; k_is)
    (case u8 => exact ⟨by k_is, by k_is, by k_is⟩)
    (case a11 => show _ = _; k_is)
    (case u11 => exact ⟨by k_is, by k_is, by k_is⟩)
    (case m12 => exact ⟨by k_is, by k_is⟩)
    (case u12 => exact ⟨by k_is, by k_is, by k_is⟩)
    (case m13 => exact ⟨by k_is, by k_is⟩)
    (case u13 => exact ⟨by k_is, by k_is, by k_is⟩)
    (case m14 => exact ⟨by k_is, by k_is⟩)
    (case l14 | c14 | k14 | lT14 => k_is)
    (case m16 => exact ⟨by k_is, by k_is⟩)
    (case u16 => exact ⟨by k_is, by k_is, by k_is⟩)
    (case m18 => exact ⟨by k_is, by k_is⟩)
    (case u18 => exact ⟨by k_is, by k_is, by k_is⟩)
    (case a19 => show _ = _; k_is)
    (case u19 => exact ⟨by k_is, by k_is, by k_is⟩)
    (case a20 => show _ = _; k_is)
    (case u20 => exact ⟨by k_is, by k_is, by k_is⟩)
    (case a21 => show _ = _; k_is)
    (case u21 => exact ⟨by k_is, by k_is, by k_is⟩)
    (case a22 => show _ = _; k_is)
    (case u22 => exact ⟨by k_is, by k_is, by k_is⟩)
    (case a23 => show _ = _; k_is)
    (case u23 => exact ⟨by k_is, by k_is, by k_is⟩)
    (case m26 => exact ⟨by k_is, by k_is⟩)
    (case u26 => exact ⟨by k_is, by k_is, by k_is⟩)
    (case m29 => exact ⟨by k_is, by k_is⟩)
    (case u29 => exact ⟨by k_is, by k_is, by k_is⟩)
    (case m28 => exact ⟨by k_is, by k_is⟩)
    (case u28 => exact ⟨by k_is, by k_is, by k_is⟩)
    (case a30 => show _ = _; k_is)
    (case u30 => exact ⟨by k_is, by k_is, by k_is⟩)
    (case a31 => show _ = _; k_is)
    (case u31 => exact ⟨by k_is, by k_is, by k_is⟩)
    (case a32 => show _ = _; k_is)
    (case u32 => exact ⟨by k_is, by k_is, by k_is⟩)
    (case a40 => show _ = _; k_is)
    (case u40 => exact ⟨by k_is, by k_is, by k_is⟩)
    (case a41 => show _ = _; k_is)
    (case u41 => exact ⟨by k_is, by k_is, by k_is⟩)
    (case a42 => show _ = _; k_is)
    (case u42 => exact ⟨by k_is, by k_is, by k_is⟩)
    (case a43 => show _ = _; k_is)
    (case l43 | c43 | k43 | lT43 => k_is)
    (case m44 => exact ⟨by k_is, by k_is⟩)
    (case u44 => exact ⟨by k_is, by k_is, by k_is⟩)
    (case m45 => exact ⟨by k_is, by k_is⟩)
    (case u45 => exact ⟨by k_is, by k_is, by k_is⟩)
    (case m46 => exact ⟨by k_is, by k_is⟩)
    (case u46 => exact ⟨by k_is, by k_is, by k_is⟩)
    (case m47 => exact ⟨by k_is, by k_is⟩)
    (case u47 => exact ⟨by k_is, by k_is, by k_is⟩)
    (case m50 => exact ⟨by k_is, by k_is⟩)
    (case u50 => exact ⟨by k_is, by k_is, by k_is⟩)
    (case m48 => exact ⟨by k_is, by k_is⟩)
    (case u48 => exact ⟨by k_is, by k_is, by k_is⟩)
    (case m51 => exact ⟨by k_is, by k_is⟩)
    (case u51 => exact ⟨by k_is, by k_is, by k_is⟩)
    (case m52 => exact ⟨by k_is, by k_is⟩)
    (case u52 => exact ⟨by k_is, by k_is, by k_is⟩)
    (case a60 => show _ = _; k_is)
    (case u60 => exact ⟨by k_is, by k_is, by k_is⟩)
    (case a61 => show _ = _; k_is)
    (case u61 => exact ⟨by k_is, by k_is, by k_is⟩)
    (case a62 => show _ = _; k_is)
    (case u62 => exact ⟨by k_is, by k_is, by k_is⟩)
    (case a63 => show _ = _; k_is)
    (case u63 => exact ⟨by k_is, by k_is, by k_is⟩)
    (case a64 => show _ = _; k_is)
    (case u64 => exact ⟨by k_is, by k_is, by k_is⟩)
    (case a80 => show _ = _; k_is)
    (case u80 => exact ⟨by k_is, by k_is, by k_is⟩)
    (case a81 => show _ = _; k_is)
    (case u81 => exact ⟨by k_is, by k_is, by k_is⟩)
    (case a82 => show _ = _; k_is)
    (case u82 => exact ⟨by k_is, by k_is, by k_is⟩)
    (case a83 => show _ = _; k_is)
    (case u83 => exact ⟨by k_is, by k_is, by k_is⟩)
    (case a84 => show _ = _; k_is)
    (case u84 => exact ⟨by k_is, by k_is, by k_is⟩)
    (case a85 => show _ = _; k_is)
    (case u85 => exact ⟨by k_is, by k_is, by k_is⟩)
    (case a86 => show _ = _; k_is)
    (case u86 => exact ⟨by k_is, by k_is, by k_is⟩)
    (case a87 => show _ = _; k_is)
    (case u87 => exact ⟨by k_is, by k_is, by k_is⟩)
    (case a88 => show _ = _; k_is)
    (case u88 => exact ⟨by k_is, by k_is, by k_is⟩)
    (case a89 => show _ = _; k_is)
    (case u89 => exact ⟨by k_is, by k_is, by k_is⟩)
    (case a90 => show _ = _; k_is)
    (case u90 => exact ⟨by k_is, by k_is, by k_is⟩)
    (case a91 => show _ = _; k_is)
    (case u91 => exact ⟨by k_is, by k_is, by k_is⟩)
    (case z1 | z2 | z3 | z4 | z5 | z6 | z7 | z8 | z9 | z10 | z11 | z12 | z13 | z14 | z15 | gP | aXO | aXU | aXS | zab | zdi | gN | aE | lP => k_is)
    (case hes => rfl)
    (case smP => rfl)
    (case q0 | q1 | q2 | q3 | q4 | q5 | q6 | q7 | q8 | q9 | q10 | q11 | q12 | q13 | lXO | kXO => k_is)
    (case hbmO => rfl)
    (case lXU | kXU => k_is)
    (case hbmU => rfl)
    (case ixU | lXS | kXS => k_is)
    (case hbmS => rfl)
    (case ixS | csO | tyO | beO | sOO | csU | tyU | beU | sUU | csS | tyS | beS | sSS | sSU | lB => k_is)
    (case hB => rfl)
    (case lN => k_is)
    (case uN => rfl)
    (case iN | iC | nC | l99 | c99 | k99 | x1 | x2 | x3 | g1O | g2O | g3O | lN2 => k_is)

