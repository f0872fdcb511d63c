import PyProof.Rows.All
import Wide.All
import OpenK.AllK
import Wide.FinOn
import PyProof.EqAt
import PyProof.EqKinds
import PyProof.TupleCall
import PyProof.DictIter
import PyProof.FitsBits
import PyProof.NoPylong
import PyProof.DictItems
import KE.KDictOf
import PyProof.AttrMissHeap
import Lean
import PySem.Challenge.RW_elderline_k16_whole_house_ahead
noncomputable section
open PySem renaming wpAny_bind -> JE, Value -> JH, Shared -> JL, Addr -> JO, sizeLine -> JQ, wpAny_pure -> JS, Program -> KI, sizeLine_eq -> KS, starEach -> KW, wpAny -> KY, model -> LB, wpAny_field -> LD, FuncData -> LG, mainGlobals -> LH, Around -> LM, wpAny_callSpecial?_slot -> LP, World -> LQ, wpAny_call_entry -> MG, wpAny_setField -> MQ, Heap -> MV, wpAny_seqItems -> NC, wpAny_mono -> ND, Builtin -> NF, wpAny_holding -> NG, wpAny_setField_rec -> NZ, wpAny_truthy_bool -> OH, sysModules -> OI, codeAny_builtin -> OR, wpAny_Call_Name_kw -> OS, Stmt -> OU, compareOp -> OW, wpAny_attempt -> OZ, pyNext -> PB, eval -> PD, wpAny_rule -> PF, wpAny_newObj_type -> PJ, strKind -> PM, codeAny_mono -> PY, bootBuiltins -> PZ, IsPair -> QJ, rawInt -> QN, backTo -> QO, binaryOp -> QQ, wpAny_passesOwn -> QX, keywordEach -> QY, wpAny_standAt -> RE, wpAny_loadPart_at -> RF, plainId_quiet -> RG, attributeBase -> RH, mem_of_lookup -> RI, Paired -> RO, DictEntry -> RT, wpAny_isInstance -> RW, wpAny_letGo -> RX, codeAny -> RZ, wpAny_call -> SA, tupleKind_room_in1 -> SJ, behindInMarks -> SK, ExceptHandler -> SQ, wpAny_pyNext_list_item -> SV
open List renaming getElem?_eq_some_iff -> JF, length_map -> JJ, getElem?_eq_getElem -> JK, length_append -> JN, mem_singleton -> JP, mem_cons -> JT, mem_cons_of_mem -> JU, mem_cons_self -> JW, map_append -> JX, length_singleton -> JY, mem_append_right -> KC, mem_of_getElem? -> KD, getElem?_concat_length -> KH, not_mem_nil -> KL, getElem?_append_left -> KN, mem_append -> KO, getElem?_map -> KP, lookup_cons -> KR, size_toArray -> KU, replicate -> LF, getD_eq_getElem?_getD -> LJ, take_of_length_le -> LN, mem_map -> LR, length_cons -> LU, nodup_cons -> LW, map_cons -> LY, append_nil -> MD, take_add_one -> MI, mem_append_left -> ML, getElem?_of_mem -> MM, drop_eq_getElem_cons -> MP, length_drop -> MW, getElem?_set_ne -> NN, length_take -> NT, length_replicate -> NW, getElem?_set_self -> OA, drop_eq_nil_of_le -> OB, nodup_append -> OE, append_assoc -> OF, getElem_mem -> OO, nodup_nil -> OV, length_reverse -> OY, mem_of_mem_drop -> PX, getElem?_replicate -> QF, all_eq_true -> QI, find?_cons_of_pos -> QL, find?_cons_of_neg -> QM, mem_or_eq_of_mem_set -> RC, lookup -> RJ, map_drop -> RP, getElem?_drop -> RQ, find?_cons -> RS, range -> SI, cons_lt_cons_iff -> SN, replicate_succ' -> SW
open PySem.W renaming Frag -> JG, keepIn -> JV, findIn -> MK, kia_one -> NR, callWith_K -> NX, mg_of -> NY, emptyDict -> OD, mg_none_of -> OM, methodCall_KW -> PN, Looks -> PP, instObj -> QA, fnOf -> QD, kitOne -> QK, exmOne -> QZ, findIn -> RY
open PySem.Heap renaming get?_push_of_some -> JI, lt_size -> KA, get?_push_size -> KG, get?_update_other -> LV, get?_update_self -> MX, ExtBut -> OJ, size_push -> OP
open Nat renaming le_refl -> JM, ne_of_lt -> KQ, le_trans -> KZ, lt_of_lt_of_le -> LI, zero_le -> LK, ne_of_gt -> OG, le_succ -> ON, lt_irrefl -> PQ, lt_succ_self -> QG, le_add_right -> QH, lt_of_le_of_lt -> QP, le_of_eq -> QT, lt_succ_of_lt -> SH
open Bool renaming false_ne_true -> JR, and_eq_true -> MJ, eq_false_iff -> NK, false_eq_true -> PR, false_and -> RD, true_and -> RV
open PySem.Value renaming ref -> JZ, none -> MY, type -> OT
open Sum renaming inr -> KJ, inl -> NI
open Option.some renaming inj -> LC
open Ne renaming symm -> LL
open Int renaming toNat_natCast -> LX, emod_lt_of_pos -> LZ, emod_nonneg -> ME, eq_ofNat_of_zero_le -> NJ
open PySem.Builtin.SmallTypes renaming nextOf -> MC, ownedTupleIsFree -> MZ
open False renaming elim -> MF
open PySem.PassesOwn renaming never -> MN
open PySem.F renaming plainAttrs_list -> MO, type_list_append -> MR, slot_list_append -> MS, called_set -> OL, slot_dict_get -> QS, excBase_ValueError -> QU, slot_tuple_iterator_next -> RM, plainAttrs_dict -> RN, slot_zip_next -> SO
open PySem.NameKind renaming free -> MU
open PyProof.Rows renaming boot_isinstance -> NA, callWith_type1 -> NH, boot_list -> NQ, envOfC -> QE, slot_tuple_getitem -> SG
open PySem.PyData renaming keyHash -> NE
open PySem.Str renaming ofString -> NL
open Array renaming getElem?_eq_some_iff -> NM, length_toList -> RK, getElem?_toList -> SU
open PySem.Paired renaming length -> NP
open PySem.SeqAt renaming EqAt -> NV
open PySem.Around renaming under_plainId -> OC
open PySem.Builtin renaming bitNot -> OQ
open Sum.inr renaming inj -> OX
open True renaming intro -> PK
open PySem.Calls renaming callWith_builtin -> PU, spliced_cons -> QW
open PySem.Obj renaming mapFields -> QC, data_mapFields -> QV, isFreed_of_fields -> RB, mapSeq -> SD
open PySem.Heap.SameBut renaming update -> QR
open PyProof.Rows.F renaming plain_set_update_loop -> RA
open Option renaming isSome_iff_exists -> RL
open PySem.Builtin.Slice renaming slicePlaces -> RU
open PySem.Builtin.Tuple renaming tupleExact -> SE
open PySem.Txt renaming slice -> SL
open PySem.Code renaming quiet_builtin -> SR
open PySem.Builtin.Range renaming rangeSize -> SS
set_option Elab.async false
set_option linter.all false
set_option maxRecDepth 100000
set_option maxHeartbeats 4000000
namespace L2
open PySem PySem.Spec PyProof.Rows
def Bp(A:LM)(h:MV):Prop:=A.handled=none ∨ ∃(x:JO)(o:Obj)(vs:Array JH),A.handled=some (.ref x)/\h.get? x=some o/\o.data=.fields vs/\vs[2]? = some .none
theorem Rj:entryFor table "proto.unchain" = some Builtin.«proto.unchain» := entryFor_of_fast (by kernel_rfl)
section
variable {prog:KI} {w:LQ} {A:LM} {s:JL} {E:JH->JL->Prop}
theorem Ys{e:JH}{x:JO}{o:Obj}{vs:Array JH}{Q:JH->JL->Prop}(g:s.heap.get? x=some o)(d:o.data=.fields vs)(c:vs[2]? = some .none)(h:Q .none s):
 KY (LB prog w) A (runValue (.builtin "proto.unchain" ⟨[e,.ref x,.ref x,.bool false],[]⟩)) Q E s:=by
 refine wpAny_runValue (OR Rj ?_)
 show KY _ _ (field (.ref x) 2 >>= _) _ _ s
 refine JE (LD g d c ?_)
 dsimp only
 rw[if_pos (show (MY == MY)=true from rfl)]
 exact JS h
theorem cG{α:Type}{a x:JO}{oa o:Obj}{us vs:Array JH}{Q:α->JL->Prop}(hh:A.handled=some (.ref x))(ne:x≠a)(g:s.heap.get? x=some o)(d:o.data=.fields vs)(c:vs[2]? = some .none)(ga:s.heap.get? a=some oa)(da:oa.data=.fields us)(h2:2 < us.size)(h:E (.ref a) { s with heap:=s.heap.update a (QC (·.setIfInBounds 2 (.ref x))) }):KY (LB prog w) A (raiseNew (.ref a):Sem α) Q E s:=by
 unfold raiseNew
 refine JE (wpAny_handled ?_)
 rw[hh]
 dsimp only
 rw[if_pos (show ((JZ x != JZ a)=true) by simp[ne])]
 refine JE ?_
 refine NG (Ys g d c ?_)
 exact JE (MQ (i:=2) ga da h2 (wpAny_throw h))
theorem Ds{α:Type}{Q:α->JL->Prop}(hh:Bp A s.heap)(h:∀(h':MV)(e:JO),(∀b o,s.heap.get? b=some o->h'.get? b=some o)->Shared.TypeIs { s with heap:=h' } (.ref e) "StopIteration" -> E (.ref e) { s with heap:=h' }):
 KY (LB prog w) A (newExc (.type "StopIteration") [] >>= λe=>(raiseNew e:Sem α)) Q E s:=by
 have z6:∀ {x:JH},(#[x,.none,.none,.none,.bool false,.none]++ownMembersOf (.type "StopIteration") []:Array JH).size=6:=λ{x}=>rfl
 refine JE ?_
 unfold newExc newTuple
 refine JE (PJ ?_ (by size_fits))
 refine JE (wpAny_of_eq (a:=MY) (by first | rfl | (unfold firstArgMember;rfl)) (PJ ?_ (by size_fits)))
 have kp:∀(T X:Obj)(b:JO)(o:Obj),s.heap.get? b=some o->((s.heap.push T).push X).get? b=some o:=λT X b o e=>JI _ (JI _ e)
 rcases hh with hn | ⟨x,o,vs,hx,g,d,c⟩
 ·unfold raiseNew
  refine JE (wpAny_handled ?_)
  rw[hn]
  exact wpAny_throw (h _ _ (kp _ _) ⟨_,KG _ rfl,rfl⟩)
 ·have lt:x≠(s.heap.push { cls:=.type "tuple", data:=.seq #[] }).objs.size:=λz=>by
   have e1:=JI { cls:=.type "tuple", data:=.seq #[] } g
   rw[z] at e1
   exact absurd e1 (by simp[Heap.get?])
  have ne:∀(b:JO)(o:Obj),s.heap.get? b=some o->(s.heap.push { cls:=.type "tuple", data:=.seq #[] }).objs.size≠b:=λb o e z=>by
   have e1:=JI { cls:=.type "tuple", data:=.seq #[] } e
   rw[<- z] at e1
   exact absurd e1 (by simp[Heap.get?])
  refine cG hx lt (kp _ _ _ _ g) d c (KG _ rfl) rfl (by show 2 < 6;decide) (h _ _ (λb o e=>?_) ?_)
  ·rw[LV _ _ (ne b o e)]
   exact kp _ _ b o e
  ·exact⟨_,MX _ (KG _ rfl) rfl,rfl⟩
end
section
variable {prog:KI} {w:LQ} {A:LM} {s:JL} {E:JH->JL->Prop}
theorem Bp.upd{h:MV}{it:JO}{f:Obj->Obj}(hh:Bp A h)(hn:∀o vs,h.get? it=some o->o.data=.fields vs->¬ vs[2]? = some .none):Bp A (h.update it f):=by
 rcases hh with z | ⟨x,o,vs,a,g,d,c⟩
 ·exact .inl z
 ·have:it≠x:=λe=>hn o vs (by rw[e];exact g) d c
  exact .inr ⟨x,o,vs,a,(LV _ _ this).trans g,d,c⟩
theorem Bp.ext{h h':MV}(hh:Bp A h)(k:∀b o,h.get? b=some o->h'.get? b=some o):Bp A h':=by
 rcases hh with z | ⟨x,o,vs,a,g,d,c⟩
 ·exact .inl z
 ·exact .inr ⟨x,o,vs,a,k _ _ g,d,c⟩
theorem Bp.in1{h:MV}(hh:Bp A h):Bp A.in1 h:=hh
theorem Jf{h:MV}{it:JO}{oi:Obj}{u v:JH}(gi:h.get? it=some oi)(di:oi.data=.fields #[u,v]):∀o vs,h.get? it=some o->o.data=.fields vs->¬ vs[2]? = some .none:=λo vs g d c=>by
 obtain rfl:oi=o:=LC (gi.symm.trans g)
 rw[di] at d
 cases d
 simp at c
theorem Hs{α:Type}{it:JO}{f:Obj->Obj}{Q:Option α->JL->Prop}{k:Sem (Option α)}{E':JH->JL->Prop}(hQ:∀h',OJ it s.heap h'->Q none { s with heap:=h' }){h':MV}{e:JO}(kp:∀b o,(s.heap.update it f).get? b=some o->h'.get? b=some o)(ty:Shared.TypeIs { s with heap:=h' } (.ref e) "StopIteration"):
 KY (LB prog w) A (do if (<- isInstance (.ref e) (.type "StopIteration"))=true then pure none else k) Q E' { s with heap:=h' }:=by
 refine JE (RW (T := "StopIteration") (b:=true) ty isSubtype_stop ?_)
 rw[if_pos rfl]
 exact JS (hQ _ λb o hb g=>kp _ _ ((LV _ _ (LL hb)).trans g))
theorem eY{it l:JO}{i:Nat}{items:Array JH}{Q:Option JH->JL->Prop}(hh:Bp A s.heap)(hit:s.heap.IsListIter it l i)(hl:s.heap.IsList l items)(hnil:items[i]? = none)(hQ:∀h',OJ it s.heap h'->Q none { s with heap:=h' }):KY (LB prog w) A (PB (.ref it)) Q E s:=by
 obtain⟨oi,gi,ci,di⟩:=id hit
 obtain⟨oz,gz,_,nz,dz⟩:=hl
 unfold PB
 refine JE (OZ (LP (name:=NL "__next__") hit.typeIs slot_listiter_next (MG slot_listiter_next hit.typeIs entry_listiter_next ?_ (args_listiter_next _))))
 refine JE (m:=field (.ref it) 0) (LD gi di (x:=.ref l) rfl ?_)
 show KY _ _ (if (JZ l == .none)=true then _ else _) _ _ s
 rw[if_neg (show ¬ ((JZ l == .none)=true) from JR)]
 refine JE (m:=field (.ref it) 1) (LD gi di (x:=.int i 0) rfl ?_)
 refine JE (m:=seqItems? (.ref l)) (NC gz dz ?_)
 simp only[LX,hnil]
 refine JE (PF (JE (MQ gi di (by simp) ?_)))
 exact Ds (hh.in1.upd (Jf gi di)) λh' e kp ty=>Hs hQ kp ty
theorem zO{it t:JO}{i:Nat}{items:Array JH}{Q:Option JH->JL->Prop}(hh:Bp A s.heap)(hit:IsTupIter s.heap it t i)(hl:IsTup s.heap t items)(hnil:items[i]? = none)(hQ:∀h',OJ it s.heap h'->Q none { s with heap:=h' }):KY (LB prog w) A (PB (.ref it)) Q E s:=by
 obtain⟨oi,gi,ci,di⟩:=id hit
 obtain⟨oz,gz,_,nz,dz⟩:=hl
 unfold PB
 refine JE (OZ (LP (name:=NL "__next__") hit.typeIs slot_tupleiter_next (MG slot_tupleiter_next hit.typeIs entry_tupleiter_next ?_ (args_tupleiter_next _))))
 refine JE (m:=field (.ref it) 0) (LD gi di (x:=.ref t) rfl ?_)
 show KY _ _ (if (JZ t == .none)=true then _ else _) _ _ s
 rw[if_neg (show ¬ ((JZ t == .none)=true) from JR)]
 refine JE (m:=field (.ref it) 1) (LD gi di (x:=.int i 0) rfl ?_)
 refine JE (m:=seqItems? (.ref t)) (NC gz dz ?_)
 simp only[LX,hnil]
 refine JE (PF (JE (MQ gi di (by simp) ?_)))
 exact Ds (hh.in1.upd (Jf gi di)) λh' e kp ty=>Hs hQ kp ty
theorem Xb{it:JO}{x left step:Int}{Q:Option JH->JL->Prop}(hh:Bp A s.heap)(hit:IsRangeIter s.heap it x left step)(hl:left<=0)(hQ:∀h',OJ it s.heap h'->Q none { s with heap:=h' }):KY (LB prog w) A (PB (.ref it)) Q E s:=by
 have ty0:s.TypeIs (.ref it) "range_iterator" := ⟨_,hit,rfl⟩
 unfold PB
 refine JE (OZ (LP (name:=NL "__next__") ty0 F.slot_range_iterator_next (MG F.slot_range_iterator_next ty0 F.entry_range_iterator_next ?_ (F.args_range_iterator_next_1 _))))
 refine JE (m:=field (.ref it) 0) (LD hit rfl (x:=QN x) rfl ?_)
 refine JE (m:=field (.ref it) 1) (LD hit rfl (x:=QN left) rfl ?_)
 refine JE (m:=field (.ref it) 2) (LD hit rfl (x:=QN step) rfl ?_)
 show KY _ _ (if left<=0 then _ else _) _ _ s
 rw[if_pos hl]
 refine JE (PF (JE ?_))
 refine Ds hh.in1 λh' e kp ty=>?_
 refine JE (RW (T := "StopIteration") (b:=true) ty isSubtype_stop (JS (hQ _ λb o hb g=>kp _ _ g)))
theorem oY{it:JO}{x:Str}{t:Tok}{i:Nat}{Q:Option JH->JL->Prop}(hh:Bp A s.heap)(hit:s.heap.IsStrIter it "str_ascii_iterator" x t i)(hnil:x.cps[i]? = none)(hQ:∀h',OJ it s.heap h'->Q none { s with heap:=h' }):KY (LB prog w) A (PB (.ref it)) Q E s:=by
 obtain⟨oi,gi,ci,di⟩:=id hit
 unfold PB
 refine JE (OZ (LP (name:=NL "__next__") hit.typeIs F.slot_str_ascii_iterator_next (MG F.slot_str_ascii_iterator_next hit.typeIs F.entry_str_ascii_iterator_next ?_ (F.args_str_ascii_iterator_next_1 _))))
 refine JE (m:=field (.ref it) 0) (LD gi di (x:=.str x t) rfl ?_)
 refine JE (m:=field (.ref it) 1) (LD gi di (x:=.int i 0) rfl ?_)
 simp only[LX,hnil]
 refine JE (PF (JE (MQ gi di (by simp) (JE (RX ?_)))))
 exact Ds (hh.in1.upd (Jf gi di)) λh' e kp ty=>Hs hQ kp ty
theorem rQ{it:JO}{x:Str}{t:Tok}{i:Nat}{Q:Option JH->JL->Prop}(hh:Bp A s.heap)(hit:s.heap.IsStrIter it "str_iterator" x t i)(hnil:x.cps[i]? = none)(hQ:∀h',OJ it s.heap h'->Q none { s with heap:=h' }):KY (LB prog w) A (PB (.ref it)) Q E s:=by
 obtain⟨oi,gi,ci,di⟩:=id hit
 unfold PB
 refine JE (OZ (LP (name:=NL "__next__") hit.typeIs F.slot_str_iterator_next (MG F.slot_str_iterator_next hit.typeIs F.entry_str_iterator_next ?_ (F.args_str_iterator_next_1 _))))
 refine JE (m:=field (.ref it) 0) (LD gi di (x:=.str x t) rfl ?_)
 refine JE (m:=field (.ref it) 1) (LD gi di (x:=.int i 0) rfl ?_)
 simp only[LX,hnil]
 refine JE (PF (JE (MQ gi di (by simp) (JE (RX ?_)))))
 exact Ds (hh.in1.upd (Jf gi di)) λh' e kp ty=>Hs hQ kp ty
end
section
variable {prog:KI} {w:LQ} {A:LM} {s:JL} {E:JH->JL->Prop}
theorem Me{it l:JO}{i:Nat}{items:Array JH}{Q:JH->JL->Prop}(hh:Bp A s.heap)(hit:s.heap.IsListIter it l i)(hl:s.heap.IsList l items)(hnil:items[i]? = none)(hE:∀h' e,OJ it s.heap h'->(∃o,h'.get? e=some o/\o.cls=.type "StopIteration")->E (.ref e) { s with heap:=h' }):KY (LB prog w) A (MC (.ref it)) Q E s:=by
 obtain⟨oi,gi,ci,di⟩:=id hit
 obtain⟨oz,gz,_,nz,dz⟩:=hl
 unfold MC
 refine JE (LP (name:=NL "__next__") hit.typeIs slot_listiter_next (MG slot_listiter_next hit.typeIs entry_listiter_next ?_ (args_listiter_next _)))
 refine JE (m:=field (.ref it) 0) (LD gi di (x:=.ref l) rfl ?_)
 show KY _ _ (if (JZ l == .none)=true then _ else _) _ _ s
 rw[if_neg (show ¬ ((JZ l == .none)=true) from JR)]
 refine JE (m:=field (.ref it) 1) (LD gi di (x:=.int i 0) rfl ?_)
 refine JE (m:=seqItems? (.ref l)) (NC gz dz ?_)
 simp only[LX,hnil]
 refine JE (PF (JE (MQ gi di (by simp) ?_)))
 exact Ds (hh.in1.upd (Jf gi di)) λh' e kp ty=>hE h' e (λb o hb g=>kp _ _ ((LV _ _ (LL hb)).trans g)) ty
theorem wB{e it l:JO}{i:Int}{k:Nat}{old:JH}{items:Array JH}{Q:Option JH->JL->Prop}(hh:Bp A s.heap)(he:IsEnum s.heap e it i old)(h1:s.heap.IsListIter it l k)(hl:s.heap.IsList l items)(hnil:items[k]? = none)(hQ:∀h',OJ it s.heap h'->Q none { s with heap:=h' }):KY (LB prog w) A (PB (.ref e)) Q E s:=by
 have ty0:s.TypeIs (.ref e) "enumerate" := ⟨_,he,rfl⟩
 unfold PB
 refine JE (OZ (LP (name:=NL "__next__") ty0 F.slot_enumerate_next (MG F.slot_enumerate_next ty0 F.entry_enumerate_next ?_ (F.args_enumerate_next_1 _))))
 refine JE (m:=field (.ref e) 2) (LD he rfl (x:=.ref it) rfl (JE (Me hh.in1 h1 hl hnil λh' x kp ty=>?_)))
 exact JE (RW (T := "StopIteration") (b:=true) ty isSubtype_stop (JS (hQ _ kp)))
theorem jE{t:JO}{items:Array JH}{Q:List JH->JL->Prop}(hh:Bp A s.heap)(ht:IsTup s.heap t items)(hQ:∀h',OJ s.heap.objs.size s.heap h'->Q items.toList { s with heap:=h' }):KY (LB prog w) A (unpackItems (.ref t) items.size none) Q E s:=by
 have ne0:t≠s.heap.objs.size:=by
  obtain⟨o,g,_⟩:=ht
  exact KQ (KA g)
 unfold unpackItems notIterableAtAll
 refine JE (JE (wpAny_specialOf ht.typeIs slot_tuple_iter.lookup (JS ?_)))
 simp only[PR,if_false]
 refine JE (NG (iter_tuple ht (JE (NG (draw_tuple ne0 items.size 0 _ _ ⟨_,KG _ rfl,rfl,rfl⟩ (ht.push _) (by omega) λh1 i1 s1=>?_)))))
 rw[show List.take items.size (List.drop 0 items.toList)=items.toList by rw[List.drop_zero];exact LN (by simp),if_neg (by simp)]
 have ht1:IsTup h1 t items:=(ht.push _).extBut s1.extBut ne0
 have kp:OJ s.heap.objs.size s.heap h1:=λb o hb g=>s1.extBut b o hb (JI _ g)
 have hh1:Bp A h1:=by
  rcases hh with z | ⟨x,o,vs,a,g,d,c⟩
  ·exact .inl z
  ·exact .inr ⟨x,o,vs,a,kp _ _ (KQ (KA g)) g,d,c⟩
 refine JE (NG (zO hh1 i1 ht1 (by simp) λh2 e2=>?_))
 simp only[Option.isSome_none,PR,if_false]
 exact JS (hQ h2 (kp.trans e2))
theorem vR{env:Env}{elts:List Expr}{x1}{pos:Pos}{t:JO}{items:Array JH}{Q:Unit->JL->Prop}(hh:Bp A s.heap)(ht:IsTup s.heap t items)(hn:(assignEach elts env).length=items.size)(hst:(assignEach elts env).findIdx? (·.1)=none)(h:∀h',OJ s.heap.objs.size s.heap h'->KY (LB prog w) A (assignInOrder ((assignEach elts env).map (·.2)) items.toList) Q E { s with heap:=h' }):KY (LB prog w) A (assign (.Tuple elts x1 pos) env (.ref t)) Q E s:=by
 rw[assign_Tuple]
 refine JE (RE ?_)
 unfold unpack
 rw[hn,hst]
 exact JE (NG (jE hh ht h))
theorem Xe{it:JO}{lo step:Int}{n:Nat}(i:Nat)(s:JL)(Q:Option JH->JL->Prop)(E:JH->JL->Prop)(hi:i < n)(st:IsRangeIter s.heap it (lo+(i:Int) * step) ((n:Int)-(i:Int)) step)(hQ:∀(v:JH)(h':MV)(tk:Tok),(∃t,v=.int (lo+(i:Int) * step) t)->IsRangeIter h' it (lo+((i+1:Nat):Int) * step) ((n:Int)-((i+1:Nat):Int)) step->(∀b o,b∉[it]->s.heap.get? b=some o->h'.get? b=some o)->Q (some v) { s with heap:=h',toks:=tk }):
 KY (LB prog w) A (PB (.ref it)) Q E s:=by
 refine wpAny_pyNext_range_item st (by omega) λh' st' sb=>hQ _ h' _ ⟨_,rfl⟩ ?_ λb o hb e=>sb.extBut b o (by simpa using hb) e
 have e1:lo+((i+1:Nat):Int) * step=lo+(i:Int) * step+step:=by rw[Int.natCast_add,Int.add_mul,<- Int.add_assoc];simp
 have e2:(n:Int)-((i+1:Nat):Int)=(n:Int)-(i:Int)-1:=by omega
 rw[e1,e2]
 exact st'
end
def Mr(A:LM):List JO:=match A.handled with
 | some (.ref x)=>[x]
 | _=>[]
theorem Bp.keep{A:LM}{h h':MV}(hh:Bp A h)(k:∀b∈Mr A,∀o,h.get? b=some o->h'.get? b=some o):Bp A h':=by
 rcases hh with z | ⟨x,o,vs,a,g,d,c⟩
 ·exact .inl z
 ·exact .inr ⟨x,o,vs,a,k x (by unfold Mr;rw[a];exact JW) o g,d,c⟩
theorem Bp.but{A:LM}{h h':MV}{it:JO}(hh:Bp A h)(hn:∀o vs,h.get? it=some o->o.data=.fields vs->¬ vs[2]? = some .none)(k:OJ it h h'):Bp A h':=by
 rcases hh with z | ⟨x,o,vs,a,g,d,c⟩
 ·exact .inl z
 ·exact .inr ⟨x,o,vs,a,k x o (λe=>hn o vs (by rw[<- e];exact g) d c) g,d,c⟩
theorem Bp.lt{A:LM}{h:MV}(hh:Bp A h):∀b∈Mr A,b < h.objs.size:=λb hb=>by
 rcases hh with z | ⟨x,o,vs,a,g,d,c⟩
 ·unfold Mr at hb
  rw[z] at hb
  cases hb
 ·unfold Mr at hb
  rw[a] at hb
  rw[JP.mp hb]
  exact KA g
theorem eZ{h:MV}{it l:JO}{i:Nat}(hit:h.IsListIter it l i):∀o vs,h.get? it=some o->o.data=.fields vs->¬ vs[2]? = some .none:=
 let ⟨_,g,_,d⟩:=id hit
 Jf g d
theorem Ou{prog:KI}{w:LQ}{A:LM}(I ax:JO)(hne:ax≠I)(items:Array JH):
 Walks prog w A I (I::ax::Mr A) [I] items.size (λi v=>items[i]? = some v) (λi h=>h.IsListIter I ax i/\h.IsList ax items/\Bp A h) where
 sub:=λb hb=>by rw[JP.mp hb];exact JW
 frame:=λ_ _ _ st hk=>⟨st.1.at λo e=>hk I JW o e,st.2.1.at λo e=>hk ax (JU _ JW) o e,st.2.2.keep λb hb o e=>hk b (JU _ (JU _ hb)) o e⟩
 item:=λi s Q E hi st hQ=>by
  refine SV st.1 st.2.1 (x:=items[i]) (by simp[hi]) λh' it' sb=>hQ _ h' s.toks (by simp[hi]) ⟨it',st.2.1.extBut sb.extBut hne,st.2.2.but (eZ st.1) sb.extBut⟩ λb o hb e=>?_
  exact sb.extBut b o (λz=>hb (by simp[z])) e
 done:=λs Q E st hQ=>eY st.2.2 st.1 st.2.1 (by simp) λh' eb=>hQ h' s.toks λb o hb e=>eb b o (λz=>hb (by simp[z])) e
 self:=λ_ _ _ _ st hQ=>wpAny_pyIter_listiter st.1 hQ
section
variable {prog:KI} {w:LQ} {A:LM} {s:JL} {E:JH->JL->Prop}
theorem aD{h:MV}{z TI TO:JO}{f0:JH}(hz:IsZip h z TI TO f0):∀o vs,h.get? z=some o->o.data=.fields vs->¬ vs[2]? = some .none:=λo vs g d c=>by
 have e:=hz.symm.trans g
 cases e
 cases d
 simp at c
theorem AC{z TI TO i1 i2 l1 l2:JO}{k1 k2:Nat}{xs ys:Array JH}{a b:JH}{Q:Option JH->JL->Prop}(hh:Bp A s.heap)(D:ZipApart z TI TO i1 i2 l1 l2)(hz:IsZip s.heap z TI TO .none)(hTI:QJ s.heap TI (.ref i1) (.ref i2))(hTO:QJ s.heap TO a b)(h1:s.heap.IsListIter i1 l1 k1)(h2:s.heap.IsListIter i2 l2 k2)(hl1:s.heap.IsList l1 xs)(hl2:s.heap.IsList l2 ys)(hend:xs[k1]? = none∨ys[k2]? = none)(hQ:∀h',(∀c o,c≠z->c≠TO->c≠i1->c≠i2->s.heap.get? c=some o->h'.get? c=some o)->Q none { s with heap:=h' }):KY (LB prog w) A (PB (.ref z)) Q E s:=by
 have ty0:s.TypeIs (.ref z) "zip" := ⟨_,hz,rfl⟩
 unfold PB
 refine JE (OZ (LP (name:=NL "__next__") ty0 SO (MG SO ty0 F.entry_zip_next ?_ (F.args_zip_next_1 _))))
 have fin:∀(h':MV)(e:JO),(∀c o,c≠z->c≠TO->c≠i1->c≠i2->s.heap.get? c=some o->h'.get? c=some o)->(∃o,h'.get? e=some o/\o.cls=.type "StopIteration")->KY (LB prog w) A (do if (<- isInstance (.ref e) (.type "StopIteration"))=true then pure none else throw (.ref e)) Q E { s with heap:=h' }:=λh' e kp ty=>
  JE (RW (T := "StopIteration") (b:=true) ty isSubtype_stop (JS (hQ _ kp)))
 refine JE (m:=field (.ref z) 2) (LD hz rfl (x:=.bool false) rfl ?_)
 refine JE (m:=field (.ref z) 3) (LD hz rfl (x:=.ref TI) rfl (JE (NC hTI rfl ?_)))
 refine JE (m:=MZ (.ref z)) ?_
 unfold MZ
 refine JE (LD hz rfl (x:=.none) rfl (JS ?_))
 simp only[if_true]
 refine JE (PF (JE (LD hz rfl (x:=.ref TO) rfl (JE (NZ hz (by simp) λha za sa=>?_)))))
 have za':IsZip ha z TI TO .ellipsis:=za
 have hha:Bp A ha:=hh.but (aD hz) sa.extBut
 refine JE ?_
 simp only[List.zipIdx_cons,List.zipIdx_nil,List.forIn_cons,List.forIn_nil]
 refine JE (JE (wpAny_onRaise ?_))
 refine JE (m:=MC (.ref i1)) ?_
 cases ex:xs[k1]? with
 | none=>
  refine Me hha.in1 (h1.extBut sa.extBut D.i1z) (hl1.extBut sa.extBut D.l1z) ex λhb e sb ty=>?_
  obtain⟨oe,ge,ce⟩:=ty
  have zb:IsZip hb z TI TO .ellipsis:=sb _ _ D.i1z.symm za'
  have nez:e≠z:=λy=>by subst y;rw[zb] at ge;cases ge;simp at ce
  exact NZ zb (by simp) λhc _ sc=>fin hc e (λc o c1 _ c3 _ g=>sc.extBut _ _ c1 (sb _ _ c3 (sa.extBut _ _ c1 g))) ⟨oe,sc.extBut _ _ nez ge,ce⟩
 | some x=>
  have ey:ys[k2]? = none:=hend.resolve_left (by rw[ex];exact λy=>nomatch y)
  refine wpAny_nextOf_list_item (h1.extBut sa.extBut D.i1z) (hl1.extBut sa.extBut D.l1z) ex λhb _ sb=>JS ?_
  have hhb:Bp A hb:=hha.but (eZ (h1.extBut sa.extBut D.i1z)) sb.extBut
  have TOb:QJ hb TO a b:=sb.extBut _ _ D.TOi1 (sa.extBut _ _ D.TOz hTO)
  refine JE (NC TOb rfl (JE (wpAny_updateSeq_pair TOb λhc TOc sc=>JE (RX (JS ?_)))))
  have hhc:Bp A hc:=hhb.but (λo vs g d _=>by rw[TOb] at g;cases g;cases d) sc.extBut
  refine JE (JE (wpAny_onRaise (JE (m:=MC (.ref i2)) ?_)))
  refine Me hhc.in1 (((h2.extBut sa.extBut D.i2z).extBut sb.extBut D.i12.symm).extBut sc.extBut D.TOi2.symm) (((hl2.extBut sa.extBut D.l2z).extBut sb.extBut D.l2i1).extBut sc.extBut D.l2TO) ey λhd e sd ty=>?_
  obtain⟨oe,ge,ce⟩:=ty
  have zd:IsZip hd z TI TO .ellipsis:=sd _ _ D.i2z.symm (sc.extBut _ _ D.TOz.symm (sb.extBut _ _ D.i1z.symm za'))
  have nez:e≠z:=λy=>by subst y;rw[zd] at ge;cases ge;simp at ce
  exact NZ zd (by simp) λhe _ se=>fin he e (λc o c1 c2 c3 c4 g=>se.extBut _ _ c1 (sd _ _ c4 (sc.extBut _ _ c2 (sb.extBut _ _ c3 (sa.extBut _ _ c1 g))))) ⟨oe,se.extBut _ _ nez ge,ce⟩
end
section
variable {prog:KI} {w:LQ} {A:LM} {s:JL} {E:JH->JL->Prop} {KK:Type} [DecidableEq KK] {knd:KeyKind prog w KK}
theorem tH{it d:JO}{i ep:Nat}{kvs:List (KK×JH)}{Q:Option JH->JL->Prop}(hh:Bp A s.heap)(hit:s.heap.IsKeyIter it d i kvs.length ep)(hm:s.heap.DictAt knd d kvs ep)(hnil:kvs[i]? = none)(hQ:∀h',OJ it s.heap h'->Q none { s with heap:=h' }):KY (LB prog w) A (PB (.ref it)) Q E s:=by
 obtain⟨oi,gi,ci,di⟩:=id hit
 obtain⟨od,es,god,cod,dod,hk,hp,hn⟩:=id hm
 have sz:es.size=kvs.length:=by rw[<- hp.length];simp
 have ge:es.size<=i:=by rw[sz];simpa using hnil
 unfold PB
 refine JE (OZ (LP (name:=NL "__next__") hit.typeIs F.slot_dict_keyiterator_next (MG F.slot_dict_keyiterator_next hit.typeIs F.entry_dict_keyiterator_next ?_ (F.args_dict_keyiterator_next_1 _))))
 refine JE (JS (JE (JE ?_)))
 first | refine JE (wpAny_typeNameOfWhole_keyiter hit.typeIs (JS (JE (wpAny_fieldsOf gi di ?_)))) | refine JE (wpAny_typeNameOf_keyiter hit.typeIs (JS (JE (wpAny_fieldsOf gi di ?_))))
 simp only[show Builtin.Dict_items.ownsTuple "dict_keyiterator" = false by decide,PR,if_false]
 show KY _ _ (if (JZ d == .none)=true then _ else _) _ _ s
 rw[if_neg (show ¬ ((JZ d == .none)=true) from JR)]
 refine JE (JS (JE (wpAny_dictEntries god dod ?_)))
 rw[if_neg (by rw[sz];simp)]
 refine JE (JS (JE (wpAny_dictEpoch god dod ?_)))
 rw[if_neg (by simp)]
 refine JS ?_
 simp only[show ¬ ((i:Int) < 0) from by omega,if_false,LX,Array.getElem?_eq_none ge]
 refine JE ?_
 first | refine JE (wpAny_typeNameOfWhole_keyiter hit.typeIs (JS (JE (m:=setField (.ref it) 0 .none) (MQ gi di (by simp) ?_)))) | refine JE (wpAny_typeNameOf_keyiter hit.typeIs (JS (JE (m:=setField (.ref it) 0 .none) (MQ gi di (by simp) ?_))))
 exact Ds (hh.in1.upd λo vs g dt c=>by
  obtain rfl:oi=o:=LC (gi.symm.trans g)
  rw[di] at dt
  cases dt
  simp at c) λh' e kp ty=>Hs hQ kp ty
end
abbrev Key:=Sum Int Str
def Sq:Key->JH->Bool
 | .inl k,v=>Value.isInt k v
 | .inr x,v=>Value.isStrOf x v
def HB(w:LQ):Key->Int
 | .inl k=>hashInt k
 | .inr x=>hashStr w x
theorem Cr:∀ {k:Key} {v:JH},Sq k v=true->(∃i t,k=NI i/\v=Value.int i t)∨(∃x t,k=KJ x/\v=Value.str x t)
 | .inl i,v,h=>by
  obtain⟨t,e⟩:=Value.isInt_shape (k:=i) (v:=v) h
  exact .inl ⟨i,t,rfl,e⟩
 | .inr x,v,h=>by
  obtain⟨t,e⟩:=Value.isStrOf_shape (x:=x) (v:=v) h
  exact .inr ⟨x,t,rfl,e⟩
theorem iE(i:Int)(t:Tok):Sq (.inl i) (.int i t)=true:=by simp[Sq,Value.isInt]
theorem Mq(x:Str)(t:Tok):Sq (.inr x) (.str x t)=true:=by simp[Sq,Value.isStrOf]
theorem xU(a b:Int):decide ((NI a:Key)=NI b)=(a == b):=by
 by_cases e:a=b
 ·subst e;simp
 ·have h:¬ (NI a:Key)=NI b:=λq=>e (NI.inj q)
  rw[decide_eq_false h]
  exact(beq_eq_false_iff_ne.mpr e).symm
theorem yV(a b:Str):decide ((KJ a:Key)=KJ b)=decide (a=b):=by
 by_cases e:a=b
 ·subst e;simp
 ·have h:¬ (KJ a:Key)=KJ b:=λq=>e (KJ.inj q)
  rw[decide_eq_false h,decide_eq_false e]
theorem xS(a:Int)(b:Str):decide ((NI a:Key)=KJ b)=false:=decide_eq_false (λq=>nomatch q)
theorem yW(a:Str)(b:Int):decide ((KJ a:Key)=NI b)=false:=decide_eq_false (λq=>nomatch q)
def Bo(prog:KI)(w:LQ):PySem.KeyKind prog w Key where
 is:=Sq
 hash:=HB w
 inj:=λv a b ha hb=>by
  rcases Cr ha with ⟨i,t,rfl,rfl⟩ | ⟨x,t,rfl,rfl⟩
  ·rcases Cr hb with ⟨j,u,rfl,e⟩ | ⟨y,u,rfl,e⟩
   ·injection e with e1 _;rw[e1]
   ·exact nomatch e
  ·rcases Cr hb with ⟨j,u,rfl,e⟩ | ⟨y,u,rfl,e⟩
   ·exact nomatch e
   ·injection e with e1 _;rw[e1]
 byValue:=λk v h=>by
  rcases Cr h with ⟨i,t,rfl,rfl⟩ | ⟨x,t,rfl,rfl⟩<;>rfl
 pyHash:=λhv h=>by
  rcases Cr hv with ⟨i,t,rfl,rfl⟩ | ⟨x,t,rfl,rfl⟩
  ·exact wpAny_pyHash_int h
  ·exact wpAny_pyHash_str h
 eqBool:=λhu hv h=>by
  rcases Cr hu with ⟨i,t,rfl,rfl⟩ | ⟨x,t,rfl,rfl⟩
  ·rcases Cr hv with ⟨j,u,rfl,rfl⟩ | ⟨y,u,rfl,rfl⟩
   ·rw[xU] at h;exact wpAny_eqBool_int h
   ·rw[xS] at h;exact SeqAt.EqAt.int_str i t y u _ _ _ _ h
  ·rcases Cr hv with ⟨j,u,rfl,rfl⟩ | ⟨y,u,rfl,rfl⟩
   ·rw[yW] at h;exact SeqAt.EqAt.str_int x t j u _ _ _ _ h
   ·rw[yV] at h;exact wpAny_eqBool_str h
 «strs» := λk x t v h=>by
  rcases Cr h with ⟨i,u,rfl,e⟩ | ⟨y,u,rfl,e⟩
  ·exact nomatch e
  ·injection e with e1 _
   subst e1
   cases v<;>rfl
theorem Yl(prog:KI)(w:LQ)(i:Int)(t:Tok):(Bo prog w).is (.inl i) (.int i t)=true:=iE i t
theorem Wr(prog:KI)(w:LQ)(x:Str)(t:Tok):(Bo prog w).is (.inr x) (.str x t)=true:=Mq x t
inductive V where
 | non | bl (b:Bool) | int (i:Int) | str (x:Str) | byt (b:Array UInt8) | flt (b:UInt64) | ref (a:JO) | ty (n:String)
 deriving DecidableEq
def RelV:V->JH->Prop
 | .non,u=>u=MY
 | .bl b,u=>u=Value.bool b
 | .int i,u=>∃t,u=Value.int i t
 | .str x,u=>∃t,u=Value.str x t
 | .byt b,u=>∃t,u=Value.bytes b t
 | .flt b,u=>∃t,u=Value.float b t
 | .ref a,u=>u=JZ a
 | .ty n,u=>u=OT n
abbrev Bb:List V->List JH->Prop:=RO RelV
theorem Bb.length{xs:List V}{us:List JH}(r:Bb xs us):xs.length=us.length:=NP r
theorem Bb.get:∀ {xs:List V} {us:List JH} {i:Nat} {x:V},Bb xs us->xs[i]? = some x->∃u,us[i]? = some u/\RelV x u
 | _,_,_,_,.nil,e=>by simp at e
 | _,_,0,_,.cons r _,e=>by simp at e;subst e;exact⟨_,rfl,r⟩
 | _,_,i+1,x,.cons _ t,e=>by
  obtain⟨u,h1,h2⟩:=Bb.get (i:=i) (x:=x) t (by simpa using e)
  exact⟨u,by simpa using h1,h2⟩
theorem Bb.set{x:V}{u:JH}(r:RelV x u):∀ {xs:List V} {us:List JH} (i:Nat),Bb xs us->Bb (xs.set i x) (us.set i u)
 | _,_,_,.nil=>.nil
 | _,_,0,.cons _ t=>.cons r t
 | _,_,i+1,.cons q t=>.cons q (Bb.set r i t)
theorem Bb.append:∀ {xs ys:List V} {us ws:List JH},Bb xs us->Bb ys ws->Bb (xs++ys) (us++ws)
 | _,_,_,_,.nil,s=>s
 | _,_,_,_,.cons r t,s=>.cons r (Bb.append t s)
theorem Bb.take:∀ {xs:List V} {us:List JH} (n:Nat),Bb xs us->Bb (xs.take n) (us.take n)
 | _,_,0,_=>.nil
 | _,_,_+1,.nil=>.nil
 | _,_,n+1,.cons r t=>.cons r (Bb.take n t)
theorem Bb.drop:∀ {xs:List V} {us:List JH} (n:Nat),Bb xs us->Bb (xs.drop n) (us.drop n)
 | _,_,0,r=>r
 | _,_,_+1,.nil=>.nil
 | _,_,n+1,.cons _ t=>Bb.drop n t
def Hw:Option V->Option JH->Prop
 | some v,some u=>RelV v u
 | none,none=>True
 | _,_=>False
def KV{κ:Type}:List (κ×V)->List (κ×JH)->Prop:=RO λ(p:κ×V) (q:κ×JH)=>p.1=q.1/\RelV p.2 q.2
def kV:Key->V
 | .inl i=>.int i
 | .inr x=>.str x
inductive HO where
 /-- a list -/
 | lst (xs:List V)
 /-- a tuple (never changes) -/
 | tup (xs:List V)
 /-- a dict whose keys are ints and texts;one whose keys are tuples of ints and texts (the empty one is both) -/
 | dK (kvs:List (Key×V)) | dT (kvs:List (List Key×V))
 /-- a set of ints: its members,its size -/
 | set (S:Int->Bool) (n:Nat)
 /-- an instance of the class at C,its dict at dx,its attributes -/
 | ins (C dx:JO) (fs:List (Str×V))
 /-- the dict of the instance at x -/
 | own (x:JO)
 /-- the dict of an exception -/
 | xd (fs:List (Str×V))
 /-- a bound method,f of x -/
 | met (f x:JO)
 /-- a range object lo,lo+1,.. below hi -/
 | rng (lo hi:Int)
 /-- a thing that is known to the object (the script;a dict while a loop walks it): read,never written while it is so -/
 | frz (o:Obj) (u:HO)
 /-- a code object's table -/
 | tbl (ps:Array JH)
 /-- any other thing,by what is true of its one object (a def of one's own: SetO a S n:=HO.ext λh=>..) -/
 | ext (φ:MV->Prop)
abbrev Hp:=JO->Option HO
def upd(H:Hp)(a:JO)(o:HO):Hp:=λb=>if b=a then some o else H b
theorem Aa{H:Hp}{a:JO}{o:HO}:upd H a o a=some o:=by unfold upd;rw[if_pos rfl]
theorem Aj{H:Hp}{a b:JO}{o:HO}(h:b≠a):upd H a o b=H b:=by unfold upd;rw[if_neg h]
theorem Cd{H:Hp}{a b:JO}{o u:HO}(h:H a=some o)(h':H b=some u)(d:o≠u):a≠b:=by
 intro e;subst e;rw[h] at h';exact d (LC h')
theorem Ai{H:Hp}{a b:JO}{o:HO}(h:H a=some o)(h':H b=none):a≠b:=by
 intro e;subst e;rw[h] at h';cases h'
section
variable (P:KI) (w:LQ)
def Cg(H:Hp)(h:MV)(a:JO):HO->Prop
 | .lst xs=>xs.length<=JQ/\∃(its:List JH)(n:Nat),Bb xs its/\h.get? a=some { cls:=.type "list", data:=.seq its.toArray n }
 | .tup xs=>xs.length<=JQ/\∃its:List JH,Bb xs its/\IsTup h a its.toArray
 | .dK kvs=>kvs.length<=JQ/\(a == OI)=false/\∃vs,KV kvs vs/\h.DictOf (Bo P w) a vs
 | .dT kvs=>kvs.length<=JQ/\(a == OI)=false/\∃xs:List (List Key×JO×JH),
  RO (λ(p:List Key×V) (q:List Key×JO×JH)=>p.1=q.1/\H q.2.1=some (.tup (p.1.map kV))/\RelV p.2 q.2.2) kvs xs /\
  ∃o es ep,h.get? a=some o/\o.ExactDict/\o.data=.dict es ep/\es.toList=xs.map (entryOfKey (tupleKind (Bo P w)))/\(xs.map (·.1)).Nodup
 | .set S n=>h.SetOf (intKind P w) a S n
 | .ins C dx fs=>H dx=some (.own a)/\fs.length<=1000/\dx≠a/\h.get? a=some (QA C dx) /\
  ∃mA,h.Ns1 dx mA/\(∀f,Hw (fs.lookup f) (mA f))/\PySem.Within mA (fs.map (·.1))
 | .own _=>∃o,h.get? a=some o
 | .xd fs=>∃mA,h.Ns1 a mA/\∀f,Hw (fs.lookup f) (mA f)
 | .rng lo hi=>∃t u v,h.get? a=some { cls:=.type "range", data:=.fields #[.int lo t,.int hi u,.int 1 v] }
 | .frz o u=>h.get? a=some o/\Cg H h a u
 | .tbl ps=>h.get? a=some { cls:=.none,data:=.fields ps }
 | .met f x=>h.get? a=some (PySem.W.methodObj (.ref f) (.ref x))
 | .ext φ=>φ h/\(∃o,h.get? a=some o)/\∀h1 h2:MV,φ h1->(∀o,h1.get? a=some o->h2.get? a=some o)->φ h2
def Kg(H:Hp)(h:MV):Prop:=∀a o,H a=some o->Cg P w H h a o
end
section
variable {P:KI} {w:LQ} {H H':Hp} {h h':MV} {a:JO} {o:HO}
theorem Cg.lt(x:Cg P w H h a o):a < h.objs.size:=by
 cases o with
 | lst xs=>obtain⟨_,_,_,_,e⟩:=x;exact KA e
 | tup xs=>obtain⟨_,_,_,p⟩:=x;exact p.lt
 | dK kvs=>obtain⟨_,_,_,_,o,_,_,e,_⟩:=x;exact KA e
 | dT kvs=>obtain⟨_,_,_,_,o,_,_,e,_⟩:=x;exact KA e
 | set S n=>obtain⟨o,_,_,_,e,_⟩:=x;exact KA e
 | ins C dx fs=>obtain⟨_,_,_,e,_⟩:=x;exact KA e
 | own y=>obtain⟨_,e⟩:=x;exact KA e
 | xd fs=>obtain⟨_,⟨_,_,_,e,_⟩,_⟩:=x;exact KA e
 | rng lo hi=>obtain⟨_,_,_,e⟩:=x;exact KA e
 | frz ob u=>obtain⟨e,_⟩:=x;exact KA e
 | tbl ps=>exact KA (show h.get? a=some _ from x)
 | met f y=>exact KA (show h.get? a=some _ from x)
 | ext φ=>obtain⟨_,⟨_,e⟩,_⟩:=x;exact KA e
theorem Paired.mapP{α β:Type}{F G:α->β->Prop}:∀ {l₁:List α} {l₂:List β},RO F l₁ l₂->(∀a b,F a b->G a b)->RO G l₁ l₂
 | _,_,.nil,_=>.nil
 | _,_,.cons r t,f=>.cons (f _ _ r) (Paired.mapP t f)
theorem Cg.stay(x:Cg P w H h a o)(k:∀b u,(b=a∨H b=some (.own a))->h.get? b=some u->h'.get? b=some u)(ho:∀b,H b=some (.own a)->H' b=some (.own a))(ht:∀b xs,H b=some (.tup xs)->H' b=some (.tup xs)):Cg P w H' h' a o:=by
 induction o with
 | lst xs=>obtain⟨z,its,n,r,e⟩:=x;exact⟨z,its,n,r,k _ _ (.inl rfl) e⟩
 | tup xs=>obtain⟨z,its,r,ob,e,c⟩:=x;exact⟨z,its,r,ob,k _ _ (.inl rfl) e,c⟩
 | dK kvs=>obtain⟨z,y,vs,r,ob,es,ep,e,c⟩:=x;exact⟨z,y,vs,r,ob,es,ep,k _ _ (.inl rfl) e,c⟩
 | dT kvs=>
  obtain⟨z,y,xs,r,ob,es,ep,e,c⟩:=x
  exact⟨z,y,xs,Paired.mapP r λp q z=>⟨z.1,ht _ _ z.2.1,z.2.2⟩,ob,es,ep,k _ _ (.inl rfl) e,c⟩
 | set S n=>obtain⟨ob,es,ep,t,e,c⟩:=x;exact⟨ob,es,ep,t,k _ _ (.inl rfl) e,c⟩
 | ins C dx fs=>
  obtain⟨d,z,ne,e,mA,⟨od,es,ep,e2,c⟩,r⟩:=x
  exact⟨ho _ d,z,ne,k _ _ (.inl rfl) e,mA,⟨od,es,ep,k _ _ (.inr d) e2,c⟩,r⟩
 | own y=>obtain⟨ob,e⟩:=x;exact⟨ob,k _ _ (.inl rfl) e⟩
 | xd fs=>obtain⟨mA,⟨od,es,ep,e,c⟩,r⟩:=x;exact⟨mA,⟨od,es,ep,k _ _ (.inl rfl) e,c⟩,r⟩
 | rng lo hi=>obtain⟨t,u,v,e⟩:=x;exact⟨t,u,v,k _ _ (.inl rfl) e⟩
 | frz ob u ih=>obtain⟨e,q⟩:=x;exact⟨k _ _ (.inl rfl) e,ih q⟩
 | tbl ps=>
  have e:h.get? a=some { cls:=.none,data:=.fields ps }:=x
  show h'.get? a=some { cls:=.none,data:=.fields ps }
  exact k a _ (.inl rfl) e
 | met f y=>
  have e:h.get? a=some (PySem.W.methodObj (.ref f) (.ref y)):=x
  show h'.get? a=some (PySem.W.methodObj (.ref f) (.ref y))
  exact k a _ (.inl rfl) e
 | ext φ=>obtain⟨p,⟨o,e⟩,st⟩:=x;exact⟨st _ _ p λo q=>k _ _ (.inl rfl) q,⟨o,k _ _ (.inl rfl) e⟩,st⟩
theorem Kg.lt(x:Kg P w H h)(e:H a=some o):a < h.objs.size:=(x a o e).lt
theorem Kg.fresh(x:Kg P w H h)(e:h.objs.size<=a):H a=none:=by
 cases q:H a with
 | none=>rfl
 | some u=>exact absurd (LI (x.lt q) e) (PQ _)
theorem Kg.kept(x:Kg P w H h)(k:∀b u,h.get? b=some u->h'.get? b=some u):Kg P w H h':=λa o e=>
 (x a o e).stay (λb u _ q=>k b u q) (λ_ q=>q) λ_ _ q=>q
theorem Kg.laid(x:Kg P w H h)(k:∀b u,h.get? b=some u->h'.get? b=some u)(hp:h.objs.size<=a)(new:Cg P w (upd H a o) h' a o):Kg P w (upd H a o) h':=λb u e=>by
 have hn:=x.fresh hp
 by_cases hb:b=a
 ·subst hb;rw[Aa] at e;cases e;exact new
 ·rw[Aj hb] at e
  exact(x b u e).stay (λc v _ q=>k c v q) (λc q=>by rw[Aj (Ai q hn)];exact q) λc xs q=>by rw[Aj (Ai q hn)];exact q
end
def Rd(H:Hp)(a:JO)(u:HO):Prop:=H a=some u ∨ ∃o,H a=some (.frz o u)
theorem Rd.of{H:Hp}{a:JO}{u:HO}(h:H a=some u):Rd H a u:=.inl h
theorem Rd.ok{P:KI}{w:LQ}{H:Hp}{h:MV}{a:JO}{u:HO}(r:Rd H a u)(x:Kg P w H h):Cg P w H h a u:=by
 rcases r with r | ⟨o,r⟩
 ·exact x a u r
 ·obtain⟨_,q⟩:=x a _ r
  exact q
def BM:Option HO->Prop
 | some (.lst _)=>True
 | some (.dK _)=>True
 | some (.dT _)=>True
 | some (.set _ _)=>True
 | some (.ins _ _ _)=>True
 | some (.ext _)=>True
 | _=>False
section
variable {P:KI} {w:LQ} {H:Hp} {h h':MV} {x e:JO} {o':HO}
theorem Kg.write(ok:Kg P w H h)(mu:BM (H x))(he:e=x∨H e=some (.own x))(k:∀b u,b≠e->h.get? b=some u->h'.get? b=some u)(heo:∃u,h'.get? e=some u)(new:Cg P w (upd H x o') h' x o'):Kg P w (upd H x o') h':=λb u q=>by
 have nown:∀c y,H c=some (.own y)->c≠x:=λc y r z=>by subst z;rw[r] at mu;exact mu
 have ntup:∀c xs,H c=some (.tup xs)->c≠x:=λc xs r z=>by subst z;rw[r] at mu;exact mu
 by_cases hb:b=x
 ·subst hb;rw[Aa] at q;cases q;exact new
 ·rw[Aj hb] at q
  by_cases hbe:b=e
  ·have q':H b=some (.own x):=by
    rcases he with z | z
    ·exact absurd (hbe.trans z) hb
    ·rw[hbe];exact z
   rw[q] at q';cases q'
   obtain⟨v,hv⟩:=heo
   exact⟨v,by rw[hbe];exact hv⟩
  ·refine(ok b u q).stay (λc v hc r=>k c v ?_ r) (λc r=>by rw[Aj (nown c b r)];exact r) λc xs r=>by rw[Aj (ntup c xs r)];exact r
   rcases hc with rfl | hc
   ·exact hbe
   ·rintro rfl
    rcases he with z | z
    ·exact nown c b hc z
    ·rw[hc] at z;cases z;exact hb rfl
end
structure Un(fs ex:List JO)(H H':Hp)(h h':MV):Prop where
 keep:∀b o,h.get? b=some o->H b=none->b∉fs->b∉ex->h'.get? b=some o
 slot:∀b o,h.get? b=some o->H b=none->b∈fs->b∉ex->∃sl,h'.get? b=some { o with slots:=sl }
 free:∀b o,h.get? b=some o->H b=none->b∉ex->H' b=none
 there:∀b o,h.get? b=some o->b∉ex->∃o',h'.get? b=some o'
 tups:∀b xs,H b=some (.tup xs)->H' b=some (.tup xs)
 frzs:∀b o u,H b=some (.frz o u)->H' b=some (.frz o u)
 tbls:∀b ps,H b=some (.tbl ps)->∃more,H' b=some (.tbl (ps++more))
section
variable {fs fs' ex ex':List JO} {H H1 H2:Hp} {h h1 h2 h':MV} {a x e:JO} {o:HO}
theorem Un.any(u:Un fs ex H H1 h h1){b:JO}{ob:Obj}(q:h.get? b=some ob)(n:H b=none)(hx:b∉ex):∃sl,h1.get? b=some { ob with slots:=sl }:=by
 by_cases hb:b∈fs
 ·exact u.slot b ob q n hb hx
 ·exact⟨ob.slots,u.keep b ob q n hb hx⟩
theorem Un.kept(k:∀b u,h.get? b=some u->h'.get? b=some u):Un fs ex H H h h':=
 ⟨λb ob q _ _ _=>k b ob q,λb ob q _ _ _=>⟨ob.slots,k b ob q⟩,λ_ _ _ n _=>n,λb ob q _=>⟨ob,k b ob q⟩,λ_ _ q=>q,λ_ _ _ q=>q,λ_ ps q=>⟨#[],by rw[q];simp⟩⟩
theorem Un.refl:Un fs ex H H h h:=Un.kept λ_ _ q=>q
theorem Un.laid(k:∀b u,h.get? b=some u->h'.get? b=some u)(hp:h.objs.size<=a)(hn:H a=none):Un fs ex H (upd H a o) h h' where
 keep:=λb u q _ _ _=>k b u q
 slot:=λb u q _ _ _=>⟨u.slots,k b u q⟩
 free:=λb u q n _=>by rw[Aj (KQ (LI (KA q) hp))];exact n
 there:=λb u q _=>⟨u,k b u q⟩
 tups:=λb xs q=>by rw[Aj (Ai q hn)];exact q
 frzs:=λb u xs q=>by rw[Aj (Ai q hn)];exact q
 tbls:=λb ps q=>⟨#[],by rw[Aj (Ai q hn),q];simp⟩
theorem Un.write(mu:BM (H x))(he:e=x∨H e=some (.own x))(k:∀b u,b≠e->h.get? b=some u->h'.get? b=some u)(heo:∃u,h'.get? e=some u):Un fs ex H (upd H x o) h h':=by
 have hx:∀b,H b=none->b≠x:=λb n z=>by subst z;rw[n] at mu;exact mu
 have hb:∀b,H b=none->b≠e:=λb n z=>by
  subst z
  rcases he with r | r
  ·exact hx b n r
  ·rw[n] at r;cases r
 have hm:∀b u,H b=some u->¬ BM (some u)->b≠x:=λb u q nm z=>by subst z;rw[q] at mu;exact nm mu
 refine⟨λb u q n _ _=>k b u (hb b n) q,λb u q n _ _=>⟨u.slots,k b u (hb b n) q⟩,λb u q n _=>by rw[Aj (hx b n)];exact n,λb u q _=>?_,
  λb xs q=>by rw[Aj (hm b _ q λz=>z)];exact q,λb u xs q=>by rw[Aj (hm b _ q λz=>z)];exact q,λb ps q=>⟨#[],by rw[Aj (hm b _ q λz=>z),q];simp⟩⟩
 by_cases hbe:b=e
 ·subst hbe;exact heo
 ·exact⟨u,k b u hbe q⟩
end
def EU(h:MV)(H:Hp):List JO:=(SI h.objs.size).filter λa=>(H a).isSome
def Lm(h:MV)(H:Hp):MV:=PySem.W.hideAll h (EU h H)
theorem Sz(h:MV)(H:Hp):(Lm h H).objs.size=h.objs.size:=PySem.W.hideAll_size _ _
theorem Qd{h:MV}{H:Hp}{b:JO}{o:Obj}(e:h.get? b=some o)(n:H b=none):(Lm h H).get? b=some o:=
 PySem.W.hideAll_get _ e λhm=>by
  have q:(H b).isSome=true:=(List.mem_filter.mp hm).2
  rw[n] at q;simp at q
theorem gC{h:MV}{H:Hp}{b:JO}{o:Obj}(e:(Lm h H).get? b=some o):h.get? b=some o/\H b=none:=by
 have e':h.get? b=some o:=PySem.W.of_hideAll (EU h H) e
 refine⟨e',?_⟩
 cases q:H b with
 | none=>rfl
 | some x=>
  have hm:b∈EU h H:=List.mem_filter.mpr ⟨List.mem_range.mpr (KA e'),by simp[q]⟩
  have z:(Lm h H).get? b=none:=PySem.W.hideAll_none (EU h H) hm
  rw[z] at e;cases e
structure Mod(K:JG)(mg:Str->Option JH)(base:MV):Prop where
 kin:K.In base
 glob:base.Ns LH mg
 blt:∃mb,base.Ns builtinsNs mb/\∀x:Str,x ≠ "__name__" -> mb x=PZ x
 nolimit:base.NoLimit
structure Cx where
 prog:KI
 w:LQ
 K:JG
 mg:Str->Option JH
 base:MV
 A:LM
 N:List Str
 s₀:JL
 H₀:Hp
 env:Env
 outer:List Env
 stack:List Env
 ex:List JO
 fn:Str->Bool
 calm:Bool
 sx:Bool
 pn:List (JO×Obj)
 xe:JH->JL->Prop
def Rc(l:List Env):List JO:=l.filterMap (·.frame)
abbrev Cx.fs(X:Cx):List JO:=Rc X.outer
def GD(sc:Scope)(x:Str):Prop:=sc.names.lookup x=some .local∨sc.names.lookup x=some .cell∨sc.names.lookup x=some .free
def Loc(sc:Scope)(x:Str):Prop:=sc.names.lookup x=some .local∨sc.names.lookup x=some .cell
def Look(env:Env)(h:MV)(m:Str->Option JH)(x:Str)(u:JH):Prop:=
 (env.kindOf x=some .local/\m x=some u)∨((env.kindOf x=some .cell∨env.kindOf x=some .free)/\∃c,env.cells.lookup x=some c/\h.IsCell c (some u))
structure Cx.Ok(X:Cx):Prop where
 mod:Mod X.K X.mg X.base
 kind:X.env.scope.kind=.function
 glob:X.env.globals=LH
 blt:X.env.builtins=builtinsNs
 above:X.s₀.heap.objs.size<=X.env.locals
 inj:∀x y c,X.env.cells.lookup x=some c->X.env.cells.lookup y=some c->x=y
 has:∀x,(X.env.kindOf x=some .cell∨X.env.kindOf x=some .free)->∃c,X.env.cells.lookup x=some c
 cab:∀x c,X.fn x=true->X.env.cells.lookup x=some c->X.s₀.heap.objs.size<=c
 hd:X.calm=true->Bp X.A X.base
 st:X.sx=true->X.A.handled=none
 frames:X.A.frames=some X.stack
 stk:X.stack=X.outer∨(X.stack=X.env::X.outer/\X.env.frame=some X.env.locals)
 exf:∀b∈X.ex,b≠X.env.locals/\∀x c,X.env.cells.lookup x=some c->c≠b
 bs:∀b o,X.base.get? b=some o->X.s₀.heap.get? b=some o/\X.H₀ b=none
 bsz:X.base.objs.size<=X.s₀.heap.objs.size
 noex:∀b o,X.base.get? b=some o->b∉X.ex
 exfs:∀b∈X.ex,b∉X.fs
 funs:X.s₀.heap.FunFrames X.base X.outer
 frf:∀b∈X.fs,X.H₀ b=none
structure Inv(X:Cx)(pins:List (JO×Obj))(σ:List (Option V))(H:Hp)(s:JL):Prop where
 ok:X.Ok
 os:s.os=X.s₀.os
 bare:AllBare s.gens
 base:Un X.fs X.ex X.H₀ H X.s₀.heap s.heap
 loc:∃m,s.heap.Ns X.env.locals m/\∀(i:Nat)(x:Str)(v:V),X.N[i]? = some x->σ[i]? = some (some v)->GD X.env.scope x->∃u,RelV v u/\Look X.env s.heap m x u
 cell:∀x c,X.env.cells.lookup x=some c->∃v,s.heap.IsCell c v
 free:H X.env.locals=none
 freeC:∀x c,X.env.cells.lookup x=some c->H c=none
 pin:∀p∈X.pn++pins,s.heap.get? p.1=some p.2/\H p.1=none/\p.1≠X.env.locals/\p.1∉X.fs/\∀v,p.2.data ≠ .cell v
 hok:Kg X.prog X.w H s.heap
 len:σ.length=X.N.length
section
variable {X:Cx} {pins:List (JO×Obj)} {σ:List (Option V)} {H H':Hp} {s:JL} {h':MV}
theorem Cx.Ok.nofr(ok:X.Ok){b:JO}{o:Obj}(e:X.base.get? b=some o):b∉X.fs:=λhb=>by
 have:=(ok.funs.mem hb).1
 rw[e] at this;cases this
theorem Inv.bs(I:Inv X pins σ H s):∀b o,X.base.get? b=some o->s.heap.get? b=some o/\H b=none:=λb o e=>
 ⟨I.base.keep b o (I.ok.bs b o e).1 (I.ok.bs b o e).2 (I.ok.nofr e) (I.ok.noex b o e),I.base.free b o (I.ok.bs b o e).1 (I.ok.bs b o e).2 (I.ok.noex b o e)⟩
theorem Inv.bk(I:Inv X pins σ H s):∀b o,X.base.get? b=some o->s.heap.get? b=some o:=λb o e=>(I.bs b o e).1
theorem Inv.calmS(I:Inv X pins σ H s)(hc:X.calm=true):Bp X.A s.heap:=(I.ok.hd hc).ext I.bk
theorem Inv.mod(I:Inv X pins σ H s):Mod X.K X.mg X.base:=I.ok.mod
theorem Inv.kIn(I:Inv X pins σ H s):X.K.In s.heap:=I.ok.mod.kin.keeps I.bk
theorem Inv.fr(I:Inv X pins σ H s):∃m,Fr X.base X.env.locals s.heap m:=
 let ⟨m,hn,_⟩:=I.loc
 ⟨m,hn,I.bk,KZ I.ok.bsz I.ok.above⟩
theorem Inv.lt(I:Inv X pins σ H s):X.env.locals < s.heap.objs.size:=let ⟨_,hn,_⟩:=I.loc;hn.lt
theorem Inv.sz(I:Inv X pins σ H s):X.s₀.heap.objs.size<=s.heap.objs.size:=KZ I.ok.above (Nat.le_of_lt I.lt)
theorem Inv.nofs(I:Inv X pins σ H s){a:JO}(h:s.heap.objs.size<=a):a∉X.fs:=λhb=>by
 obtain⟨_,o,ho,_⟩:=I.ok.funs.mem hb
 exact absurd (LI (KA ho) (KZ I.sz h)) (PQ _)
theorem Inv.cne(I:Inv X pins σ H s):∀x c,X.env.cells.lookup x=some c->c≠X.env.locals:=λx c e z=>by
 obtain⟨v,o,ho,hd⟩:=I.cell x c e
 obtain⟨m,⟨o',es,ep,ho',hd',_⟩,_⟩:=I.loc
 rw[z,ho'] at ho;cases ho;rw[hd'] at hd;cases hd
theorem Inv.funs(I:Inv X pins σ H s):s.heap.FunFrames X.base X.outer:=by
 have all:∀(l:List Env),(∀b∈Rc l,b∈X.fs)->X.s₀.heap.FunFrames X.base l->s.heap.FunFrames X.base l:=by
  intro l
  induction l with
  | nil=>intro _ _;trivial
  | cons env r ih=>
   intro hs hl
   obtain⟨hk,⟨L,o,hf,hn,ho,hd⟩,hr⟩:=hl
   have hL:L∈X.fs:=hs L (by unfold Rc;rw[List.filterMap_cons,hf];exact JW)
   obtain⟨sl,e⟩:=I.base.slot L o ho (I.ok.frf L hL) hL λz=>I.ok.exfs L z hL
   exact⟨hk,⟨L,_,hf,hn,e,hd⟩,ih (λb hb=>hs b (by unfold Rc;rw[List.filterMap_cons,hf];exact JU _ hb)) hr⟩
 exact all X.outer (λ_ hb=>hb) I.ok.funs
theorem Inv.stack(I:Inv X pins σ H s):s.heap.FunFrames X.base X.stack:=by
 rcases I.ok.stk with e | ⟨e,hf⟩
 ·rw[e];exact I.funs
 ·rw[e]
  obtain⟨m,hn,_⟩:=I.loc
  refine .cons (by rw[I.ok.kind];decide) hf hn ?_ I.funs
  exact Heap.get?_none_of_le (KZ I.ok.bsz I.ok.above)
theorem Inv.stkSub(I:Inv X pins σ H s):∀b∈Rc X.stack,b∈X.env.locals::X.fs:=λb hb=>by
 rcases I.ok.stk with e | ⟨e,hf⟩
 ·rw[e] at hb;exact JU _ hb
 ·rw[e] at hb
  unfold Rc at hb
  rw[List.filterMap_cons,hf] at hb
  exact hb
theorem Inv.stkFree(I:Inv X pins σ H s):∀b∈Rc X.stack,H b=none:=λb hb=>by
 rcases JT.mp (I.stkSub b hb) with e | hb
 ·rw[e];exact I.free
 ·obtain⟨_,o,ho,_⟩:=I.ok.funs.mem hb
  exact I.base.free b o ho (I.ok.frf b hb) λz=>I.ok.exfs b z hb
theorem Inv.step{g':Array GenState}{t':Nat}{d':Drawn}{ch:List JO}(I:Inv X pins σ H s)(hch:∀b∈ch,(b∈X.ex∨X.s₀.heap.objs.size<=b)/\b≠X.env.locals/\(∀x c,X.env.cells.lookup x=some c->c≠b)/\∀p∈X.pn++pins,p.1≠b)(keep:∀b o,b≠X.env.locals->b∉X.fs->b∉ch->s.heap.get? b=some o->H b=none->h'.get? b=some o)(slot:∀b o,b≠X.env.locals->b∈X.fs->b∉ch->s.heap.get? b=some o->H b=none->∃sl,h'.get? b=some { o with slots:=sl })(free:∀b o,b∉ch->s.heap.get? b=some o->H b=none->H' b=none)(there:∀b o,b∉ch->s.heap.get? b=some o->∃o',h'.get? b=some o')(tups:∀b xs,H b=some (.tup xs)->H' b=some (.tup xs))(frzs:∀b o u,H b=some (.frz o u)->H' b=some (.frz o u))(tbls:∀b ps,H b=some (.tbl ps)->∃more,H' b=some (.tbl (ps++more)))(ns:∀m,s.heap.Ns X.env.locals m->h'.Ns X.env.locals m)(hok:Kg X.prog X.w H' h')(hg:AllBare g'):
 Inv X pins σ H' { s with heap:=h',gens:=g',drawn:=d',toks:=t' }:=by
 have neL:∀b o,X.s₀.heap.get? b=some o->b≠X.env.locals:=λb o e=>KQ (LI (KA e) I.ok.above)
 have neC:∀b o,X.s₀.heap.get? b=some o->b∉X.ex->b∉ch:=λb o e hx hb=>by
  rcases (hch b hb).1 with z | z
  ·exact hx z
  ·exact absurd (LI (KA e) z) (PQ _)
 have cellK:∀x c,X.env.cells.lookup x=some c->∀v,s.heap.IsCell c v->h'.IsCell c v:=λx c e v ⟨o,ho,hd⟩=>by
  have nch:c∉ch:=λz=>(hch c z).2.2.1 x c e rfl
  by_cases hc:c∈X.fs
  ·obtain⟨sl,q⟩:=slot c o (I.cne x c e) hc nch ho (I.freeC x c e)
   exact⟨_,q,hd⟩
  ·exact⟨o,keep c o (I.cne x c e) hc nch ho (I.freeC x c e),hd⟩
 refine⟨I.ok,I.os,hg,⟨λb o e n hb hx=>?_,λb o e n hb hx=>?_,λb o e n hx=>?_,λb o e hx=>?_,λb xs e=>tups b xs (I.base.tups b xs e),λb o xs e=>frzs b o xs (I.base.frzs b o xs e),λb ps e=>?_⟩,?_,λx c e=>?_,?_,λx c e=>?_,λp hp=>?_,hok,I.len⟩
 ·exact keep b o (neL b o e) hb (neC b o e hx) (I.base.keep b o e n hb hx) (I.base.free b o e n hx)
 ·obtain⟨sl,e1⟩:=I.base.slot b o e n hb hx
  obtain⟨sl',e2⟩:=slot b _ (neL b o e) hb (neC b o e hx) e1 (I.base.free b o e n hx)
  exact⟨sl',e2⟩
 ·obtain⟨o',e1⟩:=I.base.there b o e hx
  exact free b o' (neC b o e hx) e1 (I.base.free b o e n hx)
 ·obtain⟨o',e1⟩:=I.base.there b o e hx
  exact there b o' (neC b o e hx) e1
 ·obtain⟨m1,e1⟩:=I.base.tbls b ps e
  obtain⟨m2,e2⟩:=tbls b _ e1
  exact⟨m1++m2,by rw[e2,Array.append_assoc]⟩
 ·obtain⟨m,hn,hl⟩:=I.loc
  refine⟨m,ns m hn,λi x v e1 e2 e3=>?_⟩
  obtain⟨u,r,l⟩:=hl i x v e1 e2 e3
  refine⟨u,r,?_⟩
  rcases l with l | ⟨k,c,e,z⟩
  ·exact .inl l
  ·exact .inr ⟨k,c,e,cellK x c e _ z⟩
 ·obtain⟨v,z⟩:=I.cell x c e
  exact⟨v,cellK x c e v z⟩
 ·obtain⟨m,⟨o,_,_,ho,_⟩,_⟩:=I.loc
  exact free _ o (λz=>(hch _ z).2.1 rfl) ho I.free
 ·obtain⟨v,o,ho,hd⟩:=I.cell x c e
  exact free c o (λz=>(hch c z).2.2.1 x c e rfl) ho (I.freeC x c e)
 ·obtain⟨e,n,ne,nf,d⟩:=I.pin p hp
  have nch:p.1∉ch:=λz=>(hch p.1 z).2.2.2 p hp rfl
  exact⟨keep p.1 p.2 ne nf nch e n,free p.1 p.2 nch e n,ne,nf,d⟩
theorem Inv.un{t':Nat}(I:Inv X pins σ H s)(u:Un X.fs [] H H' s.heap h')(hok:Kg X.prog X.w H' h'):Inv X pins σ H' { s with heap:=h',toks:=t' }:=by
 obtain⟨m,⟨o,es,ep,ho,r⟩,_⟩:=id I.loc
 obtain⟨sl,hL⟩:=u.any ho I.free (by simp)
 exact I.step (g':=s.gens) (d':=s.drawn) (ch:=[]) (λ_ z=>nomatch z) (λb o _ hb _ e n=>u.keep b o e n hb (by simp)) (λb o _ hb _ e n=>u.slot b o e n hb (by simp)) (λb o _ e n=>u.free b o e n (by simp)) (λb o _ e=>u.there b o e (by simp)) u.tups u.frzs u.tbls (λm' hm=>by
  obtain⟨o',es',ep',ho',r'⟩:=hm
  rw[ho] at ho';cases ho'
  exact⟨_,es',ep',hL,r'⟩) hok I.bare
theorem Inv.call{g':Array GenState}{t':Nat}{d':Drawn}{ch:List JO}(I:Inv X pins σ H s)(u:Un (Rc X.stack) ch H H' s.heap h')(hok:Kg X.prog X.w H' h')(hg:AllBare g')(hch:∀b∈ch,(b∈X.ex∨X.s₀.heap.objs.size<=b)/\b≠X.env.locals/\(∀x c,X.env.cells.lookup x=some c->c≠b)/\∀p∈X.pn++pins,p.1≠b):
 Inv X pins σ H' { s with heap:=h',gens:=g',drawn:=d',toks:=t' }:=by
 obtain⟨m,⟨o,es,ep,ho,r⟩,_⟩:=id I.loc
 obtain⟨sl,hL⟩:=u.any ho I.free λz=>(hch _ z).2.1 rfl
 exact I.step (ch:=ch) hch (λb o hL hb hc e n=>u.keep b o e n (λz=>(JT.mp (I.stkSub b z)).elim hL hb) hc) (λb o _ _ hc e n=>u.any e n hc) (λb o hc e n=>u.free b o e n hc) (λb o hc e=>u.there b o e hc) u.tups u.frzs u.tbls (λm' hm=>by
  obtain⟨o',es',ep',ho',r'⟩:=hm
  rw[ho] at ho';cases ho'
  exact⟨_,es',ep',hL,r'⟩) hok hg
theorem Inv.turned{t':Nat}{it:JO}(I:Inv X pins σ H s)(k:∀b o,b≠it->s.heap.get? b=some o->h'.get? b=some o)(hn:H it=none)(hL:it≠X.env.locals)(h1:it∈X.ex∨X.s₀.heap.objs.size<=it)(h2:∀x c,X.env.cells.lookup x=some c->c≠it)(h3:∀p∈X.pn++pins,p.1≠it):Inv X pins σ H { s with heap:=h',toks:=t' }:=by
 have nit:∀b u,H b=some u->b≠it:=λb u e z=>by rw[z,hn] at e;cases e
 refine I.step (g':=s.gens) (d':=s.drawn) (ch:=[it]) (λb hb=>?_) (λb o _ _ hc e _=>k b o (λz=>hc (by simp[z])) e) (λb o _ _ hc e _=>⟨o.slots,k b o (λz=>hc (by simp[z])) e⟩) (λ_ _ _ _ n=>n)
  (λb o hc e=>⟨o,k b o (λz=>hc (by simp[z])) e⟩) (λ_ _ e=>e) (λ_ _ _ e=>e) (λb ps e=>⟨#[],by rw[e];simp⟩) (λm hm=>?_) (λb u e=>?_) I.bare
 ·have e:b=it:=by simpa using hb
  subst e
  exact⟨h1,hL,h2,h3⟩
 ·obtain⟨o,es,ep,ho,r⟩:=hm
  exact⟨o,es,ep,k _ o (LL hL) ho,r⟩
 ·refine(I.hok b u e).stay (λc v hc q=>k c v ?_ q) (λ_ q=>q) λ_ _ q=>q
  rcases hc with z | z
  ·rw[z];exact nit b u e
  ·exact nit c _ z
theorem Inv.tok(I:Inv X pins σ H s)(t:Nat):Inv X pins σ H { s with toks:=t }:=I.un (h':=s.heap) (t':=t) Un.refl I.hok
theorem Inv.kept{t':Nat}(I:Inv X pins σ H s)(k:∀b u,s.heap.get? b=some u->h'.get? b=some u):Inv X pins σ H { s with heap:=h',toks:=t' }:=I.un (Un.kept k) (I.hok.kept k)
theorem Inv.laid{a:JO}{o:HO}{t':Nat}(I:Inv X pins σ H s)(k:∀b u,s.heap.get? b=some u->h'.get? b=some u)(hp:s.heap.objs.size<=a)(new:Cg X.prog X.w (upd H a o) h' a o):
 Inv X pins σ (upd H a o) { s with heap:=h',toks:=t' }:=I.un (Un.laid k hp (I.hok.fresh hp)) (I.hok.laid k hp new)
theorem Inv.write{x e:JO}{o:HO}{t':Nat}(I:Inv X pins σ H s)(mu:BM (H x))(he:e=x∨H e=some (.own x))(k:∀b u,b≠e->s.heap.get? b=some u->h'.get? b=some u)(heo:∃u,h'.get? e=some u)(new:Cg X.prog X.w (upd H x o) h' x o):Inv X pins σ (upd H x o) { s with heap:=h',toks:=t' }:=I.un (Un.write mu he k heo) (I.hok.write mu he k heo new)
theorem Inv.weak{σ':List (Option V)}(I:Inv X pins σ H s)(hl:σ'.length=σ.length)(w:∀(i:Nat) v,σ'[i]? = some (some v)->σ[i]? = some (some v)):Inv X pins σ' H s:=
 ⟨I.ok,I.os,I.bare,I.base,let ⟨m,hn,hl'⟩:=I.loc;⟨m,hn,λi x v e1 e2 e3=>hl' i x v e1 (w i v e2) e3⟩,I.cell,I.free,I.freeC,I.pin,I.hok,hl.trans I.len⟩
theorem Inv.pins_of{pins':List (JO×Obj)}(I:Inv X pins σ H s)(h:∀p∈pins',s.heap.get? p.1=some p.2/\H p.1=none/\p.1≠X.env.locals/\p.1∉X.fs/\∀v,p.2.data ≠ .cell v):Inv X pins' σ H s:=
 ⟨I.ok,I.os,I.bare,I.base,I.loc,I.cell,I.free,I.freeC,λp hp=>(KO.mp hp).elim (λz=>I.pin p (ML _ z)) (h p),I.hok,I.len⟩
theorem Xv{N:List Str}(hN:N.Nodup){i j:Nat}{x:Str}(a:N[i]? = some x)(b:N[j]? = some x):i=j:=by
 obtain⟨h1,e1⟩:=JF.mp a
 obtain⟨h2,e2⟩:=JF.mp b
 exact(List.getElem_inj hN).mp (e1.trans e2.symm)
theorem kJ{M:Model}{A:LM}{E:JH->JL->Prop}{i:Nat}{x:Str}{v:V}{u:JH}{Q:Unit->JL->Prop}(I:Inv X pins σ H s)(hN:X.N.Nodup)(hi:X.N[i]? = some x)(hx:Loc X.env.scope x)(r:RelV v u)(h:∀s',Inv X pins (σ.set i (some v)) H s'->(∃a,Heap.SameBut a s.heap s'.heap/\(a=X.env.locals∨X.env.cells.lookup x=some a))->Q () s')(hf:X.fn x=true∨X.env.scope.names.lookup x=some .local:=by first | exact .inl rfl | exact .inr rfl | assumption):KY M A (storeName X.env x u) Q E s:=by
 obtain⟨m,hn,hl⟩:=id I.loc
 have hcls:(X.env.scope.kind == .class || (X.env.scope.kind == .module && X.env.locals != X.env.globals))=false:=by rw[I.ok.kind];rfl
 have hiσ:i < σ.length:=by rw[I.len];exact(JF.mp hi).1
 have cne:=I.cne
 have tracked:∀ {a:JO} {h':MV},(∃o,s.heap.get? a=some o/\H a=none)->Heap.SameBut a s.heap h'->Kg X.prog X.w H h':=λ{a h'} ha hs b ob e=>by
  obtain⟨_,_,hfree⟩:=ha
  refine(I.hok b ob e).stay (λc w' hc q=>(hs.2 c ?_).trans q) (λ_ q=>q) λ_ _ q=>q
  rintro rfl
  rcases hc with rfl | hc
  ·rw[hfree] at e;cases e
  ·rw[hfree] at hc;cases hc
 rcases hx with hk | hk
 ·refine wpAny_storeName_local hk hn (λh' hn' hs=>?_) hcls
  obtain⟨oL,_,_,hoL,_⟩:=id hn
  refine h _ ⟨I.ok,I.os,I.bare,⟨λb o e n hb hx=>?_,λb o e n hb hx=>?_,I.base.free,λb o e hx=>?_,I.base.tups,I.base.frzs,I.base.tbls⟩,⟨_,hn',λj y v' e1 e2 e3=>?_⟩,λy c e=>?_,I.free,I.freeC,λp hp=>?_,tracked ⟨oL,hoL,I.free⟩ hs,by simpa using I.len⟩ ⟨_,hs,.inl rfl⟩
  ·exact(hs.2 b (KQ (LI (KA e) I.ok.above))).trans (I.base.keep b o e n hb hx)
  ·obtain⟨sl,e1⟩:=I.base.slot b o e n hb hx
   exact⟨sl,(hs.2 b (KQ (LI (KA e) I.ok.above))).trans e1⟩
  ·obtain⟨o',e1⟩:=I.base.there b o e hx
   exact⟨o',(hs.2 b (KQ (LI (KA e) I.ok.above))).trans e1⟩
  ·by_cases hj:j=i
   ·subst hj
    rw[hi] at e1;cases e1
    rw[OA hiσ] at e2
    cases e2
    exact⟨u,r,.inl ⟨hk,by simp⟩⟩
   ·rw[NN (LL hj)] at e2
    obtain⟨u',r',q⟩:=hl j y v' e1 e2 e3
    refine⟨u',r',?_⟩
    rcases q with ⟨k,e⟩ | ⟨k,c,e,z⟩
    ·refine .inl ⟨k,?_⟩
     have:y≠x:=λe=>hj (Xv hN e1 (e ▸ hi))
     simp[this,e]
    ·exact .inr ⟨k,c,e,z.sameBut hs (cne y c e)⟩
  ·obtain⟨w',z⟩:=I.cell y c e
   exact⟨w',z.sameBut hs (cne y c e)⟩
  ·obtain⟨e,n,ne,nf,d⟩:=I.pin p hp
   exact⟨(hs.2 p.1 ne).trans e,n,ne,nf,d⟩
 ·have hfn:X.fn x=true:=by
   rcases hf with z | z
   ·exact z
   ·rw[z] at hk;cases hk
  obtain⟨c,hc⟩:=I.ok.has x (.inl hk)
  obtain⟨w',z⟩:=I.cell x c hc
  refine wpAny_storeName_cell I.ok.kind hk hc z (λh' hc' hs=>?_)
  obtain⟨oc,hoc,hocd⟩:=id z
  refine h { s with heap:=h' } ⟨I.ok,I.os,I.bare,⟨λb o e n hb hx=>?_,λb o e n hb hx=>?_,I.base.free,λb o e hx=>?_,I.base.tups,I.base.frzs,I.base.tbls⟩,⟨m,hn.sameBut hs (LL (cne x c hc)),λj y v' e1 e2 e3=>?_⟩,λy c' e=>?_,I.free,I.freeC,λp hp=>?_,tracked ⟨oc,hoc,I.freeC x c hc⟩ hs,by simpa using I.len⟩ ⟨c,hs,.inr hc⟩
  ·exact(hs.2 b (KQ (LI (KA e) (I.ok.cab x c hfn hc)))).trans (I.base.keep b o e n hb hx)
  ·obtain⟨sl,e1⟩:=I.base.slot b o e n hb hx
   exact⟨sl,(hs.2 b (KQ (LI (KA e) (I.ok.cab x c hfn hc)))).trans e1⟩
  ·obtain⟨o',e1⟩:=I.base.there b o e hx
   exact⟨o',(hs.2 b (KQ (LI (KA e) (I.ok.cab x c hfn hc)))).trans e1⟩
  ·by_cases hj:j=i
   ·subst hj
    rw[hi] at e1;cases e1
    rw[OA hiσ] at e2
    cases e2
    exact⟨u,r,.inr ⟨.inl hk,c,hc,hc'⟩⟩
   ·rw[NN (LL hj)] at e2
    obtain⟨u',r',q⟩:=hl j y v' e1 e2 e3
    refine⟨u',r',?_⟩
    rcases q with q | ⟨k,c',e,z'⟩
    ·exact .inl q
    ·refine .inr ⟨k,c',e,z'.sameBut hs ?_⟩
     rintro rfl
     exact hj (Xv hN e1 (I.ok.inj _ _ _ e hc ▸ hi))
  ·by_cases hcc:c'=c
   ·subst hcc;exact⟨_,hc'⟩
   ·obtain⟨w2,z2⟩:=I.cell y c' e
    exact⟨w2,z2.sameBut hs hcc⟩
  ·obtain⟨e,n,ne,nf,d⟩:=I.pin p hp
   refine⟨(hs.2 p.1 ?_).trans e,n,ne,nf,d⟩
   intro q
   rw[q,hoc] at e
   have q':oc=p.2:=LC e
   exact d w' (by rw[<- q'];exact hocd)
theorem Po{M:Model}{A:LM}{E:JH->JL->Prop}{i:Nat}{x:Str}{v:V}{u:JH}{Q:Unit->JL->Prop}(I:Inv X pins σ H s)(hN:X.N.Nodup)(hi:X.N[i]? = some x)(hx:Loc X.env.scope x)(r:RelV v u)(h:∀s',Inv X pins (σ.set i (some v)) H s'->Q () s')(hf:X.fn x=true∨X.env.scope.names.lookup x=some .local:=by first | exact .inl rfl | exact .inr rfl | assumption):KY M A (storeName X.env x u) Q E s:=
 kJ I hN hi hx r (λs' I' _=>h s' I') hf
theorem Inv.call'{s':JL}{ch:List JO}(I:Inv X pins σ H s)(ho:s'.os=s.os)(u:Un (Rc X.stack) ch H H' s.heap s'.heap)(hok:Kg X.prog X.w H' s'.heap)(hg:AllBare s'.gens)(hch:∀b∈ch,(b∈X.ex∨X.s₀.heap.objs.size<=b)/\b≠X.env.locals/\(∀x c,X.env.cells.lookup x=some c->c≠b)/\∀p∈X.pn++pins,p.1≠b):Inv X pins σ H' s':=by
 obtain⟨h',g',d',t',o'⟩:=s'
 have e:o'=s.os:=ho
 subst e
 exact I.call (g':=g') (t':=t') (d':=d') u hok hg hch
end
abbrev XK:=JH->Option JO->Hp->Prop
abbrev St:=List (Option V)
abbrev VK:=V->Hp->Prop
abbrev TE:=St->Hp->VK->Prop
abbrev TT:=St->Hp->(Bool->Hp->Prop)->Prop
abbrev TA:=St->Hp->(List V->Hp->Prop)->Prop
structure Ends where
 nx:St->Hp->Prop
 rt:VK
 bk:St->Hp->Prop:=λ_ _=>False
 ct:St->Hp->Prop:=λ_ _=>False
abbrev TS:=Ends->St->Hp->Prop
def EP(X:Cx)(pins:List (JO×Obj))(σ:St)(Q:VK)(u:JH)(s':JL):Prop:=∃v H',Inv X pins σ H' s'/\RelV v u/\Q v H'
def TP(X:Cx)(pins:List (JO×Obj))(σ:St)(Q:Bool->Hp->Prop)(b:Bool)(s':JL):Prop:=∃H',Inv X pins σ H' s'/\Q b H'
def AP(X:Cx)(pins:List (JO×Obj))(σ:St)(Q:List V->Hp->Prop)(us:List JH)(s':JL):Prop:=∃vs H',Inv X pins σ H' s'/\Bb vs us/\Q vs H'
def SP(X:Cx)(pins:List (JO×Obj))(D:Ends)(f:Flow)(s':JL):Prop:=
 match f with
 | .next=>∃σ' H',Inv X pins σ' H' s'/\D.nx σ' H'
 | .brk=>∃σ' H',Inv X pins σ' H' s'/\D.bk σ' H'
 | .cont=>∃σ' H',Inv X pins σ' H' s'/\D.ct σ' H'
 | .ret u=>∃v σ' H',Inv X pins σ' H' s'/\RelV v u/\D.rt v H'
def PE(X:Cx)(e:Expr)(t:TE):Prop:=
 ∀(pins:List (JO×Obj))(s:JL)(σ:St)(H:Hp)(Q:VK),Inv X pins σ H s->t σ H Q->KY (LB X.prog X.w) X.A (PD e X.env) (EP X pins σ Q) X.xe s
def PT(X:Cx)(e:Expr)(t:TT):Prop:=
 ∀(pins:List (JO×Obj))(s:JL)(σ:St)(H:Hp)(Q:Bool->Hp->Prop),Inv X pins σ H s->t σ H Q->KY (LB X.prog X.w) X.A (isTrue e X.env (PD e X.env)) (TP X pins σ Q) X.xe s
def PW(X:Cx)(e:Expr)(t:TT):Prop:=
 ∀(whole:Sem JH)(pins:List (JO×Obj))(s:JL)(σ:St)(H:Hp)(Q:Bool->Hp->Prop),Inv X pins σ H s->t σ H Q->KY (LB X.prog X.w) X.A (isTrue e X.env whole) (TP X pins σ Q) X.xe s
theorem PW.pt{X:Cx}{e:Expr}{t:TT}(h:PW X e t):PT X e t:=h _
def PA(X:Cx)(es:List Expr)(t:TA):Prop:=
 ∀(pos:Pos)(pins:List (JO×Obj))(s:JL)(σ:St)(H:Hp)(Q:List V->Hp->Prop),Inv X pins σ H s->t σ H Q->KY (LB X.prog X.w) X.A (spliced (QO pos (KW es X.env))) (AP X pins σ Q) X.xe s
def PS(X:Cx)(st:OU)(t:TS):Prop:=
 ∀(pins:List (JO×Obj))(s:JL)(σ:St)(H:Hp)(D:Ends),Inv X pins σ H s->t D σ H->KY (LB X.prog X.w) X.A (exec st X.env) (SP X pins D) X.xe s
def Hy(X:Cx)(st:List OU)(t:TS):Prop:=
 ∀(pins:List (JO×Obj))(s:JL)(σ:St)(H:Hp)(D:Ends),Inv X pins σ H s->t D σ H->KY (LB X.prog X.w) X.A (execs st X.env) (SP X pins D) X.xe s
theorem Bu{α:Type}{t:Sem α}{Q Q':α->JL->Prop}{M:Model}{A:LM}{E:JH->JL->Prop}{s:JL}(h:KY M A t Q E s)(hQ:∀a s,Q a s->Q' a s):KY M A t Q' E s:=ND h hQ λ_ _ x=>x
section
variable {X:Cx}
theorem JD{a b:Expr}{ta tb:TE}(ha:PE X a ta)(hb:PE X b tb){pins:List (JO×Obj)}{s:JL}{σ:St}{H:Hp}{R:V->V->Hp->Prop}(I:Inv X pins σ H s)(h:ta σ H λx H1=>tb σ H1 λy H2=>R x y H2){α:Type}{Q:α->JL->Prop}{f:JH->JH->Sem α}(hf:∀v u s2 x y H2,Inv X pins σ H2 s2->RelV x v->RelV y u->R x y H2->KY (LB X.prog X.w) X.A (f v u) Q X.xe s2):
 KY (LB X.prog X.w) X.A (PD a X.env) (λv s₁=>KY (LB X.prog X.w) X.A (PD b X.env) (λu s₂=>KY (LB X.prog X.w) X.A (f v u) Q X.xe s₂) X.xe s₁) X.xe s:=by
 refine Bu (ha pins s σ H _ I h) λv s1 ⟨x,H1,I1,r1,q1⟩=>?_
 refine Bu (hb pins s1 σ H1 _ I1 q1) λu s2 ⟨y,H2,I2,r2,q2⟩=>?_
 exact hf v u s2 x y H2 I2 r1 r2 q2
def EI(i:Nat):TE:=λσ H Q=>∃v,σ[i]? = some (some v)/\Q v H
def tC(v:V):TE:=λ_ H Q=>Q v H
theorem yI{i:Nat}{x:Str}{pos:Pos}(hN:X.N[i]? = some x)(hv:GD X.env.scope x)(hd:(x == ("__debug__" : Str))=false:=by decide)(hcd:(x == ("__classdict__" : Str))=false:=by decide):PE X (.Name x pos) (EI i):=by
 intro pins s σ H Q I h
 obtain⟨v,e,h⟩:=h
 obtain⟨m,hn,hl⟩:=I.loc
 obtain⟨u,r,l⟩:=hl i x v hN e hv
 have fin:EP X pins σ Q u s:=⟨v,H,I,r,h⟩
 rcases l with ⟨hk,hm⟩ | ⟨hk,c,hc,hcell⟩
 ·exact wpAny_Name (wpAny_loadName_local I.ok.kind hk hn hm fin) hd
 ·rcases hk with hk | hk
  ·exact wpAny_Name (wpAny_loadName_cell I.ok.kind hk hc hcell fin) hd
  ·exact wpAny_Name (wpAny_loadName_free I.ok.kind hk hc hcell fin hcd) hd
theorem Ae{i j pos}:PE X (.Constant (.int i) j pos) (tC (.int i)):=λ_ _ _ H _ I h=>wpAny_Constant_int ⟨.int i,H,I.tok _,⟨_,rfl⟩,h⟩
theorem wV{b j pos}:PE X (.Constant (.bool b) j pos) (tC (.bl b)):=λ_ _ _ H _ I h=>Constant_bool ⟨.bl b,H,I,rfl,h⟩
theorem lF{j pos}:PE X (.Constant .none j pos) (tC .non):=λ_ _ _ H _ I h=>Constant_none ⟨.non,H,I,rfl,h⟩
theorem Ba{x j pos}:PE X (.Constant (.str x) j pos) (tC (.str x)):=λ_ _ _ H _ I h=>Calls.Constant_str ⟨.str x,H,I.tok _,⟨_,rfl⟩,h⟩
def Gl(X:Cx)(x:Str):Prop:=X.env.kindOf x=some .globalImplicit
theorem Hf{E:JH->JL->Prop}{pins:List (JO×Obj)}{s:JL}{σ:St}{H:Hp}{x:Str}{u:JH}{pos:Pos}{Q:JH->JL->Prop}(I:Inv X pins σ H s)(hg:Gl X x)(hm:X.mg x=some u)(h:Q u s)(hd:(x == ("__debug__" : Str))=false:=by decide):KY (LB X.prog X.w) X.A (PD (.Name x pos) X.env) Q E s:=
 Calls.Name_function_global I.ok.kind hg (Calls.loadGlobal_global (by rw[I.ok.glob];exact I.mod.glob.keeps I.bk) hm h) hd
theorem Io{E:JH->JL->Prop}{pins:List (JO×Obj)}{s:JL}{σ:St}{H:Hp}{x:Str}{u:JH}{pos:Pos}{Q:JH->JL->Prop}(I:Inv X pins σ H s)(hg:Gl X x)(hm:X.mg x=none)(hv:PZ x=some u)(h:Q u s)(hn:x ≠ "__name__" := by decide)(hd:(x == ("__debug__" : Str))=false:=by decide):KY (LB X.prog X.w) X.A (PD (.Name x pos) X.env) Q E s:=by
 obtain⟨mb,h1,h2⟩:=I.mod.blt
 exact Calls.Name_function_global I.ok.kind hg (Calls.loadGlobal_builtin (by rw[I.ok.glob];exact I.mod.glob.keeps I.bk) hm (by rw[I.ok.blt];exact h1.keeps I.bk) ((h2 x hn).trans hv) h) hd
theorem eC{x:Str}{v:V}{u:JH}{pos:Pos}(hg:Gl X x)(hm:X.mg x=some u)(r:RelV v u)(hd:(x == ("__debug__" : Str))=false:=by decide):PE X (.Name x pos) (tC v):=
 λ_ _ _ H _ I h=>Hf I hg hm ⟨v,H,I,r,h⟩ hd
theorem Ij{x:Str}{v:V}{u:JH}{pos:Pos}(hg:Gl X x)(hm:X.mg x=none)(hv:PZ x=some u)(r:RelV v u)(hn:x ≠ "__name__" := by decide)(hd:(x == ("__debug__" : Str))=false:=by decide):PE X (.Name x pos) (tC v):=
 λ_ _ _ H _ I h=>Io I hg hm hv ⟨v,H,I,r,h⟩ hn hd
variable {a b:Expr} {ta tb:TE} {pos:Pos}
def PC(X:Cx)(op:CmpOp)(a b:Expr)(t:TE):Prop:=
 ∀(pins:List (JO×Obj))(s:JL)(σ:St)(H:Hp)(Q:VK),Inv X pins σ H s->t σ H Q ->
  KY (LB X.prog X.w) X.A (PD a X.env) (λv s₁=>KY (LB X.prog X.w) X.A (PD b X.env) (λu s₂=>KY (LB X.prog X.w) X.A (OW op v u) (EP X pins σ Q) X.xe s₂) X.xe s₁) X.xe s
theorem pC(b:Expr){op:CmpOp}(h:op ≠ .In)(h2:op ≠ .NotIn):SK op b=false:=by
 have e1:(op == CmpOp.In)=false:=by cases op<;>first | rfl | exact absurd rfl h
 have e2:(op == CmpOp.NotIn)=false:=by cases op<;>first | rfl | exact absurd rfl h2
 cases b<;>simp[SK,e1,e2]
def HA(ta:TE):TE:=λσ H Q=>ta σ H λx H1=>Q (.bl (decide (x=.non))) H1
def DE(ta:TE):TE:=λσ H Q=>ta σ H λx H1=>Q (.bl (!decide (x=.non))) H1
theorem RelV.none_iff{x:V}{v:JH}(r:RelV x v):(v == MY)=decide (x=.non):=by
 cases x with
 | non=>cases r;rfl
 | bl _=>cases r;rfl
 | int _=>obtain⟨t,rfl⟩:=r;rfl
 | str _=>obtain⟨t,rfl⟩:=r;rfl
 | byt _=>obtain⟨t,rfl⟩:=r;rfl
 | flt _=>obtain⟨t,rfl⟩:=r;rfl
 | ref _=>cases r;rfl
 | ty _=>cases r;rfl
theorem Zz{j pos'}(ha:PE X a ta):PC X .Is a (.Constant .none j pos') (HA ta):=by
 intro pins s σ H Q I h
 refine Bu (ha pins s σ H _ I h) λv s1 ⟨x,H1,I1,r1,q1⟩=>?_
 exact Constant_none (is_none_gen ⟨.bl _,H1,I1,by rw[r1.none_iff];rfl,q1⟩)
theorem Tu{j pos'}(ha:PE X a ta):PC X .IsNot a (.Constant .none j pos') (DE ta):=by
 intro pins s σ H Q I h
 refine Bu (ha pins s σ H _ I h) λv s1 ⟨x,H1,I1,r1,q1⟩=>?_
 exact Constant_none (isnot_none_gen ⟨.bl _,H1,I1,by rw[r1.none_iff];rfl,q1⟩)
def tB(t:TE):TT:=λσ H Q=>t σ H λx H1=>∃c,x=.bl c/\Q c H1
theorem Fu{op:CmpOp}{t:TE}(h:PC X op a b t)(h1:SK op b=false:=by first | exact pC _ (by decide) (by decide) | rfl):PT X (.Compare a [op] [b] pos) (tB t):=by
 intro pins s σ H Q I hw
 refine wpAny_isTrue_Compare1 (Bu (h pins s σ H _ I hw) λv s1 h1=>Bu h1 λu s2 h2=>Bu h2 λc s3 ⟨x,H1,I1,r1,q1⟩=>?_) h1
 obtain⟨d,rfl,q⟩:=q1
 cases r1
 exact OH ⟨H1,I1,q⟩
theorem Fv{e:Expr}{t:TE}(h:PE X e t)(he:∀whole,isTrue e X.env whole=(do let v <- whole;standAt e.pos;holding [v] (truthy v)):=by intro _;rfl):PT X e (tB t):=by
 intro pins s σ H Q I hw
 refine isTrue_plain (Bu (h pins s σ H _ I hw) λv s1 ⟨x,H1,I1,r1,q1⟩=>?_) (he _)
 obtain⟨d,rfl,q⟩:=q1
 cases r1
 exact OH ⟨H1,I1,q⟩
variable {tA tB':TT} {rest:List Expr}
def HV(t u:TT):TT:=λσ H Q=>t σ H λc H1=>if c=true then u σ H1 Q else Q false H1
def IN(t u:TT):TT:=λσ H Q=>t σ H λc H1=>if c=true then Q true H1 else u σ H1 Q
def FO(t:TT):TT:=λσ H Q=>t σ H λc H1=>Q (!c) H1
theorem Lu(ha:PT X a tA):PW X (.BoolOp .And [a] pos) tA:=by
 intro wh pins s σ H Q I h
 refine isTrue_and (Bu (ha pins s σ H Q I h) λc s1 e=>?_)
 cases c with
 | true=>exact isTrue_and_nil e
 | false=>exact e
theorem aT(ha:PT X a tA):PW X (.BoolOp .Or [a] pos) tA:=by
 intro wh pins s σ H Q I h
 refine isTrue_or (Bu (ha pins s σ H Q I h) λc s1 e=>?_)
 cases c with
 | false=>exact isTrue_or_nil e
 | true=>exact e
theorem Px(ha:PT X a tA)(hb:PW X (.BoolOp .And (b::rest) pos) tB'):PW X (.BoolOp .And (a::b::rest) pos) (HV tA tB'):=by
 intro wh pins s σ H Q I h
 refine isTrue_and (Bu (ha pins s σ H _ I h) λc s1 ⟨H1,I1,q1⟩=>?_)
 cases c with
 | true=>exact hb wh pins s1 σ H1 Q I1 q1
 | false=>exact⟨H1,I1,q1⟩
theorem Xm(ha:PT X a tA)(hb:PW X (.BoolOp .Or (b::rest) pos) tB'):PW X (.BoolOp .Or (a::b::rest) pos) (IN tA tB'):=by
 intro wh pins s σ H Q I h
 refine isTrue_or (Bu (ha pins s σ H _ I h) λc s1 ⟨H1,I1,q1⟩=>?_)
 cases c with
 | true=>exact⟨H1,I1,q1⟩
 | false=>exact hb wh pins s1 σ H1 Q I1 q1
theorem Hi(ha:PT X a tA):PT X (.UnaryOp .Not a pos) (FO tA):=by
 intro pins s σ H Q I h
 exact isTrue_not (ha pins s σ H (λc H1=>Q (!c) H1) I h)
def BX(ta tb:TE):TE:=λσ H Q=>ta σ H λx H1=>∃c,x=.bl c/\if c=true then tb σ H1 Q else Q (.bl false) H1
def CG(ta:TE):TE:=λσ H Q=>ta σ H λx H1=>∃c,x=.bl c/\Q (.bl (!c)) H1
theorem Vi{op}{t:TE}(h:PE X a t):PE X (.BoolOp op [a] pos) t:=λpins s σ H Q I hw=>BoolOp_one (h pins s σ H Q I hw)
theorem Ks(ha:PE X a ta)(hb:PE X (.BoolOp .And (b::rest) pos) tb):PE X (.BoolOp .And (a::b::rest) pos) (BX ta tb):=by
 intro pins s σ H Q I h
 refine BoolOp_and (Bu (ha pins s σ H _ I h) λv s1 ⟨x,H1,I1,r1,q1⟩=>?_)
 obtain⟨c,rfl,q1⟩:=q1
 cases r1
 refine OH ?_
 cases c with
 | true=>exact hb pins s1 σ H1 Q I1 q1
 | false=>exact⟨.bl false,H1,I1,rfl,q1⟩
theorem xN(ha:PE X a ta):PE X (.UnaryOp .Not a pos) (CG ta):=by
 intro pins s σ H Q I h
 refine UnaryOp_ (Bu (ha pins s σ H _ I h) λv s1 ⟨x,H1,I1,r1,q1⟩=>?_)
 obtain⟨c,rfl,q1⟩:=q1
 cases r1
 exact not_of (OH ⟨.bl (!c),H1,I1,rfl,q1⟩)
def JA(t:TT)(ta tb:TE):TE:=λσ H Q=>t σ H λc H1=>if c=true then ta σ H1 Q else tb σ H1 Q
theorem Xu{c:Expr}(hc:PT X c tA)(ha:PE X a ta)(hb:PE X b tb):PE X (.IfExp c a b pos) (JA tA ta tb):=by
 intro pins s σ H Q I h
 refine wpAny_IfExp (Bu (hc pins s σ H _ I h) λd s1 ⟨H1,I1,q1⟩=>?_)
 cases d with
 | true=>exact ha pins s1 σ H1 Q I1 q1
 | false=>exact hb pins s1 σ H1 Q I1 q1
end
def Aw(K:JG)(H:Hp)(a:JO)(xs:List V):Prop:=
 Rd H a (.lst xs) ∨
  ∃(o:Obj)(its:Array JH)(n:Nat),K.lookup a=some o/\o.cls=.type "list" /\ o.dict=none/\o.data=.seq its n/\its.size<=JQ/\Bb xs its.toList
def Ck(K:JG)(H:Hp)(a:JO)(xs:List V):Prop:=
 Rd H a (.tup xs) ∨
  ∃(o:Obj)(its:Array JH)(n:Nat),K.lookup a=some o/\o.cls=.type "tuple" /\ o.data=.seq its n/\its.size<=JQ/\Bb xs its.toList
def HF:JH->Option V
 | .none=>some .non
 | .bool b=>some (.bl b)
 | .int i _=>some (.int i)
 | .str x _=>some (.str x)
 | .bytes b _=>some (.byt b)
 | .float b _=>some (.flt b)
 | .ref a=>some (.ref a)
 | .type n=>some (.ty n)
 | _=>none
theorem RelV.abs{x:V}{u:JH}(r:RelV x u):HF u=some x:=by
 cases x with
 | non=>cases r;rfl
 | bl _=>cases r;rfl
 | int _=>obtain⟨t,rfl⟩:=r;rfl
 | str _=>obtain⟨t,rfl⟩:=r;rfl
 | byt _=>obtain⟨t,rfl⟩:=r;rfl
 | flt _=>obtain⟨t,rfl⟩:=r;rfl
 | ref _=>cases r;rfl
 | ty _=>cases r;rfl
theorem RelV.inj{x y:V}{u:JH}(r:RelV x u)(q:RelV y u):x=y:=LC (r.abs.symm.trans q.abs)
theorem Bb.inj:∀ {xs ys:List V} {us:List JH},Bb xs us->Bb ys us->xs=ys
 | _,_,_,.nil,.nil=>rfl
 | _,_,_,.cons r t,.cons r' t'=>by rw[r.inj r',Bb.inj t t']
section
variable {X:Cx} {pins:List (JO×Obj)} {σ:St} {H:Hp} {s:JL} {a:JO} {xs ys:List V}
theorem Aw.of{K:JG}(h:H a=some (.lst xs)):Aw K H a xs:=.inl (.inl h)
theorem Ck.of{K:JG}(h:H a=some (.tup xs)):Ck K H a xs:=.inl (.inl h)
theorem Inv.list(I:Inv X pins σ H s)(h:Aw X.K H a xs):∃its:List JH,Bb xs its/\PlainL s.heap a its.toArray/\xs.length<=JQ:=by
 rcases h with h | ⟨o,its,n,hk,hc,hd,hs,hz,r⟩
 ·obtain⟨z,its,n,r,e⟩:=h.ok I.hok
  exact⟨its,r,⟨_,n,e,rfl,rfl,rfl⟩,z⟩
 ·refine⟨its.toList,r,⟨o,n,I.kIn a o hk,hc,hd,by simpa using hs⟩,?_⟩
  have e:=r.length
  simp only[RK] at e
  omega
theorem Inv.tuple(I:Inv X pins σ H s)(h:Ck X.K H a xs):∃its:List JH,Bb xs its/\IsTup s.heap a its.toArray/\xs.length<=JQ:=by
 rcases h with h | ⟨o,its,n,hk,hc,hs,hz,r⟩
 ·obtain⟨z,its,r,p⟩:=h.ok I.hok
  exact⟨its,r,p,z⟩
 ·refine⟨its.toList,r,⟨o,I.kIn a o hk,hc,n,by simpa using hs⟩,?_⟩
  have e:=r.length
  simp only[RK] at e
  omega
theorem Inv.list_inj(I:Inv X pins σ H s)(h:Aw X.K H a xs)(h':Aw X.K H a ys):xs=ys:=by
 obtain⟨its,r,⟨o,n,e,_,_,d⟩,_⟩:=I.list h
 obtain⟨its',r',⟨o',n',e',_,_,d'⟩,_⟩:=I.list h'
 rw[e] at e';cases e'
 rw[d] at d'
 injection d' with d1 _
 have:its=its':=by simpa using congrArg Array.toList d1
 subst this
 exact r.inj r'
theorem Inv.tuple_inj(I:Inv X pins σ H s)(h:Ck X.K H a xs)(h':Ck X.K H a ys):xs=ys:=by
 obtain⟨its,r,⟨o,e,_,n,d⟩,_⟩:=I.tuple h
 obtain⟨its',r',⟨o',e',_,n',d'⟩,_⟩:=I.tuple h'
 rw[e] at e';cases e'
 rw[d] at d'
 injection d' with d1 _
 have:its=its':=by simpa using congrArg Array.toList d1
 subst this
 exact r.inj r'
end
abbrev Cx.wish(X:Cx)(E:JH->JL->Prop):Cx:={ X with xe:=E }
abbrev Cx.nox(X:Cx):Cx:=X.wish λ_ _=>False
theorem Cx.Ok.wish{X:Cx}(ok:X.Ok)(E:JH->JL->Prop):(X.wish E).Ok:=
 ⟨ok.mod,ok.kind,ok.glob,ok.blt,ok.above,ok.inj,ok.has,ok.cab,ok.hd,ok.st,ok.frames,ok.stk,ok.exf,ok.bs,ok.bsz,ok.noex,ok.exfs,ok.funs,ok.frf⟩
theorem Cx.Ok.unwish{X:Cx}{E:JH->JL->Prop}(ok:(X.wish E).Ok):X.Ok:=
 ⟨ok.mod,ok.kind,ok.glob,ok.blt,ok.above,ok.inj,ok.has,ok.cab,ok.hd,ok.st,ok.frames,ok.stk,ok.exf,ok.bs,ok.bsz,ok.noex,ok.exfs,ok.funs,ok.frf⟩
section
variable {X:Cx} {pins:List (JO×Obj)} {σ:St} {H:Hp} {s:JL} {E:JH->JL->Prop}
theorem Inv.wish(I:Inv X pins σ H s)(E:JH->JL->Prop):Inv (X.wish E) pins σ H s:=⟨I.ok.wish E,I.os,I.bare,I.base,I.loc,I.cell,I.free,I.freeC,I.pin,I.hok,I.len⟩
theorem Inv.unwish(I:Inv (X.wish E) pins σ H s):Inv X pins σ H s:=⟨I.ok.unwish,I.os,I.bare,I.base,I.loc,I.cell,I.free,I.freeC,I.pin,I.hok,I.len⟩
theorem SP.unwish{D:Ends}{f:Flow}{s':JL}(h:SP (X.wish E) pins D f s'):SP X pins D f s':=by
 cases f with
 | next=>obtain⟨σ',H',I,q⟩:=h;exact⟨σ',H',I.unwish,q⟩
 | brk=>obtain⟨σ',H',I,q⟩:=h;exact⟨σ',H',I.unwish,q⟩
 | cont=>obtain⟨σ',H',I,q⟩:=h;exact⟨σ',H',I.unwish,q⟩
 | ret u=>obtain⟨v,σ',H',I,r,q⟩:=h;exact⟨v,σ',H',I.unwish,r,q⟩
theorem Hy.nox{st:List OU}{t:TS}(h:Hy X.nox st t):Hy X st t:=λpins s σ H D I hw=>
 ND (h pins s σ H D (I.wish _) hw) (λ_ _ q=>q.unwish) λ_ _ z=>MF z
end
section
variable {X:Cx} {st:OU} {rest:List OU} {t u:TS} {e:Expr} {te:TE} {pos:Pos}
def EF:TS:=λD σ H=>D.nx σ H
def DN(t u:TS):TS:=λD σ H=>t { D with nx:=u D } σ H
theorem Ap:Hy X [] EF:=λ_ _ σ H _ I h=>wpAny_execs_nil ⟨σ,H,I,h⟩
theorem Ac(h1:PS X st t)(h2:Hy X rest u):Hy X (st::rest) (DN t u):=by
 intro pins s σ H D I h
 refine wpAny_execs_cons (Bu (h1 pins s σ H { D with nx:=u D } I h) λf s1 q=>?_)
 cases f with
 | next=>
  obtain⟨σ',H',I',q⟩:=q
  exact h2 pins s1 σ' H' D I' q
 | ret v=>exact q
 | brk=>exact q
 | cont=>exact q
theorem Af(h1:PS X st t):Hy X [st] t:=by
 intro pins s σ H D I h
 refine wpAny_execs_cons (Bu (h1 pins s σ H D I h) λf s1 q=>?_)
 cases f with
 | next=>exact wpAny_execs_nil q
 | ret v=>exact q
 | brk=>exact q
 | cont=>exact q
theorem Inv.quiet{pins:List (JO×Obj)}{σ:St}{H:Hp}{s:JL}(I:Inv X pins σ H s):interactive X.env=false:=by simp[interactive,I.ok.kind]
def DZ(te:TE):TS:=λD σ H=>te σ H λ_ H1=>D.nx σ H1
theorem Bx(he:PE X e te)(hs:swapsWith e none pos.line X.env=pure false:=by rfl):PS X (.Expr e pos) (DZ te):=by
 intro pins s σ H D I h
 exact wpAny_Expr_any (Bu (he pins s σ H _ I h) λv s1 ⟨x,H1,I1,r1,q1⟩=>⟨σ,H1,I1,q1⟩) I.quiet hs
def FS(te:TE):TS:=λD σ H=>te σ H D.rt
theorem Ao(he:PE X e te):PS X (.Return (some e) pos) (FS te):=by
 intro pins s σ H D I h
 exact wpAny_Return_some (Bu (he pins s σ H _ I h) λv s1 ⟨x,H1,I1,r1,q1⟩=>⟨x,σ,H1,I1,r1,q1⟩)
def FU(c:TT)(t u:TS):TS:=λD σ H=>c σ H λb H1=>if b=true then t D σ H1 else u D σ H1
theorem Ay{c:Expr}{a b:List OU}{tc:TT}(hc:PT X c tc)(ha:Hy X a t)(hb:Hy X b u):PS X (.If c a b pos) (FU tc t u):=by
 intro pins s σ H D I h
 refine wpAny_If (Bu (hc pins s σ H _ I h) λd s1 ⟨H1,I1,q1⟩=>?_)
 cases d with
 | true=>exact ha pins s1 σ H1 D I1 q1
 | false=>exact hb pins s1 σ H1 D I1 q1
def zY:TS:=λ_ _ _=>False
theorem Bs{sts:List OU}:Hy X sts zY:=λ_ _ _ _ _ _ h=>h.elim
end
abbrev TG:=V->St->Hp->(St->Hp->Prop)->Prop
abbrev rM:=List V->St->Hp->(St->Hp->Prop)->Prop
def PG(X:Cx)(target:Expr)(t:TG):Prop:=
 ∀(pins:List (JO×Obj))(s:JL)(σ:St)(H:Hp)(v:V)(u:JH)(Q:St->Hp->Prop),Inv X pins σ H s->RelV v u->t v σ H Q ->
  KY (LB X.prog X.w) X.A (assign target X.env u) (λ_ s'=>∃σ' H',Inv X pins σ' H' s'/\Q σ' H') X.xe s
def EV(X:Cx)(ts:List Expr)(t:rM):Prop:=
 ∀(pins:List (JO×Obj))(s:JL)(σ:St)(H:Hp)(vs:List V)(us:List JH)(Q:St->Hp->Prop),Inv X pins σ H s->Bb vs us->t vs σ H Q ->
  KY (LB X.prog X.w) X.A (assignInOrder ((assignEach ts X.env).map (·.2)) us) (λ_ s'=>∃σ' H',Inv X pins σ' H' s'/\Q σ' H') X.xe s
abbrev zA:=V->V->V->Hp->(Hp->Prop)->Prop
def EA(X:Cx)(t:zA):Prop:=
 ∀(pins:List (JO×Obj))(s:JL)(σ:St)(H:Hp)(o i v:V)(ov iv u:JH)(Q:Hp->Prop),Inv X pins σ H s->RelV o ov->RelV i iv->RelV v u->t o i v H Q ->
  KY (LB X.prog X.w) X.A (setItem ov iv u) (λ_ s'=>∃H',Inv X pins σ H' s'/\Q H') X.xe s
section
variable {X:Cx} {pos:Pos}
def Kk(i:Nat):TG:=λv σ H Q=>Q (σ.set i (some v)) H
theorem sQ{i:Nat}{x:Str}(hN:X.N.Nodup)(hi:X.N[i]? = some x)(hx:Loc X.env.scope x)(hf:X.fn x=true∨X.env.scope.names.lookup x=some .local:=by first | exact .inl rfl | exact .inr rfl | assumption):PG X (.Name x pos) (Kk i):=by
 intro pins s σ H v u Q I r h
 exact wpAny_assign_Name (Po I hN hi hx r (λs' I'=>⟨_,H,I',h⟩) hf)
def EQ:rM:=λvs σ H Q=>vs=[]/\Q σ H
def wM(t:TG)(u:rM):rM:=λvs σ H Q=>∃v r,vs=v::r/\t v σ H λσ' H'=>u r σ' H' Q
theorem Hb:EV X [] EQ:=by
 intro pins s σ H vs us Q I r h
 obtain⟨e,h⟩:=h
 subst e
 cases r
 exact assignInOrder_nil ⟨σ,H,I,h⟩
theorem Ce{e:Expr}{es:List Expr}{t:TG}{u:rM}(h1:PG X e t)(h2:EV X es u)(hs:(assignEach (e::es) X.env).map (·.2)=assign e X.env::(assignEach es X.env).map (·.2):=by rfl):EV X (e::es) (wM t u):=by
 intro pins s σ H vs us Q I r h
 obtain⟨v,vr,e1,h⟩:=h
 subst e1
 cases r with
 | cons r rr=>
  rw[hs]
  refine assignInOrder_cons (Bu (h1 pins s σ H _ _ _ I r h) λ_ s1 ⟨σ1,H1,I1,q1⟩=>?_)
  exact h2 pins s1 σ1 H1 _ _ Q I1 rr q1
def DT(K:JG)(n:Nat)(t:rM):TG:=λv σ H Q=>∃a xs,v=.ref a/\Ck K H a xs/\xs.length=n/\t xs σ H Q
theorem Jm{es:List Expr}{k:Nat}{t:rM}{n:Nat}(hc:X.calm=true)(h:EV X es t)(hn:(assignEach es X.env).length=n:=by rfl)(hst:(assignEach es X.env).findIdx? (·.1)=none:=by rfl):PG X (.Tuple es k pos) (DT X.K n t):=by
 intro pins s σ H v u Q I r hw
 obtain⟨a,xs,e1,hq,hl,hw⟩:=hw
 subst e1
 cases r
 obtain⟨its,rv,ht,hz⟩:=I.tuple hq
 refine vR (I.calmS hc) ht (by simp[hn,<- hl,rv.length]) hst λh' hx=>?_
 have I1:Inv X pins σ H { s with heap:=h' }:=I.kept (t':=s.toks) λb o e=>hx b o (KQ (KA e)) e
 exact h pins _ σ H xs _ Q I1 (by simpa using rv) hw
def GZ(to ti:TE)(t:zA):TG:=λv σ H Q=>to σ H λo H1=>ti σ H1 λi H2=>t o i v H2 λH3=>Q σ H3
theorem yQ{o i:Expr}{to ti:TE}{t:zA}(ho:PE X o to)(hi:PE X i ti)(hs:EA X t)(ha:∀v,assign (.Subscript o i pos) X.env v=(do
  let ov <- holding [v] (PD o X.env)
  let iv <- holding [v,ov] (PD i X.env)
  standAt pos
  holding [v,ov,iv] (setItem ov iv v)
  release [v,ov,iv] []):=by intro _;rfl):PG X (.Subscript o i pos) (GZ to ti t):=by
 intro pins s σ H v u Q I r h
 rw[ha]
 refine JE (NG (Bu (ho pins s σ H _ I h) λov s1 ⟨x,H1,I1,r1,q1⟩=>?_))
 refine JE (NG (Bu (hi pins s1 σ H1 _ I1 q1) λiv s2 ⟨y,H2,I2,r2,q2⟩=>?_))
 refine JE (RE (JE (NG (Bu (hs pins s2 σ H2 x y v ov iv u _ I2 r1 r2 r q2) λ_ s3 ⟨H3,I3,q3⟩=>?_))))
 exact wpAny_release ⟨σ,H3,I3,q3⟩
def Wz(te:TE)(g:TG):TS:=λD σ H=>te σ H λx H1=>g x σ H1 D.nx
theorem yO{tg e:Expr}{te:TE}{g:TG}(he:PE X e te)(hg:PG X tg g)(hs:swapsWithSole [tg] e pos.line X.env=pure false:=by rfl)(hw:swappedStores [tg] e X.env=pure none:=by rfl)(h1:(assignEach [tg] X.env).map (·.2)=[assign tg X.env]:=by rfl):PS X (.Assign [tg] e pos) (Wz te g):=by
 intro pins s σ H D I h
 refine wpAny_Assign_stores (Bu (he pins s σ H _ I h) λv s1 ⟨x,H1,I1,r1,q1⟩=>?_) hs hw
 rw[h1]
 exact Bu (hg pins s1 σ H1 x v _ I1 r1 q1) λ_ s2 q=>q
theorem Mw{i:Nat}{x:Str}{e:Expr}{te:TE}{pos':Pos}(hN:X.N.Nodup)(hi:X.N[i]? = some x)(hx:Loc X.env.scope x)(he:PE X e te)(hs:swapsWith e (some (.Name x pos')) pos.line X.env=pure false:=by rfl)(hf:X.fn x=true∨X.env.scope.names.lookup x=some .local:=by first | exact .inl rfl | exact .inr rfl | assumption):
 PS X (.Assign [.Name x pos'] e pos) (Wz te (Kk i)):=by
 intro pins s σ H D I h
 refine wpAny_Assign_Name (Bu (he pins s σ H _ I h) λv s1 ⟨y,H1,I1,r1,q1⟩=>?_) hs
 exact Po I1 hN hi hx r1 (λs2 I2=>⟨_,H1,I2,q1⟩) hf
end
section
variable {X:Cx} {pos:Pos}
def zF(c:TT)(tb:TS):TS:=λD σ H=>∃W:Nat->St->Hp->Prop,(∃m,W m σ H)/\∀m σ H,W m σ H ->
 c σ H λb H1=>if b=true then ∃N:St->Hp->Prop,(∀σ' H',N σ' H'->∃m',m' < m/\W m' σ' H')/\tb { D with nx:=N,ct:=N,bk:=D.nx } σ H1 else D.nx σ H1
theorem Lw{c:Expr}{body:List OU}{tc:TT}{tb:TS}(hp:PassesOwn (LB X.prog X.w) X.A X.env X.xe)(hc:PT X c tc)(hb:Hy X body tb):PS X (.While c body [] pos) (zF tc tb):=by
 intro pins s σ H D I h
 obtain⟨W,⟨m0,w0⟩,turn⟩:=h
 refine wpAny_While (codeAny_whileLoop (λn s'=>∃σ' H',Inv X pins σ' H' s'/\W n σ' H') ?_ m0 ⟨σ,H,I,w0⟩)
 rintro n s1 ⟨σ1,H1,I1,w1⟩
 refine QX hp (Bu (hc pins s1 σ1 H1 _ I1 (turn n σ1 H1 w1)) λb s2 ⟨H2,I2,q2⟩=>?_)
 cases b with
 | true=>
  obtain⟨N,hN,q2⟩:=q2
  rw[if_pos rfl]
  refine QX hp (Bu (hb pins s2 σ1 H2 _ I2 q2) λf s3 q3=>?_)
  cases f with
  | next=>
   obtain⟨σ3,H3,I3,n3⟩:=q3
   obtain⟨m',hm,w3⟩:=hN σ3 H3 n3
   exact⟨m',hm,σ3,H3,I3,w3⟩
  | cont=>
   obtain⟨σ3,H3,I3,n3⟩:=q3
   obtain⟨m',hm,w3⟩:=hN σ3 H3 n3
   exact⟨m',hm,σ3,H3,I3,w3⟩
  | brk=>exact q3
  | ret v=>exact q3
 | false=>
  rw[if_neg JR]
  exact wpAny_execs_nil ⟨σ1,H2,I2,q2⟩
end
structure It where
 go:Nat->Hp->Prop
 yld:Nat->Hp->V->Hp->Prop
 stop:Nat->Hp->Prop
def Df(X:Cx)(pins:List (JO×Obj))(H:Hp)(b:JO):Prop:=
 H b=none/\b≠X.env.locals/\b∉X.fs/\(b∈X.ex∨X.s₀.heap.objs.size<=b)/\(∀x c,X.env.cells.lookup x=some c->c≠b)/\∀p∈X.pn++pins,p.1≠b
theorem Inv.fpOk{X:Cx}{pins:List (JO×Obj)}{σ:St}{H H':Hp}{s:JL}{b:JO}(I:Inv X pins σ H s)(hb:s.heap.objs.size<=b)(hn:H' b=none):Df X pins H' b:=by
 refine⟨hn,OG (LI I.lt hb),I.nofs hb,.inr (KZ I.sz hb),λx c e z=>?_,λp hp z=>?_⟩
 ·obtain⟨v,q⟩:=I.cell x c e
  exact absurd (LI q.lt (by rw[z];exact hb)) (PQ _)
 ·exact absurd (LI (KA (I.pin p hp).1) (by rw[z];exact hb)) (PQ _)
structure Turn(P:KI)(w:LQ)(K:JG)(tg:Expr)(J:It)(fp:List JO)(it:JO)(tn:Nat->MV->Prop):Prop where
 mem:it∈fp
 obj:∀i h,tn i h->∀b∈fp,∃o,h.get? b=some o/\∀v,o.data ≠ .cell v
 keep:∀i h h',tn i h->(∀b∈fp,∀o,h.get? b=some o->h'.get? b=some o)->tn i h'
 item:∀(X:Cx),X.prog=P->X.w=w->X.K=K->X.calm=true->∀(i:Nat)(pins:List (JO×Obj))(s:JL)(σ:St)(H:Hp)(E:JH->JL->Prop),Inv X pins σ H s->(∀b∈fp,Df X pins H b)->tn i s.heap->J.go i H ->
  KY (LB P w) X.A (PB (.ref it)) (λr s1=>∃u,r=some u /\
   KY (LB P w) X.A (letOwnedTupleGo tg (.ref it) u) (λ_ s2=>∃x H',Inv X pins σ H' s2/\RelV x u/\J.yld i H x H'/\tn (i+1) s2.heap/\∀b∈fp,H' b=none) E s1) E s
 done:∀(X:Cx),X.prog=P->X.w=w->X.K=K->X.calm=true->∀(i:Nat)(pins:List (JO×Obj))(s:JL)(σ:St)(H:Hp)(E:JH->JL->Prop),Inv X pins σ H s->(∀b∈fp,Df X pins H b)->tn i s.heap->J.stop i H ->
  KY (LB P w) X.A (PB (.ref it)) (λr s1=>r=none/\Inv X pins σ H s1) E s
 self:∀(A:LM)(i:Nat)(s:JL)(Q:JH->JL->Prop)(E:JH->JL->Prop),tn i s.heap->Q (.ref it) s->KY (LB P w) A (pyIter (.ref it)) Q E s
abbrev TI:=St->Hp->(It->Hp->Prop)->Prop
def IB(X:Cx)(pins:List (JO×Obj))(σ:St)(tg:Expr)(R:It->Hp->Prop)(itv:JH)(s2:JL):Prop:=
 ∃(it:JO)(fp:List JO)(tn:Nat->MV->Prop)(J:It)(H':Hp),itv=.ref it/\Inv X pins σ H' s2/\Turn X.prog X.w X.K tg J fp it tn/\tn 0 s2.heap/\(∀b∈fp,Df X pins H' b)/\R J H'
def PI(X:Cx)(tg iter:Expr)(wi:TI):Prop:=
 ∀(pins:List (JO×Obj))(s:JL)(σ:St)(H:Hp)(R:It->Hp->Prop),Inv X pins σ H s->wi σ H R ->
  KY (LB X.prog X.w) X.A (PD iter X.env) (λv s1=>KY (LB X.prog X.w) X.A (pyIter v) (IB X pins σ tg R) X.xe s1) X.xe s
theorem Tg{M:Model}{A:LM}{E:JH->JL->Prop}{s:JL}{tg:Expr}{it:JO}{u:JH}{o:Obj}{n:String}{vs:Array JH}{Q:Unit->JL->Prop}(ho:s.heap.get? it=some o)(hc:o.cls=.type n)(hd:o.data=.fields vs)(hn:["enumerate","zip","dict_itemiterator","dict_reverseitemiterator","odict_iterator","itertools.zip_longest","itertools.pairwise"].contains n=false)(hQ:Q () s):KY M A (letOwnedTupleGo tg (.ref it) u) Q E s:=by
  unfold letOwnedTupleGo
  cases tg<;>first
    | exact JS hQ
    | (cases u<;>first
        | exact JS hQ
        | (refine JE (wpAny_load ho ?_)
           rw[hc,hd]
           show KY M A (if (["enumerate","zip","dict_itemiterator","dict_reverseitemiterator","odict_iterator","itertools.zip_longest","itertools.pairwise"].contains n && vs[0]? == some (QN _))=true then _ else _) Q E s
           rw[if_neg (by intro h;rw[hn,RD] at h;cases h)]
           exact JS hQ))
def AD(K:JG)(a:JO):It:=
 ⟨λi H=>∃xs x,Aw K H a xs/\xs[i]? = some x,λi H x H'=>H'=H/\∀xs,Aw K H a xs->xs[i]? = some x,λi H=>∃xs,Aw K H a xs/\xs.length<=i⟩
def sS(lo:Int)(n:Nat):It:=⟨λi _=>i < n,λi H x H'=>H'=H/\x=.int (lo+i),λi _=>n<=i⟩
theorem Ml{P:KI}{w:LQ}{K:JG}{tg:Expr}(a it:JO):Turn P w K tg (AD K a) [it] it (λi h=>h.IsListIter it a i) where
 mem:=by simp
 obj:=λi h st b hb=>by
  have e:b=it:=by simpa using hb
  subst e
  obtain⟨o,e,c,d⟩:=st
  exact⟨o,e,λv z=>by rw[d] at z;cases z⟩
 keep:=λi h h' st k=>st.at λo e=>k it (by simp) o e
 item:=by
  intro X hP hw hK hc i pins s σ H E I hf st hg
  subst hP hw hK
  obtain⟨xs,x,hq,hx⟩:=hg
  obtain⟨its,rv,p,hz⟩:=I.list hq
  obtain⟨u,hu,ru⟩:=rv.get hx
  obtain⟨f0,f1,f2,f3,f4,f5⟩:=hf it (by simp)
  refine SV st p.isList (x:=u) (by simpa using hu) λh' st' sb=>?_
  have I1:Inv X pins σ H { s with heap:=h' }:=I.turned (t':=s.toks) (λb o hb e=>(sb.2 b hb).trans e) f0 f1 f3 f4 f5
  obtain⟨o,e,c,d⟩:=id st'
  exact⟨u,rfl,Tg (s:={ s with heap:=h' }) e c d (by decide) ⟨x,H,I1,ru,⟨rfl,λys hy=>by rw[I.list_inj hy hq];exact hx⟩,st',λb hb=>(hf b hb).1⟩⟩
 done:=by
  intro X hP hw hK hc i pins s σ H E I hf st hg
  subst hP hw hK
  obtain⟨xs,hq,hx⟩:=hg
  obtain⟨its,rv,p,hz⟩:=I.list hq
  obtain⟨f0,f1,f2,f3,f4,f5⟩:=hf it (by simp)
  have hl:=rv.length
  exact eY (I.calmS hc) st p.isList (by simp;omega) λh' eb=>⟨rfl,I.turned (t':=s.toks) (λb o hb e=>eb b o hb e) f0 f1 f3 f4 f5⟩
 self:=λ_ _ _ _ _ st h=>wpAny_pyIter_listiter st h
theorem Ze{P:KI}{w:LQ}{K:JG}{tg:Expr}(it:JO)(lo:Int)(n:Nat):Turn P w K tg (sS lo n) [it] it (λi h=>IsRangeIter h it (lo+(i:Nat) * 1) ((n:Int)-(i:Nat)) 1) where
 mem:=by simp
 obj:=λi h st b hb=>by
  have e:b=it:=by simpa using hb
  subst e
  exact⟨_,st,λv z=>by
   have z':Data.fields _=Data.cell v:=z
   cases z'⟩
 keep:=λi h h' st k=>k it (by simp) _ st
 item:=by
  intro X hP hw hK hc i pins s σ H E I hf st hg
  subst hP hw hK
  obtain⟨f0,f1,f2,f3,f4,f5⟩:=hf it (by simp)
  have W0:True:=trivial
  refine Xe i s _ _ hg st λv h' tk hv st' kk=>?_
  obtain⟨t,rfl⟩:=hv
  have I1:Inv X pins σ H { s with heap:=h',toks:=tk }:=I.turned (λb o hb e=>kk b o (by simpa using hb) e) f0 f1 f3 f4 f5
  refine⟨_,rfl,Tg (s:={ s with heap:=h',toks:=tk }) (n := "range_iterator") st' rfl rfl (by decide) ⟨.int (lo+i),H,I1,⟨t,?_⟩,⟨rfl,rfl⟩,st',λb hb=>(hf b hb).1⟩⟩
  rw[Int.mul_one]
 done:=by
  intro X hP hw hK hc i pins s σ H E I hf st hg
  subst hP hw hK
  obtain⟨f0,f1,f2,f3,f4,f5⟩:=hf it (by simp)
  exact Xb (I.calmS hc) st (by have:n<=i:=hg;omega) λh' eb=>⟨rfl,I.turned (t':=s.toks) (λb o hb e=>eb b o hb e) f0 f1 f3 f4 f5⟩
 self:=λ_ _ _ _ _ st h=>wpAny_pyIter_rangeiter st h
section
variable {X:Cx} {tg:Expr}
def BQ(K:JG)(tl:TE):TI:=λσ H R=>tl σ H λx H1=>∃a,x=.ref a/\(∃xs,Aw K H1 a xs)/\R (AD K a) H1
theorem Dk{l:Expr}{tl:TE}(hl:PE X l tl):PI X tg l (BQ X.K tl):=by
 intro pins s σ H R I h
 refine Bu (hl pins s σ H _ I h) λv s1 ⟨x,H1,I1,r1,q1⟩=>?_
 obtain⟨a,e,⟨xs,hq⟩,q⟩:=q1
 subst e
 cases r1
 obtain⟨its,rv,p,hz⟩:=I1.list hq
 refine wpAny_pyIter_list p.isList ?_
 refine⟨s1.heap.objs.size,[s1.heap.objs.size],_,_,H1,rfl,I1.kept (t':=s1.toks) λb o e=>JI _ e,Ml a _,⟨_,KG _ rfl,rfl,rfl⟩,λb hb=>?_,q⟩
 have e:b=s1.heap.objs.size:=by simpa using hb
 subst e
 exact I1.fpOk (JM _) (I1.hok.fresh (JM _))
theorem Xr{pins:List (JO×Obj)}{σ:St}{H:Hp}{s:JL}{R:It->Hp->Prop}{E:JH->JL->Prop}{lo hi:Int}{t u v:Tok}{tk:Nat}(I:Inv X pins σ H s)(h1 : -(2 ^ 62)<=lo)(h2:lo < 2 ^ 62)(h3 : -(2 ^ 62)<=hi)(h4:hi < 2 ^ 62)(q:R (sS lo (hi-lo).toNat) H):KY (LB X.prog X.w) X.A (pyIter (.ref s.heap.objs.size)) (IB X pins σ tg R) E { s with heap:=s.heap.push { cls:=.type "range", data:=.fields #[.int lo t,.int hi u,.int 1 v] },toks:=tk }:=by
 refine wpAny_pyIter_range (IsRange.new ..) (small_one h1 h2 h3 h4) ?_
 have I1:Inv X pins σ H { s with heap:=s.heap.push { cls:=.type "range", data:=.fields #[.int lo t,.int hi u,.int 1 v] },toks:=tk }:=I.kept λb o e=>JI _ e
 refine⟨(s.heap.push { cls:=.type "range", data:=.fields #[.int lo t,.int hi u,.int 1 v] }).objs.size,[(s.heap.push { cls:=.type "range", data:=.fields #[.int lo t,.int hi u,.int 1 v] }).objs.size],_,_,H,rfl,
  I1.kept (t':=tk) λb o e=>JI _ e,Ze _ lo (hi-lo).toNat,?_,λb hb=>?_,q⟩
 ·have e1:lo+((0:Nat):Int) * 1=lo:=by simp
  have e2:(((hi-lo).toNat:Nat):Int)-((0:Nat):Int)=SS lo hi 1:=by rw[rangeSize_one];split<;>omega
  show IsRangeIter _ _ (lo+((0:Nat):Int) * 1) ((((hi-lo).toNat:Nat):Int)-((0:Nat):Int)) 1
  rw[e1,e2]
  exact KG _ rfl
 ·have e:b=(s.heap.push { cls:=.type "range", data:=.fields #[.int lo t,.int hi u,.int 1 v] }).objs.size:=by simpa using hb
  subst e
  exact I1.fpOk (JM _) (I1.hok.fresh (JM _))
def DS(ta:TA):TI:=λσ H R=>ta σ H λvs H1=>∃j:Int,vs=[.int j] /\ -(2 ^ 62)<=j/\j < 2 ^ 62/\R (sS 0 j.toNat) H1
def DL(ta:TA):TI:=λσ H R=>ta σ H λvs H1=>∃i j:Int,vs=[.int i,.int j]/\(-(2 ^ 62)<=i/\i < 2 ^ 62 /\ -(2 ^ 62)<=j/\j < 2 ^ 62)/\R (sS i (j-i).toNat) H1
theorem Fc{a:Expr}{ta:TA}{p pos:Pos}(hg:Gl X "range")(hm:X.mg "range" = none)(ha:PA X [a] ta)(hs:KW [a] X.env=[(false,PD a X.env)]:=by rfl):PI X tg (.Call (.Name "range" p) [a] [] pos) (DS ta):=by
 intro pins s σ H R I h
 refine Call_ (Io I hg hm boot_range (NH (Bu (ha pos pins s σ H _ I h) λus s1 ⟨vs,H1,I1,r1,q1⟩=>?_) hs rfl))
 obtain⟨j,e,q1,q2,q⟩:=q1
 subst e
 cases r1 with
 | cons r rr=>
  cases rr
  obtain⟨t,rfl⟩:=r
  exact call_range_1 (Xr I1 (by omega) (by omega) q1 q2 (by simpa using q))
theorem jV{a b:Expr}{ta:TA}{p pos:Pos}(hg:Gl X "range")(hm:X.mg "range" = none)(ha:PA X [a,b] ta)(hs:KW [a,b] X.env=[(false,PD a X.env),(false,PD b X.env)]:=by rfl)(hs2:KW [b] X.env=[(false,PD b X.env)]:=by rfl):
 PI X tg (.Call (.Name "range" p) [a,b] [] pos) (DL ta):=by
 intro pins s σ H R I h
 refine Call_ (Io I hg hm boot_range (NH (Bu (ha pos pins s σ H _ I h) λus s1 ⟨vs,H1,I1,r1,q1⟩=>?_) (by rw[hs,hs2]) (by rw[hs2];rfl)))
 obtain⟨i,j,e,⟨q1,q2,q3,q4⟩,q⟩:=q1
 subst e
 cases r1 with
 | cons r rr=>
  cases rr with
  | cons r' rr=>
   cases rr
   obtain⟨t,rfl⟩:=r
   obtain⟨t',rfl⟩:=r'
   exact call_range_2 (Xr I1 q1 q2 q3 q4 q)
def HJ(wi:TI)(g:TG)(tb:TS):TS:=λD σ H=>wi σ H λJ H1=>∃W:Nat->Nat->St->Hp->Prop,(∃m,W 0 m σ H1)/\∀i m σ H,W i m σ H ->
 (J.stop i H/\D.nx σ H)∨(J.go i H/\∃N:St->Hp->Prop,(∀σ' H',N σ' H'->∃m',m' < m/\W (i+1) m' σ' H')/\∀x H',J.yld i H x H'->g x σ H' λσ2 H2=>tb { D with nx:=N,ct:=N,bk:=D.nx } σ2 H2)
def Vp(fp:List JO)(h:MV):List (JO×Obj):=fp.filterMap λb=>(h.get? b).map λo=>(b,o)
theorem Fg{fp:List JO}{h:MV}{b:JO}{o:Obj}(hb:b∈fp)(e:h.get? b=some o):(b,o)∈Vp fp h:=List.mem_filterMap.mpr ⟨b,hb,by rw[e];rfl⟩
theorem iI{fp:List JO}{h:MV}{p:JO×Obj}(hp:p∈Vp fp h):p.1∈fp/\h.get? p.1=some p.2:=by
 obtain⟨b,hb,e⟩:=List.mem_filterMap.mp hp
 cases q:h.get? b with
 | none=>rw[q] at e;cases e
 | some o=>
  rw[q] at e
  have e':(b,o)=p:=LC e
  subst e'
  exact⟨hb,q⟩
theorem Inv.pinned{pins:List (JO×Obj)}{σ:St}{H:Hp}{s:JL}{fp:List JO}(I:Inv X pins σ H s)(hf:∀b∈fp,Df X pins H b)(ho:∀b∈fp,∃o,s.heap.get? b=some o/\∀v,o.data ≠ .cell v):Inv X (pins++Vp fp s.heap) σ H s:=
 I.pins_of λp hp=>(KO.mp hp).elim (λz=>I.pin p (KC _ z)) λz=>by
  obtain⟨hb,e⟩:=iI z
  obtain⟨f0,f1,f2,_⟩:=hf p.1 hb
  obtain⟨o,e',d⟩:=ho p.1 hb
  rw[e] at e';cases e'
  exact⟨e,f0,f1,f2,d⟩
theorem Inv.unpinned{pins pl:List (JO×Obj)}{σ:St}{H:Hp}{s:JL}(I:Inv X (pins++pl) σ H s):Inv X pins σ H s:=I.pins_of λp hp=>I.pin p (KC _ (ML _ hp))
theorem Eh{iter:Expr}{body:List OU}{wi:TI}{g:TG}{tb:TS}{pos:Pos}(hp:PassesOwn (LB X.prog X.w) X.A X.env X.xe)(hc:X.calm=true)(hi:PI X tg iter wi)(hg:PG X tg g)(hb:Hy X body tb)(hs:∀x,foldedSetIterable iter X.env x=pure x:=by intro _;rfl):PS X (.For tg iter body [] pos) (HJ wi g tb):=by
 intro pins s σ H D I h
 refine wpAny_For (Bu (hi pins s σ H _ I h) λv s1 h1=>Bu h1 λitv s2 h2=>?_) hs
 obtain⟨it,fp,tn,J,H2,e,I2,T,st2,f2,W,⟨m0,w0⟩,turn⟩:=h2
 subst e
 -- what stays true of the iterator's objects through the loop
 have stat:∀ {H':Hp},(∀b∈fp,H' b=none)->∀b∈fp,Df X pins H' b:=λhn b hb=>⟨hn b hb,(f2 b hb).2⟩
 refine codeAny_forLoop_any (λn s'=>∃i σ' H',Inv X pins σ' H' s'/\tn i s'.heap/\(∀b∈fp,H' b=none)/\W i n σ' H') ?_ m0 ⟨0,σ,H2,I2,st2,λb hb=>(f2 b hb).1,w0⟩
 rintro n s3 ⟨i,σ3,H3,I3,st3,fr3,w3⟩
 rcases turn i n σ3 H3 w3 with ⟨stop,qn⟩ | ⟨go,N,hN,step⟩
 ·refine QX hp (Bu (T.done X rfl rfl rfl hc i pins s3 σ3 H3 X.xe I3 (stat fr3) st3 stop) λr s4 ⟨hr,I4⟩=>?_)
  subst hr
  exact wpAny_execs_nil ⟨σ3,H3,I4,qn⟩
 ·refine QX hp (Bu (T.item X rfl rfl rfl hc i pins s3 σ3 H3 X.xe I3 (stat fr3) st3 go) λr s4 ⟨u,hr,h4⟩=>?_)
  subst hr
  refine QX hp (Bu h4 λ_ s5 ⟨x,H5,I5,r5,y5,st5,fr5⟩=>?_)
  have I5':=I5.pinned (stat fr5) (T.obj _ _ st5)
  refine QX hp (Bu (hg _ s5 σ3 H5 x u _ I5' r5 (step x H5 y5)) λ_ s6 ⟨σ6,H6,I6,q6⟩=>?_)
  refine QX hp (Bu (hb _ s6 σ6 H6 _ I6 q6) λf s7 q7=>?_)
  have again:∀ {σ7:St} {H7:Hp},Inv X (pins++Vp fp s5.heap) σ7 H7 s7->N σ7 H7->∃m,m < n/\∃i σ' H',Inv X pins σ' H' s7/\tn i s7.heap/\(∀b∈fp,H' b=none)/\W i m σ' H':=λ{σ7 H7} I7 n7=>by
   obtain⟨m',hm,w7⟩:=hN σ7 H7 n7
   refine⟨m',hm,i+1,σ7,H7,I7.unpinned,T.keep _ _ _ st5 λb hb o e=>(I7.pin (b,o) (KC _ (KC _ (Fg hb e)))).1,λb hb=>?_,w7⟩
   obtain⟨o,e,d⟩:=T.obj _ _ st5 b hb
   exact(I7.pin (b,o) (KC _ (KC _ (Fg hb e)))).2.1
  cases f with
  | next=>obtain⟨σ7,H7,I7,n7⟩:=q7;exact again I7 n7
  | cont=>obtain⟨σ7,H7,I7,n7⟩:=q7;exact again I7 n7
  | brk=>obtain⟨σ7,H7,I7,q7⟩:=q7;exact⟨σ7,H7,I7.unpinned,q7⟩
  | ret v=>obtain⟨x7,σ7,H7,I7,r7,q7⟩:=q7;exact⟨x7,σ7,H7,I7.unpinned,r7,q7⟩
end
theorem Fi{K:JG}{a:JO}{xs:List V}{g:TG}{tb:TS}{D:Ends}{σ:St}{H:Hp}(Pv:Nat->St->Hp->Prop)(h0:Pv 0 σ H)(hl:∀i σ H,i<=xs.length->Pv i σ H->Aw K H a xs)(hs:∀i x σ H,xs[i]? = some x->Pv i σ H->g x σ H λσ2 H2=>tb { D with nx:=Pv (i+1),ct:=Pv (i+1),bk:=D.nx } σ2 H2)(hd:∀σ H,Pv xs.length σ H->D.nx σ H):
 ∃W:Nat->Nat->St->Hp->Prop,(∃m,W 0 m σ H)/\∀i m σ H,W i m σ H ->
  ((AD K a).stop i H/\D.nx σ H)∨((AD K a).go i H/\∃N:St->Hp->Prop,(∀σ' H',N σ' H'->∃m',m' < m/\W (i+1) m' σ' H')/\∀x H',(AD K a).yld i H x H'->g x σ H' λσ2 H2=>tb { D with nx:=N,ct:=N,bk:=D.nx } σ2 H2):=by
 refine⟨λi m σ H=>m=xs.length-i/\i<=xs.length/\Pv i σ H,⟨xs.length,by simp,LK _,h0⟩,?_⟩
 rintro i m σ H ⟨rfl,hi,p⟩
 have q:=hl i σ H hi p
 by_cases hlt:i < xs.length
 ·refine .inr ⟨⟨xs,xs[i],q,by simp[hlt]⟩,Pv (i+1),λσ' H' p'=>⟨xs.length-(i+1),by omega,rfl,hlt,p'⟩,λx H' y=>?_⟩
  obtain⟨e,y⟩:=y
  subst e
  exact hs i x σ _ (y xs q) p
 ·have e:i=xs.length:=by omega
  subst e
  exact .inl ⟨⟨xs,q,JM _⟩,hd σ H p⟩
theorem Hv{lo:Int}{n:Nat}{g:TG}{tb:TS}{D:Ends}{σ:St}{H:Hp}(Pv:Nat->St->Hp->Prop)(h0:Pv 0 σ H)(hs:∀i σ H,i < n->Pv i σ H->g (.int (lo+i)) σ H λσ2 H2=>tb { D with nx:=Pv (i+1),ct:=Pv (i+1),bk:=D.nx } σ2 H2)(hd:∀σ H,Pv n σ H->D.nx σ H):
 ∃W:Nat->Nat->St->Hp->Prop,(∃m,W 0 m σ H)/\∀i m σ H,W i m σ H ->
  ((sS lo n).stop i H/\D.nx σ H)∨((sS lo n).go i H/\∃N:St->Hp->Prop,(∀σ' H',N σ' H'->∃m',m' < m/\W (i+1) m' σ' H')/\∀x H',(sS lo n).yld i H x H'->g x σ H' λσ2 H2=>tb { D with nx:=N,ct:=N,bk:=D.nx } σ2 H2):=by
 refine⟨λi m σ H=>m=n-i/\i<=n/\Pv i σ H,⟨n,by simp,LK _,h0⟩,?_⟩
 rintro i m σ H ⟨rfl,hi,p⟩
 by_cases hlt:i < n
 ·refine .inr ⟨hlt,Pv (i+1),λσ' H' p'=>⟨n-(i+1),by omega,rfl,hlt,p'⟩,λx H' y=>?_⟩
  obtain⟨e,y⟩:=y
  subst e y
  exact hs i σ _ hlt p
 ·have e:i=n:=by omega
  subst e
  exact .inl ⟨JM _,hd σ H p⟩
abbrev R2:=V->V->Hp->VK->Prop
def Jp(X:Cx)(f:JH->JH->Sem JH)(r:R2):Prop:=
 ∀(pins:List (JO×Obj))(s:JL)(σ:St)(H:Hp)(x y:V)(v u:JH)(Q:VK),Inv X pins σ H s->RelV x v->RelV y u->r x y H Q ->
  KY (LB X.prog X.w) X.A (f v u) (EP X pins σ Q) X.xe s
def HY(X:Cx)(f:JH->Sem JH)(r:V->Hp->VK->Prop):Prop:=
 ∀(pins:List (JO×Obj))(s:JL)(σ:St)(H:Hp)(x:V)(v:JH)(Q:VK),Inv X pins σ H s->RelV x v->r x H Q ->
  KY (LB X.prog X.w) X.A (f v) (EP X pins σ Q) X.xe s
def Fk(X:Cx)(f:JH)(r:List V->Hp->VK->Prop):Prop:=
 ∀(pins:List (JO×Obj))(s:JL)(σ:St)(H:Hp)(xs:List V)(us:List JH)(Q:VK),Inv X pins σ H s->Bb xs us->r xs H Q ->
  KY (LB X.prog X.w) X.A (call f us) (EP X pins σ Q) X.xe s
def FJ(X:Cx)(r:V->Hp->(Bool->Hp->Prop)->Prop):Prop:=
 ∀(pins:List (JO×Obj))(s:JL)(σ:St)(H:Hp)(x:V)(v:JH)(Q:Bool->Hp->Prop),Inv X pins σ H s->RelV x v->r x H Q ->
  KY (LB X.prog X.w) X.A (truthy v) (TP X pins σ Q) X.xe s
def BG(r:R2)(ta tb:TE):TE:=λσ H Q=>ta σ H λx H1=>tb σ H1 λy H2=>r x y H2 Q
def IT(r:V->Hp->VK->Prop)(ta:TE):TE:=λσ H Q=>ta σ H λx H1=>r x H1 Q
def rI(C:Int->Int->Prop)(g:Int->Int->V):R2:=λx y H Q=>∃i j,x=.int i/\y=.int j/\C i j/\Q (g i j) H
def pM(g:Int->Int->V):R2:=λx y H Q=>∃i j,x=.int i/\y=.int j/\Q (g i j) H
def rU(g:Int->V):V->Hp->VK->Prop:=λx H Q=>∃i,x=.int i/\Q (g i) H
section
variable {X:Cx} {a b c:Expr} {ta tb tc:TE} {pos:Pos}
theorem zI(ha:PE X a ta)(hb:PE X b tb){pins:List (JO×Obj)}{s:JL}{σ:St}{H:Hp}{R:V->V->Hp->Prop}(I:Inv X pins σ H s)(h:ta σ H λx H1=>tb σ H1 λy H2=>R x y H2){Q:JH->JL->Prop}{f:JH->JH->Sem JH}(hf:∀v u s2 x y H2,Inv X pins σ H2 s2->RelV x v->RelV y u->R x y H2->KY (LB X.prog X.w) X.A (f v u) Q X.xe s2):
 KY (LB X.prog X.w) X.A (PD a X.env) (λv s₁=>KY (LB X.prog X.w) X.A (PD b X.env) (λu s₂=>KY (LB X.prog X.w) X.A (f v u) Q X.xe s₂) X.xe s₁) X.xe s:=by
 refine Bu (ha pins s σ H _ I h) λv s1 ⟨x,H1,I1,r1,q1⟩=>?_
 refine Bu (hb pins s1 σ H1 _ I1 q1) λu s2 ⟨y,H2,I2,r2,q2⟩=>?_
 exact hf v u s2 x y H2 I2 r1 r2 q2
theorem Aq{op:Operator}{r:R2}(ho:Jp X (QQ op) r)(ha:PE X a ta)(hb:PE X b tb):PE X (.BinOp a op b pos) (BG r ta tb):=by
 intro pins s σ H Q I h
 exact wpAny_BinOp (zI ha hb I h λv u s2 x y H2 I2 rx ry q=>ho pins s2 σ H2 x y v u Q I2 rx ry q)
theorem Jy{op:UnaryOp}{r:V->Hp->VK->Prop}(ho:HY X (unaryOp op) r)(ha:PE X a ta):PE X (.UnaryOp op a pos) (IT r ta):=by
 intro pins s σ H Q I h
 exact UnaryOp_ (Bu (ha pins s σ H _ I h) λv s1 ⟨x,H1,I1,r1,q1⟩=>ho pins s1 σ H1 x v Q I1 r1 q1)
theorem wA{f:JH->JH->Sem JH}{C:Int->Int->Prop}{g:Int->Int->Int}(rule:∀(i j:Int)(t u:Tok)(s:JL)(Q:JH->JL->Prop)(E:JH->JL->Prop),C i j->Q (.int (g i j) s.toks) { s with toks:=s.toks+1 }->KY (LB X.prog X.w) X.A (f (.int i t) (.int j u)) Q E s):
 Jp X f (rI C λi j=>.int (g i j)):=by
 intro pins s σ H x y v u Q I rx ry h
 obtain⟨i,j,rfl,rfl,hc,q⟩:=h
 obtain⟨t,rfl⟩:=rx
 obtain⟨t',rfl⟩:=ry
 exact rule i j t t' s _ _ hc ⟨.int (g i j),H,I.tok _,⟨_,rfl⟩,q⟩
theorem oI{f:JH->JH->Sem JH}{g:Int->Int->Int}(rule:∀(i j:Int)(t u:Tok)(s:JL)(Q:JH->JL->Prop)(E:JH->JL->Prop),Q (.int (g i j) s.toks) { s with toks:=s.toks+1 }->KY (LB X.prog X.w) X.A (f (.int i t) (.int j u)) Q E s):
 Jp X f (pM λi j=>.int (g i j)):=by
 intro pins s σ H x y v u Q I rx ry h
 obtain⟨i,j,rfl,rfl,q⟩:=h
 obtain⟨t,rfl⟩:=rx
 obtain⟨t',rfl⟩:=ry
 exact rule i j t t' s _ _ ⟨.int (g i j),H,I.tok _,⟨_,rfl⟩,q⟩
theorem tN{f:JH->JH->Sem JH}{g:Int->Int->Bool}(rule:∀(i j:Int)(t u:Tok)(s:JL)(Q:JH->JL->Prop)(E:JH->JL->Prop),Q (.bool (g i j)) s->KY (LB X.prog X.w) X.A (f (.int i t) (.int j u)) Q E s):
 Jp X f (pM λi j=>.bl (g i j)):=by
 intro pins s σ H x y v u Q I rx ry h
 obtain⟨i,j,rfl,rfl,q⟩:=h
 obtain⟨t,rfl⟩:=rx
 obtain⟨t',rfl⟩:=ry
 exact rule i j t t' s _ _ ⟨.bl (g i j),H,I,rfl,q⟩
def GU(i j:Int):Prop:=0 < j/\j < 1073741824
def HG(i j:Int):Prop:=0<=j/\j<=1000000/\i.natAbs < 2 ^ 64
def AE(i j:Int):Prop:=(-(2 ^ 64) < i/\i < 2 ^ 64)∨(-(2 ^ 64) < j/\j < 2 ^ 64)
theorem AE.ok{i j:Int}(h:AE i j):IntMulOk i j:=by
 rcases h with ⟨h1,h2⟩ | ⟨h1,h2⟩
 ·exact .of_left (intBits_le_64 h1 h2)
 ·exact .of_right (intBits_le_64 h1 h2)
theorem cD(k:Nat):(0:Int)<=2 ^ k:=by
 rw[two_pow_cast]
 exact Int.natCast_nonneg _
theorem Cm:Jp X (QQ .Add) (pM λi j=>.int (i+j)):=oI λ_ _ _ _ _ _ _ q=>add_int q
theorem Jo:Jp X (QQ .Sub) (pM λi j=>.int (i-j)):=oI λ_ _ _ _ _ _ _ q=>sub_int q
theorem Ku:Jp X (QQ .Mult) (rI AE λi j=>.int (i * j)):=wA λ_ _ _ _ _ _ _ hc q=>mul_int q hc.ok
theorem Dy:Jp X (QQ .FloorDiv) (rI GU λi j=>.int (i / j)):=wA λi j _ _ _ _ _ hc q=>by
 have h1:(0:Int) < j:=hc.1
 have h2:j < 1073741824:=hc.2
 exact floordiv_int (by omega) (by rw[Int.fdiv_eq_ediv_of_nonneg i (by omega)];exact q) (.inl (PyProof.noPylong_small (by omega)))
theorem Cb:Jp X (QQ .Mod) (rI (λ_ j=>0 < j) λi j=>.int (i % j)):=wA λi j _ _ _ _ _ hc q=>by
 have h1:(0:Int) < j:=hc
 exact mod_int' (by omega) (by rw[Int.fmod_eq_emod_of_nonneg i (by omega)];exact q)
theorem sY:Jp X (QQ .Mod) (rI (λ_ j=>j≠0) λi j=>.int (i.fmod j)):=wA λ_ _ _ _ _ _ _ hc q=>mod_int' hc q
theorem Tl:Jp X (QQ .Pow) (rI HG λi j=>.int (i ^ j.toNat)):=wA λ_ _ _ _ _ _ _ hc q=>pow_int_small hc.1 hc.2.1 hc.2.2 q
theorem xQ:Jp X (QQ .RShift) (rI (λ_ j=>0<=j) λi j=>.int (i / 2 ^ j.toNat)):=wA λi j _ _ _ _ _ hc q=>
 rshift_int hc (by rw[Int.fdiv_eq_ediv_of_nonneg i (cD _)];exact q)
theorem AU:Jp X (QQ .BitAnd) (pM λi j=>.int (Builtin.bitAnd i j)):=oI λ_ _ _ _ _ _ _ q=>and_int q
theorem ER:Jp X (QQ .BitOr) (pM λi j=>.int (Builtin.bitOr i j)):=oI λ_ _ _ _ _ _ _ q=>or_int q
theorem AY:Jp X (QQ .BitXor) (pM λi j=>.int (Builtin.bitXor i j)):=oI λ_ _ _ _ _ _ _ q=>xor_int q
theorem JB{f:JH->Sem JH}{g:Int->Int}(rule:∀(i:Int)(t:Tok)(s:JL)(Q:JH->JL->Prop)(E:JH->JL->Prop),Q (.int (g i) s.toks) { s with toks:=s.toks+1 }->KY (LB X.prog X.w) X.A (f (.int i t)) Q E s):
 HY X f (rU λi=>.int (g i)):=by
 intro pins s σ H x v Q I rx h
 obtain⟨i,rfl,q⟩:=h
 obtain⟨t,rfl⟩:=rx
 exact rule i t s _ _ ⟨.int (g i),H,I.tok _,⟨_,rfl⟩,q⟩
theorem Gx:HY X (unaryOp .USub) (rU λi=>.int (-i)):=JB λ_ _ _ _ _ q=>neg_int q
end
def DQ:V->V->Bool
 | .non,.non=>true | .non,.int _=>true | .int _,.non=>true | .non,.bl _=>true | .bl _,.non=>true | .non,.str _=>true | .str _,.non=>true
 | .int _,.int _=>true | .bl _,.bl _=>true | .str _,.str _=>true | .byt _,.byt _=>true
 | .int _,.str _=>true | .str _,.int _=>true | .bl _,.str _=>true | .str _,.bl _=>true
 | _,_=>false
def IW:R2:=λx y H Q=>DQ x y=true/\Q (.bl (decide (x=y))) H
def IR:R2:=λx y H Q=>DQ x y=true/\Q (.bl (!decide (x=y))) H
theorem eN{i j:Int}:decide (V.int i=V.int j)=(i == j):=by
 rw[Bool.eq_iff_iff]
 simp
theorem nI{i j:Bool}:decide (V.bl i=V.bl j)=(i == j):=by
 rw[Bool.eq_iff_iff]
 simp
theorem eI{i j:Str}:decide (V.str i=V.str j)=(i == j):=by
 rw[Bool.eq_iff_iff]
 simp
theorem eQ{i j:Array UInt8}:decide (V.byt i=V.byt j)=(i.toList == j.toList):=by
 rw[Bool.eq_iff_iff]
 cases i
 cases j
 simp
section
variable {X:Cx} {a b c:Expr} {ta tb tc:TE} {pos:Pos}
theorem Bt{pins:List (JO×Obj)}{σ:St}{H:Hp}{s:JL}{Q:VK}{k k':Bool}(I:Inv X pins σ H s)(q:Q (.bl k) H)(e:k=k'):EP X pins σ Q (.bool k') s:=by
 subst e
 exact⟨.bl k,H,I,rfl,q⟩
theorem Cc:Jp X (OW .Eq) IW:=by
 intro pins s σ H x y v u Q I rx ry h
 obtain⟨hs,q⟩:=h
 cases x with
 | non=>
  cases rx
  cases y with
  | non=>cases ry;exact PySem.EqNone.eq_none_none (Bt I q (by simp))
  | bl j=>cases ry;exact PySem.EqNone.eq_none_bool (Bt I q (by simp))
  | int j=>obtain⟨t',rfl⟩:=ry;exact PySem.EqNone.eq_none_int (Bt I q (by simp))
  | str j=>obtain⟨t',rfl⟩:=ry;exact PySem.EqNone.eq_none_str (Bt I q (by simp))
  | _=>exact absurd (show false=true from hs) JR
 | bl i=>
  cases rx
  cases y with
  | non=>cases ry;exact PySem.EqNone.eq_bool_none (Bt I q (by simp))
  | bl j=>cases ry;exact eq_bool (Bt I q nI)
  | str j=>obtain⟨t',rfl⟩:=ry;exact PySem.EqMixed.eq_bool_str (Bt I q (by simp))
  | _=>exact absurd (show false=true from hs) JR
 | int i=>
  obtain⟨t,rfl⟩:=rx
  cases y with
  | non=>cases ry;exact PySem.EqNone.eq_int_none (Bt I q (by simp))
  | int j=>obtain⟨t',rfl⟩:=ry;exact eq_int (Bt I q eN)
  | str j=>obtain⟨t',rfl⟩:=ry;exact PySem.EqMixed.eq_int_str (Bt I q (by simp))
  | _=>exact absurd (show false=true from hs) JR
 | str i=>
  obtain⟨t,rfl⟩:=rx
  cases y with
  | non=>cases ry;exact PySem.EqNone.eq_str_none (Bt I q (by simp))
  | bl j=>cases ry;exact PySem.EqMixed.eq_str_bool (Bt I q (by simp))
  | int j=>obtain⟨t',rfl⟩:=ry;exact PySem.EqMixed.eq_str_int (Bt I q (by simp))
  | str j=>obtain⟨t',rfl⟩:=ry;exact eq_str (Bt I q eI)
  | _=>exact absurd (show false=true from hs) JR
 | byt i=>
  obtain⟨t,rfl⟩:=rx
  cases y with
  | byt j=>obtain⟨t',rfl⟩:=ry;exact PySem.W.eq_bytes (Bt I q eQ)
  | _=>exact absurd (show false=true from hs) JR
 | _=>cases y<;>exact absurd (show false=true from hs) JR
theorem Rr:Jp X (OW .NotEq) IR:=by
 intro pins s σ H x y v u Q I rx ry h
 obtain⟨hs,q⟩:=h
 cases x with
 | non=>
  cases rx
  cases y with
  | non=>cases ry;exact PySem.EqNone.ne_none_none (Bt I q (by simp))
  | bl j=>cases ry;exact PySem.EqNone.ne_none_bool (Bt I q (by simp))
  | int j=>obtain⟨t',rfl⟩:=ry;exact PySem.EqNone.ne_none_int (Bt I q (by simp))
  | str j=>obtain⟨t',rfl⟩:=ry;exact PySem.EqNone.ne_none_str (Bt I q (by simp))
  | _=>exact absurd (show false=true from hs) JR
 | bl i=>
  cases rx
  cases y with
  | non=>cases ry;exact PySem.EqNone.ne_bool_none (Bt I q (by simp))
  | bl j=>cases ry;exact ne_bool (Bt I q (congrArg not nI))
  | str j=>obtain⟨t',rfl⟩:=ry;exact PySem.EqMixed.ne_bool_str (Bt I q (by simp))
  | _=>exact absurd (show false=true from hs) JR
 | int i=>
  obtain⟨t,rfl⟩:=rx
  cases y with
  | non=>cases ry;exact PySem.EqNone.ne_int_none (Bt I q (by simp))
  | int j=>obtain⟨t',rfl⟩:=ry;exact ne_int (Bt I q (congrArg not eN))
  | str j=>obtain⟨t',rfl⟩:=ry;exact PySem.EqMixed.ne_int_str (Bt I q (by simp))
  | _=>exact absurd (show false=true from hs) JR
 | str i=>
  obtain⟨t,rfl⟩:=rx
  cases y with
  | non=>cases ry;exact PySem.EqNone.ne_str_none (Bt I q (by simp))
  | bl j=>cases ry;exact PySem.EqMixed.ne_str_bool (Bt I q (by simp))
  | int j=>obtain⟨t',rfl⟩:=ry;exact PySem.EqMixed.ne_str_int (Bt I q (by simp))
  | str j=>obtain⟨t',rfl⟩:=ry;exact ne_str (Bt I q (congrArg not eI))
  | _=>exact absurd (show false=true from hs) JR
 | byt i=>
  obtain⟨t,rfl⟩:=rx
  cases y with
  | byt j=>obtain⟨t',rfl⟩:=ry;exact PySem.W.ne_bytes (Bt I q (congrArg not eQ))
  | _=>exact absurd (show false=true from hs) JR
 | _=>cases y<;>exact absurd (show false=true from hs) JR
theorem Oz:Jp X (OW .Lt) (pM λi j=>.bl (decide (i < j))):=tN λ_ _ _ _ _ _ _ q=>lt_int q
theorem Qe:Jp X (OW .LtE) (pM λi j=>.bl (decide (i<=j))):=tN λ_ _ _ _ _ _ _ q=>le_int q
theorem Xf:Jp X (OW .Gt) (pM λi j=>.bl (decide (j < i))):=tN λ_ _ _ _ _ _ _ q=>gt_int q
theorem EG:Jp X (OW .GtE) (pM λi j=>.bl (decide (j<=i))):=tN λ_ _ _ _ _ _ _ q=>ge_int q
theorem Au(b:Expr){op:CmpOp}(h:op ≠ .In:=by decide)(h2:op ≠ .NotIn:=by decide):SK op b=false:=by
 have e1:(op == CmpOp.In)=false:=by cases op<;>first | rfl | exact absurd rfl h
 have e2:(op == CmpOp.NotIn)=false:=by cases op<;>first | rfl | exact absurd rfl h2
 cases b<;>simp[SK,e1,e2]
theorem eM{op:CmpOp}{r:R2}(ho:Jp X (OW op) r)(ha:PE X a ta)(hb:PE X b tb)(hm:SK op b=false):PE X (.Compare a [op] [b] pos) (BG r ta tb):=by
 intro pins s σ H Q I h
 exact wpAny_Compare1 (zI ha hb I h λv u s2 x y H2 I2 rx ry q=>ho pins s2 σ H2 x y v u Q I2 rx ry q) hm
def xC(t:TE):TT:=λσ H Q=>t σ H λx H'=>∃k,x=.bl k/\Q k H'
theorem Ar{op:CmpOp}{r:R2}(ho:Jp X (OW op) r)(ha:PE X a ta)(hb:PE X b tb)(hm:SK op b=false):PT X (.Compare a [op] [b] pos) (xC (BG r ta tb)):=by
 intro pins s σ H Q I h
 refine wpAny_isTrue_Compare1 (Bu (ha pins s σ H _ I h) λv s1 ⟨x,H1,I1,r1,q1⟩=>Bu (hb pins s1 σ H1 _ I1 q1) λu s2 ⟨y,H2,I2,r2,q2⟩=>
  Bu (ho pins s2 σ H2 x y v u _ I2 r1 r2 q2) λc s3 ⟨z,H3,I3,r3,k,e,q3⟩=>?_) hm
 subst e
 cases r3
 exact OH ⟨H3,I3,q3⟩
def qH(r r':R2)(ta tb tc:TE):TE:=λσ H Q=>ta σ H λx H1=>tb σ H1 λy H2=>r x y H2 λz H3=>∃k,z=.bl k /\
 (if k=true then tc σ H3 λw' H4=>r' y w' H4 Q else Q (.bl false) H3)
theorem Qt{op op':CmpOp}{r r':R2}(ho:Jp X (OW op) r)(ho':Jp X (OW op') r')(ha:PE X a ta)(hb:PE X b tb)(hc:PE X c tc)(hm:lastMarks [op,op'] [b,c]=false:=by with_unfolding_all rfl):PE X (.Compare a [op,op'] [b,c] pos) (qH r r' ta tb tc):=by
 intro pins s σ H Q I h
 refine Compare_chain (Bu (ha pins s σ H _ I h) λv s1 ⟨x,H1,I1,r1,q1⟩=>chain_link (Bu (hb pins s1 σ H1 _ I1 q1) λu s2 ⟨y,H2,I2,r2,q2⟩=>
  Bu (ho pins s2 σ H2 x y v u _ I2 r1 r2 q2) λd s3 ⟨z,H3,I3,r3,k,e,q3⟩=>?_)) hm
 subst e
 cases r3
 refine OH ?_
 cases k with
 | false=>exact ite_ff ⟨.bl false,H3,I3,rfl,q3⟩
 | true=>exact ite_tt (chain_last (Bu (hc pins s3 σ H3 _ I3 q3) λw' s4 ⟨z',H4,I4,r4,q4⟩=>ho' pins s4 σ H4 y z' u w' Q I4 r2 r4 q4))
theorem nR{op op':CmpOp}{r r':R2}(ho:Jp X (OW op) r)(ho':Jp X (OW op') r')(ha:PE X a ta)(hb:PE X b tb)(hc:PE X c tc)(hm:lastMarks [op,op'] [b,c]=false:=by with_unfolding_all rfl):PT X (.Compare a [op,op'] [b,c] pos) (xC (qH r r' ta tb tc)):=by
 intro pins s σ H Q I h
 refine isTrue_chain (Bu (ha pins s σ H _ I h) λv s1 ⟨x,H1,I1,r1,q1⟩=>test_link (Bu (hb pins s1 σ H1 _ I1 q1) λu s2 ⟨y,H2,I2,r2,q2⟩=>
  Bu (ho pins s2 σ H2 x y v u _ I2 r1 r2 q2) λd s3 ⟨z,H3,I3,r3,k,e,q3⟩=>?_)) hm
 subst e
 cases r3
 refine OH ?_
 cases k with
 | false=>
  obtain⟨k',e',q'⟩:=q3
  cases e'
  exact ite_ff ⟨H3,I3,q'⟩
 | true=>
  refine ite_tt (test_last (Bu (hc pins s3 σ H3 _ I3 q3) λw' s4 ⟨z',H4,I4,r4,q4⟩=>Bu (ho' pins s4 σ H4 y z' u w' _ I4 r2 r4 q4) λd' s5 ⟨z2,H5,I5,r5,k2,e2,q5⟩=>?_))
  subst e2
  cases r5
  exact OH ⟨H5,I5,q5⟩
def rV(K:JG)(x:V)(H:Hp)(k:Bool):Prop:=
 match x with
 | .non=>k=false
 | .bl b=>k=b
 | .int i=>k=(i != 0)
 | .str y=>y.length<=JQ/\k=((y.length:Int) != 0)
 | .byt y=>y.size<=JQ/\k=((y.size:Int) != 0)
 | .ref p=>(∃xs,Aw K H p xs/\k = !xs.isEmpty)∨(∃xs,Ck K H p xs/\k = !xs.isEmpty) ∨ ∃kvs,H p=some (.dK kvs)/\k = !kvs.isEmpty
 | _=>False
theorem Zp{κ:Type}{kvs:List (κ×V)}{vs:List (κ×JH)}(r:KV kvs vs):(!vs.isEmpty) = !kvs.isEmpty:=by
 cases r<;>rfl
theorem Pn{xs:List V}{its:List JH}(r:Bb xs its):(!its.toArray.isEmpty) = !xs.isEmpty:=by
 cases r<;>simp
theorem Kl:(JQ:Nat) < 2 ^ 63:=by rw[KS];decide
theorem cS:FJ X (λx H Q=>∃k,rV X.K x H k/\Q k H):=by
 intro pins s σ H x v Q I rx h
 obtain⟨k,e,q⟩:=h
 have hl:=Kl
 have hs:JQ=16777216:=KS
 cases x with
 | non=>
  cases rx
  have e':k=false:=e
  subst e'
  exact truthy_none ⟨H,I,q⟩
 | bl b=>
  cases rx
  have e':k=b:=e
  subst e'
  exact OH ⟨H,I,q⟩
 | int i=>
  obtain⟨t,rfl⟩:=rx
  have e':k=(i != 0):=e
  subst e'
  exact PySem.P.truthy_int ⟨H,I,q⟩
 | str y=>
  obtain⟨t,rfl⟩:=rx
  obtain⟨hy,e'⟩:y.length<=JQ/\k=((y.length:Int) != 0):=e
  subst e'
  exact PySem.P.truthy_str (by omega) ⟨H,I.tok _,q⟩
 | byt y=>
  obtain⟨t,rfl⟩:=rx
  obtain⟨hy,e'⟩:y.size<=JQ/\k=((y.size:Int) != 0):=e
  subst e'
  exact PySem.W.truthy_bytes (by omega) ⟨H,I.tok _,q⟩
 | ref p=>
  cases rx
  have e':(∃xs,Aw X.K H p xs/\k = !xs.isEmpty)∨(∃xs,Ck X.K H p xs/\k = !xs.isEmpty) ∨ ∃kvs,H p=some (.dK kvs)/\k = !kvs.isEmpty:=e
  rcases e' with ⟨xs,hx,e'⟩ | ⟨xs,hx,e'⟩ | ⟨kvs,hx,e'⟩
  ·subst e'
   obtain⟨its,r,pl,hz⟩:=I.list hx
   have hlen:=r.length
   exact wpAny_truthy_list pl.isList (by simp only[KU];omega) ⟨H,I.tok _,by rw[Pn r];exact q⟩
  ·subst e'
   obtain⟨its,r,pl,hz⟩:=I.tuple hx
   have hlen:=r.length
   exact truthy_tuple pl (by simp only[KU];omega) ⟨H,I.tok _,by rw[Pn r];exact q⟩
  ·subst e'
   obtain⟨hz,hS,vs,r,m⟩:kvs.length<=JQ/\(p == OI)=false/\∃vs,KV kvs vs/\s.heap.DictOf (Bo X.prog X.w) p vs:=I.hok p _ hx
   have hlen:kvs.length=vs.length:=NP r
   exact wpAny_truthy_dict hS m (by omega) ⟨H,I.tok _,by rw[Zp r];exact q⟩
 | _=>exact(show False from e).elim
theorem oV(ha:PE X a ta)(he:∀whole,isTrue a X.env whole=(do let v <- whole;standAt a.pos;holding [v] (truthy v))):
 PT X a (λσ H Q=>ta σ H λx H'=>∃k,rV X.K x H' k/\Q k H'):=by
 intro pins s σ H Q I h
 exact isTrue_plain (Bu (ha pins s σ H _ I h) λv s1 ⟨x,H1,I1,r1,q1⟩=>cS pins s1 σ H1 x v Q I1 r1 q1) (he _)
theorem Iq:Jp X (QQ .Add) (λx y H Q=>∃i j,x=.str i/\y=.str j/\i.length+j.length<=JQ/\Q (.str (i++j)) H):=by
 intro pins s σ H x y v u Q I rx ry h
 obtain⟨i,j,rfl,rfl,hz,q⟩:=h
 obtain⟨t,rfl⟩:=rx
 obtain⟨t',rfl⟩:=ry
 exact add_str (λt' tk=>⟨.str (i++j),H,I.tok _,⟨_,rfl⟩,q⟩) hz
theorem vals1{x:V}{us:List JH}(r:Bb [x] us):∃u,us=[u]/\RelV x u:=by
 cases r with
 | cons r1 r2=>cases r2;exact⟨_,rfl,r1⟩
theorem vals2{x y:V}{us:List JH}(r:Bb [x,y] us):∃u w',us=[u,w']/\RelV x u/\RelV y w':=by
 cases r with
 | cons r1 r2=>
  cases r2 with
  | cons r3 r4=>cases r4;exact⟨_,_,rfl,r1,r3⟩
theorem lU:Fk X (.builtin "abs") (λxs H Q=>∃i,xs=[.int i]/\Q (.int (if i < 0 then -i else i)) H):=by
 intro pins s σ H xs us Q I r h
 obtain⟨i,rfl,q⟩:=h
 obtain⟨u,rfl,t,rfl⟩:=vals1 r
 exact call_abs_int λu tk=>⟨.int (if i < 0 then -i else i),H,I.tok _,⟨_,rfl⟩,q⟩
end
structure Zi(h:MV)(x dx C:JO)(mA:Str->Option JH):Prop where
 obj:h.get? x=some (QA C dx)
 ns:h.Ns1 dx mA
 ne:dx≠x
theorem iJ{h:MV}{dx:JO}{mA:Str->Option JH}(n:h.Ns1 dx mA):∃od,h.get? dx=some od/\∀name,PySem.W.lookIn name od=some (mA name):=by
 obtain⟨o,es,ep,ho,hd,hk,_,hm⟩:=n
 refine⟨o,ho,λname=>?_⟩
 have e:=hm name
 unfold nsFind findBy at e
 rw[<- Array.find?_toList] at e
 unfold PySem.W.lookIn
 rw[hd]
 dsimp only
 split
 ·rename_i y q
  rw[q] at e
  exact congrArg some e
 ·rename_i q
  rw[q] at e
  have a:es.toList.any (·.refKey)=false:=by
   rw[List.any_eq_false]
   intro y hy
   obtain⟨z,t,hkey⟩:=hk y (Array.mem_toList_iff.mp hy)
   simp[DictEntry.refKey,hkey]
  have a':¬ es.toList.any (·.refKey)=true:=by rw[a];exact JR
  rw[if_neg a']
  exact congrArg some e
theorem Zi.look{h:MV}{x dx C:JO}{mA:Str->Option JH}(I:Zi h x dx C mA):∃od,PySem.W.InstAt h x (QA C dx) C (some od)/\∀name,PySem.W.lookIn name od=some (mA name):=
 let ⟨od,ho,hl⟩:=iJ I.ns
 ⟨od,⟨I.obj,rfl,rfl,ho⟩,hl⟩
section
variable {prog:KI} {w:LQ} {A:LM} {E:JH->JL->Prop} {s:JL} {K:JG} {x dx C f:JO} {mA:Str->Option JH} {name:Str} {v:JH}
theorem tU{expr:Bool}{Q:JH->JL->Prop}(X:K.In s.heap)(I:Zi s.heap x dx C mA)(hg:PySem.W.plainGet K C name=true)(hh:PySem.W.hasDictIn K C=true)(ha:MK K (.ref C) name=some none)(hv:mA name=some v)(hv':PySem.W.handedIn v=true)(h:Q v { s with toks:=s.toks+1 }):
 KY (LB prog w) A (getAttr (.ref x) name expr) Q E s:=by
 obtain⟨od,J,hl⟩:=I.look
 exact PySem.W.get_value X J (PySem.W.plainGet_of hg).1 (PySem.W.findObj_own hh ha rfl (by rw[hl,hv])) hv' h
theorem oQ{pl:Sem Bool}{Q:JH×List JH->JL->Prop}(X:K.In s.heap)(I:Zi s.heap x dx C mA)(hg:PySem.W.plainGet K C name=true)(hf:MK K (.ref C) name=some (some (.ref f)))(ht:PySem.W.isFn K (.ref f)=true)(hv:mA name=none)(h:Q (.ref f,[.ref x]) s):
 KY (LB prog w) A (getMethod (.ref x) name pl) Q E s:=by
 obtain⟨od,J,hl⟩:=I.look
 exact PySem.W.method_fn X J (PySem.W.plainGet_of hg).1 (PySem.W.plainGet_of hg).2 hf (beq_iff_eq.mp ht) (by show (PySem.W.lookIn name od).map (·.isSome)=some false;rw[hl,hv];rfl) h
theorem sV{ns:List Str}{Q:Unit->JL->Prop}(X:K.In s.heap)(I:Zi s.heap x dx C mA)(hs:MK K (.ref C) "__setattr__" = some (some (.builtin "object.__setattr__")))(hp:PySem.W.plainOver K C=true)(ht:PySem.W.takerIn K C name=some none)(hh:PySem.W.hasDictIn K C=true)(hw:PySem.Within mA ns)(hsz:ns.length<=JQ)(h:∀h',Zi h' x dx C (λy=>if y=name then some v else mA y)->Heap.SameBut dx s.heap h'->Q () { s with heap:=h',toks:=s.toks+2 }):
 KY (LB prog w) A (setAttr (.ref x) name v) Q E s:=by
 obtain⟨od,J,hl⟩:=I.look
 refine PySem.W.set_plain X J hs (PySem.W.osa_open (s:={ s with toks:=s.toks+1 }) (r:=none) X J hp ht λb=>?_)
 obtain⟨cd,hc,hd'⟩:=PySem.W.any_some hh
 have hx:s.heap.get? x=some ⟨.ref C,some dx,.plain,#[]⟩:=I.obj
 refine JE (JS (JE (JE (wpAny_loadPart hx (JE (PySem.W.Looks.here (s:={ s with toks:=s.toks+1 }) (PySem.W.looks_clsIn X hc) ?_))))))
 rw[hd']
 refine JS (a:=some dx) (JE (JS (JE ?_)))
 refine wpAny_nsSet1 (s:={ s with toks:=s.toks+1 }) I.ns λh' hn2 hs2=>?_
 obtain⟨oD,esD,epD,hoD,hdD,hcD⟩:=hn2.count (PySem.Within.cons name v hw)
 refine JE (wpAny_lookBehind hoD (by rw[hdD];exact pastItsLine_dict (KZ hcD (by rw[LU];omega))) ?_)
 exact JS (h _ ⟨(hs2.2 _ (LL I.ne)).trans I.obj,hn2,I.ne⟩ hs2)
theorem nD{R:Result->JL->Prop}{vs:List JH}{kw:List (Str×JH)}(X:K.In s.heap)(hm:PySem.W.makesIn K C=true)(hi:MK K (.ref C) "__init__" = some (some (.ref f)))(hf:PySem.W.typeIn K (.ref f)=some (.type "function"))(h:RZ (LB prog w) (A.under (.builtin "type.__call__" ⟨.ref C::vs,kw⟩)) (.call (.ref f) ⟨.ref (s.heap.objs.size+1)::vs,kw⟩) (PySem.W.InitBack (s.heap.objs.size+1) R)
  { s with heap:=(s.heap.push OD).push (QA C s.heap.objs.size) }):
 RZ (LB prog w) A (.call (.ref C) ⟨vs,kw⟩) R s:=by
 obtain⟨hh,g,d,t,os⟩:=s
 exact PySem.W.make_core (PySem.W.makes_of X hm) (PySem.W.looks_findIn X hi) (λself=>PySem.W.bind_fn X self hf) (.inl rfl) h
end
def Ep(f:Str)(v:V):List (Str×V)->List (Str×V)
 | []=>[(f,v)]
 | (g,x)::r=>if g=f then (g,v)::r else (g,x)::Ep f v r
theorem Nf(f g:Str)(v:V):∀fs:List (Str×V),(Ep f v fs).lookup g=if g=f then some v else fs.lookup g
 | []=>by
  show RJ g [(f,v)]=_
  by_cases h:g=f
  ·have hb:(g == f)=true:=beq_iff_eq.mpr h
   simp only[RJ,hb,if_pos h]
  ·have hb:(g == f)=false:=beq_eq_false_iff_ne.mpr h
   simp only[RJ,hb,if_neg h]
 | (k,x)::r=>by
  have ih:=Nf f g v r
  rw[show Ep f v ((k,x)::r)=(if k=f then (k,v)::r else (k,x)::Ep f v r) from rfl]
  by_cases hk:k=f
  ·rw[if_pos hk]
   by_cases h:g=k
   ·have hb:(g == k)=true:=beq_iff_eq.mpr h
    simp only[RJ,hb,if_pos (h.trans hk)]
   ·have hb:(g == k)=false:=beq_eq_false_iff_ne.mpr h
    simp only[RJ,hb,if_neg (λe:g=f=>h (e.trans hk.symm))]
  ·rw[if_neg hk]
   by_cases h:g=k
   ·have hb:(g == k)=true:=beq_iff_eq.mpr h
    simp only[RJ,hb,if_neg (λe:g=f=>hk (h.symm.trans e))]
   ·have hb:(g == k)=false:=beq_eq_false_iff_ne.mpr h
    simp only[RJ,hb]
    exact ih
theorem Mj(f:Str)(v:V):∀fs:List (Str×V),f∈(Ep f v fs).map (·.1)/\∀g,g∈fs.map (·.1)->g∈(Ep f v fs).map (·.1)
 | []=>⟨by simp[Ep],λg h=>by simp at h⟩
 | (k,x)::r=>by
  obtain⟨i1,i2⟩:=Mj f v r
  rw[show Ep f v ((k,x)::r)=(if k=f then (k,v)::r else (k,x)::Ep f v r) from rfl]
  by_cases hk:k=f
  ·rw[if_pos hk]
   subst hk
   exact⟨by simp,λg h=>by simpa using h⟩
  ·rw[if_neg hk]
   refine⟨?_,λg h=>?_⟩
   ·rw[LY]
    exact JU _ i1
   ·rw[LY] at h ⊢
    rcases JT.mp h with e | e
    ·exact JT.mpr (.inl e)
    ·exact JU _ (i2 g e)
theorem Fm(f:Str)(v:V):∀fs:List (Str×V),(Ep f v fs).length<=fs.length+1
 | []=>by simp[Ep]
 | (k,x)::r=>by
  have ih:=Fm f v r
  rw[show Ep f v ((k,x)::r)=(if k=f then (k,v)::r else (k,x)::Ep f v r) from rfl]
  by_cases hk:k=f
  ·rw[if_pos hk,LU,LU];omega
  ·rw[if_neg hk,LU,LU];omega
theorem Hw.some_of{v:V}{o:Option JH}(r:Hw (some v) o):∃u,o=some u/\RelV v u:=by
 cases o with
 | none=>exact(show False from r).elim
 | some u=>exact⟨u,rfl,r⟩
theorem Hw.none_of{o:Option JH}(r:Hw none o):o=none:=by
 cases o with
 | none=>rfl
 | some u=>exact(show False from r).elim
theorem jW{v:V}{u:JH}(r:RelV v u):PySem.W.handedIn u=true:=by
 cases v with
 | non=>cases (show u=MY from r);rfl
 | bl b=>cases (show u=Value.bool b from r);rfl
 | int i=>obtain⟨t,e⟩:=(show ∃t,u=Value.int i t from r);cases e;rfl
 | str x=>obtain⟨t,e⟩:=(show ∃t,u=Value.str x t from r);cases e;rfl
 | byt b=>obtain⟨t,e⟩:=(show ∃t,u=Value.bytes b t from r);cases e;rfl
 | flt b=>obtain⟨t,e⟩:=(show ∃t,u=Value.float b t from r);cases e;rfl
 | ref a=>cases (show u=JZ a from r);rfl
 | ty n=>cases (show u=OT n from r);rfl
section
variable {P:KI} {w:LQ} {H H':Hp} {h h':MV} {a C dx:JO} {fs fs':List (Str×V)}
theorem Od(hok:Kg P w H h)(e:H a=some (.ins C dx fs)):∃mA,Zi h a dx C mA/\(∀f,Hw (fs.lookup f) (mA f))/\PySem.Within mA (fs.map (·.1))/\fs.length<=1000/\H dx=some (.own a):=by
 obtain⟨d,z,ne,ob,mA,n,r,q⟩:=(show Cg P w H h a (.ins C dx fs) from hok a _ e)
 exact⟨mA,⟨ob,n,ne⟩,r,q,z,d⟩
end
structure Wb(K:JG)(C:JO):Prop where
 pg:PySem.W.plainGet K C Str.empty=true
 hd:PySem.W.hasDictIn K C=true
 po:PySem.W.plainOver K C=true
 sa:MK K (.ref C) "__setattr__" = some (some (.builtin "object.__setattr__"))
theorem Wb.get{K:JG}{C:JO}(c:Wb K C)(f:Str):PySem.W.plainGet K C f=true:=c.pg
def Ei(K:JG)(C:JO)(f:Str):Prop:=MK K (.ref C) f=some none
theorem Ei.taker{K:JG}{C:JO}{f:Str}(n:Ei K C f):PySem.W.takerIn K C f=some none:=by
 unfold PySem.W.takerIn
 rw[show MK K (.ref C) f=some none from n]
 rfl
structure Dt(K:JG)(C:JO)(m:Str)(f:JO):Prop where
 at_:MK K (.ref C) m=some (some (.ref f))
 fn:PySem.W.isFn K (.ref f)=true
 kp:JV K (.ref f)=true
section
variable {X:Cx} {pins:List (JO×Obj)} {σ:St} {H:Hp} {s:JL} {a C dx:JO} {fs:List (Str×V)} {f:Str} {v:V} {A:LM} {E:JH->JL->Prop}
theorem cM{b:Bool}{Q:JH->JL->Prop}(I:Inv X pins σ H s)(e:H a=some (.ins C dx fs))(c:Wb X.K C)(n:Ei X.K C f)(l:fs.lookup f=some v)(h:∀u s',Inv X pins σ H s'->RelV v u->Q u s'):KY (LB X.prog X.w) A (getAttr (.ref a) f b) Q E s:=by
 obtain⟨mA,O,r,_,_,_⟩:=Od I.hok e
 obtain⟨u,hu,ru⟩:=Hw.some_of (v:=v) (o:=mA f) (by rw[<- l];exact r f)
 exact tU I.kIn O (c.get f) c.hd n hu (jW ru) (h u _ (I.tok _) ru)
theorem Fb{m:Str}{g:JO}{pl:Sem Bool}{Q:JH×List JH->JL->Prop}(I:Inv X pins σ H s)(e:H a=some (.ins C dx fs))(c:Wb X.K C)(k:Dt X.K C m g)(l:fs.lookup m=none)(h:Q (.ref g,[.ref a]) s):KY (LB X.prog X.w) A (getMethod (.ref a) m pl) Q E s:=by
 obtain⟨mA,O,r,_,_,_⟩:=Od I.hok e
 have hn:mA m=none:=Hw.none_of (by rw[<- l];exact r m)
 exact oQ I.kIn O (c.get m) k.at_ k.fn hn h
theorem Zc{y:V}{u:JH}{Q:Unit->JL->Prop}(I:Inv X pins σ H s)(e:H a=some (.ins C dx fs))(c:Wb X.K C)(n:Ei X.K C f)(hl:fs.length < 1000)(ry:RelV y u)(h:∀s',Inv X pins σ (upd H a (.ins C dx (Ep f y fs))) s'->Q () s'):KY (LB X.prog X.w) A (setAttr (.ref a) f u) Q E s:=by
 obtain⟨mA,O,r,wi,_,ho⟩:=Od I.hok e
 have hz:(fs.map (·.1)).length<=JQ:=by rw[JJ,KS];omega
 refine sV I.kIn O c.sa c.po n.taker c.hd wi hz λh' O' sb=>h _ ?_
 have hd:∃o,h'.get? dx=some o:=let ⟨o,_,_,e',_⟩:=O'.ns;⟨o,e'⟩
 refine I.write (x:=a) (e:=dx) (by rw[e];exact PK) (.inr ho) (λb q hb z=>(sb.2 b hb).trans z) hd ?_
 refine⟨by rw[Aj O.ne];exact ho,?_,O.ne,O'.obj,_,O'.ns,λg=>?_,λg hg=>?_⟩
 ·have:=Fm f y fs;omega
 ·show Hw ((Ep f y fs).lookup g) (if g=f then some u else mA g)
  rw[Nf]
  by_cases q:g=f
  ·rw[if_pos q,if_pos q];exact ry
  ·rw[if_neg q,if_neg q];exact r g
 ·by_cases q:g=f
  ·rw[q];exact(Mj f y fs).1
  ·refine(Mj f y fs).2 g (wi g λz=>hg ?_)
   show (if g=f then some u else mA g)=none
   rw[if_neg q];exact z
theorem Inv.made(I:Inv X pins σ H s):Inv X pins σ (upd (upd H s.heap.objs.size (.own (s.heap.objs.size+1))) (s.heap.objs.size+1) (.ins C s.heap.objs.size []))
 { s with heap:=(s.heap.push OD).push (QA C s.heap.objs.size) }:=by
 have e1:(s.heap.push OD).get? s.heap.objs.size=some OD:=KG s.heap rfl
 have e2:((s.heap.push OD).push (QA C s.heap.objs.size)).get? (s.heap.objs.size+1)=some (QA C s.heap.objs.size):=by
  have:=KG (s.heap.push OD) (o:=QA C s.heap.objs.size) rfl
  rwa [OP] at this
 have e3:(s.heap.push OD).Ns s.heap.objs.size (λ_=>none):=⟨OD,#[],_,e1,rfl,(λe he=>absurd he (by simp)),λ_=>rfl⟩
 have I1:=I.laid (a:=s.heap.objs.size) (o:=.own (s.heap.objs.size+1)) (h':=s.heap.push OD) (t':=s.toks) (λb u q=>JI _ q) (JM _) ⟨_,e1⟩
 refine I1.laid (a:=s.heap.objs.size+1) (o:=.ins C s.heap.objs.size []) (t':=s.toks) (λb u q=>JI _ q) (QT (OP _ _)) ?_
 have ne:s.heap.objs.size≠s.heap.objs.size+1:=KQ (QG _)
 refine⟨by rw[Aj ne,Aa],LK _,ne,e2,λ_=>none,(Heap.Ns1.of_empty e3).at λo q=>JI _ q,λ_=>PK,λy hy=>absurd rfl hy⟩
theorem sN{prog:KI}{w:LQ}{env:Env}{e:Expr}{f:Str}{pos:Pos}{s:JL}{Q:JH->JL->Prop}(hb:RH e f env (PD e env)=PD e env)(h:KY (LB prog w) A (PD e env) (λo s₁=>KY (LB prog w) A (getAttr o f true) Q E s₁) E s):KY (LB prog w) A (PD (.Attribute e f pos) env) Q E s:=
 Attribute_any_ h (by rw[arm_eval_Attribute,hb])
end
def DD(K:JG)(ta:TE)(f:Str):TE:=λσ H Q=>ta σ H λx H1=>∃a C dx fs v,x=.ref a/\H1 a=some (.ins C dx fs)/\Wb K C/\Ei K C f/\fs.lookup f=some v/\Q v H1
def HU(K:JG)(ta tv:TE)(f:Str):TS:=λD σ H=>tv σ H λy H1=>ta σ H1 λx H2=>∃a C dx fs,x=.ref a/\H2 a=some (.ins C dx fs)/\Wb K C/\Ei K C f/\fs.length < 1000 /\
 D.nx σ (upd H2 a (.ins C dx (Ep f y fs)))
section
variable {X:Cx} {o e value:Expr} {f:Str} {pos pos' tpos:Pos} {ta tv:TE}
theorem Cq(he:PE X e ta)(hb:RH e f X.env (PD e X.env)=PD e X.env):PE X (.Attribute e f pos) (DD X.K ta f):=by
 intro pins s σ H Q I h
 refine sN hb (Bu (he pins s σ H _ I h) λu s1 ⟨x,H1,I1,rx,a,C,dx,fs,v,ex,ea,c,n,l,q⟩=>?_)
 subst ex
 obtain rfl:u=JZ a:=rx
 exact cM I1 ea c n l λu' s2 I2 ru=>⟨v,H1,I2,ru,q⟩
theorem Gn(ha:PE X o ta)(hv:PE X value tv)(hs:swapsWith value (some (.Attribute o f pos')) pos.line X.env=pure false):PS X (.Assign [.Attribute o f pos'] value pos) (HU X.K ta tv f):=by
 intro pins s σ H D I h
 refine plainObj_wpAny_Assign_Attribute (Bu (hv pins s σ H _ I h) λu s1 ⟨y,H1,I1,ry,q⟩=>Bu (ha pins s1 σ H1 _ I1 q) λov s2 ⟨x,H2,I2,rx,a,C,dx,fs,ex,ea,c,n,l,q2⟩=>?_) hs
 subst ex
 obtain rfl:ov=JZ a:=rx
 exact Zc I2 ea c n l ry λs3 I3=>⟨σ,_,I3,q2⟩
theorem xB{pl:Sem Bool}{m:Str}{apos:Pos}{args:List Expr}{pins:List (JO×Obj)}{s:JL}{σ:St}{H:Hp}{Q:JH->JL->Prop}{te:TE}(he:PE X e te)(I:Inv X pins σ H s)(h:te σ H λx H1=>∃a C dx fs g,x=.ref a/\H1 a=some (.ins C dx fs)/\Wb X.K C/\Dt X.K C m g/\fs.lookup m=none /\
  ∀s1,Inv X pins σ H1 s1->KY (LB X.prog X.w) X.A (callWith pos (.ref g) [.ref a] (QO pos (KW args X.env)) (backToKw pos (QY [] X.env))) Q X.xe s1)(ht:PD (.Call (.Attribute e m apos) args [] pos) X.env=(do
  let ov <- PD e X.env
  standAt apos.atName
  let (f,first) <- holding [ov] (getMethod ov m pl)
  callWith pos f first (QO pos (KW args X.env)) (backToKw pos (QY [] X.env)))):
 KY (LB X.prog X.w) X.A (PD (.Call (.Attribute e m apos) args [] pos) X.env) Q X.xe s:=by
 refine PN (pl:=pl) (Bu (he pins s σ H _ I h) λu s1 ⟨x,H1,I1,rx,a,C,dx,fs,g,ex,ea,c,k,l,q⟩=>?_) ht
 subst ex
 obtain rfl:u=JZ a:=rx
 exact Fb I1 ea c k l (q s1 I1)
end
section
variable {X:Cx} {pins:List (JO×Obj)} {σ:St} {H:Hp} {s:JL} {A:LM} {E:JH->JL->Prop} {Q:JH->JL->Prop} {c:JH} {b:Bool}
inductive Mo(K:JG)(H:Hp):V->JH->Prop where
 | non:Mo K H .non (.type "NoneType")
 | bl (x:Bool):Mo K H (.bl x) (.type "bool")
 | int (i:Int):Mo K H (.int i) (.type "int")
 | str (x:Str):Mo K H (.str x) (.type "str")
 | flt (x:UInt64):Mo K H (.flt x) (.type "float")
 | lst {a:JO} {xs:List V} (e:H a=some (.lst xs)):Mo K H (.ref a) (.type "list")
 | frz {a:JO} {o:Obj} {xs:List V} (e:H a=some (.frz o (.lst xs))):Mo K H (.ref a) (.type "list")
 | tup {a:JO} {xs:List V} (e:H a=some (.tup xs)):Mo K H (.ref a) (.type "tuple")
 | dK {a:JO} {kvs:List (Key×V)} (e:H a=some (.dK kvs)):Mo K H (.ref a) (.type "dict")
 | dT {a:JO} {kvs:List (List Key×V)} (e:H a=some (.dT kvs)):Mo K H (.ref a) (.type "dict")
 | ins {a C dx:JO} {fs:List (Str×V)} (e:H a=some (.ins C dx fs)) (cl:Wb K C) (ha:MK K (.ref C) "__class__" = some (some (.builtin "object.__class__")))
  (hn:PySem.W.specialIn K (.builtin "object.__class__") "__get__" = some (some (.builtin "getset_descriptor.__get__"))) (htk:PySem.W.takesIn K (.builtin "object.__class__")=some true)
  (hm:PySem.W.mroIn K C (.type "object")=some true):Mo K H (.ref a) (.ref C)
theorem iD{x:V}{u t:JH}(I:Inv X pins σ H s)(rx:RelV x u)(ty:Mo X.K H x t)(e:QK X.K t c=some b)(h:∀tk,Q (.bool b) { s with toks:=tk }):
 KY (LB X.prog X.w) A (call (.builtin "isinstance") [u,c]) Q E s:=by
 cases ty with
 | non=>cases (show u=MY from rx);exact NR PySem.W.kitx_none I.kIn PK e (λz=>nomatch z) h
 | bl y=>cases (show u=Value.bool y from rx);exact NR PySem.W.kitx_bool I.kIn PK e (λz=>nomatch z) h
 | int i=>obtain⟨t,q⟩:=(show ∃t,u=Value.int i t from rx);cases q;exact NR PySem.W.kitx_int I.kIn PK e (λz=>nomatch z) h
 | str y=>obtain⟨t,q⟩:=(show ∃t,u=Value.str y t from rx);cases q;exact NR PySem.W.kitx_str I.kIn PK e (λz=>nomatch z) h
 | flt y=>obtain⟨t,q⟩:=(show ∃t,u=Value.float y t from rx);cases q;exact NR PySem.W.kitx_float I.kIn PK e (λz=>nomatch z) h
 | @lst a xs ea=>
  cases (show u=JZ a from rx)
  obtain⟨_,_,n,_,h1⟩:=(show Cg X.prog X.w H s.heap a (.lst xs) from I.hok a _ ea)
  exact NR PySem.W.kitx_list I.kIn ⟨_,h1,rfl⟩ e (λz=>nomatch z) h
 | @frz a ob xs ea=>
  cases (show u=JZ a from rx)
  obtain⟨_,_,_,n,_,h1⟩:=(show Cg X.prog X.w H s.heap a (.frz ob (.lst xs)) from I.hok a _ ea)
  exact NR PySem.W.kitx_list I.kIn ⟨_,h1,rfl⟩ e (λz=>nomatch z) h
 | @tup a xs ea=>
  cases (show u=JZ a from rx)
  obtain⟨_,_,_,p⟩:=(show Cg X.prog X.w H s.heap a (.tup xs) from I.hok a _ ea)
  obtain⟨o,h1,h2,_⟩:=p
  exact NR PySem.W.kitx_tuple I.kIn ⟨o,h1,h2⟩ e (λz=>nomatch z) h
 | @dK a kvs ea=>
  cases (show u=JZ a from rx)
  obtain⟨_,_,vs,_,p⟩:=(show Cg X.prog X.w H s.heap a (.dK kvs) from I.hok a _ ea)
  obtain⟨o,es,ep,h1,h2,_⟩:=p
  exact NR PySem.W.kitx_dict I.kIn ⟨o,h1,h2.1⟩ e (λz=>nomatch z) h
 | @dT a kvs ea=>
  cases (show u=JZ a from rx)
  obtain⟨_,_,xs,_,o,es,ep,h1,h2,_⟩:=(show Cg X.prog X.w H s.heap a (.dT kvs) from I.hok a _ ea)
  exact NR PySem.W.kitx_dict I.kIn ⟨o,h1,h2.1⟩ e (λz=>nomatch z) h
 | @ins a C dx fs ea cl ha hn htk hm=>
  cases (show u=JZ a from rx)
  obtain⟨mA,O,_⟩:=Od I.hok ea
  obtain⟨od,J,_⟩:=O.look
  exact NR (PySem.W.kitx_own (cl.get _) cl.hd ha hn htk hm) I.kIn J e (λz=>nomatch z) h
end
structure Co(k:Nat)(A:LM):Prop where
 dp:A.depth+3 * k+5 < recursionLimit
 un:A.units+16 * k+200 < cLine
theorem Co.mono{j k:Nat}{A:LM}(r:Co k A)(h:j<=k):Co j A:=⟨by have:=r.dp;omega,by have:=r.un;omega⟩
theorem Co.deeper{k:Nat}{A:LM}(r:Co (k+1) A)(env:Env):Co k (A.deeper env):=
 ⟨by have:=r.dp;show A.depth+1+3 * k+5 < _;omega,by have:=r.un;show A.units+3+16 * k+200 < _;omega⟩
theorem aS{A:LM}{C:JO}{us:List JH}{kw:List (Str×JH)}:(A.under (.builtin "type.__call__" ⟨.ref C::us,kw⟩)).depth=A.depth+1:=by
 first | rfl | simp[Around.under,Code.weight,Code.isCreation,Code.isGuard,Code.isCaller,Code.frames,Code.isFrame,guardIds]
theorem cV{A:LM}{C:JO}{us:List JH}{kw:List (Str×JH)}:(A.under (.builtin "type.__call__" ⟨.ref C::us,kw⟩)).units=A.units+1:=by
 first | rfl | simp[Around.under,Code.cUnits,Code.frames,Code.isFrame]
theorem Co.make{k:Nat}{A:LM}(r:Co (k+1) A)(C:JO)(us:List JH)(kw:List (Str×JH)):Co k (A.under (.builtin "type.__call__" ⟨.ref C::us,kw⟩)):=
 ⟨by have:=r.dp;rw[aS];omega,by have:=r.un;rw[cV];omega⟩
theorem Co.depth{k:Nat}{A:LM}(r:Co k A):A.depth < recursionLimit:=by have:=r.dp;omega
theorem Co.units{k:Nat}{A:LM}(r:Co k A):A.units+64 < cLine:=by have:=r.un;omega
def Wq:TA:=λ_ H Q=>Q [] H
def Ja(ta:TE)(tr:TA):TA:=λσ H Q=>ta σ H λx H1=>tr σ H1 λxs H2=>Q (x::xs) H2
section
variable {X:Cx} {e:Expr} {es:List Expr} {te:TE} {t:TA} {pos:Pos}
theorem Fw:PA X [] Wq:=λ_ _ _ _ H Q I h=>Calls.spliced_nil ⟨[],H,I,.nil,h⟩
theorem Gc(ha:PE X e te)(hr:PA X es t)(hs:KW (e::es) X.env=(false,PD e X.env)::KW es X.env:=by rfl):PA X (e::es) (Ja te t):=by
 intro pos pins s σ H Q I h
 rw[hs]
 show KY _ _ (spliced ((false,PD e X.env)::QO pos (KW es X.env))) _ _ s
 refine QW (Bu (ha pins s σ H _ I h) λu s1 ⟨x,H1,I1,r1,q1⟩=>?_)
 exact Bu (hr pos pins s1 σ H1 _ I1 q1) λus s2 ⟨xs,H2,I2,r2,q2⟩=>⟨x::xs,H2,I2,.cons r1 r2,q2⟩
def FN(t:TA):TE:=λσ H Q=>t σ H λxs H1=>xs.length<=JQ/\∀p,H1 p=none->Q (.ref p) (upd H1 p (.tup xs))
def oP(t:TA):TE:=λσ H Q=>t σ H λxs H1=>xs.length<=JQ/\∀p,H1 p=none->Q (.ref p) (upd H1 p (.lst xs))
theorem Ca{x1}(h:PA X es t):PE X (.Tuple es x1 pos) (FN t):=by
 intro pins s σ H Q I hq
 refine wpAny_Tuple_spliced (Bu (h pos pins s σ H _ I hq) λus s1 ⟨xs,H1,I1,r,z,q⟩=>⟨by rw[<- r.length];exact z,?_⟩)
 have hf:H1 s1.heap.objs.size=none:=I1.hok.fresh (JM _)
 refine⟨.ref s1.heap.objs.size,upd H1 s1.heap.objs.size (.tup xs),I1.laid (t':=s1.toks) (λb u e=>JI _ e) (JM _) ?_,rfl,q _ hf⟩
 exact⟨z,us,r,⟨_,KG _ rfl,rfl,_,rfl⟩⟩
theorem De(h:PA X es t):PE X (.List es pos) (oP t):=by
 intro pins s σ H Q I hq
 refine wpAny_List_spliced (Bu (h pos pins s σ H _ I hq) λus s1 ⟨xs,H1,I1,r,z,q⟩=>⟨by rw[<- r.length];exact z,?_⟩)
 have hf:H1 s1.heap.objs.size=none:=I1.hok.fresh (JM _)
 refine⟨.ref s1.heap.objs.size,upd H1 s1.heap.objs.size (.lst xs),I1.laid (t':=s1.toks) (λb u e=>JI _ e) (JM _) ?_,rfl,q _ hf⟩
 exact⟨z,us,0,r,KG _ rfl⟩
end
abbrev Sp:=List V->Hp->VK->XK->Prop
structure Wc where
 f:List Env->Hp->JL->XK->JH->JL->Prop
 st:Bool
structure Yr(CX:Wc)(base:MV)(k:Nat)(A:LM):Prop where
 rm:Co k A
 st:CX.st=true->A.handled=none
 hd:Bp A base
theorem Yr.mono{CX:Wc}{base:MV}{j k:Nat}{A:LM}(r:Yr CX base k A)(h:j<=k):Yr CX base j A:=⟨r.rm.mono h,r.st,r.hd⟩
structure Vc(P:KI)(w:LQ)(K:JG)(mg:Str->Option JH)(base:MV)(A:LM)(outer:List Env)(s:JL)(H:Hp):Prop where
 frames:A.frames=some outer
 mod:Mod K mg base
 bs:∀b o,base.get? b=some o->s.heap.get? b=some o/\H b=none
 bsz:base.objs.size<=s.heap.objs.size
 funs:s.heap.FunFrames base outer
 frf:∀b∈Rc outer,H b=none
 hok:Kg P w H s.heap
 bare:AllBare s.gens
def CE(outer:List Env)(P:KI)(w:LQ)(H:Hp)(s:JL)(Q:VK)(u:JH)(s':JL):Prop:=
 ∃v H',s'.os=s.os/\AllBare s'.gens/\Un (Rc outer) [] H H' s.heap s'.heap/\Kg P w H' s'.heap/\RelV v u/\Q v H'
def CR(CX:Wc)(outer:List Env)(P:KI)(w:LQ)(H:Hp)(s:JL)(Q:VK)(E:XK)(r:Result)(s':JL):Prop:=
 match r with
 | .ok (.ret u)=>CE outer P w H s Q u s'
 | .ok _=>False
 | .error e=>CX.f outer H s E e s'
structure Al(P:KI)(w:LQ)(K:JG)(mg:Str->Option JH)(base:MV)(CX:Wc)(k:Nat)(f:JO)(fd:LG)(ps:List Str)(sp:Sp):Prop where
 len:∀vs H Q E,sp vs H Q E->vs.length=ps.length
 run:∀(A:LM)(outer:List Env)(s:JL)(H:Hp)(args:Args)(us:List JH)(vs:List V)(Q:VK)(E:XK),Yr CX base k A->Vc P w K mg base A outer s H->BindsTo s fd args (ps.zip us)->Bb vs us->sp vs H Q E ->
  RZ (LB P w) A (.call (.ref f) args) (CR CX outer P w H s Q E) s
theorem Al.mono{P:KI}{w:LQ}{K:JG}{mg:Str->Option JH}{base:MV}{CX:Wc}{j k:Nat}{f:JO}{fd:LG}{ps:List Str}{sp:Sp}(F:Al P w K mg base CX j f fd ps sp)(h:j<=k):
 Al P w K mg base CX k f fd ps sp:=⟨F.len,λA outer s H args us vs Q E hr=>F.run A outer s H args us vs Q E (hr.mono h)⟩
theorem Vc.make{P:KI}{w:LQ}{K:JG}{mg:Str->Option JH}{base:MV}{A:LM}{outer:List Env}{s:JL}{H:Hp}(e:Vc P w K mg base A outer s H)(C:JO)(us:List JH)(kw:List (Str×JH)):
 Vc P w K mg base (A.under (.builtin "type.__call__" ⟨.ref C::us,kw⟩)) outer s H:=⟨by first | exact e.frames | (simpa [Around.under,Code.envs,Code.isFrame,pushEnvs] using e.frames),e.mod,e.bs,e.bsz,e.funs,e.frf,e.hok,e.bare⟩
section
variable {X:Cx} {pins:List (JO×Obj)} {σ:St} {H:Hp} {s s':JL}
theorem Inv.env0(I:Inv X pins σ H s):Vc X.prog X.w X.K X.mg X.base X.A X.stack s H:=
 ⟨I.ok.frames,I.ok.mod,I.bs,KZ I.ok.bsz I.sz,I.stack,I.stkFree,I.hok,I.bare⟩
theorem Inv.after{Q:VK}{u:JH}(I:Inv X pins σ H s)(h:CE X.stack X.prog X.w H s Q u s'):EP X pins σ Q u s':=by
 obtain⟨v,H',os,bare,un,hok,r,q⟩:=h
 obtain⟨hh,g,d,t,os'⟩:=s'
 obtain rfl:os'=s.os:=os
 exact⟨v,H',I.call (h':=hh) (g':=g) (d':=d) (t':=t) (ch:=[]) un hok bare (λb z=>absurd z (by simp)),r,q⟩
end
def wQ(sp:Sp)(dvs:List V)(E:XK)(t:TA):TE:=λσ H Q=>t σ H λvs H1=>sp (vs++dvs) H1 Q E
def rF(C:JO)(m:Str)(sp:Sp)(dvs:List V)(E:XK)(ta:TE)(t:TA):TE:=λσ H Q=>ta σ H λx H1=>∃a dx fs,x=.ref a/\H1 a=some (.ins C dx fs)/\fs.lookup m=none /\
 t σ H1 λvs H2=>sp (x::(vs++dvs)) H2 Q E
def xJ(C:JO)(sp:Sp)(dvs:List V)(E:XK)(t:TA):TE:=λσ H Q=>t σ H λvs H1=>∀x dx,H1 x=none->H1 dx=none->dx≠x ->
 sp (.ref x::(vs++dvs)) (upd (upd H1 dx (.own x)) x (.ins C dx [])) (λv H2=>v=.non/\Q (.ref x) H2) E
def Binds(K:JG)(fd:LG)(ps:List Str)(ds:List JH):Prop:=
 ∀(s:JL)(us:List JH),K.In s.heap->(us++ds).length=ps.length->BindsTo s fd ⟨us,[]⟩ (ps.zip (us++ds))
theorem Binds.all{K:JG}{fd:LG}{ps:List Str}(h:∀us:List JH,us.length=ps.length->bindArgs fd ⟨us,[]⟩=pure (ps.zip us)):Binds K fd ps []:=λs us _ hl=>by
 rw[MD] at hl ⊢
 exact .of_eq (h us hl)
structure Hj(CX:Wc)(X:Cx)(E:XK):Prop where
 cl:X.calm=true
 st:CX.st=true->X.sx=true
 go:∀(pins:List (JO×Obj))(σ:St)(H:Hp)(s:JL)(e:JH)(s':JL),Inv X pins σ H s->CX.f X.stack H s E e s'->X.xe e s'
theorem Hj.room{CX:Wc}{X:Cx}{E:XK}{pins:List (JO×Obj)}{σ:St}{H:Hp}{s:JL}{k:Nat}(p:Hj CX X E)(I:Inv X pins σ H s)(r:Co k X.A):Yr CX X.base k X.A:=⟨r,λz=>I.ok.st (p.st z),I.ok.hd p.cl⟩
section
variable {X:Cx} {CX:Wc} {k:Nat} {f C:JO} {fd:LG} {ps:List Str} {sp:Sp} {dvs:List V} {ds:List JH} {E:XK} {x m:Str} {p pos apos:Pos} {e o:Expr} {es:List Expr} {ta:TE} {t:TA}
theorem oW{pins:List (JO×Obj)}{σ:St}{H:Hp}{s:JL}{Q:VK}{us:List JH}{vs:List V}(F:Al X.prog X.w X.K X.mg X.base CX k f fd ps sp)(hr:Co k X.A)(hb:Binds X.K fd ps ds)(hd:Bb dvs ds)(hx:Hj CX X E)(I:Inv X pins σ H s)(r:Bb vs us)(h:sp (vs++dvs) H Q E):KY (LB X.prog X.w) X.A (call (.ref f) us) (EP X pins σ Q) X.xe s:=by
 have r2:Bb (vs++dvs) (us++ds):=r.append hd
 have hl:(us++ds).length=ps.length:=by rw[<- r2.length];exact F.len _ _ _ _ h
 refine SA (PY (F.run X.A X.stack s H ⟨us,[]⟩ (us++ds) (vs++dvs) Q E (hx.room I hr) I.env0 (hb s us I.kIn hl) r2 h) λr s' hq=>?_)
 cases r with
 | error e=>exact hx.go pins σ H s e s' I hq
 | ok fl=>
  cases fl with
  | ret u=>exact I.after hq
  | next=>exact MF hq
  | brk=>exact MF hq
  | cont=>exact MF hq
theorem Dj(F:Al X.prog X.w X.K X.mg X.base CX k f fd ps sp)(hr:Co k X.A)(hg:Gl X x)(hm:X.mg x=some (.ref f))(hk:JV X.K (.ref f)=true)(hb:Binds X.K fd ps ds)(hd:Bb dvs ds)(hx:Hj CX X E)(ha:PA X (e::es) t)(hdb:(x == ("__debug__" : Str))=false:=by decide)(he:KW (e::es) X.env=(false,PD e X.env)::KW es X.env:=by rfl)(hpl:(QO pos (KW es X.env)).any (·.1)=false:=by rfl):
 PE X (.Call (.Name x p) (e::es) [] pos) (wQ sp dvs E t):=by
 intro pins s σ H Q I h
 refine OS (Hf I hg hm ?_ hdb)
 refine NX (h₀:=X.base) I.ok.mod.kin hk (Bu (ha pos pins s σ H _ I h) λus s1 ⟨vs,H1,I1,r,q⟩=>⟨I1.kIn,?_⟩) he hpl
 exact oW F hr hb hd hx I1 r q
theorem Ee{pl:Sem Bool}(he:PE X o ta)(c:Wb X.K C)(hm:Dt X.K C m f)(F:Al X.prog X.w X.K X.mg X.base CX k f fd ps sp)(hr:Co k X.A)(hb:Binds X.K fd ps ds)(hd:Bb dvs ds)(hx:Hj CX X E)(ha:PA X (e::es) t)(hst:KW (e::es) X.env=(false,PD e X.env)::KW es X.env:=by rfl)(hpl:(QO pos (KW es X.env)).any (·.1)=false:=by rfl)(ht:PD (.Call (.Attribute o m apos) (e::es) [] pos) X.env=(do
  let ov <- PD o X.env
  standAt apos.atName
  let (f,first) <- holding [ov] (getMethod ov m pl)
  callWith pos f first (QO pos (KW (e::es) X.env)) (backToKw pos (QY [] X.env))):=by rfl):
 PE X (.Call (.Attribute o m apos) (e::es) [] pos) (rF C m sp dvs E ta t):=by
 intro pins s σ H Q I h
 refine PN (pl:=pl) (Bu (he pins s σ H _ I h) λu s1 ⟨x,H1,I1,rx,a,dx,fs,ex,ea,l,q⟩=>?_) ht
 subst ex
 obtain rfl:u=JZ a:=rx
 refine Fb I1 ea c hm l ?_
 refine NX (first:=[.ref a]) (h₀:=X.base) I.ok.mod.kin hm.kp (Bu (ha pos pins s1 σ H1 _ I1 q) λus s2 ⟨vs,H2,I2,r,q2⟩=>⟨I2.kIn,?_⟩) hst hpl
 exact oW (us:=.ref a::us) (vs:=.ref a::vs) F hr hb hd hx I2 (.cons rfl r) q2
structure Mk(K:JG)(C f:JO):Prop where
 makes:PySem.W.makesIn K C=true
 init:MK K (.ref C) "__init__" = some (some (.ref f))
 fn:PySem.W.isFn K (.ref f)=true
 kp:JV K (.ref C)=true
theorem Xa{pins:List (JO×Obj)}{σ:St}{H:Hp}{s:JL}{Q:VK}{us:List JH}{vs:List V}(M:Mk X.K C f)(F:Al X.prog X.w X.K X.mg X.base CX k f fd ps sp)(hr:Co (k+1) X.A)(hb:Binds X.K fd ps ds)(hd:Bb dvs ds)(hx:Hj CX X E)(I:Inv X pins σ H s)(r:Bb vs us)(h:∀x dx,H x=none->H dx=none->dx≠x->sp (.ref x::(vs++dvs)) (upd (upd H dx (.own x)) x (.ins C dx [])) (λv H2=>v=.non/\Q (.ref x) H2) E):
 KY (LB X.prog X.w) X.A (call (.ref C) us) (EP X pins σ Q) X.xe s:=by
 have hq:=h (s.heap.objs.size+1) s.heap.objs.size (I.hok.fresh (ON _)) (I.hok.fresh (JM _)) (KQ (QG _))
 have I2:=Inv.made (C:=C) I
 have r2:Bb (V.ref (s.heap.objs.size+1)::(vs++dvs)) (JZ (s.heap.objs.size+1)::(us++ds)):=.cons rfl (r.append hd)
 have hl:(JZ (s.heap.objs.size+1)::us++ds).length=ps.length:=by
  have e:=r2.length
  rw[F.len _ _ _ _ hq] at e
  exact e.symm
 refine SA (nD (f:=f) I.kIn M.makes M.init (beq_iff_eq.mp M.fn) (PY (F.run _ X.stack _ _ ⟨JZ (s.heap.objs.size+1)::us,[]⟩ (JZ (s.heap.objs.size+1)::(us++ds)) _ _ E ⟨hr.make C us [],λz=>I2.ok.st (hx.st z),I2.ok.hd hx.cl⟩
  (I2.env0.make C us []) (hb _ (JZ (s.heap.objs.size+1)::us) I2.kIn hl) r2 hq) λr s' hq'=>?_))
 cases r with
 | error e=>exact hx.go pins σ _ _ e s' I2 hq'
 | ok fl=>
  cases fl with
  | ret u=>
   obtain⟨v,H',I3,rv,ev,q3⟩:=I2.after hq'
   subst ev
   exact⟨rv,⟨V.ref (s.heap.objs.size+1),H',I3,rfl,q3⟩⟩
  | next=>exact MF hq'
  | brk=>exact MF hq'
  | cont=>exact MF hq'
theorem Oj(M:Mk X.K C f)(F:Al X.prog X.w X.K X.mg X.base CX k f fd ps sp)(hr:Co (k+1) X.A)(hg:Gl X x)(hm:X.mg x=some (.ref C))(hb:Binds X.K fd ps ds)(hd:Bb dvs ds)(hx:Hj CX X E)(ha:PA X (e::es) t)(hdb:(x == ("__debug__" : Str))=false:=by decide)(he:KW (e::es) X.env=(false,PD e X.env)::KW es X.env:=by rfl)(hpl:(QO pos (KW es X.env)).any (·.1)=false:=by rfl):
 PE X (.Call (.Name x p) (e::es) [] pos) (xJ C sp dvs E t):=by
 intro pins s σ H Q I h
 refine OS (Hf I hg hm ?_ hdb)
 refine NX (h₀:=X.base) I.ok.mod.kin M.kp (Bu (ha pos pins s σ H _ I h) λus s1 ⟨vs,H1,I1,r,q⟩=>⟨I1.kIn,?_⟩) he hpl
 exact Xa M F hr hb hd hx I1 r q
theorem oS(M:Mk X.K C f)(F:Al X.prog X.w X.K X.mg X.base CX k f fd ps sp)(hr:Co (k+1) X.A)(hg:Gl X x)(hm:X.mg x=some (.ref C))(hb:Binds X.K fd ps ds)(hd:Bb dvs ds)(hx:Hj CX X E)(hdb:(x == ("__debug__" : Str))=false:=by decide):PE X (.Call (.Name x p) [] [] pos) (xJ C sp dvs E Wq):=by
 intro pins s σ H Q I h
 refine OS (Hf I hg hm ?_ hdb)
 exact PySem.W.callWith_K0 I.kIn M.kp (Xa (us:=[]) M F hr hb hd hx I .nil h)
end
section
variable {X:Cx} {CX:Wc} {k:Nat} {f C:JO} {fd:LG} {ps ks:List Str} {sp:Sp} {E:XK} {x m:Str} {p pos apos kpos:Pos} {e o:Expr} {es:List Expr} {kws:List Keyword} {te ta:TE} {t tk:TA} {nm:Option Str}
variable {g:List JH->List JH->List JH} {gV:List V->List V->List V}
end
structure An(N P:List Str)(sc:Scope):Prop where
 kind:sc.kind=.function
 co:sc.isCoroutine=false
 gen:sc.isGenerator=false
 nd:N.Nodup
 pre:N.take P.length=P
 par:∀x∈P,sc.names.lookup x=some .local∨sc.names.lookup x=some .cell
 nofree:∀y∈sc.names,y.2 ≠ .free
theorem Ru{kindOf:Str->Option NameKind}{x:Str}:∀ {binds:List (Str×JH)} {m:Str->Option JH},(∀v,(x,v)∉binds)->bindL kindOf binds m x=m x
 | [],_,_=>rfl
 | (n,v)::r,m,h=>by
  unfold bindL
  rw[Ru λw hw=>h w (JU _ hw)]
  split
  ·have:x≠n:=by rintro rfl;exact h v JW
   simp[this]
  ·rfl
theorem Th{kindOf:Str->Option NameKind}{x:Str}:∀ {binds:List (Str×JH)} {m:Str->Option JH},(∀v,(x,v)∉binds)->bindC kindOf binds m x=m x
 | [],_,_=>rfl
 | (n,v)::r,m,h=>by
  unfold bindC
  rw[Th λw hw=>h w (JU _ hw)]
  split
  ·rfl
  ·have:x≠n:=by rintro rfl;exact h v JW
   simp[this]
theorem Sf{kindOf:Str->Option NameKind}{x:Str}{v:JH}:∀ {P:List Str} {vs:List JH} {i:Nat} {m:Str->Option JH},P.Nodup->P[i]? = some x->vs[i]? = some v->kindOf x=some .local ->
 bindL kindOf (P.zip vs) m x=some v
 | [],_,_,_,_,h,_,_=>by simp at h
 | _::_,[],_,_,_,_,h,_=>by simp at h
 | p::P,w::vs,0,m,nd,h1,h2,hk=>by
  simp at h1 h2;subst h1;subst h2
  show bindL kindOf ((p,w)::P.zip vs) m p=_
  unfold bindL
  rw[Ru λv hv=>(LW.mp nd).1 (List.of_mem_zip hv).1,if_pos hk]
  simp
 | p::P,w::vs,i+1,m,nd,h1,h2,hk=>by
  show bindL kindOf ((p,w)::P.zip vs) m x=_
  unfold bindL
  exact Sf (i:=i) (LW.mp nd).2 (by simpa using h1) (by simpa using h2) hk
theorem Td{kindOf:Str->Option NameKind}{x:Str}{v:JH}:∀ {P:List Str} {vs:List JH} {i:Nat} {m:Str->Option JH},P.Nodup->P[i]? = some x->vs[i]? = some v->kindOf x≠some .local ->
 bindC kindOf (P.zip vs) m x=some v
 | [],_,_,_,_,h,_,_=>by simp at h
 | _::_,[],_,_,_,_,h,_=>by simp at h
 | p::P,w::vs,0,m,nd,h1,h2,hk=>by
  simp at h1 h2;subst h1;subst h2
  show bindC kindOf ((p,w)::P.zip vs) m p=_
  unfold bindC
  rw[Th λv hv=>(LW.mp nd).1 (List.of_mem_zip hv).1,if_neg hk]
  simp
 | p::P,w::vs,i+1,m,nd,h1,h2,hk=>by
  show bindC kindOf ((p,w)::P.zip vs) m x=_
  unfold bindC
  exact Td (i:=i) (LW.mp nd).2 (by simpa using h1) (by simpa using h2) hk
def start(N:List Str)(vs:List V):St:=vs.map some++LF (N.length-vs.length) none
def Er(CX:Wc)(P:KI)(w:LQ)(K:JG)(mg:Str->Option JH)(base:MV)(N:List Str)(qual:Str)(scope:Scope)(f:JO)(cd:JH)(A:LM)(outer:List Env)(s:JL)(H:Hp)(E:XK):Cx where
 prog:=P
 w:=w
 K:=K
 mg:=mg
 base:=base
 A:=A.deeper (envOfC qual scope s.heap.objs.size f cd)
 N:=N
 s₀:=s
 H₀:=H
 env:=envOfC qual scope s.heap.objs.size f cd
 outer:=outer
 stack:=envOfC qual scope s.heap.objs.size f cd::outer
 ex:=[]
 calm:=true
 sx:=CX.st
 fn:=λ_=>true
 pn:=[]
 xe:=λe s'=>KY (LB P w) (A.deeper (envOfC qual scope s.heap.objs.size f cd)) (leaving (envOfC qual scope s.heap.objs.size f cd) e) (λ_ s''=>CX.f outer H s E e s'') (λe' s''=>CX.f outer H s E e' s'') s'
theorem Yt{sc:Scope}{n:Nat}{x:Str}(h:sc.names.lookup x=some .cell):∃c,(cellsFrom n sc.names []).lookup x=some c:=by
 have q:=PySem.W.cellsFrom_some sc.names n [] (.inl h)
 exact RL.mp q
theorem Sv{CX:Wc}{P:KI}{w:LQ}{K:JG}{mg:Str->Option JH}{base:MV}{N ps:List Str}{qual:Str}{scope:Scope}{f:JO}{cd:JH}{A:LM}{outer:List Env}{s s1:JL}{H:Hp}{E:XK}{us:List JH}{vs:List V}(S:An N ps scope)(hd:CX.st=true->A.handled=none)(hc:Bp A base)(e0:Vc P w K mg base A outer s H)(hl:vs.length=ps.length)(r:Bb vs us)(x:InCallC s s.heap.objs.size (bindL (envOfC qual scope s.heap.objs.size f cd).kindOf (ps.zip us) λ_=>none) (cellsFrom (s.heap.objs.size+1) scope.names []) (bindC (envOfC qual scope s.heap.objs.size f cd).kindOf (ps.zip us) λ_=>none) s1):
 Inv (Er CX P w K mg base N qual scope f cd A outer s H E) [] (start N vs) H s1:=by
 have hpl:ps.length<=N.length:=by have:=congrArg List.length S.pre;rw[NT] at this;omega
 obtain⟨h1,tk,rfl,hk⟩:=x.done
 have noA:∀b:JO,b∉(Er CX P w K mg base N qual scope f cd A outer s H E).ex:=λb z=>absurd (show b∈([]:List JO) from z) (by simp)
 refine⟨⟨e0.mod,S.kind,rfl,rfl,JM _,λy z c h1 h2=>?_,λy hy=>?_,λy c _ h=>?_,λ_=>hc,hd,Around.frames_deeper e0.frames,.inr ⟨rfl,rfl⟩,λb z=>absurd z (noA b),e0.bs,e0.bsz,λb _ _=>noA b,λb z=>absurd z (noA b),e0.funs,e0.frf⟩,
  rfl,e0.bare,Un.kept hk,⟨_,x.toInCall.ns,λi y v h1 h2 h3=>?_⟩,λy c h=>⟨_,x.cell y c h⟩,e0.hok.fresh (JM _),λy c h=>?_,λp hp=>absurd (show p∈([]:List (JO×Obj)) from hp) (by simp),e0.hok.kept hk,?_⟩
 ·exact name_of_addr x.apart (RI h1) (RI h2)
 ·have hy:scope.names.lookup y=some .cell∨scope.names.lookup y=some .free:=hy
  rcases hy with hy | hy
  ·exact Yt hy
  ·exact absurd rfl (S.nofree _ (RI hy))
 ·exact Nat.le_of_lt (x.above y c (RI h))
 ·have hi:i < vs.length:=by
   unfold start at h2
   by_cases hi:i < vs.length
   ·exact hi
   ·rw[List.getElem?_append_right (by simpa using hi)] at h2
    rw[QF] at h2
    split at h2<;>cases h2
  have ha:vs[i]? = some v:=by
   unfold start at h2
   rw[KN (by simpa using hi),KP] at h2
   cases e:vs[i]? with
   | none=>rw[e] at h2;cases h2
   | some a=>rw[e] at h2;cases h2;rfl
  obtain⟨u,hu,rv⟩:=r.get ha
  have hp:ps[i]? = some y:=by
   rw[<- S.pre,List.getElem?_take_of_lt (by omega)];exact h1
  have ndP:ps.Nodup:=by rw[<- S.pre];exact S.nd.sublist (List.take_sublist _ _)
  refine⟨u,rv,?_⟩
  rcases S.par y (KD hp) with k | k
  ·exact .inl ⟨k,Sf ndP hp hu k⟩
  ·obtain⟨c,e⟩:=Yt (n:=s.heap.objs.size+1) k
   refine .inr ⟨.inl k,c,e,?_⟩
   have q:=x.cell y c e
   rw[Td ndP hp hu (by show scope.names.lookup y≠_;rw[k];decide)] at q
   exact q
 ·exact e0.hok.fresh (Nat.le_of_lt (x.above y c (RI h)))
 ·unfold start
  show _=N.length
  rw[JN,JJ,NW]
  omega
theorem Yf{CX:Wc}{P:KI}{w:LQ}{K:JG}{mg:Str->Option JH}{base:MV}{k:Nat}{f:JO}{name qual:Str}{params:Arguments}{body:List OU}{scope:Scope}{dV kV doc pm cdv ct oc:JH}{an od:Option JO}{osl:Array (Option JH)}{N ps:List Str}{sp:Sp}(lk:K.lookup f=some ⟨oc,od,.func (QD name qual params body scope dV kV doc pm an cdv ct),osl⟩)(hcd:PySem.W.codeIn K cdv qual=true)(S:An N ps scope)(len:∀vs H Q E,sp vs H Q E->vs.length=ps.length)(hbody:∀(A:LM)(outer:List Env)(s:JL)(H:Hp)(vs:List V)(Q:VK)(E:XK),Co k (A.deeper (envOfC qual scope s.heap.objs.size f cdv))->sp vs H Q E ->
  ∃t,Hy (Er CX P w K mg base N qual scope f cdv A outer s H E) body t/\t { nx:=λ_ H'=>Q .non H',rt:=Q } (start N vs) H):
 Al P w K mg base CX (k+1) f (QD name qual params body scope dV kV doc pm an cdv ct) ps sp:=by
 refine⟨len,λA outer s H args us vs Q E hr e0 hb r hsp=>?_⟩
 have hl:=len _ _ _ _ hsp
 have KX:K.In s.heap:=e0.mod.kin.keeps λb o e=>(e0.bs b o e).1
 have lim:s.heap.NoLimit:=e0.mod.nolimit.keeps λb o e=>(e0.bs b o e).1
 have hkind:∀y∈ps.zip us,scope.names.lookup y.1=some .local∨(scope.names.lookup y.1=some .cell/\((cellsFrom (s.heap.objs.size+1) scope.names []).lookup y.1).isSome=true):=λ⟨n,v⟩ hy=>by
  rcases S.par n (List.of_mem_zip hy).1 with q | q
  ·exact .inl q
  ·exact .inr ⟨q,PySem.W.cellsFrom_some _ _ _ (.inl q)⟩
 refine codeAny_call_function hr.rm.depth (KX _ _ lk) rfl S.co S.gen rfl (PySem.W.codeRec_of KX hcd) (hb _ _ _ _ ?_)
 refine wpAny_newFunctionEnv_cells S.kind hkind λenv he s1 x=>?_
 subst he
 refine⟨lim.keeps x.toInCall.keep,codeAny_func ?_⟩
 obtain⟨t,ht,hq⟩:=hbody A outer s H vs Q E (hr.rm.deeper _) hsp
 have I:Inv (Er CX P w K mg base N qual scope f cdv A outer s H E) [] (start N vs) H s1:=Sv S hr.st hr.hd e0 hl r x
 refine ND (ht [] s1 (start N vs) H _ I hq) (λfl s' hs=>?_) λe s' hs=>hs
 have fin:∀ {σ':St} {H':Hp} {v:V} {u:JH},Inv (Er CX P w K mg base N qual scope f cdv A outer s H E) [] σ' H' s'->RelV v u->Q v H'->CE outer P w H s Q u s':=
  λ{σ' H' v u} J rv q=>⟨v,H',J.os,J.bare,J.base,J.hok,rv,q⟩
 cases fl with
 | ret u=>
  obtain⟨v,σ',H',J,rv,q⟩:=hs
  exact fin J rv q
 | next=>
  obtain⟨σ',H',J,q⟩:=hs
  exact fin (v:=V.non) (u:=MY) J rfl q
 | brk=>
  obtain⟨_,_,_,q⟩:=hs
  exact MF q
 | cont=>
  obtain⟨_,_,_,q⟩:=hs
  exact MF q
section
variable {X:Cx} {x:Str} {p pos:Pos} {e:Expr} {es:List Expr} {t:TA} {id T:String} {r:List V->Hp->VK->Prop}
def HW(r:List V->Hp->VK->Prop)(t:TA):TE:=λσ H Q=>t σ H λvs H1=>r vs H1 Q
theorem Bz(hc:Fk X (.builtin id) r)(hg:Gl X x)(hm:X.mg x=none)(hv:PZ x=some (.builtin id))(ha:PA X (e::es) t)(hn:x ≠ "__name__" := by decide)(hdb:(x == ("__debug__" : Str))=false:=by decide)(he:KW (e::es) X.env=(false,PD e X.env)::KW es X.env:=by rfl)(hpl:(QO pos (KW es X.env)).any (·.1)=false:=by rfl):PE X (.Call (.Name x p) (e::es) [] pos) (HW r t):=by
 intro pins s σ H Q I h
 refine OS (Io I hg hm hv ?_ hn hdb)
 exact PyProof.Rows.callWith_builtin1 (Bu (ha pos pins s σ H _ I h) λus s1 ⟨vs,H1,I1,r1,q1⟩=>hc pins s1 σ H1 vs us Q I1 r1 q1) he hpl
theorem Dl(hc:Fk X (.type T) r)(hg:Gl X x)(hm:X.mg x=none)(hv:PZ x=some (.type T))(ha:PA X (e::es) t)(hn:x ≠ "__name__" := by decide)(hdb:(x == ("__debug__" : Str))=false:=by decide)(he:KW (e::es) X.env=(false,PD e X.env)::KW es X.env:=by rfl)(hpl:(QO pos (KW es X.env)).any (·.1)=false:=by rfl):PE X (.Call (.Name x p) (e::es) [] pos) (HW r t):=by
 intro pins s σ H Q I h
 refine OS (Io I hg hm hv ?_ hn hdb)
 exact NH (Bu (ha pos pins s σ H _ I h) λus s1 ⟨vs,H1,I1,r1,q1⟩=>hc pins s1 σ H1 vs us Q I1 r1 q1) he hpl
end
end L2
namespace HT
open PySem PyProof.Rows
section
open PySem.SeqAt
open PySem.AutoSeq1 (wpAny_loadPart')
open PySem.MeetsSeq PySem.MeetsSeq2 PySem.MeetsSeq3
end
section
variable {prog:KI} {w:LQ} {A:LM} {E:JH->JL->Prop} {s:JL}
def sIx(n d:Nat):Option Int->Nat
 | none=>d
 | some v=>if v < 0 then (v+(n:Int)).toNat else min v.toNat n
theorem sIx_none(n d:Nat):sIx n d none=d:=rfl
theorem sIx_nat(n d k:Nat):sIx n d (some (k:Int))=min k n:=by
 show (if (k:Int) < 0 then ((k:Int)+(n:Int)).toNat else min (k:Int).toNat n)=min k n
 rw[if_neg (by omega),LX]
theorem yP(n d:Nat)(hd:d<=n)(o:Option Int):sIx n d o<=n:=by
 cases o with
 | none=>exact hd
 | some v=>
  show (if v < 0 then (v+(n:Int)).toNat else min v.toNat n)<=n
  by_cases hv:v < 0
  ·rw[if_pos hv];omega
  ·rw[if_neg hv];exact Nat.min_le_right _ _
theorem eR(v:Int)(n d:Nat):(if v < 0 then max (v+(n:Int)) 0 else min v (n:Int))=((sIx n d (some v):Nat):Int):=by
 show (if v < 0 then max (v+(n:Int)) 0 else min v (n:Int))=(((if v < 0 then (v+(n:Int)).toNat else min v.toNat n):Nat):Int)
 by_cases hv:v < 0
 ·simp only[if_pos hv];omega
 ·simp only[if_neg hv];omega
theorem Zf(lo hi:Option Int)(n:Nat):Builtin.Slice.sliceAdjust lo hi 1 (n:Int)=(((sIx n 0 lo:Nat):Int),((sIx n n hi:Nat):Int)):=by
 have h1:¬ ((1:Int) < 0):=by omega
 unfold Builtin.Slice.sliceAdjust
 simp only[h1,if_false]
 refine Prod.ext ?_ ?_
 ·cases lo with
  | none=>rfl
  | some v=>exact eR v n 0
 ·cases hi with
  | none=>rfl
  | some v=>exact eR v n n
theorem cC(i j:Nat):RU (i:Int) (j:Int) 1=j-i:=by
 unfold RU
 have h1:(1:Int) > 0:=by omega
 simp only[h1,if_true,Int.ediv_one]
 split<;>omega
theorem Qc{v:JH}{o:Option Int}{Q:Option Int->JL->Prop}(p:IsPart v o)(h:Q o s):KY (LB prog w) A (Builtin.Slice.slicePartIndex v) Q E s:=by
 cases p with
 | none=>exact slicePart_none h
 | int i t=>exact slicePart_int h
theorem Mi{sl:JO}{vl vu:JH}{lo hi:Option Int}{n:Nat}{Q:Int×Int×Nat->JL->Prop}(hs:s.heap.IsSliceOf sl vl vu .none)(pl:IsPart vl lo)(pu:IsPart vu hi)(h:Q (((sIx n 0 lo:Nat):Int),1,sIx n n hi-sIx n 0 lo) s):KY (LB prog w) A (Builtin.Slice.sliceApplied (.ref sl) (pure (n:Int))) Q E s:=by
 obtain⟨os,hos,hcs,hds⟩:=id hs
 unfold Builtin.Slice.sliceApplied Builtin.Slice.sliceFields
 refine JE (JE (LD hos hds (x:=vl) rfl (JE (LD hos hds (x:=vu) rfl (JE (LD hos hds (x:=.none) rfl (JS ?_)))))))
 refine JE (slicePart_none ?_)
 show KY _ _ (if ((1:Int) == 0)=true then _ else _) _ _ s
 rw[if_neg (by decide)]
 refine JE (Qc pl (JE (Qc pu (JE (JS ?_)))))
 show KY _ _ (match Builtin.Slice.sliceAdjust lo hi 1 (n:Int) with | (lo,hi)=>pure (lo,(1:Int),RU lo hi 1)) _ _ s
 rw[Zf lo hi n]
 show KY _ _ (pure (((sIx n 0 lo:Nat):Int),(1:Int),RU ((sIx n 0 lo:Nat):Int) ((sIx n n hi:Nat):Int) 1)) _ _ s
 rw[cC]
 exact JS h
theorem oH(xs:Array JH)(i k:Nat):((SI k).filterMap λ(m:Nat)=>xs[((i:Int)+(m:Int) * 1).toNat]?).toArray=((xs.toList.drop i).take k).toArray:=by
 have e:(λ(m:Nat)=>xs[((i:Int)+(m:Int) * 1).toNat]?)=λm=>xs[i+m]?:=by
  funext m
  have:((i:Int)+(m:Int) * 1).toNat=i+m:=by omega
  rw[this]
 rw[e]
 have:=pick_run xs i k
 rw[List.filterMap_map] at this
 have e2:((λx=>xs[x]?) ∘ λx=>i+x)=λm=>xs[i+m]?:=rfl
 rw[e2] at this
 rw[this]
theorem getItem_tuple_cut{t sl:JO}{items:Array JH}{vl vu:JH}{lo hi:Option Int}{Q:JH->JL->Prop}(ht:IsTup s.heap t items)(hs:s.heap.IsSliceOf sl vl vu .none)(pl:IsPart vl lo)(pu:IsPart vu hi)(hw:¬ (sIx items.size 0 lo=0/\sIx items.size items.size hi=items.size))(h:Q (.ref s.heap.objs.size) { s with heap:=s.heap.push { cls:=.type "tuple", data:=.seq ((items.toList.drop (sIx items.size 0 lo)).take (sIx items.size items.size hi-sIx items.size 0 lo)).toArray } })(hsz:items.size<=JQ):KY (LB prog w) A (getItem (.ref t) (.ref sl)) Q E s:=by
 have htake:sizeOk (.seq ((items.toList.drop (sIx items.size 0 lo)).take (sIx items.size items.size hi-sIx items.size 0 lo)).toArray):=by
  show ((items.toList.drop (sIx items.size 0 lo)).take (sIx items.size items.size hi-sIx items.size 0 lo)).toArray.size<=JQ
  rw[KU,NT,MW,RK]
  omega
 have hj:sIx items.size items.size hi<=items.size:=yP _ _ (JM _) hi
 obtain⟨os,hos,hcs,hds⟩:=id hs
 have hTs:s.TypeIs (.ref sl) "slice" := ⟨os,hos,hcs⟩
 unfold getItem
 try with_reducible refine NG ?_
 first | refine JE (JS ?_) | skip
 refine JE (wpAny_sequenceKey ht.typeIs (by decide) ?_)
 refine JE (LP (name:=NL "__getitem__") ht.typeIs SG
  (MG SG ht.typeIs entry_tuple_getitem ?_ (args_tuple_getitem _ _)))
 show KY _ _ (Builtin.Tuple.tupleItemsOf (.ref t) >>= _) _ _ s
 refine JE (tupleItemsOf_ ht ?_)
 refine JE (wpAny_typeOf hTs ?_)
 rw[if_pos (by decide)]
 refine JE (Mi hs pl pu ?_)
 have hno:¬ ((((sIx items.size 0 lo:Nat):Int) == 0 && (1:Int) == 1 && (sIx items.size items.size hi-sIx items.size 0 lo) == items.size)=true):=by
  intro q
  rw[MJ,MJ] at q
  have q1:((sIx items.size 0 lo:Nat):Int)=0:=eq_of_beq q.1.1
  have q2:sIx items.size items.size hi-sIx items.size 0 lo=items.size:=eq_of_beq q.2
  exact hw ⟨by omega,by omega⟩
 show KY _ _ (if (((sIx items.size 0 lo:Nat):Int) == 0 && (1:Int) == 1 && (sIx items.size items.size hi-sIx items.size 0 lo) == items.size)=true then _ else _) _ _ s
 rw[if_neg hno,oH]
 first
  | exact JE (m:=SE _) (PJ (JS ⟨_,rfl,JS h⟩) htake)
  | exact JE (m:=SE _) (PJ (JE (JS (JS ⟨_,rfl,JS h⟩))) htake)
  | exact JE (JE (m:=SE _) (PJ (JS (JS ⟨_,rfl,JS h⟩)) htake))
  | exact JE (JE (m:=SE _) (PJ (JS ⟨_,rfl,JS h⟩) htake))
end
end HT
namespace L2
open PySem PySem.Spec PyProof.Rows
abbrev TO:=St->Hp->(Option Int->Hp->Prop)->Prop
def PO(X:Cx)(e:Option Expr)(t:TO):Prop:=
 ∀(pins:List (JO×Obj))(s:JL)(σ:St)(H:Hp)(Q:Option Int->Hp->Prop),Inv X pins σ H s->t σ H Q ->
  KY (LB X.prog X.w) X.A (evalPart e X.env) (λu s'=>∃o H',Inv X pins σ H' s'/\IsPart u o/\Q o H') X.xe s
def tK:TO:=λ_ H Q=>Q none H
def DG(t:TE):TO:=λσ H Q=>t σ H λx H1=>∃i,x=.int i/\Q (some i) H1
section
variable {X:Cx} {e:Expr} {te:TE} {lo hi:Option Expr} {tl th:TO} {pos p2:Pos}
theorem Dw:PO X none tK:=by
 intro pins s σ H Q I h
 rw[evalPart_none]
 exact JS ⟨none,H,I,.none,h⟩
theorem Cy(h:PE X e te):PO X (some e) (DG te):=by
 intro pins s σ H Q I hw
 rw[evalPart_some]
 refine Bu (h pins s σ H _ I hw) λu s1 ⟨x,H1,I1,r1,q1⟩=>?_
 obtain⟨i,rfl,q⟩:=q1
 obtain⟨t,rfl⟩:=r1
 exact⟨some i,H1,I1,.int i t,q⟩
def DI(X:Cx)(r:V->Option Int->Option Int->Hp->VK->Prop):Prop:=
 ∀(pins:List (JO×Obj))(s:JL)(σ:St)(H:Hp)(x:V)(v vl vu:JH)(lo hi:Option Int)(sl:JO)(Q:VK),Inv X pins σ H s->RelV x v->s.heap.IsSliceOf sl vl vu .none->IsPart vl lo->IsPart vu hi->r x lo hi H Q ->
  ∃T id,typeLookup (.type T) "__getitem__" = pure (some (.builtin id))/\s.TypeIs v T/\KY (LB X.prog X.w) X.A (getItem v (.ref sl)) (EP X pins σ Q) X.xe s
def JC(r:V->Option Int->Option Int->Hp->VK->Prop)(te:TE)(tl th:TO):TE:=λσ H Q=>te σ H λx H1=>tl σ H1 λl H2=>th σ H2 λu H3=>r x l u H3 Q
theorem Cj{r:V->Option Int->Option Int->Hp->VK->Prop}(hr:DI X r)(he:PE X e te)(hl:PO X lo tl)(hu:PO X hi th):PE X (.Subscript e (.Slice lo hi none p2) pos) (JC r te tl th):=by
 intro pins s σ H Q I h
 refine Subscript_ (Bu (he pins s σ H _ I h) λv s1 ⟨x,H1,I1,r1,q1⟩=>?_)
 refine wpAny_Slice (Bu (hl pins s1 σ H1 _ I1 q1) λvl s2 ⟨l,H2,I2,pl,q2⟩=>Bu (hu pins s2 σ H2 _ I2 q2) λvu s3 ⟨u,H3,I3,pu,q3⟩=>?_)
 rw[evalPart_none]
 refine JS ?_
 have I4:Inv X pins σ H3 { s3 with heap:=s3.heap.push { cls:=.type "slice", data:=.fields #[vl,vu,.none] } }:=I3.kept (t':=s3.toks) λb ob q=>JI _ q
 obtain⟨T,id,hT,ht,hg⟩:=hr pins { s3 with heap:=s3.heap.push { cls:=.type "slice", data:=.fields #[vl,vu,.none] } } σ H3 x v vl vu l u s3.heap.objs.size Q I4 r1 (Heap.IsSliceOf.new ..) pl pu q3
 show KY (LB X.prog X.w) X.A (subscriptTail e (.Slice lo hi none p2) v (.ref s3.heap.objs.size)) (EP X pins σ Q) X.xe { s3 with heap:=s3.heap.push { cls:=.type "slice", data:=.fields #[vl,vu,.none] } }
 exact tail_any (ops:=[.ref s3.heap.objs.size,v]) ht hT hg (by with_unfolding_all rfl)
def Fy(xs:List V)(lo hi:Option Int):List V:=(xs.drop (HT.sIx xs.length 0 lo)).take (HT.sIx xs.length xs.length hi-HT.sIx xs.length 0 lo)
theorem Nc(xs:List V)(lo hi:Option Int):(Fy xs lo hi).length<=xs.length:=by
 unfold Fy
 rw[NT,MW]
 omega
def HL(K:JG):V->Option Int->Option Int->Hp->VK->Prop:=λx lo hi H Q=>∃a xs,x=.ref a/\Ck K H a xs /\
 ¬ (HT.sIx xs.length 0 lo=0/\HT.sIx xs.length xs.length hi=xs.length)/\∀p,H p=none->Q (.ref p) (upd H p (.tup (Fy xs lo hi)))
theorem BB:DI X (HL X.K):=by
 intro pins s σ H x v vl vu lo hi sl Q I rx hs pl pu h
 obtain⟨a,xs,rfl,hx,hw,q⟩:=h
 cases rx
 obtain⟨its,r,ht,hz⟩:=I.tuple hx
 have hlen:its.toArray.size=xs.length:=by rw[KU];exact r.length.symm
 refine⟨"tuple", _,SG.lookup,ht.typeIs,?_⟩
 refine HT.getItem_tuple_cut ht hs pl pu (by rw[hlen];exact hw) ?_ (by rw[hlen];exact hz)
 rw[hlen]
 refine⟨.ref s.heap.objs.size,_,I.laid (t':=s.toks) (o:=.tup (Fy xs lo hi)) (λb ob q=>JI _ q) (JM _) ?_,rfl,q _ (I.hok.fresh (JM _))⟩
 exact⟨KZ (Nc xs lo hi) hz,_,(r.drop (HT.sIx xs.length 0 lo)).take (HT.sIx xs.length xs.length hi-HT.sIx xs.length 0 lo),IsTup.new _ _⟩
end
def jN(n:Nat)(i:Int):Option Nat:=if 0<=i then (if i < n then some i.toNat else none) else if -(n:Int)<=i then some (i+n).toNat else none
def Jb{α:Type}(xs:List α)(i:Int):Option α:=(jN xs.length i).bind λj=>xs[j]?
theorem gG{n:Nat}{i:Int}{j:Nat}(h:jN n i=some j):seqIndex? i n=some j/\j < n /\ -(n:Int)<=i/\i < n:=by
 unfold jN at h
 by_cases h0:0<=i
 ·rw[if_pos h0] at h
  by_cases h1:i < n
  ·rw[if_pos h1] at h
   have e:i.toNat=j:=LC h
   exact⟨by rw[seqIndex_of h0 h1,e],by omega,by omega,h1⟩
  ·rw[if_neg h1] at h;cases h
 ·rw[if_neg h0] at h
  by_cases h1 : -(n:Int)<=i
  ·rw[if_pos h1] at h
   have e:(i+n).toNat=j:=LC h
   exact⟨by rw[seqIndex_neg (by omega) h1,e],by omega,h1,by omega⟩
  ·rw[if_neg h1] at h;cases h
theorem Uj{α:Type}{xs:List α}{i:Int}{v:α}(h:Jb xs i=some v):∃j,seqIndex? i xs.length=some j/\xs[j]? = some v/\j < xs.length /\ -(xs.length:Int)<=i/\i < xs.length:=by
 unfold Jb at h
 cases e:jN xs.length i with
 | none=>rw[e] at h;cases h
 | some j=>
  rw[e] at h
  obtain⟨h1,h2,h3,h4⟩:=gG e
  exact⟨j,h1,h,h2,h3,h4⟩
theorem Bc{α:Type}{xs:List α}{j:Nat}{v:α}(h:xs[j]? = some v):Jb xs (j:Int)=some v:=by
 have hj:j < xs.length:=(JF.mp h).1
 have e:jN xs.length (j:Int)=some j:=by
  unfold jN
  rw[if_pos (by omega),if_pos (by omega)];simp
 unfold Jb;rw[e];exact h
theorem Yn{α:Type}(xs:List α)(v:α):Jb (xs++[v]) (-1)=some v:=by
 have hl:(xs++[v]).length=xs.length+1:=by simp
 have e:jN (xs++[v]).length (-1)=some xs.length:=by
  unfold jN
  rw[hl,if_neg (by decide),if_pos (by omega)]
  congr 1
  omega
 unfold Jb
 rw[e]
 show (xs++[v])[xs.length]? = some v
 simp
def uQ(b:Expr):Prop:=∀o i,subscripted b false o i=operate [o,i] (getItem o i)
def CJ(X:Cx)(r:R2):Prop:=
 ∀(value slice:Expr)(pins:List (JO×Obj))(s:JL)(σ:St)(H:Hp)(x y:V)(v u:JH)(Q:VK),Inv X pins σ H s->RelV x v->RelV y u->r x y H Q ->
  subscripted slice false v u=operate [v,u] (getItem v u)->KY (LB X.prog X.w) X.A (subscriptTail value slice v u) (EP X pins σ Q) X.xe s
def IJ(X:Cx)(id:String)(r:V->List V->Hp->VK->Prop):Prop:=
 ∀(pins:List (JO×Obj))(s:JL)(σ:St)(H:Hp)(x:V)(xs:List V)(v:JH)(us:List JH)(Q:VK),Inv X pins σ H s->RelV x v->Bb xs us->r x xs H Q ->
  KY (LB X.prog X.w) X.A (call (.builtin id) (v::us)) (EP X pins σ Q) X.xe s
section
variable {X:Cx} {a b:Expr} {ta tb:TE} {pos:Pos}
theorem As{r:R2}(hr:CJ X r)(ha:PE X a ta)(hb:PE X b tb)(hs:uQ b):PE X (.Subscript a b pos) (BG r ta tb):=by
 intro pins s σ H Q I h
 exact Subscript_ (zI ha hb I h λv u s2 x y H2 I2 rx ry q=>hr a b pins s2 σ H2 x y v u Q I2 rx ry q (hs _ _))
def jJ(K:JG):R2:=λx y H Q=>∃p xs i v,x=.ref p/\y=.int i/\Aw K H p xs/\Jb xs i=some v/\Q v H
def HR(K:JG):R2:=λx y H Q=>∃p xs i v,x=.ref p/\y=.int i/\Ck K H p xs/\Jb xs i=some v/\Q v H
def HS:R2:=λx y H Q=>∃z i c,x=.str z/\y=.int i/\z.length<=JQ/\Jb z.cps.toList i=some c/\Q (.str ⟨#[c]⟩) H
theorem Bj:CJ X (jJ X.K):=by
 intro value slice pins s σ H x y v u Q I rx ry h hs
 obtain⟨p,xs,i,z,rfl,rfl,hq,he,q⟩:=h
 cases rx
 obtain⟨t,rfl⟩:=ry
 obtain⟨its,r,pl,hz⟩:=I.list hq
 obtain⟨j,h1,h2,h3,h4,h5⟩:=Uj he
 obtain⟨w,ew,rw'⟩:=r.get h2
 have hl:=r.length
 have hn:=Kl
 have fin:EP X pins σ Q w s:=⟨z,H,I,rw',q⟩
 by_cases h0:0<=i
 ·have hj:i.toNat=j:=by
   rw[seqIndex_of h0 h5] at h1
   exact LC h1
  exact item_listR pl.isList h0 (by omega) (by rw[hj];simpa using ew) fin hs
 ·have hj:(i+(its.toArray.size:Int)).toNat=j:=by
   rw[seqIndex_neg (by omega) h4] at h1
   rw[KU,<- hl]
   exact LC h1
  exact subscriptTail_builtinR (x:=w) pl.isList.typeIs slot_list_getitem.lookup
   (wpAny_getItem_list_neg (Q:=λr s'=>r=w/\EP X pins σ Q r s') pl.isList (by omega) (by rw[KU]<;>omega) (by omega) (by rw[hj];simpa using ew) ⟨rfl,fin⟩) hs
theorem Ax:CJ X (HR X.K):=by
 intro value slice pins s σ H x y v u Q I rx ry h hs
 obtain⟨p,xs,i,z,rfl,rfl,hq,he,q⟩:=h
 cases rx
 obtain⟨t,rfl⟩:=ry
 obtain⟨its,r,pl,hz⟩:=I.tuple hq
 obtain⟨j,h1,h2,h3,h4,h5⟩:=Uj he
 obtain⟨w,ew,rw'⟩:=r.get h2
 have hl:=r.length
 have hn:=Kl
 have fin:EP X pins σ Q w s:=⟨z,H,I,rw',q⟩
 exact subscriptTail_builtinR (x:=w) pl.typeIs slot_tuple_getitem.lookup
  (getItem_tuple (j:=j) (Q:=λr s'=>r=w/\EP X pins σ Q r s') pl (by omega) (by omega) (by rw[KU,<- hl];exact h1) (by simpa using ew) ⟨rfl,fin⟩) hs
theorem lO:CJ X HS:=by
 intro value slice pins s σ H x y v u Q I rx ry h hs
 obtain⟨z,i,c,rfl,rfl,hz,he,q⟩:=h
 obtain⟨t,rfl⟩:=rx
 obtain⟨t',rfl⟩:=ry
 obtain⟨j,h1,h2,h3,h4,h5⟩:=Uj he
 have hl:z.cps.toList.length=z.length:=by simp[Str.length]
 rw[hl] at h1 h4 h5
 have hn:=Kl
 exact tail_any (typeIs_str s z t) slot_str_getitem.lookup (getItem_str (c:=c) (by
  have e1:decide (i < -(2 ^ 63:Int))=false:=decide_eq_false (by omega)
  have e2:decide (i ≥ 2 ^ 63)=false:=decide_eq_false (by omega)
  rw[e1,e2,Bool.or_false]) (by rw[h1];simpa using h2) ⟨.str ⟨#[c]⟩,H,I.tok _,⟨_,rfl⟩,q⟩) hs
theorem Zh(its:List JH)(n j:Nat)(u:JH):SD (·.setIfInBounds j u) { cls:=.type "list", data:=.seq its.toArray n }={ cls:=.type "list", data:=.seq (its.set j u).toArray n }:=by
 simp[SD]
theorem Inv.lst{pins:List (JO×Obj)}{σ:St}{H:Hp}{s:JL}{p:JO}{xs:List V}(I:Inv X pins σ H s)(h:H p=some (.lst xs)):
 ∃(its:List JH)(n:Nat),Bb xs its/\s.heap.get? p=some { cls:=.type "list", data:=.seq its.toArray n }/\xs.length<=JQ:=by
 obtain⟨z,its,n,r,e⟩:=I.hok p _ h
 exact⟨its,n,r,e,z⟩
theorem Inv.lstUpd{pins:List (JO×Obj)}{σ:St}{H:Hp}{s:JL}{p:JO}{xs ys:List V}{its its':List JH}{n n':Nat}{f:Obj->Obj}(I:Inv X pins σ H s)(h:H p=some (.lst xs))(ho:s.heap.get? p=some { cls:=.type "list", data:=.seq its.toArray n })(hf:f { cls:=.type "list", data:=.seq its.toArray n }={ cls:=.type "list", data:=.seq its'.toArray n' })(r:Bb ys its')(hz:ys.length<=JQ)(t:Nat):
 Inv X pins σ (upd H p (.lst ys)) { s with heap:=s.heap.update p f,toks:=t }:=by
 have e:(s.heap.update p f).get? p=some { cls:=.type "list", data:=.seq its'.toArray n' }:=by
  rw[MX f ho (by rw[hf]<;>rfl),hf]
 refine I.write (x:=p) (e:=p) (by rw[h];trivial) (.inl rfl) (λb u hb q=>(LV _ _ (LL hb)).trans q) ⟨_,e⟩ ?_
 exact⟨hz,its',n',r,e⟩
def DB:V->V->V->Hp->(Hp->Prop)->Prop:=λo i v H Q=>∃p xs k j,o=.ref p/\i=.int k/\H p=some (.lst xs)/\jN xs.length k=some j/\Q (upd H p (.lst (xs.set j v)))
theorem set_list:EA X DB:=by
 intro pins s σ H o i v ov iv u Q I ro ri rv h
 obtain⟨p,xs,k,j,rfl,rfl,hp,hj,q⟩:=h
 cases ro
 obtain⟨t,rfl⟩:=ri
 obtain⟨its,n,r,ho,hz⟩:=I.lst hp
 obtain⟨h1,h2,h3,h4⟩:=gG hj
 have hl:=r.length
 have hn:=Kl
 have I':Inv X pins σ (upd H p (.lst (xs.set j v))) { s with heap:=s.heap.update p (SD (·.setIfInBounds j u)) }:=
  I.lstUpd hp ho (Zh its n j u) (r.set rv j) (by rw[List.length_set];exact hz) s.toks
 by_cases h0:0<=k
 ·have hk:k.toNat=j:=by
   rw[seqIndex_of h0 h4] at h1
   exact LC h1
  exact PySem.W.ki_setAt ho h0 (by omega) (by rw[KU,<- hl];exact h4) (by rw[hk];exact⟨_,I',q⟩)
 ·have hk:(k+(its.toArray.size:Int)).toNat=j:=by
   rw[seqIndex_neg (by omega) h3] at h1
   rw[KU,<- hl]
   exact LC h1
  exact PySem.W.ki_setBack ho (by omega) (by rw[KU,<- hl];exact h3) (by omega) (by rw[hk];exact⟨_,I',q⟩)
theorem Vq(lo hi:Option Int)(n:Nat):(sliceBounds lo hi none n).1=((HT.sIx n 0 lo:Nat):Int)/\(sliceBounds lo hi none n).2.1=((HT.sIx n n hi:Nat):Int)/\(sliceBounds lo hi none n).2.2=1:=by
 refine⟨?_,?_,rfl⟩
 ·cases lo with
  | none=>simp[sliceBounds,HT.sIx]
  | some i=>
   simp only[sliceBounds,HT.sIx,Option.getD_none,show (1:Int) > 0 by decide,if_true]
   by_cases h:i < 0
   ·simp only[h,if_true]<;>omega
   ·simp only[h,if_false]<;>omega
 ·cases hi with
  | none=>simp[sliceBounds,HT.sIx]
  | some i=>
   simp only[sliceBounds,HT.sIx,Option.getD_none,show (1:Int) > 0 by decide,if_true]
   by_cases h:i < 0
   ·simp only[h,if_true]<;>omega
   ·simp only[h,if_false]<;>omega
theorem Rl(its:List JH)(lo hi:Option Int):slicePick its.toArray lo hi none=((its.drop (HT.sIx its.length 0 lo)).take (HT.sIx its.length its.length hi-HT.sIx its.length 0 lo)).toArray:=by
 obtain⟨h1,h2,h3⟩:=Vq lo hi its.toArray.size
 unfold slicePick
 rw[h1,h2,h3]
 simp only[sliceRange_one,pick_run,KU]<;>rfl
def pO(K:JG):V->Option Int->Option Int->Hp->VK->Prop:=λx lo hi H Q=>∃a xs,x=.ref a/\Aw K H a xs/\∀p,H p=none->Q (.ref p) (upd H p (.lst (Fy xs lo hi)))
theorem El:DI X (pO X.K):=by
 intro pins s σ H x v vl vu lo hi sl Q I rx hs pl pu h
 obtain⟨a,xs,rfl,hx,q⟩:=h
 cases rx
 obtain⟨its,r,ht,hz⟩:=I.list hx
 have hlen:=r.length
 refine⟨"list", _,slot_list_getitem.lookup,ht.isList.typeIs,?_⟩
 refine wpAny_getItem_list_slice ht.isList hs pl pu .none (by simp) ?_ (by rw[KU]<;>omega)
 rw[Rl,<- hlen]
 refine⟨.ref s.heap.objs.size,_,I.laid (t':=s.toks) (o:=.lst (Fy xs lo hi)) (λb ob q=>JI _ q) (JM _) ?_,rfl,q _ (I.hok.fresh (JM _))⟩
 exact⟨KZ (Nc xs lo hi) hz,_,0,(r.drop (HT.sIx xs.length 0 lo)).take (HT.sIx xs.length xs.length hi-HT.sIx xs.length 0 lo),KG _ rfl⟩
def Lv:V->Bool
 | .non=>true
 | .bl _=>true
 | .int _=>true
 | .str _=>true
 | _=>false
def wN:V->V->Bool
 | .non,.non=>true
 | .bl a,.bl b=>a == b
 | .bl a,.int b=>(if a then 1 else 0) == b
 | .int a,.bl b=>a == (if b then 1 else 0)
 | .int a,.int b=>a == b
 | .str a,.str b=>a == b
 | _,_=>false
theorem AZ{A:LM}{s:JL}{y x:V}{u v:JH}(ry:RelV y u)(rx:RelV x v)(fy:Lv y=true)(fx:Lv x=true):NV A s u v (wN y x):=by
 cases y with
 | non=>
  cases ry
  cases x with
  | non=>cases rx;exact SeqAt.EqAt.same _
  | bl b=>cases rx;exact SeqAt.EqAt.none_bool b
  | int b=>obtain⟨t,rfl⟩:=rx;exact SeqAt.EqAt.none_int b t
  | str b=>obtain⟨t,rfl⟩:=rx;exact SeqAt.EqAt.none_str b t
  | _=>exact absurd (show false=true from fx) JR
 | bl a=>
  cases ry
  cases x with
  | non=>cases rx;exact SeqAt.EqAt.bool_none a
  | bl b=>cases rx;exact SeqAt.EqAt.bool_bool a b
  | int b=>obtain⟨t,rfl⟩:=rx;exact SeqAt.EqAt.bool_int a b t
  | str b=>obtain⟨t,rfl⟩:=rx;exact SeqAt.EqAt.bool_str a b t
  | _=>exact absurd (show false=true from fx) JR
 | int a=>
  obtain⟨t',rfl⟩:=ry
  cases x with
  | non=>cases rx;exact SeqAt.EqAt.int_none a t'
  | bl b=>cases rx;exact SeqAt.EqAt.int_bool a t' b
  | int b=>obtain⟨t,rfl⟩:=rx;exact SeqAt.EqAt.int_int a t' b t
  | str b=>obtain⟨t,rfl⟩:=rx;exact SeqAt.EqAt.int_str a t' b t
  | _=>exact absurd (show false=true from fx) JR
 | str a=>
  obtain⟨t',rfl⟩:=ry
  cases x with
  | non=>cases rx;exact SeqAt.EqAt.str_none a t'
  | bl b=>cases rx;exact SeqAt.EqAt.str_bool a t' b
  | int b=>obtain⟨t,rfl⟩:=rx;exact SeqAt.EqAt.str_int a t' b t
  | str b=>obtain⟨t,rfl⟩:=rx;exact SeqAt.EqAt.str_str a t' b t
  | _=>exact absurd (show false=true from fx) JR
 | _=>exact absurd (show false=true from fy) JR
def Zg(x:V)(u:JH):Bool:=match u with
 | .none=>wN .non x
 | .bool b=>wN (.bl b) x
 | .int i _=>wN (.int i) x
 | .str z _=>wN (.str z) x
 | _=>false
theorem nY{x y:V}{u:JH}(r:RelV y u)(f:Lv y=true):Zg x u=wN y x:=by
 cases y with
 | non=>cases r;rfl
 | bl b=>cases r;rfl
 | int i=>obtain⟨t,rfl⟩:=r;rfl
 | str z=>obtain⟨t,rfl⟩:=r;rfl
 | _=>exact absurd (show false=true from f) JR
theorem Lq{x:V}:∀ {xs:List V} {us:List JH},Bb xs us->xs.all Lv=true->us.any (Zg x)=xs.any λy=>wN y x
 | _,_,.nil,_=>rfl
 | y::xs,u::us,.cons r t,f=>by
  rw[List.all_cons,MJ] at f
  rw[List.any_cons,List.any_cons,nY r f.1,Lq t f.2]
theorem Jg{A:LM}{s:JL}{x:V}{v:JH}(rx:RelV x v)(fx:Lv x=true):∀ {xs:List V} {us:List JH},Bb xs us->xs.all Lv=true->∀u∈us,NV A s u v (Zg x u)
 | _,_,.nil,_=>λu hu=>by cases hu
 | y::xs,u::us,.cons r t,f=>λu' hu=>by
  rw[List.all_cons,MJ] at f
  rcases JT.mp hu with rfl | hu
  ·rw[nY r f.1];exact AZ r rx f.1 fx
  ·exact Jg rx fx t f.2 u' hu
def kX(x:V)(xs:List V):Bool:=xs.any λy=>wN y x
def FX(K:JG)(neg:Bool):R2:=λx y H Q=>∃p xs,y=.ref p/\(Aw K H p xs∨Ck K H p xs)/\Lv x=true/\xs.all Lv=true/\Q (.bl (if neg then !kX x xs else kX x xs)) H
theorem Hq:Jp X (OW .In) (FX X.K false):=by
 intro pins s σ H x y v u Q I rx ry h
 obtain⟨p,xs,rfl,hq,fx,fs,q⟩:=h
 cases ry
 rcases hq with hq | hq
 ·obtain⟨its,r,pl,hz⟩:=I.list hq
  refine SeqAt.in_listAt (Zg x) pl.isList (λw hw=>Jg rx fx r fs w (by simpa using hw)) ⟨.bl _,H,I,rfl,?_⟩
  rw[show its.toArray.any (Zg x)=its.any (Zg x) by simp,Lq r fs]
  exact q
 ·obtain⟨its,r,pl,hz⟩:=I.tuple hq
  refine SeqAt.in_tupleAt (Zg x) pl (λw hw=>Jg rx fx r fs w (by simpa using hw)) ⟨.bl _,H,I,rfl,?_⟩
  rw[show its.toArray.any (Zg x)=its.any (Zg x) by simp,Lq r fs]
  exact q
theorem Tr:Jp X (OW .NotIn) (FX X.K true):=by
 intro pins s σ H x y v u Q I rx ry h
 obtain⟨p,xs,rfl,hq,fx,fs,q⟩:=h
 cases ry
 rcases hq with hq | hq
 ·obtain⟨its,r,pl,hz⟩:=I.list hq
  refine SeqAt.notIn_listAt (Zg x) pl.isList (λw hw=>Jg rx fx r fs w (by simpa using hw)) ⟨.bl _,H,I,rfl,?_⟩
  rw[show its.toArray.any (Zg x)=its.any (Zg x) by simp,Lq r fs]
  exact q
 ·obtain⟨its,r,pl,hz⟩:=I.tuple hq
  refine SeqAt.notIn_tupleAt (Zg x) pl (λw hw=>Jg rx fx r fs w (by simpa using hw)) ⟨.bl _,H,I,rfl,?_⟩
  rw[show its.toArray.any (Zg x)=its.any (Zg x) by simp,Lq r fs]
  exact q
theorem Vd:Fk X (.builtin "len") (λxs H Q=>∃p ys,xs=[.ref p]/\(Aw X.K H p ys∨Ck X.K H p ys)/\Q (.int ys.length) H):=by
 intro pins s σ H xs us Q I r h
 obtain⟨p,ys,rfl,hq,q⟩:=h
 obtain⟨u,rfl,rx⟩:=vals1 r
 cases rx
 have hn:=Kl
 rcases hq with hq | hq
 ·obtain⟨its,r',pl,hz⟩:=I.list hq
  have hlen:=r'.length
  exact Calls.call_len_list pl.isList (by simp only[KU]<;>omega) ⟨.int ys.length,H,I.tok _,⟨s.toks+1,by rw[KU,hlen]⟩,q⟩
 ·obtain⟨its,r',pl,hz⟩:=I.tuple hq
  have hlen:=r'.length
  exact len_tuple pl (by simp only[KU]<;>omega) ⟨.int ys.length,H,I.tok _,⟨s.toks+1,by rw[KU,hlen]⟩,q⟩
theorem Lp:Fk X (.builtin "len") (λxs H Q=>∃z,xs=[.str z]/\z.length<=JQ/\Q (.int z.length) H):=by
 intro pins s σ H xs us Q I r h
 obtain⟨z,rfl,hz,q⟩:=h
 obtain⟨u,rfl,t,rfl⟩:=vals1 r
 have hn:=Kl
 exact len_str (by omega) ⟨.int z.length,H,I.tok _,⟨_,rfl⟩,q⟩
theorem Gb:Fk X (.type "list") (λxs H Q=>∃p ys,xs=[.ref p]/\(Aw X.K H p ys∨Ck X.K H p ys)/\∀l,H l=none->Q (.ref l) (upd H l (.lst ys))):=by
 intro pins s σ H xs us Q I r h
 obtain⟨p,ys,rfl,hq,q⟩:=h
 obtain⟨u,rfl,rx⟩:=vals1 r
 cases rx
 have fin:∀(its:List JH),Bb ys its->ys.length<=JQ->∀(h':MV)(c':Nat),(∀b o',s.heap.get? b=some o'->h'.get? b=some o') ->
  h'.get? s.heap.objs.size=some { cls:=.type "list", dict:=none,data:=.seq its.toArray c',slots:=#[] }->EP X pins σ Q (.ref s.heap.objs.size) { s with heap:=h' }:=λits r' hz h' c' kp e=>
  ⟨.ref s.heap.objs.size,_,I.laid (t':=s.toks) kp (JM _) (show Cg X.prog X.w _ h' _ (.lst ys) from ⟨hz,its,c',r',e⟩),rfl,q _ (I.hok.fresh (JM _))⟩
 rcases hq with hq | hq
 ·obtain⟨its,r',pl,hz⟩:=I.list hq
  have hlen:=r'.length
  obtain⟨o,ho,hc,n,hd⟩:=pl.isList
  exact call_list_seq p (.inl rfl) ho hc hd (λh' c' kp e=>fin its r' hz h' c' kp e) (by simp only[KU]<;>omega)
 ·obtain⟨its,r',pl,hz⟩:=I.tuple hq
  have hlen:=r'.length
  obtain⟨o,ho,hc,n,hd⟩:=pl
  exact call_list_seq p (.inr rfl) ho hc hd (λh' c' kp e=>fin its r' hz h' c' kp e) (by simp only[KU]<;>omega)
def FK(K:JG)(T:String)(x:V)(H:Hp):Prop:=match x with
 | .str _=>T = "str"
 | .int _=>T = "int"
 | .ref p=>(T = "list" /\ ∃xs,Aw K H p xs)∨(T = "tuple" /\ ∃o,K.lookup p=some o/\o.cls=.type "tuple" /\ o.dict=none) ∨
  (T = "dict" /\ ((∃kvs,H p=some (.dK kvs)) ∨ ∃kvs,H p=some (.dT kvs)))∨(T = "set" /\ ∃S n,H p=some (.set S n))
 | _=>False
theorem oZ{pins:List (JO×Obj)}{σ:St}{H:Hp}{s:JL}{T:String}{x:V}{v:JH}(I:Inv X pins σ H s)(r:RelV x v)(ty:FK X.K T x H):
 s.TypeIs v T/\∀a,v=.ref a->∃ob,s.heap.get? a=some ob/\ob.dict=none:=by
 cases x with
 | str z=>
  obtain⟨t,rfl⟩:=r
  cases (show T = "str" from ty)
  exact⟨typeIs_str s z t,λ_ e=>nomatch e⟩
 | int i=>
  obtain⟨t,rfl⟩:=r
  cases (show T = "int" from ty)
  exact⟨typeIs_int s i t,λ_ e=>nomatch e⟩
 | ref p=>
  cases r
  rcases ty with ⟨rfl,xs,hq⟩ | ⟨rfl,o,hk,hc,hd⟩ | ⟨rfl,hk⟩ | ⟨rfl,S,n,hk⟩
  ·obtain⟨its,_,pl,_⟩:=I.list hq
   refine⟨pl.isList.typeIs,λa e=>?_⟩
   cases e
   obtain⟨o,n,e,c,hd,_⟩:=pl
   exact⟨o,e,hd⟩
  ·refine⟨⟨o,I.kIn p o hk,hc⟩,λa e=>?_⟩
   cases e
   exact⟨o,I.kIn _ o hk,hd⟩
  ·have z:∃o,s.heap.get? p=some o/\o.ExactDict:=by
    rcases hk with ⟨kvs,hk⟩ | ⟨kvs,hk⟩
    ·obtain⟨_,_,_,_,o,_,_,e,ex,_⟩:=I.hok p _ hk
     exact⟨o,e,ex⟩
    ·obtain⟨_,_,_,_,o,_,_,e,ex,_⟩:=I.hok p _ hk
     exact⟨o,e,ex⟩
   obtain⟨o,e,ex⟩:=z
   refine⟨⟨o,e,ex.1⟩,λa e2=>?_⟩
   cases e2
   exact⟨o,e,ex.2.1⟩
  ·obtain⟨o,_,_,_,e,ex,_⟩:=I.hok p _ hk
   refine⟨⟨o,e,ex.1⟩,λa e2=>?_⟩
   cases e2
   exact⟨o,e,ex.2.1⟩
 | _=>exact MF ty
def FA(K:JG)(T:String)(r:V->List V->Hp->VK->Prop)(to:TE):TE:=λσ H Q=>to σ H λx H1=>FK K T x H1/\r x [] H1 Q
def IZ(K:JG)(T:String)(r:V->List V->Hp->VK->Prop)(to:TE)(t:TA):TE:=λσ H Q=>to σ H λx H1=>FK K T x H1/\t σ H1 λxs H2=>r x xs H2 Q
variable {o e:Expr} {es:List Expr} {to:TE} {t:TA} {name:Str} {apos cpos:Pos} {T id:String} {r:V->List V->Hp->VK->Prop}
theorem AS(pa:PlainAttrs T)(slot:Slot T name id)(hty:typeOf (.builtin id)=pure (.type "method_descriptor"))(hm:IJ X id r)(ho:PE X o to)(hbase:RH o name X.env (PD o X.env)=PD o X.env:=by rfl)(hline:(apos.endLine == cpos.line)=true:=by rfl):PE X (.Call (.Attribute o name apos) [] [] cpos) (FA X.K T r to):=by
 intro pins s σ H Q I h
 refine wpAny_Call_method0_late hbase hline (Bu (ho pins s σ H _ I h) λv s1 ⟨x,H1,I1,r1,ty,q1⟩=>?_)
 obtain⟨h1,h2⟩:=oZ I1 r1 ty
 exact⟨T,id,pa,slot,hty,h1,h2,PU rfl (PySem.evalArgs_none (hm pins s1 σ H1 x [] v [] Q I1 r1 .nil q1))⟩
theorem Ll(pa:PlainAttrs T)(slot:Slot T name id)(hty:typeOf (.builtin id)=pure (.type "method_descriptor"))(hm:IJ X id r)(ho:PE X o to)(ha:PA X (e::es) t)(hbase:RH o name X.env (PD o X.env)=PD o X.env:=by rfl)(hfew:((QO cpos (KW (e::es) X.env)).all (λx=>!x.1) && (backToKw cpos (QY [] X.env)).all (λx=>x.1.isSome)
  && decide ((e::es).length+([]:List Keyword).length+(if ([]:List Keyword).isEmpty then 0 else 1) < 30))=true:=by rfl)(hline:(apos.endLine == cpos.line)=true:=by rfl)(hs:KW (e::es) X.env=(false,PD e X.env)::KW es X.env:=by rfl)(hplain:(QO cpos (KW es X.env)).any (·.1)=false:=by rfl):
 PE X (.Call (.Attribute o name apos) (e::es) [] cpos) (IZ X.K T r to t):=by
 intro pins s σ H Q I h
 refine wpAny_Call_method_late hbase hfew hline rfl (Bu (ho pins s σ H _ I h) λv s1 ⟨x,H1,I1,r1,ty,q1⟩=>?_)
 obtain⟨h1,h2⟩:=oZ I1 r1 ty
 refine⟨T,id,pa,slot,hty,h1,h2,?_⟩
 have hA:=ha cpos pins s1 σ H1 _ I1 q1
 rw[hs] at hA ⊢
 refine PU (by show (false || (QO cpos (KW es X.env)).any (·.1))=false;rw[hplain]<;>rfl) (Calls.evalArgs_plain ?_)
 exact Bu hA λus s2 ⟨vs,H2,I2,r2,q2⟩=>hm pins s2 σ H2 x vs v us Q I2 r1 r2 q2
end
def IG(X:Cx)(id:String)(r:V->List V->Hp->VK->Prop):Prop:=
 ∀(pins:List (JO×Obj))(s:JL)(σ:St)(H:Hp)(x:V)(xs:List V)(v:JH)(us:List JH)(Q:VK),Inv X pins σ H s->RelV x v->Bb xs us->r x xs H Q ->
  KY (LB X.prog X.w) X.A (call (.builtin id) (v::us)) (EP X pins σ Q) X.xe s
theorem Bb.one:∀ {x:V} {us:List JH},Bb [x] us->∃u,us=[u]/\RelV x u
 | _,_,.cons r .nil=>⟨_,rfl,r⟩
theorem Bb.zero:∀ {us:List JH},Bb [] us->us=[]
 | _,.nil=>rfl
theorem Bb.dropLast{xs:List V}{us:List JH}(h:Bb xs us):Bb xs.dropLast us.dropLast:=by
 induction h with
 | nil=>exact .nil
 | cons r t ih=>
  cases t with
  | nil=>exact .nil
  | cons q t'=>exact .cons r ih
theorem Bb.reverse{xs:List V}{us:List JH}(h:Bb xs us):Bb xs.reverse us.reverse:=by
 induction h with
 | nil=>exact .nil
 | cons r t ih=>rw[List.reverse_cons,List.reverse_cons];exact Bb.append ih (.cons r .nil)
theorem bG{α:Type}(l:List α):l.eraseIdx (l.length-1)=l.dropLast:=by
 induction l with
 | nil=>rfl
 | cons a r ih=>
  cases r with
  | nil=>rfl
  | cons b r=>
   have e:(a::b::r).length-1=((b::r).length-1)+1:=by
    have h1:(a::b::r).length=r.length+2:=rfl
    have h2:(b::r).length=r.length+1:=rfl
    omega
   rw[e,List.eraseIdx_cons_succ,ih]
   all_goals rfl
section
variable {X:Cx} {pins:List (JO×Obj)} {σ:St} {H:Hp} {s:JL} {l b:JO} {xs ys zs:List V}
theorem Inv.lset{its its':List JH}{n:Nat}{f:Array JH->Array JH}{t':Nat}(I:Inv X pins σ H s)(hH:H l=some (.lst xs))(e:s.heap.get? l=some { cls:=.type "list", data:=.seq its.toArray n })(hf:f its.toArray=its'.toArray)(hv:Bb ys its')(hz:ys.length<=JQ):
 Inv X pins σ (upd H l (.lst ys)) { s with heap:=s.heap.update l (SD f),toks:=t' }:=by
 have q:=PySem.IsL.update e f
 rw[hf] at q
 refine I.write (x:=l) (e:=l) (by rw[hH];exact trivial) (.inl rfl) (λb' u hb hu=>(LV s.heap (SD f) (LL hb)).trans hu) ⟨_,q⟩ ?_
 exact⟨hz,its',_,hv,q⟩
theorem Inv.lnew{its:List JH}{t':Nat}(I:Inv X pins σ H s)(hv:Bb ys its)(hz:ys.length<=JQ):
 Inv X pins σ (upd H s.heap.objs.size (.lst ys)) { s with heap:=s.heap.push { cls:=.type "list", data:=.seq its.toArray },toks:=t' }:=
 I.laid (λ_ _ q=>JI _ q) (JM _) ⟨hz,its,0,hv,KG _ rfl⟩
theorem Inv.fresh(I:Inv X pins σ H s):H s.heap.objs.size=none:=I.hok.fresh (JM _)
theorem Inv.lstM(I:Inv X pins σ H s)(hH:H l=some (.lst xs)):xs.length<=JQ/\∃(its:List JH)(n:Nat),Bb xs its/\xs.length=its.length/\s.heap.get? l=some { cls:=.type "list", data:=.seq its.toArray n }:=by
 obtain⟨z,its,n,r,e⟩:=I.hok l _ hH
 exact⟨z,its,n,r,r.length,e⟩
end
section
variable {X:Cx}
def vU:V->List V->Hp->VK->Prop:=λx vs H Q=>∃l xs y,x=.ref l/\vs=[y]/\H l=some (.lst xs)/\xs.length < JQ/\Q .non (upd H l (.lst (xs++[y])))
theorem Ed:IG X "list.append" vU:=by
 intro pins s σ H x vs v us Q I rx rv h
 obtain⟨l,xs,y,rfl,rfl,hH,hz,q⟩:=h
 cases rx
 obtain⟨u,rfl,ru⟩:=rv.one
 obtain⟨z,its,n,r,hl,e⟩:=I.lstM hH
 refine call_meets F.slot_list_append ⟨_,e,rfl⟩ F.entry_list_append (F.args_list_append_2 _ _) (PySem.list_append l its.toArray n u (by rw[KU];omega)) ⟨e,?_⟩
 refine⟨.non,_,I.lset (its':=its++[u]) hH e (by simp) (r.append (.cons ru .nil)) ?_,rfl,q⟩
 rw[JN,JY]
 omega
def FD:V->List V->Hp->VK->Prop:=λx vs H Q=>∃l xs y,x=.ref l/\vs=[]/\H l=some (.lst xs)/\xs[xs.length-1]? = some y/\Q y (upd H l (.lst xs.dropLast))
theorem xY:IG X "list.pop" FD:=by
 intro pins s σ H x vs v us Q I rx rv h
 obtain⟨l,xs,y,rfl,rfl,hH,hy,q⟩:=h
 cases rx
 have hus:=rv.zero
 subst hus
 obtain⟨z,its,n,r,hl,e⟩:=I.lstM hH
 obtain⟨u,hu,ru⟩:=r.get hy
 have hy':its.toArray[its.toArray.size-1]? = some u:=by
  show its.toArray[its.length-1]? = some u
  rw[<- SU,<- hl]
  exact hu
 refine call_meets F.slot_list_pop ⟨_,e,rfl⟩ F.entry_list_pop (F.args_list_pop_1 _) (MeetsSeq.list_pop_last l its.toArray n u hy' (by rw[KU];omega)) ⟨e,?_⟩
 refine⟨y,_,I.lset (its':=its.dropLast) hH e ?_ r.dropLast ?_,ru,q⟩
 ·show its.toArray.eraseIdxIfInBounds (its.toArray.size-1)=its.dropLast.toArray
  rw[KU,List.eraseIdxIfInBounds_toArray,bG]
 ·rw[List.length_dropLast]
  omega
def xL:R2:=λx y H Q=>∃l b xs zs,x=.ref l/\y=.ref b/\H l=some (.lst xs)/\H b=some (.lst zs)/\xs.length+zs.length<=JQ/\∀p,H p=none->Q (.ref p) (upd H p (.lst (xs++zs)))
theorem Jr:Jp X (QQ .Add) xL:=by
 intro pins s σ H x y v u Q I rx ry h
 obtain⟨l,b,xs,zs,rfl,rfl,hH,hB,hz,q⟩:=h
 cases rx
 cases ry
 obtain⟨z,its,n,r,hl,e⟩:=I.lstM hH
 obtain⟨z2,its2,n2,r2,hl2,e2⟩:=I.lstM hB
 refine PySem.P.add_list e e2 ?_ (by rw[KU,KU];omega)
 have ea:its.toArray++its2.toArray=(its++its2).toArray:=by simp
 rw[ea]
 exact⟨.ref _,_,I.lnew (t':=s.toks) (r.append r2) (by rw[JN];omega),rfl,q _ I.fresh⟩
end
section
variable {prog:KI} {w:LQ} {A:LM} {E:JH->JL->Prop} {s:JL}
end
section
variable {X:Cx}
end
section
variable {κ:Type} [DecidableEq κ]
def valV(kvs:List (κ×V))(k:κ):Option V:=(kvs.find? λkv=>decide (kv.1=k)).map (·.2)
def putK(kvs:List (κ×V))(k:κ)(v:V):List (κ×V):=
 if (kvs.any λkv=>decide (kv.1=k))=true then kvs.map (λkv=>if kv.1=k then (kv.1,v) else kv) else kvs++[(k,v)]
theorem Cu{p:κ×V}{r:List (κ×V)}{k:κ}(e:p.1=k):valV (p::r) k=some p.2:=by simp[valV,RS,e]
theorem Cw{p:κ×V}{r:List (κ×V)}{k:κ}(e:¬ p.1=k):valV (p::r) k=valV r k:=by simp[valV,RS,e]
theorem Es(k:κ):∀kvs:List (κ×V),(kvs.any λkv=>decide (kv.1=k))=(valV kvs k).isSome
 | []=>rfl
 | p::r=>by
  rw[List.any_cons]
  by_cases e:p.1=k
  ·simp only[Cu e,decide_eq_true e,Bool.true_or,Option.isSome_some]
  ·rw[Cw e,decide_eq_false e,Bool.false_or];exact Es k r
theorem Xq(k j:κ)(y:V):∀kvs:List (κ×V),valV (kvs.map λkv=>if kv.1=k then (kv.1,y) else kv) j=(valV kvs j).map λx=>if j=k then y else x
 | []=>rfl
 | p::r=>by
  have ih:=Xq k j y r
  rw[LY]
  by_cases h:p.1=k
  ·rw[if_pos h]
   by_cases e:p.1=j
   ·rw[Cu (p:=(p.1,y)) e,Cu e,Option.map_some,if_pos (e.symm.trans h)]
   ·rw[Cw (p:=(p.1,y)) e,Cw e,ih]
  ·rw[if_neg h]
   by_cases e:p.1=j
   ·rw[Cu (p:=p) e,Cu e,Option.map_some,if_neg (λz=>h (e.trans z))]
   ·rw[Cw (p:=p) e,Cw e,ih]
theorem Tj(k j:κ)(y:V):∀kvs:List (κ×V),valV kvs k=none->valV (kvs++[(k,y)]) j=if j=k then some y else valV kvs j
 | [],_=>by
  by_cases e:k=j
  ·rw[if_pos e.symm];exact Cu (p:=(k,y)) e
  ·rw[if_neg (λz=>e z.symm)];exact Cw (p:=(k,y)) e
 | p::r,hn=>by
  rw[List.cons_append]
  have hk:¬ p.1=k:=λz=>by rw[Cu z] at hn;cases hn
  rw[Cw hk] at hn
  have ih:=Tj k j y r hn
  by_cases e:p.1=j
  ·rw[Cu e,Cu e,if_neg (λz=>hk (e.trans z))]
  ·rw[Cw e,Cw e,ih]
theorem Fp(kvs:List (κ×V))(k j:κ)(y:V):valV (putK kvs k y) j=if j=k then some y else valV kvs j:=by
 unfold putK
 by_cases a:(kvs.any λkv=>decide (kv.1=k))=true
 ·rw[if_pos a,Xq]
  rw[Es] at a
  by_cases e:j=k
  ·obtain⟨x,hx⟩:=RL.mp a
   rw[if_pos e,e,hx,Option.map_some,if_pos rfl]
  ·rw[if_neg e]
   cases valV kvs j with
   | none=>rfl
   | some x=>rw[Option.map_some,if_neg e]
 ·rw[if_neg a]
  refine Tj k j y kvs ?_
  rw[Es] at a
  cases q:valV kvs k with
  | none=>rfl
  | some x=>rw[q] at a;exact(a rfl).elim
theorem Dm(kvs:List (κ×V))(k:κ)(v:V):(putK kvs k v).length<=kvs.length+1:=by
 unfold putK
 split
 ·rw[JJ];omega
 ·rw[JN,LU,List.length_nil];omega
theorem Pt{kvs:List (κ×V)}{k:κ}(v:V)(h:valV kvs k=none):putK kvs k v=kvs++[(k,v)]:=by
 unfold putK
 rw[Es,h]
 exact if_neg (by decide)
theorem Hw.isSome_eq{o:Option V}{u:Option JH}(r:Hw o u):o.isSome=u.isSome:=by
 cases o with
 | none=>cases u with
  | none=>rfl
  | some _=>exact(show False from r).elim
 | some _=>cases u with
  | none=>exact(show False from r).elim
  | some _=>rfl
theorem Hw.getD{o:Option V}{u:Option JH}{d:V}{d':JH}(r:Hw o u)(rd:RelV d d'):RelV (o.getD d) (u.getD d'):=by
 cases o with
 | none=>cases u with
  | none=>exact rd
  | some _=>exact(show False from r).elim
 | some _=>cases u with
  | none=>exact(show False from r).elim
  | some _=>exact r
theorem KV.val{kvs:List (κ×V)}{vs:List (κ×JH)}(r:KV kvs vs)(k:κ):Hw (valV kvs k) (valueAt vs k):=by
 unfold KV at r
 induction r with
 | nil=>exact PK
 | @cons p q ps qs h t ih=>
  obtain⟨h1,h2⟩:=h
  by_cases e:p.1=k
  ·have e':q.1=k:=h1.symm.trans e
   have b:valueAt (q::qs) k=some q.2:=by simp[valueAt,RS,e']
   rw[Cu e,b];exact h2
  ·have e':¬ q.1=k:=λz=>e (h1.trans z)
   have b:valueAt (q::qs) k=valueAt qs k:=by simp[valueAt,RS,e']
   rw[Cw e,b];exact ih
theorem KV.any{kvs:List (κ×V)}{vs:List (κ×JH)}(r:KV kvs vs)(k:κ):(kvs.any λkv=>decide (kv.1=k))=vs.any λkv=>decide (kv.1=k):=by
 unfold KV at r
 induction r with
 | nil=>rfl
 | cons h t ih=>rw[List.any_cons,List.any_cons,ih,h.1]
theorem KV.repl{kvs:List (κ×V)}{vs:List (κ×JH)}(r:KV kvs vs)(k:κ){y:V}{u:JH}(ry:RelV y u):
 KV (kvs.map λkv=>if kv.1=k then (kv.1,y) else kv) (vs.map λkv=>if kv.1=k then (kv.1,u) else kv):=by
 unfold KV at r ⊢
 induction r with
 | nil=>exact .nil
 | @cons p q ps qs h t ih=>
  rw[LY,LY]
  refine .cons ?_ ih
  obtain⟨h1,h2⟩:=h
  by_cases e:p.1=k
  ·rw[if_pos e,if_pos (h1.symm.trans e)];exact⟨h1,ry⟩
  ·rw[if_neg e,if_neg (λz=>e (h1.trans z))];exact⟨h1,h2⟩
theorem KV.put{kvs:List (κ×V)}{vs:List (κ×JH)}(r:KV kvs vs)(k:κ){y:V}{u:JH}(ry:RelV y u):KV (putK kvs k y) (stored vs k u):=by
 unfold putK stored
 rw[r.any k]
 by_cases e:(vs.any λkv=>decide (kv.1=k))=true
 ·rw[if_pos e,if_pos e];exact r.repl k ry
 ·rw[if_neg e,if_neg e];exact Paired.snoc r ⟨rfl,ry⟩
theorem KV.length{kvs:List (κ×V)}{vs:List (κ×JH)}(r:KV kvs vs):kvs.length=vs.length:=NP r
end
theorem Kx{P:KI}{w:LQ}{k:Key}{u:JH}(r:RelV (kV k) u):(Bo P w).is k u=true:=by
 cases k with
 | inl i=>obtain⟨t,e⟩:=(show ∃t,u=Value.int i t from r);subst e;exact Yl P w i t
 | inr x=>obtain⟨t,e⟩:=(show ∃t,u=Value.str x t from r);subst e;exact Wr P w x t
theorem Rx{P:KI}{w:LQ}:∀ {ks:List Key} {us:List JH},Bb (ks.map kV) us->ItemsAre (Bo P w) ks us
 | [],_,r=>by rw[List.map_nil] at r;cases r;exact .nil
 | k::ks,_,r=>by
  rw[LY] at r
  cases r with
  | cons h t=>exact .cons (Kx h) (Rx t)
abbrev KT(H:Hp):List (List Key×V)->List (List Key×JO×JH)->Prop:=RO λp q=>p.1=q.1/\H q.2.1=some (.tup (p.1.map kV))/\RelV p.2 q.2.2
theorem KT.val{H:Hp}{kvs:List (List Key×V)}{xs:List (List Key×JO×JH)}(r:KT H kvs xs)(k:List Key):Hw (valV kvs k) ((atKey xs k).map (·.2)):=by
 induction r with
 | nil=>exact PK
 | @cons p q ps qs h t ih=>
  obtain⟨h1,_,h2⟩:=h
  by_cases e:p.1=k
  ·have e':q.1=k:=h1.symm.trans e
   have b:atKey (q::qs) k=some q.2:=by simp[atKey,RS,e']
   rw[Cu e,b];exact h2
  ·have e':¬ q.1=k:=λz=>e (h1.trans z)
   have b:atKey (q::qs) k=atKey qs k:=by simp[atKey,RS,e']
   rw[Cw e,b];exact ih
theorem KT.repl{H:Hp}{kvs:List (List Key×V)}{xs:List (List Key×JO×JH)}(r:KT H kvs xs)(k:List Key){y:V}{u:JH}(ry:RelV y u):
 KT H (kvs.map λkv=>if kv.1=k then (kv.1,y) else kv) (xs.map (putAt k u)):=by
 induction r with
 | nil=>exact .nil
 | @cons p q ps qs h t ih=>
  rw[LY,LY]
  refine .cons ?_ ih
  obtain⟨h1,h2,h3⟩:=h
  unfold putAt
  by_cases e:p.1=k
  ·rw[if_pos e,if_pos (h1.symm.trans e)];exact⟨h1,h2,ry⟩
  ·rw[if_neg e,if_neg (λz=>e (h1.trans z))];exact⟨h1,h2,h3⟩
theorem KT.put{H:Hp}{kvs:List (List Key×V)}{xs:List (List Key×JO×JH)}(r:KT H kvs xs)(k:List Key){b:JO}{y:V}{u:JH}(hb:H b=some (.tup (k.map kV)))(ry:RelV y u):
 KT H (putK kvs k y) (storedH xs k b u):=by
 have e:(kvs.any λkv=>decide (kv.1=k))=(atKey xs k).isSome:=by
  rw[Es,(r.val k).isSome_eq,Option.isSome_map]
 unfold putK storedH
 rw[e]
 by_cases q:(atKey xs k).isSome=true
 ·rw[if_pos q,if_pos q];exact r.repl k ry
 ·rw[if_neg q,if_neg q];exact Paired.snoc r ⟨rfl,hb,ry⟩
theorem KT.keeps{H H':Hp}{kvs:List (List Key×V)}{xs:List (List Key×JO×JH)}(r:KT H kvs xs)(ht:∀b ys,H b=some (.tup ys)->H' b=some (.tup ys)):KT H' kvs xs:=
 Paired.mapP r λ_ _ z=>⟨z.1,ht _ _ z.2.1,z.2.2⟩
section
variable {P:KI} {w:LQ} {H:Hp} {h:MV} {a:JO}
theorem wI{u:HO}(ok:Kg P w H h)(e:Rd H a u):Cg P w H h a u:=e.ok ok
theorem Nk{kvs:List (Key×V)}(ok:Kg P w H h)(e:Rd H a (.dK kvs)):kvs.length<=JQ/\(a == OI)=false/\∃vs,KV kvs vs/\h.DictOf (Bo P w) a vs:=
 show Cg P w H h a (.dK kvs) from wI ok e
theorem xA{kvs:List (Key×V)}(ok:Kg P w H h)(e:H a=some (.dK kvs)):kvs.length<=JQ/\(a == OI)=false/\∃vs,KV kvs vs/\h.DictOf (Bo P w) a vs:=Nk ok (.inl e)
theorem Mh{ks:List Key}(ok:Kg P w H h)(e:H a=some (.tup (ks.map kV))):(tupleKind (Bo P w)).is h ks a:=by
 obtain⟨_,its,r,o,h1,h2,n,h3⟩:=(show Cg P w H h a (.tup (ks.map kV)) from ok a _ e)
 exact⟨o,its.toArray,n,h1,h2,h3,by simpa using Rx r⟩
theorem Qv{kvs:List (List Key×V)}(ok:Kg P w H h)(e:Rd H a (.dT kvs)):kvs.length<=JQ/\(a == OI)=false /\
 ∃xs,KT H kvs xs/\h.DictOfH (tupleKind (Bo P w)) a xs:=by
 obtain⟨z,y,xs,r,o,es,ep,h1,h2,h3,h4,h5⟩:=(show Cg P w H h a (.dT kvs) from wI ok e)
 refine⟨z,y,xs,r,o,es,ep,h1,h2,h3,h4,λx hx=>?_,h5⟩
 have all:∀ {l:List (List Key×V)} {m:List (List Key×JO×JH)},KT H l m->∀x∈m,(tupleKind (Bo P w)).is h x.1 x.2.1:=by
  intro l m q
  induction q with
  | nil=>intro x hx;exact nomatch hx
  | @cons p q ps qs hq t ih=>
   intro x hx
   rcases JT.mp hx with e | hx
   ·subst e
    exact Mh ok (by rw[<- hq.1];exact hq.2.1)
   ·exact ih x hx
 exact all r x hx
theorem DX{kvs:List (List Key×V)}(ok:Kg P w H h)(e:H a=some (.dT kvs)):kvs.length<=JQ/\(a == OI)=false /\
 ∃xs,KT H kvs xs/\h.DictOfH (tupleKind (Bo P w)) a xs:=Qv ok (.inl e)
end
def Et(H:Hp)(a:JO)(y:V)(r:Option V):Prop:=
 (∃kvs k,Rd H a (.dK kvs)/\y=kV k/\r=valV kvs k) ∨ ∃kvs k b,Rd H a (.dT kvs)/\y=.ref b/\H b=some (.tup (k.map kV))/\r=valV kvs k
def Kr(H:Hp)(a:JO)(y v:V)(H':Hp):Prop:=
 (∃kvs k,H a=some (.dK kvs)/\y=kV k/\kvs.length < JQ/\H'=upd H a (.dK (putK kvs k v))) ∨
 ∃kvs k b,H a=some (.dT kvs)/\y=.ref b/\H b=some (.tup (k.map kV))/\kvs.length < JQ/\H'=upd H a (.dT (putK kvs k v))
theorem Et.k{H:Hp}{a:JO}{kvs:List (Key×V)}{k:Key}(e:H a=some (.dK kvs)):Et H a (kV k) (valV kvs k):=.inl ⟨kvs,k,.inl e,rfl,rfl⟩
theorem Et.t{H:Hp}{a b:JO}{kvs:List (List Key×V)}{k:List Key}(e:H a=some (.dT kvs))(eb:H b=some (.tup (k.map kV))):Et H a (.ref b) (valV kvs k):=.inr ⟨kvs,k,b,.inl e,rfl,eb,rfl⟩
theorem Kr.k{H:Hp}{a:JO}{kvs:List (Key×V)}{k:Key}{v:V}(e:H a=some (.dK kvs))(hl:kvs.length < JQ):Kr H a (kV k) v (upd H a (.dK (putK kvs k v))):=.inl ⟨kvs,k,e,rfl,hl,rfl⟩
theorem Kr.t{H:Hp}{a b:JO}{kvs:List (List Key×V)}{k:List Key}{v:V}(e:H a=some (.dT kvs))(eb:H b=some (.tup (k.map kV)))(hl:kvs.length < JQ):
 Kr H a (.ref b) v (upd H a (.dT (putK kvs k v))):=.inr ⟨kvs,k,b,e,rfl,eb,hl,rfl⟩
section
variable {X:Cx} {pins:List (JO×Obj)} {σ:St} {H:Hp} {s:JL} {a:JO} {y v:V} {u r:JH} {o:Option V} {A:LM} {E:JH->JL->Prop}
theorem Inv.big(I:Inv X pins σ H s):OI < s.heap.objs.size:=by
 have h:LH < s.heap.objs.size:=(I.mod.glob.keeps I.bk).lt
 exact Nat.lt_trans (by decide) h
theorem kG{Q:JH->JL->Prop}(hu:A.units+1 < cLine)(I:Inv X pins σ H s)(g:Et H a y (some v))(ry:RelV y u)(h:∀w' s',Inv X pins σ H s'->RelV v w'->Q w' s'):
 KY (LB X.prog X.w) A (getItem (.ref a) u) Q E s:=by
 rcases g with ⟨kvs,k,e,ey,l⟩ | ⟨kvs,k,b,e,ey,eb,l⟩
 ·subst ey
  obtain⟨z,hd,vs,rel,dd⟩:=Nk I.hok e
  obtain⟨w',hw,rw'⟩:=Hw.some_of (v:=v) (o:=valueAt vs k) (by rw[l];exact rel.val k)
  exact wpAny_getItem_of (Kx ry) dd.mapOf hw (h w' _ (I.tok _) rw')
 ·subst ey
  cases (show u=JZ b from ry)
  obtain⟨z,hd,xs,rel,dd⟩:=Qv I.hok e
  obtain⟨w',hw,rw'⟩:=Hw.some_of (v:=v) (o:=(atKey xs k).map (·.2)) (by rw[l];exact rel.val k)
  obtain⟨p,hp,hp2⟩:=Option.map_eq_some_iff.mp hw
  refine wpAny_getItem_heap (SJ hu) (Mh I.hok eb) dd hp ?_
  rw[hp2]
  exact h w' _ (I.tok _) rw'
theorem GJ{Q:JH->JL->Prop}(hu:A.units+1 < cLine)(I:Inv X pins σ H s)(g:Et H a y o)(ry:RelV y u)(h:∀s',Inv X pins σ H s'->Q (.bool o.isSome) s'):
 KY (LB X.prog X.w) A (OW .In u (.ref a)) Q E s:=by
 rcases g with ⟨kvs,k,e,ey,l⟩ | ⟨kvs,k,b,e,ey,eb,l⟩
 ·subst ey
  obtain⟨z,hd,vs,rel,dd⟩:=Nk I.hok e
  refine wpAny_in_of (Kx ry) hd dd.mapOf ?_
  rw[<- (rel.val k).isSome_eq,<- l]
  exact h _ (I.tok _)
 ·subst ey
  cases (show u=JZ b from ry)
  obtain⟨z,hd,xs,rel,dd⟩:=Qv I.hok e
  refine wpAny_in_heap (SJ hu) (Mh I.hok eb) hd dd ?_
  have q:=(rel.val k).isSome_eq
  rw[Option.isSome_map] at q
  rw[<- q,<- l]
  exact h _ (I.tok _)
theorem vY{Q:JH->JL->Prop}(hu:A.units+1 < cLine)(I:Inv X pins σ H s)(g:Et H a y o)(ry:RelV y u)(h:∀s',Inv X pins σ H s'->Q (.bool (!o.isSome)) s'):
 KY (LB X.prog X.w) A (OW .NotIn u (.ref a)) Q E s:=by
 rcases g with ⟨kvs,k,e,ey,l⟩ | ⟨kvs,k,b,e,ey,eb,l⟩
 ·subst ey
  obtain⟨z,hd,vs,rel,dd⟩:=Nk I.hok e
  refine wpAny_notIn_of (Kx ry) hd dd.mapOf ?_
  rw[<- (rel.val k).isSome_eq,<- l]
  exact h _ (I.tok _)
 ·subst ey
  cases (show u=JZ b from ry)
  obtain⟨z,hd,xs,rel,dd⟩:=Qv I.hok e
  refine wpAny_notIn_heap (SJ hu) (Mh I.hok eb) hd dd ?_
  have q:=(rel.val k).isSome_eq
  rw[Option.isSome_map] at q
  rw[<- q,<- l]
  exact h _ (I.tok _)
theorem Vg{h':MV}{t':Nat}{ob:HO}(I:Inv X pins σ H s)(mu:BM (H a))(hs:Heap.SameBut a s.heap h')(he:∃q,h'.get? a=some q)(new:Cg X.prog X.w (upd H a ob) h' a ob):
 Inv X pins σ (upd H a ob) { s with heap:=h',toks:=t' }:=
 I.write (x:=a) (e:=a) mu (.inl rfl) (λb q hb z=>(hs.2 b hb).trans z) he new
theorem lK{P:KI}{w:LQ}{H':Hp}{h':MV}{kvs:List (Key×V)}{vs:List (Key×JH)}(z:kvs.length<=JQ)(hd:(a == OI)=false)(rel:KV kvs vs)(dd:h'.DictOf (Bo P w) a vs):
 Cg P w H' h' a (.dK kvs):=⟨z,hd,vs,rel,dd⟩
theorem jB{H':Hp}{Q:Unit->JL->Prop}(hu:A.units+1 < cLine)(I:Inv X pins σ H s)(g:Kr H a y v H')(ry:RelV y u)(rv:RelV v r)(h:∀s',Inv X pins σ H' s'->Q () s'):
 KY (LB X.prog X.w) A (setItem (.ref a) u r) Q E s:=by
 rcases g with ⟨kvs,k,e,ey,l,eH⟩ | ⟨kvs,k,b,e,ey,eb,l,eH⟩
 ·subst ey eH
  obtain⟨z,hd,vs,rel,dd⟩:=xA I.hok e
  have hz:vs.length<=JQ:=by rw[<- rel.length];exact z
  have hl:(putK kvs k v).length<=JQ:=by have:=Dm kvs k v;omega
  refine wpAny_setItem_pairs (hsz:=hz) (Kx ry) dd λh' dd' hs=>h _ ?_
  have he:∃q,h'.get? a=some q:=let ⟨q,_,_,hq,_⟩:=dd';⟨q,hq⟩
  exact Vg I (by rw[e];exact PK) hs he (lK hl hd (rel.put k rv) dd')
 ·subst ey eH
  cases (show u=JZ b from ry)
  obtain⟨z,hd,xs,rel,dd⟩:=DX I.hok e
  have hz:xs.length<=JQ:=by rw[<- NP rel];exact z
  have hl:(putK kvs k v).length<=JQ:=by have:=Dm kvs k v;omega
  refine wpAny_setItem_heap (hsz:=hz) (SJ hu) (Mh I.hok eb) dd λh' dd' hs=>h _ ?_
  obtain⟨q,es,ep,hq,h2,h3,h4,_,h5⟩:=dd'
  refine Vg I (by rw[e];exact PK) hs ⟨q,hq⟩ ⟨hl,hd,_,(rel.put k eb rv).keeps λc ys ec=>?_,q,es,ep,hq,h2,h3,h4,h5⟩
  rw[Aj (Cd ec e (λz=>nomatch z))]
  exact ec
end
section
variable {X:Cx} {pins:List (JO×Obj)} {σ:St} {H:Hp} {s:JL} {a:JO} {kvs:List (Key×V)} {k:Key} {u:JH} {A:LM} {E:JH->JL->Prop}
end
def BS(i:Expr):Prop:=∀ov iv,subscripted i false ov iv=operate [ov,iv] (getItem ov iv)
theorem wG{prog:KI}{w:LQ}{A:LM}{E:JH->JL->Prop}{s:JL}{env:Env}{value slice:Expr}{pos:Pos}{T id:String}{Q:JH->JL->Prop}(hl:typeLookup (.type T) "__getitem__" = pure (some (.builtin id)))(hs:BS slice)(h:KY (LB prog w) A (PD value env) (λo s₁=>KY (LB prog w) A (PD slice env) (λi s₂=>s₂.TypeIs o T/\KY (LB prog w) A (getItem o i) Q E s₂) E s₁) E s):
 KY (LB prog w) A (PD (.Subscript value slice pos) env) Q E s:=by
 refine Subscript_ (ND h (λo s₁ h₁=>ND h₁ (λi s₂ h₂=>?_) λ_ _ x=>x) λ_ _ x=>x)
 obtain⟨hT,h₂⟩:=h₂
 unfold subscriptTail
 refine JE ?_
 rw[getitemInPython_of_ne hT.not_modules]
 refine JE (wpAny_specialOf hT hl ?_)
 have fin:KY (LB prog w) A (subscripted slice false o i) (λr s₃=>KY (LB prog w) A (letTemporaryGo value o r >>= λ_=>pure r) Q E s₃) E s₂:=by
  rw[hs o i]
  exact wpAny_operating (ND h₂ (λr s₃ h₃=>JE (wpAny_letTemporaryGo (JS h₃))) λ_ _ x=>x)
 first
  | exact JS (JE fin)
  | exact JE (JS (JE fin))
  | exact JE fin
theorem Xl{X:Cx}{pins:List (JO×Obj)}{σ:St}{H:Hp}{s:JL}{a:JO}{y:V}{o:Option V}(I:Inv X pins σ H s)(g:Et H a y o):s.TypeIs (.ref a) "dict" := by
 rcases g with ⟨kvs,k,e,_,_⟩ | ⟨kvs,k,b,e,_,_,_⟩
 ·obtain⟨_,_,vs,_,dd⟩:=Nk I.hok e
  exact dd.typeIs
 ·obtain⟨_,_,xs,_,dd⟩:=Qv I.hok e
  exact dd.typeIs
def BY(td ty:TE):TE:=λσ H Q=>td σ H λx H1=>ty σ H1 λy H2=>∃a v,x=.ref a/\Et H2 a y (some v)/\Q v H2
def HM(ty td:TE):TE:=λσ H Q=>ty σ H λy H1=>td σ H1 λx H2=>∃a o,x=.ref a/\Et H2 a y o/\Q (.bl o.isSome) H2
def wC(ty td:TE):TE:=λσ H Q=>ty σ H λy H1=>td σ H1 λx H2=>∃a o,x=.ref a/\Et H2 a y o/\Q (.bl (!o.isSome)) H2
def EJ(td ty tv:TE):TS:=λD σ H=>tv σ H λv H1=>td σ H1 λx H2=>ty σ H2 λy H3=>∃a H4,x=.ref a/\Kr H3 a y v H4/\D.nx σ H4
section
variable {X:Cx} {o i e value:Expr} {pos pos' tpos:Pos} {td ty tv:TE}
theorem Ie(hu:X.A.units+1 < cLine)(ho:PE X o td)(hi:PE X i ty)(hs:BS i):PE X (.Subscript o i pos) (BY td ty):=by
 intro pins s σ H Q I h
 refine wG PySem.F.slot_dict_getitem.lookup hs (Bu (ho pins s σ H _ I h) λu s1 ⟨x,H1,I1,rx,q1⟩=>Bu (hi pins s1 σ H1 _ I1 q1) λiv s2 ⟨y,H2,I2,ry,a,v,ex,g,q2⟩=>?_)
 subst ex
 obtain rfl:u=JZ a:=rx
 exact⟨Xl I2 g,kG hu I2 g ry λw' s3 I3 rw'=>⟨v,H2,I3,rw',q2⟩⟩
theorem qI(hu:X.A.units+1 < cLine)(hi:PE X i ty)(ho:PE X o td):PC X .In i o (HM ty td):=by
 intro pins s σ H Q I h
 refine Bu (hi pins s σ H _ I h) λiv s1 ⟨y,H1,I1,ry,q1⟩=>Bu (ho pins s1 σ H1 _ I1 q1) λu s2 ⟨x,H2,I2,rx,a,ov,ex,g,q2⟩=>?_
 subst ex
 obtain rfl:u=JZ a:=rx
 exact GJ hu I2 g ry λs3 I3=>⟨.bl ov.isSome,H2,I3,rfl,q2⟩
theorem Ka(hu:X.A.units+1 < cLine)(hi:PE X i ty)(ho:PE X o td):PC X .NotIn i o (wC ty td):=by
 intro pins s σ H Q I h
 refine Bu (hi pins s σ H _ I h) λiv s1 ⟨y,H1,I1,ry,q1⟩=>Bu (ho pins s1 σ H1 _ I1 q1) λu s2 ⟨x,H2,I2,rx,a,ov,ex,g,q2⟩=>?_
 subst ex
 obtain rfl:u=JZ a:=rx
 exact vY hu I2 g ry λs3 I3=>⟨.bl (!ov.isSome),H2,I3,rfl,q2⟩
theorem Gd(hu:X.A.units+1 < cLine)(ho:PE X o td)(hi:PE X i ty)(hv:PE X value tv)(hs:swapsWith value (some (.Subscript o i pos')) pos.line X.env=pure false):
 PS X (.Assign [.Subscript o i pos'] value pos) (EJ td ty tv):=by
 intro pins s σ H D I h
 refine wpAny_Assign_Subscript (Bu (hv pins s σ H _ I h) λr s1 ⟨v,H1,I1,rv,q1⟩=>Bu (ho pins s1 σ H1 _ I1 q1) λu s2 ⟨x,H2,I2,rx,q2⟩=>Bu (hi pins s2 σ H2 _ I2 q2) λiv s3 ⟨y,H3,I3,ry,a,H4,ex,g,q3⟩=>?_) hs
 subst ex
 obtain rfl:u=JZ a:=rx
 exact jB hu I3 g ry rv λs4 I4=>⟨σ,H4,I4,q3⟩
end
theorem lL{P:KI}{w:LQ}{H:Hp}(h:MV)(hb:OI < h.objs.size):Cg P w H (h.push { cls:=.type "dict", data:=.dict #[] }) h.objs.size (.dK []):=
 ⟨LK _,beq_eq_false_iff_ne.mpr (LL (KQ hb)),[],.nil,Heap.DictOf.new h⟩
theorem qO{P:KI}{w:LQ}{H:Hp}(h:MV)(hb:OI < h.objs.size):Cg P w H (h.push { cls:=.type "dict", data:=.dict #[] }) h.objs.size (.dT []):=
 ⟨LK _,beq_eq_false_iff_ne.mpr (LL (KQ hb)),[],.nil,_,#[],0,KG _ rfl,⟨rfl,rfl,rfl⟩,rfl,rfl,OV⟩
def yJ:TE:=λ_ H Q=>∀p,H p=none->Q (.ref p) (upd H p (.dK []))
def zS:TE:=λ_ H Q=>∀p,H p=none->Q (.ref p) (upd H p (.dT []))
section
variable {X:Cx} {pos:Pos}
theorem Ho:PE X (.Dict [] [] pos) yJ:=λpins s σ H Q I h=>
 wpAny_Dict_empty ⟨.ref s.heap.objs.size,_,I.laid (a:=s.heap.objs.size) (o:=.dK []) (t':=s.toks) (λ_ _ q=>JI _ q) (JM _) (lL s.heap I.big),rfl,h _ (I.hok.fresh (JM _))⟩
theorem pU:PE X (.Dict [] [] pos) zS:=λpins s σ H Q I h=>
 wpAny_Dict_empty ⟨.ref s.heap.objs.size,_,I.laid (a:=s.heap.objs.size) (o:=.dT []) (t':=s.toks) (λ_ _ q=>JI _ q) (JM _) (qO s.heap I.big),rfl,h _ (I.hok.fresh (JM _))⟩
end
structure M1(X:Cx)(o:Expr)(m:Str)(apos:Pos)(e:Expr)(cpos:Pos):Prop where
 base:RH o m X.env (PD o X.env)=PD o X.env
 few:((QO cpos (KW [e] X.env)).all (λx=>!x.1) && (backToKw cpos (QY [] X.env)).all (λx=>x.1.isSome)
  && decide (([e]:List Expr).length+([]:List Keyword).length+(if ([]:List Keyword).isEmpty then 0 else 1) < 30))=true
 line:(apos.endLine == cpos.line)=true
 trees:QO cpos (KW [e] X.env)=[(false,PD e X.env)]
structure M2(X:Cx)(o:Expr)(m:Str)(apos:Pos)(e f:Expr)(cpos:Pos):Prop where
 base:RH o m X.env (PD o X.env)=PD o X.env
 few:((QO cpos (KW [e,f] X.env)).all (λx=>!x.1) && (backToKw cpos (QY [] X.env)).all (λx=>x.1.isSome)
  && decide (([e,f]:List Expr).length+([]:List Keyword).length+(if ([]:List Keyword).isEmpty then 0 else 1) < 30))=true
 line:(apos.endLine == cpos.line)=true
 trees:QO cpos (KW [e,f] X.env)=[(false,PD e X.env),(false,PD f X.env)]
def GG(H:Hp)(a:JO):Prop:=(∃kvs,Rd H a (.dK kvs)) ∨ ∃kvs,Rd H a (.dT kvs)
theorem aQ{X:Cx}{pins:List (JO×Obj)}{σ:St}{H:Hp}{s:JL}{a:JO}(I:Inv X pins σ H s)(d:GG H a):
 s.TypeIs (.ref a) "dict" /\ (∀b,JZ a=.ref b->∃ob,s.heap.get? b=some ob/\ob.dict=none)/\(a == OI)=false:=by
 rcases d with ⟨kvs,e⟩ | ⟨kvs,e⟩
 ·obtain⟨_,hd,vs,_,dd⟩:=Nk I.hok e
  refine⟨dd.typeIs,λb q=>?_,hd⟩
  cases q
  obtain⟨ob,_,_,h1,h2,_⟩:=dd
  exact⟨ob,h1,h2.2.1⟩
 ·obtain⟨_,hd,xs,_,dd⟩:=Qv I.hok e
  refine⟨dd.typeIs,λb q=>?_,hd⟩
  cases q
  obtain⟨ob,_,_,h1,h2,_⟩:=dd
  exact⟨ob,h1,h2.2.1⟩
section
variable {X:Cx} {pins:List (JO×Obj)} {σ:St} {H:Hp} {s:JL} {a:JO} {y d:V} {u r:JH} {o:Option V} {A:LM} {E:JH->JL->Prop}
theorem yC{Q:JH->JL->Prop}(hu:A.units+1 < cLine)(I:Inv X pins σ H s)(g:Et H a y o)(ry:RelV y u)(rd:RelV d r)(h:∀w' s',Inv X pins σ H s'->RelV (o.getD d) w'->Q w' s'):
 KY (LB X.prog X.w) A (call (.builtin "dict.get") [.ref a,u,r]) Q E s:=by
 rcases g with ⟨kvs,k,e,ey,l⟩ | ⟨kvs,k,b,e,ey,eb,l⟩
 ·subst ey
  obtain⟨z,hd,vs,rel,dd⟩:=Nk I.hok e
  refine call_meetsIn QS dd.typeIs PySem.F.entry_dict_get (PySem.F.args_dict_get_3 _ _ _) (meets_dict_get_default (Bo X.prog X.w) a (Kx ry) hd r) ⟨_,dd.mapOf,h _ _ (I.tok _) ?_⟩
  rw[l]
  exact(rel.val k).getD rd
 ·subst ey
  cases (show u=JZ b from ry)
  obtain⟨z,hd,xs,rel,dd⟩:=Qv I.hok e
  refine call_meetsIn QS dd.typeIs PySem.F.entry_dict_get (PySem.F.args_dict_get_3 _ _ _) (meetsH_dict_get_default (tupleKind (Bo X.prog X.w)) a b hd r) ⟨SJ hu,k,xs,Mh I.hok eb,dd,h _ _ (I.tok _) ?_⟩
  rw[l]
  exact(rel.val k).getD rd
end
def zV(td ty tx:TE):TE:=λσ H Q=>td σ H λx H1=>∃a,x=.ref a/\GG H1 a/\ty σ H1 λy H2=>tx σ H2 λz H3=>∃o,Et H3 a y o/\Q (o.getD z) H3
section
variable {X:Cx} {o e f:Expr} {apos cpos:Pos} {td ty tx:TE}
theorem Jh(hu:X.A.units+1 < cLine)(ho:PE X o td)(he:PE X e ty)(hf:PE X f tx)(m:M2 X o "get" apos e f cpos):PE X (.Call (.Attribute o "get" apos) [e,f] [] cpos) (zV td ty tx):=by
 intro pins s σ H Q I h
 refine wpAny_Call_method m.base m.few m.line RN QS PySem.F.type_dict_get (Bu (ho pins s σ H _ I h) λu s1 ⟨x,H1,I1,rx,a,ex,d,q1⟩=>?_)
 subst ex
 obtain rfl:u=JZ a:=rx
 obtain⟨t1,t2,_⟩:=aQ I1 d
 refine⟨t1,t2,?_⟩
 rw[m.trees]
 refine PU rfl (Calls.evalArgs_plain (QW (Bu (he pins s1 σ H1 _ I1 q1) λiv s2 ⟨y,H2,I2,ry,q2⟩=>
  QW (Bu (hf pins s2 σ H2 _ I2 q2) λfv s3 ⟨z,H3,I3,rz,ov,g,q3⟩=>Calls.spliced_nil ?_))))
 exact yC hu I3 g ry rz λw' s4 I4 rw'=>⟨_,H3,I4,rw',q3⟩
end
section
variable {X:Cx} {pins:List (JO×Obj)} {σ:St} {H:Hp} {s:JL} {a:JO} {kvs:List (Key×V)} {A:LM} {E:JH->JL->Prop}
end
section
variable {X:Cx} {pins:List (JO×Obj)} {σ:St} {H:Hp} {s:JL} {a:JO} {y:V} {u:JH} {A:LM} {E:JH->JL->Prop}
end
end L2
namespace Att
open PySem PySem.W PySem.Calls PyProof.Rows
theorem Nv{P:Params}{h:MV}:∀(ns:List Int)(vs:List JH),WellAll P h vs (ns.map WData.int)->IntsAre vs ns:=by
 intro ns
 induction ns with
 | nil=>
  intro vs w
  rw[List.map_nil] at w
  cases w
  exact .nil
 | cons n ns ih=>
  intro vs w
  rw[LY] at w
  cases w with
  | cons a b=>
   cases a
   exact .cons _ _ (ih _ b)
theorem jT{l:OpenLaw}{n:Nat}(hn:l.most=some n){P:Params}{h:MV}{args:List WData}{vals:List JH}(hpre:l.row.toRowW.claim.pre args=true)(hwl:WellAll P h vals args):
 ∃a vs ns,vals=[JZ a]/\args=[WData.list (ns.map WData.int)]/\h.get? a=some { cls:=.type "list", data:=.seq vs.toArray }/\IntsAre vs ns/\ns.length<=n:=by
 have hsh:WShape.hasAll [] args [.list .int]=true:=(pre_splitW hpre).1
 have hc:l.pre.holds [] { args:=args }=true:=(pre_splitW hpre).2
 obtain⟨d,r,rfl,h1,h2⟩:=hasAllW_cons hsh
 obtain rfl:=hasAllW_nil h2
 obtain⟨xs,rfl,h3⟩:=hasW_list h1
 obtain⟨ns,rfl⟩:=items_int h3
 have hlen:ns.length<=n:=by
  unfold OpenLaw.pre at hc
  have h4:(WTm.not (.lt (.lit (.int (n:Int))) (.len (.arg 0)))).holds [] { args:=[.list (ns.map .int)] }=true:=by
   have h4:=(holds_andW hc).1
   rw[hn] at h4
   exact h4
  have h5:=condW_of h4 (w_not (w_lt w_lit (w_len_list (w_arg rfl))))
  rw[JJ] at h5
  refine Nat.le_of_not_lt λq=>?_
  have q':(n:Int) < ((ns.length:Nat):Int):=by omega
  first
   | (rw[decide_eq_true q'] at h5;exact absurd h5 (by decide))
   | (simp at h5;omega)
 cases hwl with
 | cons w1 w2=>
  cases w2
  cases w1 with
  | list ho hall=>exact⟨_,_,ns,rfl,rfl,ho,Nv ns _ hall,hlen⟩
theorem kH(l:OpenLaw)(args:List WData):l.row.toRowW.claim.post args (.bool true) args=true:=
 postW_of (r:=l.row.toRowW) (X:=(true == true))
  (show WShape.has [] (.bool true) .bool=true by first | rfl | decide | simp[WShape.has,WShape.arms,WShape.armsAll])
  (show (WTm.eq .res (.lit (.bool true))).value [] { args:=args,res:=some (.bool true),after:=args }=some (.bool (true == true)) from w_eq_bool (w_res rfl) w_lit) rfl
theorem attach_call{l:OpenLaw}{n:Nat}{q:KI}{loose:List Str}{XP:(Str->Option JH)->MV->Prop}{YP:LQ->MV->Prop}{d:DefRec}(hn:l.most=some n)(hdf:d.params.defaults=[])(call:∀(w:LQ)(s₀ s₁:JL)(mg mb:Str->Option JH)(fa:JO)(o:Obj)(pm cd doc:JH)(a:JO)(vs:List JH)(ns:List Int),
  Ground q loose [] XP w s₀ mg mb s₁.heap->YP w s₁.heap ->
  s₁.heap.get? fa=some o->o.data=.func (docDef d.name d.params d.body d.scope pm cd doc)->s₁.heap.CodeRec cd d.name->mg d.name=some (.ref fa) ->
  s₁.heap.get? a=some { cls:=.type "list", data:=.seq vs.toArray }->IntsAre vs ns->ns.length<=n->s₁.gens = #[] ->
  RZ (LB l.prog w) callerA (.call (.ref fa) ⟨[.ref a],[]⟩) (λr s'=>r=.ok (.ret (.bool true))/\OldK s₁.heap s'.heap/\s'.os=s₁.os/\AllBare s'.gens) s₁):
 WalkO q loose XP YP l.row.toRowW d [] (λf vs=>PySem.call f vs):=by
 intro w s₀ s₁ mg mb G Y fa o pm cd doc dV kV ho hd hcd hD hmg hg args vals as hpre hlay hrd hwl hlo
 obtain rfl:dV=.none:=Dflts.none hD hdf
 obtain rfl:kV=.none:=Dflts.noKw hD
 obtain⟨a,vs,ns,rfl,rfl,hobj,hints,hlen⟩:=jT hn hpre hwl
 refine enter_call (PY (call w s₀ s₁ mg mb fa o pm cd doc a vs ns G Y ho (fd_plain hd) hcd hmg hobj hints hlen hg) λr s' hq=>?_)
 obtain⟨rfl,h2,h3,h4⟩:=hq
 exact⟨.inl ⟨.bool true,.bool true,[],rfl,λ_=>rfl,.bool true,kH l _,λ_=>⟨List.Pairwise.nil,λ_ hm=>(nomatch hm)⟩⟩,h2,h3,h4⟩
section
variable {prog:KI} {w:LQ} {A:LM} {E:JH->JL->Prop} {s:JL} {K:Frag}
end
end Att
namespace L2
open PySem PySem.Spec PyProof.Rows
theorem Sd:∀ {vs:List JH} {ns:List Int},IntsAre vs ns->Bb (ns.map V.int) vs
 | _,_,.nil=>.nil
 | _,_,.cons n t h=>.cons ⟨t,rfl⟩ (Sd h)
def AX(H:Hp):Prop:=∀b,H b=none ∨ ∃o xs,H b=some (.frz o (.lst xs))
theorem pD{P:KI}{w:LQ}{K:JG}{mg mb:Str->Option JH}{CX:Wc}{k:Nat}{fa a:JO}{fd:LG}{x:Str}{sp:Sp}{s₁:JL}{vs:List JH}{ns:List Int}(KX:K.In s₁.heap)(hns:s₁.heap.Ns LH mg)(hb:s₁.heap.Ns builtinsNs mb)(hbb:∀x:Str,x ≠ "__name__" -> mb x=PZ x)(hlim:s₁.heap.NoLimit)(hg:s₁.gens = #[])(ha:s₁.heap.get? a=some { cls:=.type "list", data:=.seq vs.toArray })(hi:IntsAre vs ns)(hl:ns.length<=JQ)(hr:Co k callerA)(F:∀base:MV,K.In base->base.Ns LH mg->Al P w K mg base CX k fa fd [x] sp)(hbind:∀(s:JL)(u:JH),BindsTo s fd ⟨[u],[]⟩ [(x,u)])(hsp:∀H:Hp,AX H->Aw K H a (ns.map V.int)->sp [.ref a] H (λv _=>v=.bl true) λ_ _ _=>False)(hCX:∀H e s',CX.f [] H s₁ (λ_ _ _=>False) e s'->False):
 RZ (LB P w) callerA (.call (.ref fa) ⟨[.ref a],[]⟩) (λr s'=>r=.ok (.ret (.bool true))/\OldK s₁.heap s'.heap/\s'.os=s₁.os/\AllBare s'.gens) s₁:=by
 have rv:=Sd hi
 have lenV:=hi.length
 -- from an abstract heap in which nothing but the script may be tracked
 have core:∀H:Hp,AX H->Aw K H a (ns.map V.int)->Kg P w H s₁.heap->(∀b,H b≠none->b=a)->(H a≠none->K.lookup a=none) ->
  RZ (LB P w) callerA (.call (.ref fa) ⟨[.ref a],[]⟩) (λr s'=>r=.ok (.ret (.bool true))/\OldK s₁.heap s'.heap/\s'.os=s₁.os/\AllBare s'.gens) s₁:=by
  intro H hO hS hok hA hK
  have base_of:∀ {b:JO} {o:Obj},s₁.heap.get? b=some o->H b=none->(Lm s₁.heap H).get? b=some o:=λe n=>Qd e n
  have noA:∀ {b:JO} {o:Obj} {es:Array RT} {ep:Nat},s₁.heap.get? b=some o->o.data=.dict es ep->H b=none:=λ{b o es ep} e d=>by
   cases q:H b with
   | none=>rfl
   | some u=>
    have e':b=a:=hA b (by rw[q];simp)
    subst e'
    rw[ha] at e;cases e
    have d':Data.seq vs.toArray _=Data.dict es ep:=d
    cases d'
  have nsK:∀ {b:JO} {m:Str->Option JH},s₁.heap.Ns b m->(Lm s₁.heap H).Ns b m:=λ{b m} ⟨o,es,ep,e,d,r⟩=>⟨o,es,ep,base_of e (noA e d),d,r⟩
  have hKb:K.In (Lm s₁.heap H):=λb o e=>base_of (KX b o e) (by
   cases q:H b with
   | none=>rfl
   | some u=>
    have e':b=a:=hA b (by rw[q];simp)
    subst e'
    rw[hK (by rw[q];simp)] at e;cases e)
  have hM:Mod K mg (Lm s₁.heap H):=⟨hKb,nsK hns,⟨mb,nsK hb,hbb⟩,let ⟨mc,h1,h2⟩:=hlim;⟨mc,nsK h1,h2⟩⟩
  have e0:Vc P w K mg (Lm s₁.heap H) callerA [] s₁ H:=⟨rfl,hM,λb o e=>gC e,QT (Sz _ _),trivial,λb hb=>absurd (show b∈([]:List JO) from hb) (by simp),hok,.of_eq hg⟩
  refine PY ((F _ hKb (nsK hns)).run callerA [] s₁ H ⟨[.ref a],[]⟩ [.ref a] [.ref a] _ _ ⟨hr,λ_=>rfl,.inl rfl⟩ e0 (hbind s₁ (.ref a)) (.cons rfl .nil) (hsp H hO hS)) λr s' h=>?_
  cases r with
  | error e=>exact(hCX H e s' h).elim
  | ok fl=>
   cases fl with
   | next=>exact MF h
   | brk=>exact MF h
   | cont=>exact MF h
   | ret u=>
    obtain⟨v,H',os,bare,un,hok',r',q⟩:=h
    have q':v=.bl true:=q
    subst q'
    obtain rfl:u=Value.bool true:=r'
    refine⟨rfl,OldK.of_keep λb o e=>?_,os,bare⟩
    cases q:H b with
    | none=>exact un.keep b o e q (by intro z;exact absurd (show b∈([]:List JO) from z) (by simp)) (by simp)
    | some u=>
     rcases hO b with z | ⟨ob,xs,z⟩
     ·rw[q] at z;cases z
     ·have z2:=un.frzs b ob _ z
      obtain⟨e1,_⟩:=hok b _ z
      obtain⟨e2,_⟩:=hok' b _ z2
      rw[e] at e1;cases e1
      exact e2
 cases hk:K.lookup a with
 | some o=>
  -- the script is one of the module's own objects
  have e:=KX a o hk
  rw[ha] at e
  cases e
  refine core (λ_=>none) (λ_=>.inl rfl) (.inr ⟨_,vs.toArray,_,hk,rfl,rfl,rfl,by rw[KU,lenV];exact hl,by simpa using rv⟩) (λb u z=>by have z':(none:Option HO)=some u:=z;cases z') (λb z=>absurd rfl z) λz=>absurd rfl z
 | none=>
  refine core (λb=>if b=a then some (.frz { cls:=.type "list", data:=.seq vs.toArray } (.lst (ns.map V.int))) else none) (λb=>?_) (.inl (.inr ⟨{ cls:=.type "list", data:=.seq vs.toArray },if_pos rfl⟩)) (λb u z=>?_) (λb z=>?_) λ_=>hk
  ·by_cases hb:b=a
   ·exact .inr ⟨_,_,if_pos hb⟩
   ·exact .inl (if_neg hb)
  ·by_cases hb:b=a
   ·have z':=(if_pos hb).symm.trans z
    cases z'
    subst hb
    exact⟨ha,by rw[JJ];exact hl,vs,_,rv,ha⟩
   ·have z':=(if_neg hb).symm.trans z
    cases z'
  ·by_cases hb:b=a
   ·exact hb
   ·exact absurd (if_neg hb) z
theorem vG{l:PySem.W.OpenLaw}{n k:Nat}{q:KI}{loose:List Str}{XP:(Str->Option JH)->MV->Prop}{YP:LQ->MV->Prop}{d:DefRec}{K:Params->JG}{CX:LQ->Wc}{sp:LQ->Sp}{x:Str}(hn:l.most=some n)(hn2:n<=JQ)(hdf:d.params.defaults=[])(hr:Co k callerA)(hY:∀(w:LQ)(h:MV),YP w h->(K w.params).In h)(F:∀(w:LQ)(mg:Str->Option JH)(fa:JO)(h:MV),(K w.params).In h->h.Ns LH mg->mg d.name=some (.ref fa) ->
  ∃fd:LG,(∀(s:JL)(u:JH),BindsTo s fd ⟨[u],[]⟩ [(x,u)]) /\
   ∀base:MV,(K w.params).In base->base.Ns LH mg->Al l.prog w (K w.params) mg base (CX w) k fa fd [x] (sp w))(hsp:∀(w:LQ)(H:Hp)(a:JO)(ns:List Int),ns.length<=n->AX H->Aw (K w.params) H a (ns.map V.int)->sp w [.ref a] H (λv _=>v=.bl true) λ_ _ _=>False)(hCX:∀(w:LQ)(H:Hp)(s:JL)(e:JH)(s':JL),(CX w).f [] H s (λ_ _ _=>False) e s'->False):
 PySem.W.WalkO q loose XP YP l.row.toRowW d [] (λf vs=>PySem.call f vs):=by
 refine Att.attach_call hn hdf λw s₀ s₁ mg mb fa o pm cd doc a vs ns G Y ho hd hcd hmg hobj hints hlen hg=>?_
 have KX:=hY w _ Y
 obtain⟨fd,hb,hF⟩:=F w mg fa _ KX G.T.g hmg
 exact pD KX G.T.g G.T.b G.T.builtins G.T.nolimit hg hobj hints (KZ hlen hn2) hr hF hb (λH hO hS=>hsp w H a ns hlen hO hS) λH e s'=>hCX w H s₁ e s'
def inClass(s:OU)(j:Nat):OU:=match s with
 | .ClassDef _ _ _ body _ _ _ _ _ _ _=>body.getD j (.Pass ⟨0,0,0,0⟩)
 | _=>.Pass ⟨0,0,0,0⟩
def Dx(s:OU):Arguments:=match s with
 | .FunctionDef _ a _ _ _ _ _ _ _ _=>a
 | _=>{ posonlyargs:=[],args:=[],vararg:=none,kwonlyargs:=[],kw_defaults:=[],kwarg:=none,defaults:=[] }
def Bg(s:OU):List OU:=match s with
 | .FunctionDef _ _ b _ _ _ _ _ _ _=>b
 | _=>[]
def Ad(s:OU):Scope:=match s with
 | .FunctionDef _ _ _ _ _ _ sc _ _ _=>sc
 | _=>{ kind:=.function,names:=[],isGenerator:=false,isCoroutine:=false }
abbrev Bi:Wc:=⟨λ_ _ _ _ _ _=>False,false⟩
abbrev Je:Wc:=⟨λ_ _ _ _ _ _=>False,true⟩
abbrev E0:XK:=λ_ _ _=>False
theorem Dh{X:Cx}(hc:X.calm=true:=by rfl):Hj Bi X E0:=⟨hc,(λz=>nomatch z),λ_ _ _ _ _ _ _ h=>h.elim⟩
theorem Ti{X:Cx}(hc:X.calm=true:=by rfl)(hs:X.sx=true:=by rfl):Hj Je X E0:=⟨hc,(λ_=>hs),λ_ _ _ _ _ _ _ h=>h.elim⟩
structure Di(K:JG)(x qual:Str)(st:OU)(f:JO)(fd:LG):Prop where
 ex:∃(oc:JH)(od:Option JO)(kV doc pm:JH)(an:Option JO)(cdv ct:JH)(osl:Array (Option JH)),
  fd=QD x qual (Dx st) (Bg st) (Ad st) .none kV doc pm an cdv ct/\K.lookup f=some ⟨oc,od,.func fd,osl⟩/\PySem.W.codeIn K cdv qual=true
 kp:JV K (.ref f)=true
section
variable {P:KI} {w:LQ} {K:JG} {mg:Str->Option JH} {base:MV}
theorem Di.ok{x qual:Str}{st:OU}{f:JO}{fd:LG}{N ps:List Str}{k:Nat}{sp:Sp}(F:Di K x qual st f fd)(S:An N ps (Ad st))(len:∀vs H Q E,sp vs H Q E->vs.length=ps.length)(hbody:∀(cdv:JH)(A:LM)(outer:List Env)(s:JL)(H:Hp)(vs:List V)(Q:VK)(E:XK),Co k (A.deeper (envOfC qual (Ad st) s.heap.objs.size f cdv))->sp vs H Q E ->
  ∃t,Hy (Er Bi P w K mg base N qual (Ad st) f cdv A outer s H E).nox (Bg st) t/\t { nx:=λ_ H'=>Q .non H',rt:=Q } (start N vs) H):Al P w K mg base Bi (k+1) f fd ps sp:=by
 obtain⟨oc,od,kV,doc,pm,an,cdv,ct,osl,rfl,lk,hcd⟩:=F.ex
 refine Yf lk hcd S len λA outer s H vs Q E hr hsp=>?_
 obtain⟨t,h,q⟩:=hbody cdv A outer s H vs Q E hr hsp
 exact⟨t,h.nox,q⟩
theorem Di.ok1{x qual:Str}{st:OU}{f:JO}{fd:LG}{N ps:List Str}{k:Nat}{sp:Sp}(F:Di K x qual st f fd)(S:An N ps (Ad st))(len:∀vs H Q E,sp vs H Q E->vs.length=ps.length)(hbody:∀(cdv:JH)(A:LM)(outer:List Env)(s:JL)(H:Hp)(vs:List V)(Q:VK)(E:XK),Co k (A.deeper (envOfC qual (Ad st) s.heap.objs.size f cdv))->sp vs H Q E ->
  ∃t,Hy (Er Je P w K mg base N qual (Ad st) f cdv A outer s H E).nox (Bg st) t/\t { nx:=λ_ H'=>Q .non H',rt:=Q } (start N vs) H):Al P w K mg base Je (k+1) f fd ps sp:=by
 obtain⟨oc,od,kV,doc,pm,an,cdv,ct,osl,rfl,lk,hcd⟩:=F.ex
 refine Yf lk hcd S len λA outer s H vs Q E hr hsp=>?_
 obtain⟨t,h,q⟩:=hbody cdv A outer s H vs Q E hr hsp
 exact⟨t,h.nox,q⟩
theorem Di.binds{x qual:Str}{st:OU}{f:JO}{fd:LG}{ps:List Str}(F:Di K x qual st f fd)(h:∀(kV doc pm:JH)(an:Option JO)(cdv ct:JH)(us:List JH),us.length=ps.length->bindArgs (QD x qual (Dx st) (Bg st) (Ad st) .none kV doc pm an cdv ct) ⟨us,[]⟩=pure (ps.zip us)):Binds K fd ps []:=by
 obtain⟨oc,od,kV,doc,pm,an,cdv,ct,osl,rfl,lk,hcd⟩:=F.ex
 exact .all (h kV doc pm an cdv ct)
theorem pA{x qual:Str}{st:OU}{f:JO}{oc:JH}{od an:Option JO}{osl:Array (Option JH)}{kV doc pm cdv ct:JH}(l:K.lookup f=some ⟨oc,od,.func (QD x qual (Dx st) (Bg st) (Ad st) .none kV doc pm an cdv ct),osl⟩)(c:PySem.W.codeIn K cdv qual=true)(k:JV K (.ref f)=true):Di K x qual st f (QD x qual (Dx st) (Bg st) (Ad st) .none kV doc pm an cdv ct):=⟨⟨oc,od,kV,doc,pm,an,cdv,ct,osl,rfl,l,c⟩,k⟩
end
theorem Fo{A:LM}{k:Nat}(hr:Co k A):A.units+1 < cLine:=QP (Nat.add_le_add_left (by decide:1<=64) _) hr.units
section
variable {X:Cx}
theorem pv(i:Nat){x:Str}{pos:Pos}(hN:X.N[i]? = some x:=by rfl)(hv:GD X.env.scope x:=by first | exact Or.inl rfl | exact Or.inr (Or.inl rfl) | exact Or.inr (Or.inr rfl))(hd:(x == ("__debug__" : Str))=false:=by decide)(hcd:(x == ("__classdict__" : Str))=false:=by decide):PE X (.Name x pos) (EI i):=yI hN hv hd hcd
end
theorem Eb{A B:Prop}(h:B):if false=true then A else B:=by
 rw[if_neg JR]
 exact h
theorem Jn{A B:Prop}(h:A):if true=true then A else B:=by
 rw[if_pos rfl]
 exact h
theorem Br{c A B:Prop}[Decidable c](h1:c->A)(h2:¬ c->B):if c then A else B:=by
 by_cases h:c
 ·rw[if_pos h]
  exact h1 h
 ·rw[if_neg h]
  exact h2 h
theorem dX{c A B:Prop}[Decidable c](hc:c)(h:B):if (!decide c)=true then A else B:=by
 rw[decide_eq_true hc]
 exact Eb h
def Am(H H':Hp):Prop:=∀b o,H b=some o->H' b=some o
theorem Am.refl(H:Hp):Am H H:=λ_ _ h=>h
theorem Am.trans{H H1 H2:Hp}(a:Am H H1)(b:Am H1 H2):Am H H2:=λc o h=>b c o (a c o h)
theorem Am.free{H H':Hp}(e:Am H H'){l:JO}(h:H' l=Option.none):H l=Option.none:=by
 cases q:H l with
 | none=>rfl
 | some o=>
  rw[e l o q] at h
  cases h
theorem Am.seq{K:JG}{H H':Hp}{a:JO}{xs:List V}(e:Am H H')(h:Aw K H a xs):Aw K H' a xs:=by
 rcases h with (h | ⟨o,h⟩) | h
 ·exact .inl (.inl (e _ _ h))
 ·exact .inl (.inr ⟨o,e _ _ h⟩)
 ·exact .inr h
section
variable {X:Cx}
end
section
variable {κ:Type} [DecidableEq κ]
end
section
variable {X:Cx} {pins:List (JO×Obj)} {σ:St} {H:Hp} {s:JL} {h':MV}
theorem Inv.adopt{D:JO}{o:HO}(I:Inv X pins σ H s)(hn:H D=none)(hL:D≠X.env.locals)(h0:X.s₀.heap.objs.size<=D)(hc:∀x c,X.env.cells.lookup x=some c->c≠D)(hp:∀p∈X.pn++pins,p.1≠D)(new:Cg X.prog X.w (upd H D o) s.heap D o):Inv X pins σ (upd H D o) s:=by
 have ne:∀b u,H b=some u->b≠D:=λb u e=>Ai e hn
 refine⟨I.ok,I.os,I.bare,⟨I.base.keep,I.base.slot,λb u e n hx=>?_,I.base.there,λb xs e=>?_,λb u v e=>?_,λb ps e=>?_⟩,I.loc,I.cell,?_,λx c e=>?_,λp hp'=>?_,λb u e=>?_,I.len⟩
 ·rw[Aj (KQ (LI (KA e) h0))];exact I.base.free b u e n hx
 ·have q:=I.base.tups b xs e
  rw[Aj (ne _ _ q)];exact q
 ·have q:=I.base.frzs b u v e
  rw[Aj (ne _ _ q)];exact q
 ·obtain⟨m,q⟩:=I.base.tbls b ps e
  exact⟨m,by rw[Aj (ne _ _ q)];exact q⟩
 ·rw[Aj (LL hL)];exact I.free
 ·rw[Aj (hc x c e)];exact I.freeC x c e
 ·obtain⟨e,n,r⟩:=I.pin p hp'
  exact⟨e,by rw[Aj (hp p hp')];exact n,r⟩
 ·by_cases hb:b=D
  ·subst hb;rw[Aa] at e;cases e;exact new
  ·rw[Aj hb] at e
   exact(I.hok b u e).stay (λ_ _ _ q=>q) (λc q=>by rw[Aj (ne _ _ q)];exact q) λc xs q=>by rw[Aj (ne _ _ q)];exact q
theorem Inv.turns{t':Nat}{ch:List JO}(I:Inv X pins σ H s)(k:∀b o,b∉ch->s.heap.get? b=some o->h'.get? b=some o)(hf:∀b∈ch,Df X pins H b):
 Inv X pins σ H { s with heap:=h',toks:=t' }:=by
 have nit:∀b u,H b=some u->b∉ch:=λb u e z=>by rw[(hf b z).1] at e;cases e
 refine I.step (g':=s.gens) (d':=s.drawn) (ch:=ch) (λb hb=>?_) (λb o _ _ hc e _=>k b o hc e) (λb o _ _ hc e _=>⟨o.slots,k b o hc e⟩) (λ_ _ _ _ n=>n)
  (λb o hc e=>⟨o,k b o hc e⟩) (λ_ _ e=>e) (λ_ _ _ e=>e) (λb ps e=>⟨#[],by rw[e];simp⟩) (λm hm=>?_) (λb u e=>?_) I.bare
 ·obtain⟨f0,f1,f2,f3,f4,f5⟩:=hf b hb
  exact⟨f3,f1,f4,f5⟩
 ·obtain⟨o,es,ep,ho,r⟩:=hm
  exact⟨o,es,ep,k _ o (λz=>(hf _ z).2.1 rfl) ho,r⟩
 ·refine(I.hok b u e).stay (λc v hc q=>k c v ?_ q) (λ_ q=>q) λ_ _ q=>q
  rcases hc with z | z
  ·rw[z];exact nit b u e
  ·exact nit c _ z
end
theorem Km{env:Env}(f:Str×NameKind->List (Str×JO)->Sem (ForInStep (List (Str×JO))))(hf:∀name kind cs,f (name,kind) cs=if kind == .free then (do let a <- cellOf env name;pure (.yield ((name,a)::cs))) else pure (.yield cs)):
 ∀(names:List (Str×NameKind))(cs:List (Str×JO)),(∀n,(n,MU)∈names->∃c,env.cells.lookup n=some c)->(∀x c,cs.lookup x=some c->env.cells.lookup x=some c) ->
  ∃cl,forIn names cs f=pure cl/\(∀x c,cl.lookup x=some c->env.cells.lookup x=some c)/\(∀x,(∃c,cs.lookup x=some c)∨(x,MU)∈names->∃c,cl.lookup x=some c)
 | [],cs,_,h=>⟨cs,rfl,h,λx hx=>hx.elim (λz=>z) λz=>nomatch z⟩
 | (n,k)::r,cs,hn,h=>by
  by_cases hk:k=.free
  ·subst hk
   obtain⟨c,hc⟩:=hn n JW
   obtain⟨cl,e,h1,h2⟩:=Km f hf r ((n,c)::cs) (λm hm=>hn m (JU _ hm)) (λx d hx=>by
    by_cases hxn:x=n
    ·subst hxn
     rw[KR,beq_self_eq_true] at hx
     cases hx
     exact hc
    ·rw[KR,beq_eq_false_iff_ne.mpr hxn] at hx
     exact h x d hx)
   refine⟨cl,?_,h1,λx hx=>?_⟩
   ·rw[List.forIn_cons,hf]
    have e1:cellOf env n=pure c:=by unfold cellOf;rw[hc]
    rw[e1]
    exact e
   ·rcases hx with ⟨d,hd⟩ | hx
    ·refine h2 x (.inl ?_)
     by_cases hxn:x=n
     ·subst hxn
      exact⟨c,by rw[KR,beq_self_eq_true]⟩
     ·exact⟨d,by rw[KR,beq_eq_false_iff_ne.mpr hxn];exact hd⟩
    ·rcases JT.mp hx with e2 | hx
     ·obtain rfl:x=n:=(Prod.mk.inj e2).1
      exact h2 x (.inl ⟨c,by rw[KR,beq_self_eq_true]⟩)
     ·exact h2 x (.inr hx)
  ·have hkb:(k == MU)=false:=beq_eq_false_iff_ne.mpr hk
   obtain⟨cl,e,h1,h2⟩:=Km f hf r cs (λm hm=>hn m (JU _ hm)) h
   refine⟨cl,?_,h1,λx hx=>h2 x ?_⟩
   ·rw[List.forIn_cons,hf,hkb]
    exact e
   ·rcases hx with hx | hx
    ·exact .inl hx
    ·rcases JT.mp hx with e2 | hx
     ·cases e2
      exact absurd rfl hk
     ·exact .inr hx
theorem Zo{env:Env}{scope:Scope}(hn:∀n,(n,MU)∈scope.names->∃c,env.cells.lookup n=some c):
 ∃cl,closureFor scope env=pure cl/\(∀x c,cl.lookup x=some c->env.cells.lookup x=some c)/\∀x,(x,MU)∈scope.names->∃c,cl.lookup x=some c:=by
 obtain⟨cl,e,h1,h2⟩:=Km (env:=env) (λx cs=>match x with | (name,kind)=>if kind == .free then (do let a <- cellOf env name;pure (.yield ((name,a)::cs))) else pure (.yield cs)) (λ_ _ _=>rfl) scope.names [] hn (λx c z=>nomatch z)
 refine⟨cl,?_,h1,λx hx=>h2 x (.inr hx)⟩
 unfold closureFor
 exact Eq.trans (congrArg (λt:Sem (List (Str×JO))=>t >>= λr=>pure r) e) rfl
def IY(scope sc:Scope):Scope:=
 { scope with names:=scope.names.map λ(n,k)=>if (k == .free && sc.kind == .function && sc.names.lookup n == some .cell) then (n,.cell) else (n,k) }
def Pq(sc scope:Scope):Bool:=
 decide (scope.kind=.function) && (scope.names.all (λp=>decide (p.2 ≠ .cell)) && (scope.names.all (λp=>decide (p.2=.local->scope.names.lookup p.1=some .local)) &&
 scope.names.all (λp=>decide (p.2=.free->(sc.names.lookup p.1=some .cell∨sc.names.lookup p.1=some .free)))))
def tW(N:List Str)(scope:Scope)(fr:List (Str×Nat)):Bool:=fr.all λp=>decide (N[p.2]? = some p.1) && decide (scope.names.lookup p.1=some .free)
structure Pd(sc scope:Scope):Prop where
 kind:scope.kind=.function
 cell:∀p∈scope.names,p.2 ≠ .cell
 loc:∀p∈scope.names,p.2=.local->scope.names.lookup p.1=some .local
 free:∀n,(n,MU)∈scope.names->sc.names.lookup n=some .cell∨sc.names.lookup n=some .free
theorem hZ{sc scope:Scope}(h:Pq sc scope=true):Pd sc scope:=by
 unfold Pq at h
 rw[MJ,MJ,MJ,QI,QI,QI] at h
 obtain⟨h1,h2,h3,h4⟩:=h
 exact⟨of_decide_eq_true h1,λp hp=>of_decide_eq_true (h2 p hp),λp hp=>of_decide_eq_true (h3 p hp),λn hn=>of_decide_eq_true (h4 (n,.free) hn) rfl⟩
theorem lookup_mem{α:Type}{x:Str}{v:α}:∀ {l:List (Str×α)},l.lookup x=some v->(x,v)∈l
 | [],h=>nomatch h
 | (n,k)::r,h=>by
  rw[KR] at h
  by_cases hx:x=n
  ·subst hx
   rw[beq_self_eq_true] at h
   cases h
   exact JW
  ·rw[beq_eq_false_iff_ne.mpr hx] at h
   exact JU _ (lookup_mem h)
theorem Js{env:Env}{x:Str}:∀ {names:List (Str×NameKind)} {k:NameKind},
 (names.map λ(n,k)=>if (k == MU && env.scope.kind == .function && env.kindOf n == some .cell) then (n,NameKind.cell) else (n,k)).lookup x=some k ->
 (k=.cell/\((x,MU)∈names∨(x,NameKind.cell)∈names))∨(x,k)∈names
 | [],_,h=>nomatch h
 | (n,j)::r,k,h=>by
  have ih:=@Js env x r k
  rw[LY] at h
  by_cases hc:(j == MU && env.scope.kind == .function && env.kindOf n == some .cell)=true
  ·simp only[hc,if_true] at h
   rw[KR] at h
   by_cases hx:x=n
   ·subst hx
    rw[beq_self_eq_true] at h
    cases h
    have hj:j=.free:=by
     rw[MJ,MJ] at hc
     exact beq_iff_eq.mp hc.1.1
    subst hj
    exact .inl ⟨rfl,.inl JW⟩
   ·rw[beq_eq_false_iff_ne.mpr hx] at h
    rcases ih h with ⟨e,z | z⟩ | z
    ·exact .inl ⟨e,.inl (JU _ z)⟩
    ·exact .inl ⟨e,.inr (JU _ z)⟩
    ·exact .inr (JU _ z)
  ·simp only[hc] at h
   rw[if_neg JR,KR] at h
   by_cases hx:x=n
   ·subst hx
    rw[beq_self_eq_true] at h
    cases h
    exact .inr JW
   ·rw[beq_eq_false_iff_ne.mpr hx] at h
    rcases ih h with ⟨e,z | z⟩ | z
    ·exact .inl ⟨e,.inl (JU _ z)⟩
    ·exact .inl ⟨e,.inr (JU _ z)⟩
    ·exact .inr (JU _ z)
theorem Lz{env:Env}{x:Str}:∀ {names:List (Str×NameKind)},names.lookup x=some .free ->
 (names.map λ(n,k)=>if (k == MU && env.scope.kind == .function && env.kindOf n == some .cell) then (n,NameKind.cell) else (n,k)).lookup x=some .cell ∨
 (names.map λ(n,k)=>if (k == MU && env.scope.kind == .function && env.kindOf n == some .cell) then (n,NameKind.cell) else (n,k)).lookup x=some .free
 | [],h=>nomatch h
 | (n,j)::r,h=>by
  have ih:=@Lz env x r
  rw[LY]
  rw[KR] at h
  by_cases hx:x=n
  ·subst hx
   rw[beq_self_eq_true] at h
   cases h
   by_cases hc:(MU == MU && env.scope.kind == .function && env.kindOf x == some .cell)=true
   ·simp only[hc,if_true]
    rw[KR,beq_self_eq_true]
    exact .inl rfl
   ·simp only[hc]
    rw[if_neg JR,KR,beq_self_eq_true]
    exact .inr rfl
  ·rw[beq_eq_false_iff_ne.mpr hx] at h
   by_cases hc:(j == MU && env.scope.kind == .function && env.kindOf n == some .cell)=true
   ·simp only[hc,if_true]
    rw[KR,beq_eq_false_iff_ne.mpr hx]
    exact ih h
   ·simp only[hc]
    rw[if_neg JR,KR,beq_eq_false_iff_ne.mpr hx]
    exact ih h
theorem Wi{prog:KI}{w:LQ}{A:LM}{R:Result->JL->Prop}{s:JL}{elt target iter:Expr}{ifs:List Expr}{scope:Scope}{pos:Pos}{it acc:JH}{env:Env}(EW:JH->JL->Prop)(hE:∀x s',EW x s'->notedBy (LB prog w) A env (λy s''=>R (.error y) s'') x s')(I:Nat->JL->Prop)(turn:∀n s,I n s->KY (LB prog w) A (PB it) (λr s₁=>match r with
  | none=>R (.ok .next) s₁
  | some v=>KY (LB prog w) A (letOwnedTupleGo target it v) (λ_ s₀=>KY (LB prog w) A (assign target env v) (λ_ s₂=>
   KY (LB prog w) A (forIn ifs true λc r=>if r=true then do let ok <- isTrue c env (PD c env);pure (ForInStep.yield ok) else pure (ForInStep.yield r)) (λok s₃=>
    if ok=true then KY (LB prog w) A (PD elt env) (λx s₄=>
     KY (LB prog w) A (call (.builtin "list.append") [acc,x]) (λ_ s₅=>∃m,m < n/\I m s₅) (λ_ _=>False) s₄) EW s₃
    else ∃m,m < n/\I m s₃) EW s₂) EW s₀) (λ_ _=>False) s₁) (λ_ _=>False) s)(n:Nat)(h:I n s):RZ (LB prog w) A (.compLoop (.ListComp elt [⟨target,iter,ifs,0⟩] scope pos) 0 it acc env) R s:=by
 refine codeAny_loop rfl I (λn s hI=>?_) n h
 show KY _ A ((compTurn (.ListComp elt [⟨target,iter,ifs,0⟩] scope pos) 0 it acc env).onRaise (λx=>do noteFrame x env;theTreesLotGoes x)) _ _ s
 refine wpAny_noted ?_
 rw[compTurn_list]
 refine JE (RE (JE (ND (turn n s hI) (λr s₁ h₁=>?_) λ_ _ h'=>h'.elim)))
 cases r with
 | none=>exact JS h₁
 | some v=>
  refine JE (ND h₁ (λ_ s₀ h₀=>?_) λ_ _ h'=>h'.elim)
  refine JE (ND h₀ (λ_ s₂ h₂=>JE (ND h₂ (λok s₃ h₃=>?_) hE)) hE)
  cases ok with
  | false=>exact JS ⟨rfl,h₃⟩
  | true=>
   exact JE (JE (ND h₃ (λx s₄ h₄=>JE (ND h₄ (λ_ s₅ h₅=>JS (JS ⟨rfl,h₅⟩)) λ_ _ h'=>h'.elim)) hE))
def Ju(X:Cx)(scope:Scope)(N:List Str)(cl:List (Str×JO))(C:JO)(s:JL)(H:Hp)(fp:List JO)(pins:List (JO×Obj)):Cx where
 prog:=X.prog
 w:=X.w
 K:=X.K
 mg:=X.mg
 base:=X.base
 A:=X.A
 N:=N
 s₀:=s
 H₀:=H
 env:=compEnvC scope cl C X.env
 outer:=X.stack
 stack:=X.stack
 ex:=fp
 fn:=λ_=>false
 calm:=X.calm
 sx:=X.sx
 pn:=X.pn++pins
 xe:=λ_ _=>False
def HI(Y:Cx)(ifs:List Expr)(tc:TT):Prop:=
 ∀(pins:List (JO×Obj))(s:JL)(σ:St)(H:Hp)(Q:Bool->Hp->Prop),Inv Y pins σ H s->tc σ H Q ->
  KY (LB Y.prog Y.w) Y.A (forIn ifs true λc r=>if r=true then do let ok <- isTrue c Y.env (PD c Y.env);pure (ForInStep.yield ok) else pure (ForInStep.yield r)) (TP Y pins σ Q) Y.xe s
def Qp:TT:=λ_ H Q=>Q true H
theorem Dr{Y:Cx}:HI Y [] Qp:=λpins s σ H Q I h=>wpAny_tests_nil ⟨H,I,h⟩
theorem Uq{Y:Cx}{c:Expr}{tc:TT}(h:PT Y c tc):HI Y [c] tc:=λpins s σ H Q I hw=>wpAny_tests_one (h pins s σ H Q I hw)
def Zy(n:Nat)(g:TG):Prop:=∀v σ H (Q Q':St->Hp->Prop),(∀σ2 H2,Q σ2 H2->σ2.length=σ.length->(∀j,n<=j->σ2[j]? = σ[j]?)->Q' σ2 H2)->g v σ H Q->g v σ H Q'
def dJ(n:Nat)(g:rM):Prop:=∀v σ H (Q Q':St->Hp->Prop),(∀σ2 H2,Q σ2 H2->σ2.length=σ.length->(∀j,n<=j->σ2[j]? = σ[j]?)->Q' σ2 H2)->g v σ H Q->g v σ H Q'
theorem Bm{n i:Nat}(h:i < n):Zy n (Kk i):=λv σ H Q Q' f q=>f _ _ q (by simp) λj hj=>NN (by omega)
theorem Hn{n:Nat}:dJ n EQ:=λv σ H Q Q' f q=>⟨q.1,f _ _ q.2 rfl λ_ _=>rfl⟩
theorem Cs{n:Nat}{t:TG}{u:rM}(h1:Zy n t)(h2:dJ n u):dJ n (wM t u):=λvs σ H Q Q' f q=>by
 obtain⟨v,r,e,q⟩:=q
 exact⟨v,r,e,h1 _ _ _ _ _ (λσ' H' q1 l1 k1=>h2 _ _ _ _ _ (λσ2 H2 q2 l2 k2=>f σ2 H2 q2 (l2.trans l1) λj hj=>(k2 j hj).trans (k1 j hj)) q1) q⟩
theorem Kc{K:JG}{n m:Nat}{t:rM}(h:dJ n t):Zy n (DT K m t):=λv σ H Q Q' f q=>by
 obtain⟨a,xs,e,hq,hl,q⟩:=q
 exact⟨a,xs,e,hq,hl,h _ _ _ _ _ f q⟩
structure gX(Y:Cx)(tg:Expr)(ifs:List Expr)(elt:Expr)(g:TG)(tc:TT)(te:TE):Prop where
 tg:PG Y tg g
 ts:HI Y ifs tc
 el:PE Y elt te
def stC(n:Nat)(fr:List (Str×Nat))(σ:St):St:=LF n none++fr.map λp=>(σ[p.2]?).join
def Ey(n:Nat)(fr:List (Str×Nat))(g:TG)(tc:TT)(te:TE)(σ:St)(J:It)(H:Hp)(F:List V->Hp->Prop):Prop:=
 ∃W:Nat->Nat->List V->Hp->Prop,(∃m,W 0 m [] H)/\∀i m ys H,W i m ys H ->
  (J.stop i H/\F ys H)∨(J.go i H/\∃Nx:List V->Hp->Prop,(∀ys' H',Nx ys' H'->∃m',m' < m/\W (i+1) m' ys' H')/\∀x H',J.yld i H x H'->g x (stC n fr σ) H' λσ2 H2=>tc σ2 H2 λb H3=>
   if b=true then te σ2 H3 λy H4=>ys.length < JQ/\Nx (ys++[y]) H4 else Nx ys H3)
def xG(n:Nat)(fr:List (Str×Nat))(wi:TI)(g:TG)(tc:TT)(te:TE):TE:=λσ H Q=>wi σ H λJ H1=>Ey n fr g tc te σ J H1 λys H2=>∀p,H2 p=none->Q (.ref p) (upd H2 p (.lst ys))
abbrev lobj(its:List JH)(n:Nat):Obj:={ cls:=.type "list", data:=.seq its.toArray n }
section
variable {X:Cx} {elt iter tg:Expr} {ifs:List Expr} {scope sc:Scope} {pos:Pos} {own N:List Str} {fr:List (Str×Nat)} {g:TG} {tc:TT} {te:TE} {wi:TI}
theorem jC{pins:List (JO×Obj)}{σ:St}{H:Hp}{s:JL}{cl:List (Str×JO)}{C:JO}{fp:List JO}{N':List Str}(I:Inv X pins σ H s)(ho:Pd X.env.scope scope)(h1:∀x c,cl.lookup x=some c->X.env.cells.lookup x=some c)(h2:∀x,(x,MU)∈scope.names->∃c,cl.lookup x=some c)(hf:∀b∈fp,Df X pins H b)(hlt:∀b∈fp,b < s.heap.objs.size)(hC:s.heap.objs.size<=C):
 (Ju X scope N' cl C s H fp pins).Ok where
 mod:=I.ok.mod
 kind:=ho.kind
 glob:=I.ok.glob
 blt:=I.ok.blt
 above:=hC
 inj:=λx y c e1 e2=>I.ok.inj x y c (h1 x c e1) (h1 y c e2)
 has:=λx hx=>by
  have go:∀k,(k=.cell∨k=.free)->(relabel scope X.env).names.lookup x=some k->∃c,cl.lookup x=some c:=λk hk e=>by
   rcases Js (env:=X.env) e with ⟨_,z | z⟩ | z
   ·exact h2 x z
   ·exact absurd rfl (ho.cell _ z)
   ·rcases hk with rfl | rfl
    ·exact absurd rfl (ho.cell _ z)
    ·exact h2 x z
  rcases hx with hx | hx
  ·exact go _ (.inl rfl) hx
  ·exact go _ (.inr rfl) hx
 cab:=λx c e=>absurd e JR
 hd:=I.ok.hd
 st:=I.ok.st
 frames:=I.ok.frames
 stk:=.inl rfl
 exf:=λb hb=>⟨KQ (LI (hlt b hb) hC),λx c e=>(hf b hb).2.2.2.2.1 x c (h1 x c e)⟩
 bs:=I.bs
 bsz:=KZ I.ok.bsz I.sz
 noex:=λb o e hb=>by
  rcases (hf b hb).2.2.2.1 with z | z
  ·exact I.ok.noex b o e z
  ·exact absurd (LI (LI (KA e) I.ok.bsz) z) (PQ _)
 exfs:=λb hb z=>by
  rcases JT.mp (I.stkSub b z) with e | e
  ·exact(hf b hb).2.1 e
  ·exact(hf b hb).2.2.1 e
 funs:=I.stack
 frf:=I.stkFree
theorem Yc{pins:List (JO×Obj)}{σ:St}{H2:Hp}{s2:JL}{cl:List (Str×JO)}{fp:List JO}{it:JO}{tn:Nat->MV->Prop}{J:It}{F:List V->Hp->Prop}{RR:JH->JO->Result->JL->Prop}{E:JH->JL->Prop}(xw:Cx->JH->JL->Prop)(hcalm:X.calm=true)(ho:Pd X.env.scope scope)(hfr:∀p∈fr,X.N[p.2]? = some p.1/\scope.names.lookup p.1=some .free)(hG:Zy own.length g)(hY:∀cl C s H fp pins,gX ((Ju X scope (own++fr.map (·.1)) cl C s H fp pins).wish (xw (Ju X scope (own++fr.map (·.1)) cl C s H fp pins))) tg ifs elt g tc te)(I2:Inv X pins σ H2 s2)(T:Turn X.prog X.w X.K tg J fp it tn)(st2:tn 0 s2.heap)(f2:∀b∈fp,Df X pins H2 b)(rd:Ey own.length fr g tc te σ J H2 F)(h1:∀x c,cl.lookup x=some c->X.env.cells.lookup x=some c)(h2:∀x,(x,MU)∈scope.names->∃c,cl.lookup x=some c)(fin:∀D C s' H' ys its n' m,Inv X pins σ H' s'->Df X pins H' D->X.s₀.heap.objs.size<=D->s'.heap.get? D=some (lobj its n')->Bb ys its->ys.length<=JQ->Df X pins H' C->X.s₀.heap.objs.size<=C->C≠D->s'.heap.Ns C m->F ys H'->RR (.ref D) C (.ok .next) s')(hE:∀D C x s',s2.heap.objs.size<=C->xw (Ju X scope (own++fr.map (·.1)) cl C s2 H2 fp pins) x s'->notedBy (LB X.prog X.w) X.A (compEnvC scope cl C X.env) (λy s''=>RR (.ref D) C (.error y) s'') x s'):
 KY (LB X.prog X.w) X.A (newList []) (λacc s₃=>KY (LB X.prog X.w) X.A (newFunctionEnv scope X.env.globals cl [] X.env.qual none .none (some X.env)) (λcenv s₄=>
  RZ (LB X.prog X.w) X.A (.compStart (.ListComp elt [⟨tg,iter,ifs,0⟩] scope pos) 0 (.ref it) acc { cenv with scope:=relabel scope X.env }) (RR acc cenv.locals) s₄) E s₃) E s2:=by
 refine PJ (wpAny_newFunctionEnv ho.cell (by intro y hy;simp at hy) (λh₁ hns₁ hsb₁=>?_) ho.kind)
 dsimp only at hns₁ hsb₁ ⊢
 generalize hHH:s2.heap.push { cls:=.type "list", dict:=none,data:=.seq ([]:List JH).toArray }=HH at hns₁ hsb₁ ⊢
 have hC:HH.objs.size=s2.heap.objs.size+1:=by rw[<- hHH,OP]
 have hDC:s2.heap.objs.size≠HH.objs.size:=by rw[hC];exact KQ (QG _)
 have hCle:s2.heap.objs.size<=HH.objs.size:=by rw[hC];exact ON _
 have below:∀b,b < s2.heap.objs.size->b≠HH.objs.size:=λb hb=>by rw[hC];exact KQ (SH hb)
 have old:∀b o,s2.heap.get? b=some o->h₁.get? b=some o:=λb o e=>hsb₁.extBut b o (below b (KA e)) (JI _ (hHH ▸ JI _ e))
 have hacc:h₁.get? s2.heap.objs.size=some (lobj [] 0):=hsb₁.extBut _ _ hDC (JI _ (hHH ▸ KG _ rfl))
 have hlt:∀b∈fp,b < s2.heap.objs.size:=λb hb=>by
  obtain⟨o,e,_⟩:=T.obj 0 _ st2 b hb
  exact KA e
 have okY:=jC (N':=own++fr.map (·.1)) I2 ho h1 h2 f2 hlt hCle
 have hD0:H2 s2.heap.objs.size=none:=I2.hok.fresh (JM _)
 have hC0:H2 HH.objs.size=none:=I2.hok.fresh hCle
 have R':=hY cl HH.objs.size s2 H2 fp pins
 have hE':=hE s2.heap.objs.size HH.objs.size
 generalize hYe:Ju X scope (own++fr.map (·.1)) cl HH.objs.size s2 H2 fp pins=Y at okY R' hE'
 -- the cells of the block
 have cellY:∀x c,cl.lookup x=some c->∃v,h₁.IsCell c v:=λx c e=>by
  obtain⟨v,o,q,d⟩:=I2.cell x c (h1 x c e)
  exact⟨v,o,old c o q,d⟩
 have pinY:∀p∈X.pn++pins,h₁.get? p.1=some p.2/\H2 p.1=none/\p.1≠HH.objs.size/\p.1∉Rc X.stack/\∀v,p.2.data ≠ .cell v:=λp hp=>by
  obtain⟨e,n,ne,nf,d⟩:=I2.pin p hp
  refine⟨old _ _ e,n,below _ (KA e),λz=>?_,d⟩
  rcases JT.mp (I2.stkSub _ z) with q | q
  ·exact ne q
  ·exact nf q
 have I0:Inv Y [(s2.heap.objs.size,lobj [] 0)] (stC own.length fr σ) H2 { s2 with heap:=h₁,toks:=s2.toks+([]:List (Str×JH)).length }:=by
  subst hYe
  refine⟨okY,rfl,I2.bare,Un.kept old,⟨_,hns₁,λi x v e1 e2 e3=>?_⟩,cellY,hC0,λx c e=>I2.freeC x c (h1 x c e),λp hp=>?_,I2.hok.kept old,?_⟩
  ·-- a slot that is set is a free name's
   have hi:own.length<=i:=by
    rcases Nat.lt_or_ge i own.length with z | z
    ·have q:(stC own.length fr σ)[i]? = some none:=by
      unfold stC
      rw[KN (by simpa using z),QF,if_pos z]
     rw[q] at e2
     cases e2
    ·exact z
   have e1':(fr.map (·.1))[i-own.length]? = some x:=by
    have:(own++fr.map (·.1))[i]? = some x:=e1
    rwa [List.getElem?_append_right hi] at this
   have e2':(fr.map λp=>(σ[p.2]?).join)[i-own.length]? = some (some v):=by
    unfold stC at e2
    rwa [List.getElem?_append_right (by simpa using hi),NW] at e2
   rw[KP] at e1' e2'
   cases hp:fr[i-own.length]? with
   | none=>rw[hp] at e1';cases e1'
   | some p=>
    rw[hp] at e1' e2'
    have ep:p.1=x:=LC e1'
    have ev:(σ[p.2]?).join=some v:=LC e2'
    obtain⟨hN,hl⟩:=hfr p (KD hp)
    rw[ep] at hN hl
    have hσ:σ[p.2]? = some (some v):=by
     cases q:σ[p.2]? with
     | none=>rw[q] at ev;cases ev
     | some y=>rw[q] at ev;exact congrArg some ev
    obtain⟨m,hn,hloc⟩:=I2.loc
    have hk:=ho.free x (lookup_mem hl)
    obtain⟨u,r,l⟩:=hloc p.2 x v hN hσ (by rcases hk with z | z;exact .inr (.inl z);exact .inr (.inr z))
    refine⟨u,r,?_⟩
    rcases l with ⟨k,_⟩ | ⟨k,c,ec,hcell⟩
    ·rcases hk with z | z
     ·have k':X.env.scope.names.lookup x=some .local:=k
      rw[z] at k';cases k'
     ·have k':X.env.scope.names.lookup x=some .local:=k
      rw[z] at k';cases k'
    ·obtain⟨c',ec'⟩:=h2 x (lookup_mem hl)
     have:c'=c:=LC ((h1 x c' ec').symm.trans ec)
     subst this
     obtain⟨o,qo,qd⟩:=hcell
     exact .inr ⟨Lz (env:=X.env) hl,c',ec',o,old _ _ qo,qd⟩
  ·rcases KO.mp hp with z | z
   ·exact pinY p z
   ·have ep:p=(s2.heap.objs.size,lobj [] 0):=by simpa using z
    subst ep
    refine⟨hacc,hD0,hDC,λz=>?_,λv z=>nomatch z⟩
    rcases JT.mp (I2.stkSub _ z) with q | q
    ·exact absurd I2.lt (by rw[<- q];exact PQ _)
    ·exact I2.nofs (JM _) q
  ·show (LF own.length none++fr.map λp:Str×Nat=>(σ[p.2]?).join).length=(own++fr.map (·.1)).length
   simp
 have Yp:Y.prog=X.prog/\Y.w=X.w/\Y.K=X.K/\Y.calm=true/\Y.A=X.A/\Y.env=compEnvC scope cl HH.objs.size X.env/\(Y.xe=λ_ _=>False):=by
  subst hYe
  exact⟨rfl,rfl,rfl,hcalm,rfl,rfl,rfl⟩
 obtain⟨y1,y2,y3,y4,y5,y6,y7⟩:=Yp
 have fpY:∀ {H':Hp} {its:List JH} {n':Nat},(∀b∈fp,H' b=none)->∀b∈fp,Df Y [(s2.heap.objs.size,lobj its n')] H' b:=λ{H' its n'} hn b hb=>by
  subst hYe
  obtain⟨f0,f1,f3,f4,f5,f6⟩:=f2 b hb
  refine⟨hn b hb,below b (hlt b hb),okY.exfs b hb,.inl hb,λx c e=>f5 x c (h1 x c e),λp hp=>?_⟩
  rcases KO.mp hp with z | z
  ·exact f6 p z
  ·have ep:p=(s2.heap.objs.size,lobj its n'):=by simpa using z
   subst ep
   exact OG (hlt b hb)
 have hYlen:∀ {H':Hp} {s':JL} {pl:List (JO×Obj)} {σ':St},Inv Y pl σ' H' s'->σ'.length=(stC own.length fr σ).length->(∀j,own.length<=j->σ'[j]? = (stC own.length fr σ)[j]?)->Inv Y pl (stC own.length fr σ) H' s':=λI hl hk=>by
  refine I.weak hl.symm λi v e=>?_
  rcases Nat.lt_or_ge i own.length with z | z
  ·have q:(stC own.length fr σ)[i]? = some none:=by
    unfold stC
    rw[KN (by simpa using z),QF,if_pos z]
   rw[q] at e
   cases e
  ·rw[hk i z];exact e
 obtain⟨W,⟨m0,w0⟩,turn⟩:=rd
 have loop:∀s₃:JL,s₃={ s2 with heap:=h₁,toks:=s2.toks+([]:List (Str×JH)).length } ->
  RZ (LB X.prog X.w) X.A (.compLoop (.ListComp elt [⟨tg,iter,ifs,0⟩] scope pos) 0 (.ref it) (.ref s2.heap.objs.size) (compEnvC scope cl HH.objs.size X.env)) (RR (.ref s2.heap.objs.size) HH.objs.size) s₃:=by
  rintro s₃ rfl
  refine Wi (xw Y) (λx s' h=>hE' x s' hCle h) (λn s'=>∃i ys its n' H',Inv Y [(s2.heap.objs.size,lobj its n')] (stC own.length fr σ) H' s'/\tn i s'.heap/\(∀b∈fp,H' b=none)/\Bb ys its/\ys.length<=JQ/\W i n ys H') ?_ m0
   ⟨0,[],[],0,H2,I0,T.keep _ _ _ st2 λb _ o e=>old b o e,λb hb=>(f2 b hb).1,.nil,LK _,w0⟩
  rintro n s3 ⟨i,ys,its,n',H3,I3,st3,fr3,rv,hz,w3⟩
  have pinD:=I3.pin (s2.heap.objs.size,lobj its n') (KC _ (by simp))
  rcases turn i n ys H3 w3 with ⟨stop,qn⟩ | ⟨go,Nx,hNx,step⟩
  ·have q:=T.done Y y1 y2 y3 y4 i _ s3 _ H3 (λ_ _=>False) I3 (fpY fr3) st3 stop
   rw[y5] at q
   refine Bu q λr s4 ⟨hr,I4⟩=>?_
   subst hr
   have pinD4:=I4.pin (s2.heap.objs.size,lobj its n') (KC _ (by simp))
   obtain⟨m,hm,_⟩:=I4.loc
   have IX:Inv X pins σ H3 s4:=by
    subst hYe
    exact I2.call' (ch:=fp) I4.os I4.base I4.hok I4.bare λb hb=>⟨(f2 b hb).2.2.2.1,(f2 b hb).2.1,(f2 b hb).2.2.2.2.1,(f2 b hb).2.2.2.2.2⟩
   rw[y6] at hm
   have hCf:H3 HH.objs.size=none:=by
    have z:=I4.free
    rw[y6] at z
    exact z
   refine fin s2.heap.objs.size HH.objs.size s4 H3 ys its n' m IX (I2.fpOk (JM _) pinD4.2.1) I2.sz pinD4.1 rv hz (I2.fpOk hCle hCf) (KZ I2.sz hCle) (LL hDC) hm qn
  ·have q:=T.item Y y1 y2 y3 y4 i _ s3 _ H3 (λ_ _=>False) I3 (fpY fr3) st3 go
   rw[y5] at q
   refine Bu q λr s4 ⟨u,hr,h4⟩=>?_
   subst hr
   refine Bu h4 λ_ s5 ⟨x,H5,I5,r5,y5',st5,fr5⟩=>?_
   have I5':=I5.pinned (fpY fr5) (T.obj _ _ st5)
   have q6:KY (LB Y.prog Y.w) Y.A (assign tg Y.env u) _ (xw Y) s5:=R'.tg _ s5 _ H5 x u _ (I5'.wish _) r5 (hG _ _ _ _ _ (λσ2 H2' qq l k=>(⟨qq,l,k⟩:_/\_/\_)) (step x H5 y5'))
   rw[y1,y2,y5,y6] at q6
   refine Bu q6 λ_ s6 ⟨σ6,H6,I6,qt,hl6,hk6⟩=>?_
   have q7:KY (LB Y.prog Y.w) Y.A (forIn ifs true λc r=>if r=true then do let ok <- isTrue c Y.env (PD c Y.env);pure (ForInStep.yield ok) else pure (ForInStep.yield r)) _ (xw Y) s6:=R'.ts _ s6 _ H6 _ I6 qt
   rw[y1,y2,y5,y6] at q7
   refine Bu q7 λok s7 ⟨H7,I7,q7⟩=>?_
   -- a turn's end: the iterator's records and the list are pinned as they were
   have again:∀ {s8:JL} {H8:Hp} {ys8:List V} {its8:List JH} {n8:Nat},Inv Y [(s2.heap.objs.size,lobj its8 n8)] σ6 H8 s8->(∀b∈fp,∀o,s5.heap.get? b=some o->s8.heap.get? b=some o)->(∀b∈fp,H8 b=none)->Bb ys8 its8->ys8.length<=JQ->Nx ys8 H8 ->
    ∃m,m < n/\∃i ys its n' H',Inv Y [(s2.heap.objs.size,lobj its n')] (stC own.length fr σ) H' s8/\tn i s8.heap/\(∀b∈fp,H' b=none)/\Bb ys its/\ys.length<=JQ/\W i m ys H':=λ{s8 H8 ys8 its8 n8} I8 kp fr8 rv8 hz8 nx=>by
    obtain⟨m',hm,w8⟩:=hNx ys8 H8 nx
    exact⟨m',hm,i+1,ys8,its8,n8,H8,hYlen I8 hl6 hk6,T.keep _ _ _ st5 kp,fr8,rv8,hz8,w8⟩
   cases ok with
   | false=>
    rw[if_neg JR] at q7 ⊢
    refine again I7.unwish.unpinned (λb hb o e=>(I7.pin (b,o) (KC _ (KC _ (Fg hb e)))).1) (λb hb=>?_) rv hz q7
    obtain⟨o,e,d⟩:=T.obj _ _ st5 b hb
    exact(I7.pin (b,o) (KC _ (KC _ (Fg hb e)))).2.1
   | true=>
    rw[if_pos rfl] at q7 ⊢
    have q8:KY (LB Y.prog Y.w) Y.A (PD elt Y.env) _ (xw Y) s7:=R'.el _ s7 _ H7 _ I7 q7
    rw[y1,y2,y5,y6] at q8
    refine Bu q8 λv s8 ⟨yv,H8,I8,r8,hsz,nx⟩=>?_
    have pin8:=I8.pin (s2.heap.objs.size,lobj its n') (KC _ (ML _ (by simp)))
    refine wpAny_list_append_plain (hsz:=by have:=rv.length;simp only[KU];omega) ⟨n',pin8.1⟩ λh9 ⟨n9,e9⟩ sb=>?_
    have Iu:=I8.unwish.pins_of (pins':=[]) (λp hp=>nomatch hp)
    have DF:Df Y [] H8 s2.heap.objs.size:=by
     subst hYe
     refine⟨pin8.2.1,hDC,pin8.2.2.2.1,.inr (JM _),λx c e=>?_,λp hp=>?_⟩
     ·obtain⟨w',o,qo,_⟩:=I2.cell x c (h1 x c e)
      exact KQ (KA qo)
     ·have hp':p∈X.pn++pins:=by
       rw[MD] at hp
       exact hp
      exact KQ (KA (I2.pin p hp').1)
    have I9:Inv Y [] σ6 H8 { s8 with heap:=h9 }:=Iu.turns (t':=s8.toks) (ch:=[s2.heap.objs.size]) (λb o hb e=>(sb.2 b (by simpa using hb)).trans e) (λb hb=>by
     have e:b=s2.heap.objs.size:=by simpa using hb
     subst e
     exact DF)
    have e9':h9.get? s2.heap.objs.size=some (lobj (its++[v]) n9):=by
     rw[e9]
     simp
    have I10:Inv Y [(s2.heap.objs.size,lobj (its++[v]) n9)] σ6 H8 { s8 with heap:=h9 }:=I9.pins_of λp hp=>by
     have ep:p=(s2.heap.objs.size,lobj (its++[v]) n9):=by simpa using hp
     subst ep
     exact⟨e9',pin8.2.1,pin8.2.2.1,pin8.2.2.2.1,λw' z=>nomatch z⟩
    refine again I10 (λb hb o e=>(sb.2 b (KQ (hlt b hb))).trans (I8.pin (b,o) (KC _ (KC _ (Fg hb e)))).1) (λb hb=>?_) (rv.append (.cons r8 .nil)) (by simp;omega) nx
    obtain⟨o,e,d⟩:=T.obj _ _ st5 b hb
    exact(I8.pin (b,o) (KC _ (KC _ (Fg hb e)))).2.1
 exact codeAny_compStart_list (loop _ rfl) (T.self _ 0 _ _ _ (T.keep _ _ _ st2 λb _ o e=>old b o e) (loop _ rfl))
theorem Ov{pins:List (JO×Obj)}{σ:St}{H2:Hp}{s2:JL}{cl:List (Str×JO)}{fp:List JO}{it:JO}{tn:Nat->MV->Prop}{J:It}{F:List V->Hp->Prop}{RR:JH->JO->Result->JL->Prop}{E:JH->JL->Prop}(hcalm:X.calm=true)(ho:Pd X.env.scope scope)(hfr:∀p∈fr,X.N[p.2]? = some p.1/\scope.names.lookup p.1=some .free)(hG:Zy own.length g)(hY:∀cl C s H fp pins,gX (Ju X scope (own++fr.map (·.1)) cl C s H fp pins) tg ifs elt g tc te)(I2:Inv X pins σ H2 s2)(T:Turn X.prog X.w X.K tg J fp it tn)(st2:tn 0 s2.heap)(f2:∀b∈fp,Df X pins H2 b)(rd:Ey own.length fr g tc te σ J H2 F)(h1:∀x c,cl.lookup x=some c->X.env.cells.lookup x=some c)(h2:∀x,(x,MU)∈scope.names->∃c,cl.lookup x=some c)(fin:∀D C s' H' ys its n' m,Inv X pins σ H' s'->Df X pins H' D->X.s₀.heap.objs.size<=D->s'.heap.get? D=some (lobj its n')->Bb ys its->ys.length<=JQ->Df X pins H' C->X.s₀.heap.objs.size<=C->C≠D->s'.heap.Ns C m->F ys H'->RR (.ref D) C (.ok .next) s'):
 KY (LB X.prog X.w) X.A (newList []) (λacc s₃=>KY (LB X.prog X.w) X.A (newFunctionEnv scope X.env.globals cl [] X.env.qual none .none (some X.env)) (λcenv s₄=>
  RZ (LB X.prog X.w) X.A (.compStart (.ListComp elt [⟨tg,iter,ifs,0⟩] scope pos) 0 (.ref it) acc { cenv with scope:=relabel scope X.env }) (RR acc cenv.locals) s₄) E s₃) E s2:=
 Yc (λ_ _ _=>False) hcalm ho hfr hG hY I2 T st2 f2 rd h1 h2 fin λ_ _ _ _ _ h=>h.elim
theorem Pe{pins:List (JO×Obj)}{σ:St}{H:Hp}{s:JL}(I:Inv X pins σ H s)(hsc:X.env.scope=sc)(hok:Pq sc scope=true)(hNN:X.N=N)(hfr:tW N scope fr=true):
 Pd X.env.scope scope/\(∀p∈fr,X.N[p.2]? = some p.1/\scope.names.lookup p.1=some .free) /\
 ∃cl,closureFor scope X.env=pure cl/\(∀x c,cl.lookup x=some c->X.env.cells.lookup x=some c)/\∀x,(x,MU)∈scope.names->∃c,cl.lookup x=some c:=by
 subst hsc hNN
 have ho:=hZ hok
 refine⟨ho,λp hp=>?_,Zo λn hn=>I.ok.has n (ho.free n hn)⟩
 unfold tW at hfr
 rw[QI] at hfr
 have q:=hfr p hp
 rw[MJ] at q
 exact⟨of_decide_eq_true q.1,of_decide_eq_true q.2⟩
theorem He(sc:Scope)(N own:List Str)(fr:List (Str×Nat))(hcalm:X.calm=true)(hi:PI X tg iter wi)(hG:Zy own.length g)(hY:∀cl C s H fp pins,gX (Ju X scope (own++fr.map (·.1)) cl C s H fp pins) tg ifs elt g tc te)(hsc:X.env.scope=sc:=by rfl)(hok:Pq sc scope=true:=by decide +kernel)(hNN:X.N=N:=by rfl)(hfr:tW N scope fr=true:=by decide +kernel)(hs:∀x,foldedSetIterable iter X.env x=pure x:=by intro _;rfl):
 PE X (.ListComp elt [⟨tg,iter,ifs,0⟩] scope pos) (xG own.length fr wi g tc te):=by
 intro pins s σ H Q I h
 obtain⟨ho,hfr',cl,hcl,c1,c2⟩:=Pe I hsc hok hNN hfr
 rw[eval_ListComp]
 refine wpAny_comprehension_free (use:=none) rfl hs hcl ho.kind ho.loc (Bu (hi pins s σ H _ I h) λv s1 q1=>Bu q1 λitv s2 q2=>?_)
 obtain⟨it,fp,tn,J,H2,e,I2,T,st2,f2,rd⟩:=q2
 subst e
 refine Ov (RR:=λacc C=>compPost (LB X.prog X.w) X.A X.xe none (EP X pins σ Q) acc C) hcalm ho hfr' hG hY I2 T st2 f2 rd c1 c2 ?_
 intro D C s' H' ys its n' m I' fD zD eD rv hz fC zC hCD hm hF
 refine⟨m,hm,λh' sb=>?_⟩
 have I3:Inv X pins σ H' { s' with heap:=h' }:=I'.turns (t':=s'.toks) (ch:=[C]) (λb o hb e=>(sb.2 b (by simpa using hb)).trans e) (λb hb=>by
  have e:b=C:=by simpa using hb
  subst e
  exact fC)
 exact⟨.ref D,_,I3.adopt (o:=.lst ys) fD.1 fD.2.1 zD fD.2.2.2.2.1 fD.2.2.2.2.2 ⟨hz,its,n',rv,(sb.2 D (LL hCD)).trans eD⟩,rfl,hF D fD.1⟩
theorem Dd{i:Nat}{x:Str}{pos' spos:Pos}(sc:Scope)(N own:List Str)(fr:List (Str×Nat))(hcalm:X.calm=true)(hN:X.N.Nodup)(hx':X.N[i]? = some x)(hx:X.env.scope.names.lookup x=some .local)(hi:PI X tg iter wi)(hG:Zy own.length g)(hY:∀cl C s H fp pins,gX (Ju X scope (own++fr.map (·.1)) cl C s H fp pins) tg ifs elt g tc te)(hsw:swapsWith (.ListComp elt [⟨tg,iter,ifs,0⟩] scope pos) (some (.Name x pos')) spos.line X.env=pure true:=by rfl)(hsc:X.env.scope=sc:=by rfl)(hok:Pq sc scope=true:=by decide +kernel)(hNN:X.N=N:=by rfl)(hfr:tW N scope fr=true:=by decide +kernel)(hs:∀x,foldedSetIterable iter X.env x=pure x:=by intro _;rfl):
 PS X (.Assign [.Name x pos'] (.ListComp elt [⟨tg,iter,ifs,0⟩] scope pos) spos) (Wz (xG own.length fr wi g tc te) (Kk i)):=by
 intro pins s σ H D0 I h
 obtain⟨ho,hfr',cl,hcl,c1,c2⟩:=Pe I hsc hok hNN hfr
 rw[exec_Assign_Name_used _ _ _ _ hsw]
 refine JE (RE (JE ?_))
 show KY _ X.A (do let _ <- comprehension (.ListComp elt [⟨tg,iter,ifs,0⟩] scope pos) scope X.env _ (newList []) false (PD iter X.env) (some (assign (.Name x pos') X.env))) _ _ s
 refine JE (ND (wpAny_comprehension_free (use:=some (assign (.Name x pos') X.env)) (Q:=λ_ s'=>SP X pins D0 .next s') rfl hs hcl ho.kind ho.loc
  (Bu (hi pins s σ H _ I h) λv s1 q1=>Bu q1 λitv s2 q2=>?_)) (λ_ s' hq=>JS (JS hq)) λ_ _ e=>e)
 obtain⟨it,fp,tn,J,H2,e,I2,T,st2,f2,rd⟩:=q2
 subst e
 refine Ov (RR:=λacc C=>compPost (LB X.prog X.w) X.A X.xe (some (assign (.Name x pos') X.env)) (λ_ s'=>SP X pins D0 .next s') acc C) hcalm ho hfr' hG hY I2 T st2 f2 rd c1 c2 ?_
 intro D C s' H' ys its n' m I' fD zD eD rv hz fC zC hCD hm hF
 show KY _ X.A (assign (.Name x pos') X.env (.ref D)) _ _ _
 have I3:Inv X pins σ (upd H' D (.lst ys)) s':=I'.adopt (o:=.lst ys) fD.1 fD.2.1 zD fD.2.2.2.2.1 fD.2.2.2.2.2 ⟨hz,its,n',rv,eD⟩
 obtain⟨oC,es,ep,hoC,dC,rC⟩:=id hm
 have nC:(upd H' D (.lst ys)) C=none:=by rw[Aj hCD];exact fC.1
 have I4:Inv X (pins++[(C,oC)]) σ (upd H' D (.lst ys)) s':=I3.pins_of λp hp=>by
  rcases KO.mp hp with z | z
  ·exact I3.pin p (KC _ z)
  ·have e:p=(C,oC):=by simpa using z
   subst e
   exact⟨hoC,nC,fC.2.1,fC.2.2.1,λv z=>by rw[dC] at z;cases z⟩
 refine wpAny_assign_Name (Po I4 hN hx' (.inl hx) (v:=.ref D) rfl (λs5 I5=>?_) (.inr hx))
 have p5:=I5.pin (C,oC) (KC _ (KC _ (by simp)))
 refine⟨m,⟨oC,es,ep,p5.1,dC,rC⟩,λh' sb=>?_⟩
 have I6:Inv X pins (σ.set i (some (.ref D))) (upd H' D (.lst ys)) { s5 with heap:=h' }:=I5.unpinned.turns (t':=s5.toks) (ch:=[C]) (λb o hb e=>(sb.2 b (by simpa using hb)).trans e) (λb hb=>by
  have e:b=C:=by simpa using hb
  subst e
  exact⟨nC,fC.2⟩)
 exact⟨_,_,I6,hF D fD.1⟩
end
theorem Qj{K:JG}{a:JO}{xs:List V}{n:Nat}{fr:List (Str×Nat)}{g:TG}{tc:TT}{te:TE}{σ:St}{H:Hp}{F:List V->Hp->Prop}(Pv:Nat->List V->Hp->Prop)(h0:Pv 0 [] H)(hl:∀i ys H,i<=xs.length->Pv i ys H->Aw K H a xs)(hs:∀i x ys H,xs[i]? = some x->Pv i ys H->g x (stC n fr σ) H λσ2 H2=>tc σ2 H2 λb H3=>if b=true then te σ2 H3 λy H4=>ys.length < JQ/\Pv (i+1) (ys++[y]) H4 else Pv (i+1) ys H3)(hd:∀ys H,Pv xs.length ys H->F ys H):Ey n fr g tc te σ (AD K a) H F:=by
 refine⟨λi m ys H=>m=xs.length-i/\i<=xs.length/\Pv i ys H,⟨xs.length,by simp,LK _,h0⟩,?_⟩
 rintro i m ys H ⟨rfl,hi,p⟩
 have q:=hl i ys H hi p
 by_cases hlt:i < xs.length
 ·refine .inr ⟨⟨xs,xs[i],q,by simp[hlt]⟩,Pv (i+1),λys' H' p'=>⟨xs.length-(i+1),by omega,rfl,hlt,p'⟩,λx H' y=>?_⟩
  obtain⟨e,y⟩:=y
  subst e
  exact hs i x ys _ (y xs q) p
 ·have e:i=xs.length:=by omega
  subst e
  exact .inl ⟨⟨xs,q,JM _⟩,hd ys H p⟩
theorem Xz{lo:Int}{k n:Nat}{fr:List (Str×Nat)}{g:TG}{tc:TT}{te:TE}{σ:St}{H:Hp}{F:List V->Hp->Prop}(Pv:Nat->List V->Hp->Prop)(h0:Pv 0 [] H)(hs:∀i ys H,i < k->Pv i ys H->g (.int (lo+i)) (stC n fr σ) H λσ2 H2=>tc σ2 H2 λb H3=>if b=true then te σ2 H3 λy H4=>ys.length < JQ/\Pv (i+1) (ys++[y]) H4 else Pv (i+1) ys H3)(hd:∀ys H,Pv k ys H->F ys H):Ey n fr g tc te σ (sS lo k) H F:=by
 refine⟨λi m ys H=>m=k-i/\i<=k/\Pv i ys H,⟨k,by simp,LK _,h0⟩,?_⟩
 rintro i m ys H ⟨rfl,hi,p⟩
 by_cases hlt:i < k
 ·refine .inr ⟨hlt,Pv (i+1),λys' H' p'=>⟨k-(i+1),by omega,rfl,hlt,p'⟩,λx H' y=>?_⟩
  obtain⟨e,y⟩:=y
  subst e y
  exact hs i ys _ hlt p
 ·have e:i=k:=by omega
  subst e
  exact .inl ⟨JM _,hd ys H p⟩
def yF(K:JG)(a b:JO):It:=
 ⟨λi H=>∃xs ys x y,Aw K H a xs/\Aw K H b ys/\xs[i]? = some x/\ys[i]? = some y,
  λi H v H'=>∃T x y,H T=none/\v=.ref T/\H'=upd H T (.tup [x,y])/\(∀xs,Aw K H a xs->xs[i]? = some x)/\∀ys,Aw K H b ys->ys[i]? = some y,
  λi H=>∃xs ys,Aw K H a xs/\Aw K H b ys/\(xs.length<=i∨ys.length<=i)⟩
theorem ap(n i j:Nat)(h:i≠j):n+i≠n+j:=λe=>h (Nat.add_left_cancel e)
theorem kY(n i:Nat):n<=n+i:=QH n i
theorem Kt{h:MV}{a b:JO}{o u:Obj}(e:h.get? a=some o)(e':h.get? b=some u)(d:o.cls≠u.cls):a≠b:=by
 intro z
 subst z
 rw[e] at e'
 cases e'
 exact d rfl
theorem Tc{h:MV}{n a b:JO}{i:Nat}{f0:JH}{pa pb:JH}{xs ys:Array JH}(hz:IsZip h (n+4) (n+2) (n+3) f0)(hTO:QJ h (n+3) pa pb)(h1:h.IsListIter n a i)(h2:h.IsListIter (n+1) b i)(l1:h.IsList a xs)(l2:h.IsList b ys):
 ZipApart (n+4) (n+2) (n+3) n (n+1) a b:=by
 obtain⟨o1,e1,c1,_⟩:=l1
 obtain⟨o2,e2,c2,_⟩:=l2
 obtain⟨p1,q1,d1,_⟩:=h1
 obtain⟨p2,q2,d2,_⟩:=h2
 have nz:∀ {c:JO} {o:Obj},h.get? c=some o->o.cls=.type "list" -> c≠n+4/\c≠n+3/\c≠n/\c≠n+1:=λ{c o} e z=>
  ⟨Kt e hz (by rw[z];show OT "list" ≠ OT "zip"; decide),Kt e hTO (by rw[z];show OT "list" ≠ OT "tuple"; decide),Kt e q1 (by rw[z,d1];decide),Kt e q2 (by rw[z,d2];decide)⟩
 obtain⟨a1,a2,a3,a4⟩:=nz e1 c1
 obtain⟨b1,b2,b3,b4⟩:=nz e2 c2
 exact⟨ap n 2 4 (by decide),ap n 3 4 (by decide),ap n 0 4 (by decide),ap n 1 4 (by decide),ap n 2 3 (by decide),ap n 2 0 (by decide),ap n 2 1 (by decide),ap n 3 0 (by decide),ap n 3 1 (by decide),ap n 0 1 (by decide),a1,a2,a3,a4,b1,b2,b3,b4⟩
theorem qA{P:KI}{w:LQ}{K:JG}{elts:List Expr}{kk:Nat}{tpos:Pos}(n a b:JO):Turn P w K (.Tuple elts kk tpos) (yF K a b) [n+4,n+2,n+3,n,n+1] (n+4)
 (λi h=>IsZip h (n+4) (n+2) (n+3) .none/\QJ h (n+2) (.ref n) (.ref (n+1))/\(∃p q,QJ h (n+3) p q)/\h.IsListIter n a i/\h.IsListIter (n+1) b i) where
 mem:=by simp
 obj:=λi h st c hc=>by
  obtain⟨hz,hTI,⟨p,q,hTO⟩,⟨o1,e1,c1,d1⟩,⟨o2,e2,c2,d2⟩⟩:=st
  simp only[JT,KL,or_false] at hc
  rcases hc with rfl | rfl | rfl | rfl | rfl
  ·exact⟨_,hz,λv z=>nomatch z⟩
  ·exact⟨_,hTI,λv z=>nomatch z⟩
  ·exact⟨_,hTO,λv z=>nomatch z⟩
  ·exact⟨_,e1,λv z=>by rw[d1] at z;cases z⟩
  ·exact⟨_,e2,λv z=>by rw[d2] at z;cases z⟩
 keep:=λi h h' st k=>by
  obtain⟨hz,hTI,⟨p,q,hTO⟩,h1,h2⟩:=st
  exact⟨k _ (by simp) _ hz,k _ (by simp) _ hTI,⟨p,q,k _ (by simp) _ hTO⟩,h1.at λo e=>k _ (by simp) o e,h2.at λo e=>k _ (by simp) o e⟩
 item:=by
  intro X hP hw hK hc i pins s σ H E I hf st hg
  subst hP hw hK
  obtain⟨xs,ys,x,y,hq1,hq2,hx,hy⟩:=hg
  obtain⟨its1,rv1,p1,_⟩:=I.list hq1
  obtain⟨its2,rv2,p2,_⟩:=I.list hq2
  obtain⟨u1,hu1,ru1⟩:=rv1.get hx
  obtain⟨u2,hu2,ru2⟩:=rv2.get hy
  obtain⟨hz,hTI,⟨pa,pb,hTO⟩,h1,h2⟩:=st
  have D:=Tc hz hTO h1 h2 p1.isList p2.isList
  refine wpAny_pyNext_zip_item D hz hTI hTO h1 h2 p1.isList p2.isList (x:=u1) (y:=u2) (by simpa using hu1) (by simpa using hu2) λh' a1 a2 a3 a4 a5 a6 k=>?_
  refine⟨_,rfl,wpAny_letOwnedTupleGo_zip a1 λh2' hz2 sb=>?_⟩
  have lt:∀c∈[n+4,n+2,n+3,n,n+1],c≠s.heap.objs.size:=λc hc=>by
   simp only[JT,KL,or_false] at hc
   obtain⟨_,q1,_,_⟩:=id h1
   obtain⟨_,q2,_,_⟩:=id h2
   rcases hc with rfl | rfl | rfl | rfl | rfl
   ·exact KQ (KA hz)
   ·exact KQ (KA hTI)
   ·exact KQ (KA hTO)
   ·exact KQ (KA q1)
   ·exact KQ (KA q2)
  have kk2:∀c o,c∉[n+4,n+3,n,n+1]->s.heap.get? c=some o->h2'.get? c=some o:=λc o hc e=>by
   simp only[JT,KL,or_false,not_or] at hc
   exact(sb.2 c hc.1).trans (k c o hc.1 hc.2.1 hc.2.2.1 hc.2.2.2 e)
  have I1:Inv X pins σ H { s with heap:=h2' }:=I.turns (t':=s.toks) (ch:=[n+4,n+3,n,n+1]) kk2 λc hc=>by
   simp only[JT,KL,or_false] at hc
   exact hf c (by simp only[JT,KL,or_false];rcases hc with z | z | z | z<;>simp[z])
  have fT:Df X pins H s.heap.objs.size:=I.fpOk (JM _) (I.hok.fresh (JM _))
  have eT:h2'.get? s.heap.objs.size=some { cls:=.type "tuple", data:=.seq #[u1,u2] }:=(sb.2 _ (LL (lt (n+4) (by simp)))).trans a5
  refine⟨.ref s.heap.objs.size,_,I1.adopt (o:=.tup [x,y]) fT.1 fT.2.1 I.sz fT.2.2.2.2.1 fT.2.2.2.2.2 ⟨by show 2<=JQ;decide,[u1,u2],.cons ru1 (.cons ru2 .nil),⟨_,eT,rfl,0,rfl⟩⟩,rfl,⟨_,x,y,fT.1,rfl,rfl,λzs hzs=>?_,λzs hzs=>?_⟩,?_,λc hc=>?_⟩
  ·rw[I.list_inj hzs hq1];exact hx
  ·rw[I.list_inj hzs hq2];exact hy
  ·refine⟨hz2,(sb.2 _ (ap n 2 4 (by decide))).trans (k _ _ (ap n 2 4 (by decide)) (ap n 2 3 (by decide)) (ap n 2 0 (by decide)) (ap n 2 1 (by decide)) hTI),⟨u1,u2,(sb.2 _ (ap n 3 4 (by decide))).trans a2⟩,a3.at λo e=>(sb.2 _ (ap n 0 4 (by decide))).trans e,a4.at λo e=>(sb.2 _ (ap n 1 4 (by decide))).trans e⟩
  ·rw[Aj (lt c hc)]
   exact(hf c hc).1
 done:=by
  intro X hP hw hK hc i pins s σ H E I hf st hg
  subst hP hw hK
  obtain⟨xs,ys,hq1,hq2,hx⟩:=hg
  obtain⟨its1,rv1,p1,_⟩:=I.list hq1
  obtain⟨its2,rv2,p2,_⟩:=I.list hq2
  obtain⟨hz,hTI,⟨pa,pb,hTO⟩,h1,h2⟩:=st
  have D:=Tc hz hTO h1 h2 p1.isList p2.isList
  have l1:=rv1.length
  have l2:=rv2.length
  refine AC (I.calmS hc) D hz hTI hTO h1 h2 p1.isList p2.isList (by
   rcases hx with z | z
   ·exact .inl (by simp;omega)
   ·exact .inr (by simp;omega)) λh' k=>⟨rfl,?_⟩
  refine I.turns (t':=s.toks) (ch:=[n+4,n+3,n,n+1]) (λc o hc e=>?_) λc hc=>?_
  ·simp only[JT,KL,or_false,not_or] at hc
   exact k c o hc.1 hc.2.1 hc.2.2.1 hc.2.2.2 e
  ·simp only[JT,KL,or_false] at hc
   exact hf c (by simp only[JT,KL,or_false];rcases hc with z | z | z | z<;>simp[z])
 self:=λ_ _ _ _ _ st h=>wpAny_pyIter_zip st.1 h
def HN(K:JG)(ta:TA):TI:=λσ H R=>ta σ H λvs H1=>∃a b,vs=[.ref a,.ref b]/\(∃xs,Aw K H1 a xs)/\(∃ys,Aw K H1 b ys)/\R (yF K a b) H1
theorem Vy{X:Cx}{elts:List Expr}{kk:Nat}{tpos:Pos}{a b:Expr}{ta:TA}{p pos:Pos}(hg:Gl X "zip")(hm:X.mg "zip" = none)(ha:PA X [a,b] ta)(hs:KW [a,b] X.env=[(false,PD a X.env),(false,PD b X.env)]:=by rfl)(hs2:KW [b] X.env=[(false,PD b X.env)]:=by rfl):
 PI X (.Tuple elts kk tpos) (.Call (.Name "zip" p) [a,b] [] pos) (HN X.K ta):=by
 intro pins s σ H R I h
 refine Call_ (Io I hg hm boot_zip (NH (Bu (ha pos pins s σ H _ I h) λus s1 ⟨vs,H1,I1,r1,q1⟩=>?_) (by rw[hs,hs2]) (by rw[hs2];rfl)))
 obtain⟨a',b',e,⟨xs,hq1⟩,⟨ys,hq2⟩,q⟩:=q1
 subst e
 obtain⟨u,w',rfl,r,r'⟩:=vals2 r1
 cases r
 cases r'
 obtain⟨its1,rv1,p1,_⟩:=I1.list hq1
 obtain⟨its2,rv2,p2,_⟩:=I1.list hq2
 refine call_zip_2 p1.isList p2.isList λh' z1 z2 z3 z4 z5 z6 k=>wpAny_pyIter_zip (s:={ s1 with heap:=h' }) z1 ?_
 refine⟨s1.heap.objs.size+4,[s1.heap.objs.size+4,s1.heap.objs.size+2,s1.heap.objs.size+3,s1.heap.objs.size,s1.heap.objs.size+1],_,_,H1,rfl,I1.kept (t':=s1.toks) k,qA s1.heap.objs.size a' b',⟨z1,z2,⟨_,_,z3⟩,z4,z5⟩,λc hc=>?_,q⟩
 have hle:s1.heap.objs.size<=c:=by
  simp only[JT,KL,or_false] at hc
  rcases hc with rfl | rfl | rfl | rfl | rfl
  ·exact kY _ 4
  ·exact kY _ 2
  ·exact kY _ 3
  ·exact kY _ 0
  ·exact kY _ 1
 exact I1.fpOk hle (I1.hok.fresh hle)
def BE(K:JG)(a:JO):It:=
 ⟨λi H=>∃xs x,Aw K H a xs/\xs[i]? = some x,
  λi H v H'=>∃T x,H T=none/\v=.ref T/\H'=upd H T (.tup [.int i,x])/\∀xs,Aw K H a xs->xs[i]? = some x,
  λi H=>∃xs,Aw K H a xs/\xs.length<=i⟩
theorem jH{P:KI}{w:LQ}{K:JG}{elts:List Expr}{kk:Nat}{tpos:Pos}(n a:JO):Turn P w K (.Tuple elts kk tpos) (BE K a) [n+1,n] (n+1)
 (λi h=>(∃old,IsEnum h (n+1) n i old)/\h.IsListIter n a i) where
 mem:=by simp
 obj:=λi h st c hc=>by
  obtain⟨⟨old,he⟩,⟨o1,e1,c1,d1⟩⟩:=st
  simp only[JT,KL,or_false] at hc
  rcases hc with rfl | rfl
  ·exact⟨_,he,λv z=>nomatch z⟩
  ·exact⟨_,e1,λv z=>by rw[d1] at z;cases z⟩
 keep:=λi h h' st k=>by
  obtain⟨⟨old,he⟩,h1⟩:=st
  exact⟨⟨old,k _ (by simp) _ he⟩,h1.at λo e=>k _ (by simp) o e⟩
 item:=by
  intro X hP hw hK hc i pins s σ H E I hf st hg
  subst hP hw hK
  obtain⟨xs,x,hq,hx⟩:=hg
  obtain⟨its,rv,p,_⟩:=I.list hq
  obtain⟨u,hu,ru⟩:=rv.get hx
  obtain⟨⟨old,he⟩,h1⟩:=st
  refine wpAny_pyNext_enum_item he h1 p.isList (x:=u) (by simpa using hu) (ap n 1 0 (by decide)) λh' a1 a2 a3 a4 k=>?_
  refine⟨_,rfl,wpAny_letOwnedTupleGo_enum a1 λh2' he2 sb=>?_⟩
  have lt:∀c∈[n+1,n],c≠s.heap.objs.size:=λc hc=>by
   simp only[JT,KL,or_false] at hc
   obtain⟨_,q1,_,_⟩:=id h1
   rcases hc with rfl | rfl
   ·exact KQ (KA he)
   ·exact KQ (KA q1)
  have I1:Inv X pins σ H { s with heap:=h2',toks:=s.toks+1 }:=I.turns (ch:=[n+1,n]) (λc o hc e=>by
   simp only[JT,KL,or_false,not_or] at hc
   exact(sb.2 c hc.1).trans (k c o hc.1 hc.2 e)) hf
  have fT:Df X pins H s.heap.objs.size:=I.fpOk (JM _) (I.hok.fresh (JM _))
  have eT:h2'.get? s.heap.objs.size=some { cls:=.type "tuple", data:=.seq #[.int i s.toks,u] }:=(sb.2 _ (LL (lt (n+1) (by simp)))).trans a3
  refine⟨.ref s.heap.objs.size,_,I1.adopt (o:=.tup [.int i,x]) fT.1 fT.2.1 I.sz fT.2.2.2.2.1 fT.2.2.2.2.2 ⟨by show 2<=JQ;decide,[.int i s.toks,u],.cons ⟨_,rfl⟩ (.cons ru .nil),⟨_,eT,rfl,0,rfl⟩⟩,rfl,⟨_,x,fT.1,rfl,rfl,λzs hzs=>?_⟩,?_,λc hc=>?_⟩
  ·rw[I.list_inj hzs hq];exact hx
  ·exact⟨⟨_,he2⟩,a2.at λo e=>(sb.2 _ (ap n 0 1 (by decide))).trans e⟩
  ·rw[Aj (lt c hc)]
   exact(hf c hc).1
 done:=by
  intro X hP hw hK hc i pins s σ H E I hf st hg
  subst hP hw hK
  obtain⟨xs,hq,hx⟩:=hg
  obtain⟨its,rv,p,_⟩:=I.list hq
  obtain⟨⟨old,he⟩,h1⟩:=st
  have l1:=rv.length
  refine wB (I.calmS hc) he h1 p.isList (by simp;omega) λh' k=>⟨rfl,?_⟩
  exact I.turns (t':=s.toks) (ch:=[n]) (λc o hc e=>k c o (by simpa using hc) e) λc hc=>hf c (by simp at hc ⊢;exact .inr hc)
 self:=λA i s Q E st h=>by
  obtain⟨⟨old,he⟩,_⟩:=st
  have hT:s.TypeIs (.ref (n+1)) "enumerate" := ⟨_,he,rfl⟩
  refine wpAny_pyIter_slot hT F.slot_enumerate_iter (MG F.slot_enumerate_iter hT F.entry_enumerate_iter ?_ (F.args_enumerate_iter_1 _))
  show KY _ _ (ret (.ref (n+1))) _ _ s
  exact JS ⟨_,rfl,"enumerate", _,hT,F.slot_enumerate_next.lookup,h⟩
theorem iB:PZ "enumerate" = some (.type "enumerate"):=by decide +kernel
def DV(K:JG)(ta:TA):TI:=λσ H R=>ta σ H λvs H1=>∃a,vs=[.ref a]/\(∃xs,Aw K H1 a xs)/\R (BE K a) H1
theorem sI{X:Cx}{elts:List Expr}{kk:Nat}{tpos:Pos}{a:Expr}{ta:TA}{p pos:Pos}(hg:Gl X "enumerate")(hm:X.mg "enumerate" = none)(ha:PA X [a] ta)(hs:KW [a] X.env=[(false,PD a X.env)]:=by rfl):
 PI X (.Tuple elts kk tpos) (.Call (.Name "enumerate" p) [a] [] pos) (DV X.K ta):=by
 intro pins s σ H R I h
 refine Call_ (Io I hg hm iB (NH (Bu (ha pos pins s σ H _ I h) λus s1 ⟨vs,H1,I1,r1,q1⟩=>?_) hs rfl))
 obtain⟨a',e,⟨xs,hq1⟩,q⟩:=q1
 subst e
 obtain⟨u,rfl,r⟩:=vals1 r1
 cases r
 obtain⟨its1,rv1,p1,_⟩:=I1.list hq1
 refine call_enumerate_list p1.isList λh' z1 z2 z3 k=>?_
 have T:Turn X.prog X.w X.K (.Tuple elts kk tpos) (BE X.K a') _ _ _:=jH s1.heap.objs.size a'
 refine T.self _ 0 { s1 with heap:=h' } _ _ ⟨⟨_,z1⟩,z2⟩ ?_
 refine⟨s1.heap.objs.size+1,[s1.heap.objs.size+1,s1.heap.objs.size],_,_,H1,rfl,I1.kept (t':=s1.toks) k,T,⟨⟨_,z1⟩,z2⟩,λc hc=>?_,q⟩
 have hle:s1.heap.objs.size<=c:=by
  simp only[JT,KL,or_false] at hc
  rcases hc with rfl | rfl
  ·exact kY _ 1
  ·exact kY _ 0
 exact I1.fpOk hle (I1.hok.fresh hle)
abbrev Cx.in1(X:Cx):Cx:={ X with A:=X.A.in1 }
theorem Inv.in1{X:Cx}{pins:List (JO×Obj)}{σ:St}{H:Hp}{s:JL}(I:Inv X pins σ H s):Inv X.in1 pins σ H s:=
 ⟨⟨I.ok.mod,I.ok.kind,I.ok.glob,I.ok.blt,I.ok.above,I.ok.inj,I.ok.has,I.ok.cab,I.ok.hd,I.ok.st,I.ok.frames,I.ok.stk,I.ok.exf,I.ok.bs,I.ok.bsz,I.ok.noex,I.ok.exfs,I.ok.funs,I.ok.frf⟩,I.os,I.bare,I.base,I.loc,I.cell,I.free,I.freeC,I.pin,I.hok,I.len⟩
theorem Inv.out1{X:Cx}{pins:List (JO×Obj)}{σ:St}{H:Hp}{s:JL}(I:Inv X.in1 pins σ H s):Inv X pins σ H s:=
 ⟨⟨I.ok.mod,I.ok.kind,I.ok.glob,I.ok.blt,I.ok.above,I.ok.inj,I.ok.has,I.ok.cab,I.ok.hd,I.ok.st,I.ok.frames,I.ok.stk,I.ok.exf,I.ok.bs,I.ok.bsz,I.ok.noex,I.ok.exfs,I.ok.funs,I.ok.frf⟩,I.os,I.bare,I.base,I.loc,I.cell,I.free,I.freeC,I.pin,I.hok,I.len⟩
def Xk(K:JG)(H:Hp)(ys:List V)(ks:List Bool):Prop:=RO (λy k=>rV K y H k) ys ks
theorem Fa{α β:Type}{F:α->β->Prop}:∀ {l₁:List α} {l₂:List β} {i:Nat} {a:α},RO F l₁ l₂->l₁[i]? = some a->∃b,l₂[i]? = some b/\F a b
 | _,_,_,_,.nil,e=>by simp at e
 | _,_,0,_,.cons r _,e=>by simp at e;subst e;exact⟨_,rfl,r⟩
 | _,_,i+1,a,.cons _ t,e=>by
  obtain⟨b,h1,h2⟩:=Fa (i:=i) (a:=a) t (by simpa using e)
  exact⟨b,by simpa using h1,h2⟩
section
variable {X:Cx} {pins:List (JO×Obj)} {σ:St} {H:Hp} {R:Result->JL->Prop} {a it:JO} {ys:List V} {ks:List Bool}
theorem rG(hc:X.calm=true)(hq:Aw X.K H a ys)(ht:Xk X.K H ys ks)(hR:∀s',Inv X pins σ H s'->R (.ok (.ret (.bool (ks.any id)))) s'):∀(k i:Nat)(s:JL),ys.length-i=k->i<=ys.length->(ks.take i).any id=false ->
 Inv X pins σ H s->Df X pins H it->s.heap.IsListIter it a i->RZ (LB X.prog X.w) X.A (.builtin "any.loop" ⟨[.ref it],[]⟩) R s:=by
 have hlen:ys.length=ks.length:=NP ht
 intro k
 induction k with
 | zero=>
  intro i s hk hi hn I hf st
  have hin:i=ys.length:=by omega
  refine OR F.entry_any_loop ?_
  rw[OC F.plain_any_loop _]
  show KY _ X.A.in1 (PB (.ref it) >>= _) _ _ s
  have T:=Ml (P:=X.prog) (w:=X.w) (K:=X.K) (tg:=.Name "x" ⟨0,0,0,0⟩) a it
  refine JE (Bu (T.done X.in1 rfl rfl rfl hc i pins s σ H _ I.in1 (λb hb=>by
   have e:b=it:=by simpa using hb
   subst e
   exact hf) st ⟨ys,hq,by omega⟩) λr s1 ⟨hr,I1⟩=>?_)
  subst hr
  refine JE (PF (JS ?_))
  have:=hR s1 I1.out1
  rw[<- LN (l:=ks) (i:=i) (by omega),hn] at this
  exact this
 | succ k ih=>
  intro i s hk hi hn I hf st
  have hlt:i < ys.length:=by omega
  have hx:ys[i]? = some ys[i]:=JK hlt
  obtain⟨b,hb,htv⟩:=Fa ht hx
  refine OR F.entry_any_loop ?_
  rw[OC F.plain_any_loop _]
  show KY _ X.A.in1 (PB (.ref it) >>= _) _ _ s
  obtain⟨its,rv,p,_⟩:=I.list hq
  obtain⟨u,hu,ru⟩:=rv.get hx
  refine JE (SV st p.isList (x:=u) (by simpa using hu) λh' st' sb=>?_)
  have I1:Inv X pins σ H { s with heap:=h' }:=I.turns (t':=s.toks) (ch:=[it]) (λc o hc' e=>(sb.2 c (by simpa using hc')).trans e) (λc hc'=>by
   have e:c=it:=by simpa using hc'
   subst e
   exact hf)
  obtain⟨oi,ei,ci,di⟩:=id st'
  have I1':Inv X.in1 (pins++[(it,oi)]) σ H { s with heap:=h' }:=I1.in1.pins_of λq hq'=>by
   rcases KO.mp hq' with z | z
   ·exact I1.pin q (KC _ z)
   ·have e:q=(it,oi):=by simpa using z
    subst e
    exact⟨ei,hf.1,hf.2.1,hf.2.2.1,λv z=>by rw[di] at z;cases z⟩
  refine JE (NG (ND (cS (X:=X.in1.nox) _ _ σ H ys[i] u (λk' H'=>k'=b/\H'=H) (I1'.wish _) ru ⟨b,htv,rfl,rfl⟩) (λkb s2 ⟨H2,I2',e1,e2⟩=>?_) (λ_ _ z=>z.elim)))
  subst e1 e2
  have I2:=I2'.unwish
  have st2:s2.heap.IsListIter it a (i+1):=⟨oi,(I2.pin (it,oi) (KC _ (KC _ (by simp)))).1,ci,di⟩
  refine JE (RX ?_)
  have hbk:ks[i]? = some kb:=hb
  cases kb with
  | false=>
   simp only[PR,if_false]
   refine JS ⟨RG F.plain_any_loop _,ih (i+1) s2 (by omega) hlt ?_ I2.unpinned.out1 hf st2⟩
   rw[MI,hbk,List.any_append,hn]
   rfl
  | true=>
   simp only[if_true]
   refine JE (PF (JS ?_))
   have:=hR s2 I2.unpinned.out1
   have e:ks.any id=true:=List.any_eq_true.mpr ⟨true,KD hbk,rfl⟩
   rw[e] at this
   exact this
theorem qN(hc:X.calm=true)(hq:Aw X.K H a ys)(ht:Xk X.K H ys ks)(hR:∀s',Inv X pins σ H s'->R (.ok (.ret (.bool (ks.all id)))) s'):∀(k i:Nat)(s:JL),ys.length-i=k->i<=ys.length->(ks.take i).all id=true ->
 Inv X pins σ H s->Df X pins H it->s.heap.IsListIter it a i->RZ (LB X.prog X.w) X.A (.builtin "all.loop" ⟨[.ref it],[]⟩) R s:=by
 have hlen:ys.length=ks.length:=NP ht
 intro k
 induction k with
 | zero=>
  intro i s hk hi hn I hf st
  have hin:i=ys.length:=by omega
  refine OR F.entry_all_loop ?_
  rw[OC F.plain_all_loop _]
  show KY _ X.A.in1 (PB (.ref it) >>= _) _ _ s
  have T:=Ml (P:=X.prog) (w:=X.w) (K:=X.K) (tg:=.Name "x" ⟨0,0,0,0⟩) a it
  refine JE (Bu (T.done X.in1 rfl rfl rfl hc i pins s σ H _ I.in1 (λb hb=>by
   have e:b=it:=by simpa using hb
   subst e
   exact hf) st ⟨ys,hq,by omega⟩) λr s1 ⟨hr,I1⟩=>?_)
  subst hr
  refine JE (PF (JS ?_))
  have:=hR s1 I1.out1
  rw[<- LN (l:=ks) (i:=i) (by omega),hn] at this
  exact this
 | succ k ih=>
  intro i s hk hi hn I hf st
  have hlt:i < ys.length:=by omega
  have hx:ys[i]? = some ys[i]:=JK hlt
  obtain⟨b,hb,htv⟩:=Fa ht hx
  refine OR F.entry_all_loop ?_
  rw[OC F.plain_all_loop _]
  show KY _ X.A.in1 (PB (.ref it) >>= _) _ _ s
  obtain⟨its,rv,p,_⟩:=I.list hq
  obtain⟨u,hu,ru⟩:=rv.get hx
  refine JE (SV st p.isList (x:=u) (by simpa using hu) λh' st' sb=>?_)
  have I1:Inv X pins σ H { s with heap:=h' }:=I.turns (t':=s.toks) (ch:=[it]) (λc o hc' e=>(sb.2 c (by simpa using hc')).trans e) (λc hc'=>by
   have e:c=it:=by simpa using hc'
   subst e
   exact hf)
  obtain⟨oi,ei,ci,di⟩:=id st'
  have I1':Inv X.in1 (pins++[(it,oi)]) σ H { s with heap:=h' }:=I1.in1.pins_of λq hq'=>by
   rcases KO.mp hq' with z | z
   ·exact I1.pin q (KC _ z)
   ·have e:q=(it,oi):=by simpa using z
    subst e
    exact⟨ei,hf.1,hf.2.1,hf.2.2.1,λv z=>by rw[di] at z;cases z⟩
  refine JE (NG (ND (cS (X:=X.in1.nox) _ _ σ H ys[i] u (λk' H'=>k'=b/\H'=H) (I1'.wish _) ru ⟨b,htv,rfl,rfl⟩) (λkb s2 ⟨H2,I2',e1,e2⟩=>?_) (λ_ _ z=>z.elim)))
  subst e1 e2
  have I2:=I2'.unwish
  have st2:s2.heap.IsListIter it a (i+1):=⟨oi,(I2.pin (it,oi) (KC _ (KC _ (by simp)))).1,ci,di⟩
  refine JE (RX ?_)
  have hbk:ks[i]? = some kb:=hb
  cases kb with
  | true=>
   simp only[if_true]
   refine JS ⟨RG F.plain_all_loop _,ih (i+1) s2 (by omega) hlt ?_ I2.unpinned.out1 hf st2⟩
   rw[MI,hbk,List.all_append,hn]
   rfl
  | false=>
   simp only[PR,if_false]
   refine JE (PF (JS ?_))
   have:=hR s2 I2.unpinned.out1
   have e:ks.all id=false:=by
    rw[List.all_eq_false]
    exact⟨false,KD hbk,by simp⟩
   rw[e] at this
   exact this
end
section
variable {X:Cx}
theorem Sk:PZ "any" = some (.builtin "any"):=by decide +kernel
theorem Mz:PZ "all" = some (.builtin "all"):=by decide +kernel
theorem Xx(hc:X.calm=true):Fk X (.builtin "any") (λxs H Q=>∃p ys ks,xs=[.ref p]/\Aw X.K H p ys/\Xk X.K H ys ks/\Q (.bl (ks.any id)) H):=by
 intro pins s σ H xs us Q I r h
 obtain⟨p,ys,ks,rfl,hq,ht,q⟩:=h
 obtain⟨u,rfl,ru⟩:=vals1 r
 cases ru
 refine call_function_tree F.kind_any F.plain_any F.entry_any (F.args_any1 _) ?_
 unfold Builtin.«any»
 refine JE (m:=oneArg "any" _) (JS ?_)
 obtain⟨its,rv,pl,hz⟩:=I.list hq
 refine JE (wpAny_pyIter_list pl.isList ?_)
 refine JS ⟨RG F.plain_any_loop _,rG (it:=s.heap.objs.size) hc hq ht ?_ ys.length 0 _ rfl (LK _) rfl (I.kept (t':=s.toks) λb o e=>JI _ e) (I.fpOk (JM _) (I.hok.fresh (JM _))) ⟨_,KG _ rfl,rfl,rfl⟩⟩
 exact λs' I'=>⟨.bl _,H,I',rfl,q⟩
theorem Qf(hc:X.calm=true):Fk X (.builtin "all") (λxs H Q=>∃p ys ks,xs=[.ref p]/\Aw X.K H p ys/\Xk X.K H ys ks/\Q (.bl (ks.all id)) H):=by
 intro pins s σ H xs us Q I r h
 obtain⟨p,ys,ks,rfl,hq,ht,q⟩:=h
 obtain⟨u,rfl,ru⟩:=vals1 r
 cases ru
 refine call_function_tree F.kind_all F.plain_all F.entry_all (F.args_all1 _) ?_
 unfold Builtin.«all»
 refine JE (m:=oneArg "all" _) (JS ?_)
 obtain⟨its,rv,pl,hz⟩:=I.list hq
 refine JE (wpAny_pyIter_list pl.isList ?_)
 refine JS ⟨RG F.plain_all_loop _,qN (it:=s.heap.objs.size) hc hq ht ?_ ys.length 0 _ rfl (LK _) rfl (I.kept (t':=s.toks) λb o e=>JI _ e) (I.fpOk (JM _) (I.hok.fresh (JM _))) ⟨_,KG _ rfl,rfl,rfl⟩⟩
 exact λs' I'=>⟨.bl _,H,I',rfl,q⟩
theorem Eo:Fk X (.builtin "isinstance") (λxs H Q=>∃x T t b,xs=[x,.ty T]/\Mo X.K H x t/\QK X.K t (.type T)=some b/\Q (.bl b) H):=by
 intro pins s σ H xs us Q I r h
 obtain⟨x,T,t,b,rfl,ty,e,q⟩:=h
 obtain⟨u,w',rfl,ru,rw'⟩:=vals2 r
 cases rw'
 exact iD I ru ty e λtk=>⟨.bl b,H,I.tok _,rfl,q⟩
theorem cQ:DI X (λx lo hi H Q=>∃z,x=.str z/\z.length<=JQ/\Q (.str (SL z lo hi)) H):=by
 intro pins s σ H x v vl vu lo hi sl Q I rx hs pl pu h
 obtain⟨z,rfl,hz,q⟩:=h
 obtain⟨t,rfl⟩:=rx
 obtain⟨o,ho,hc,hd⟩:=hs
 have fin:∀(l u:Option (Int×Tok)),vl=partValue l->vu=partValue u->lo=l.map (·.1)->hi=u.map (·.1)->KY (LB X.prog X.w) X.A (getItem (.str z t) (.ref sl)) (EP X pins σ Q) X.xe s:=λl u e1 e2 e3 e4=>by
  subst e1 e2 e3 e4
  exact wpAny_getItem_str_slice (l:=l) (u:=u) (st:=none) ⟨o,ho,hc,hd⟩ rfl (post_val_or_str ⟨KZ (Txt.slice_le z _ _) hz,λt' k=>⟨.str _,H,I.tok _,⟨_,rfl⟩,q⟩⟩)
 refine⟨"str", _,F.slot_str_getitem.lookup,typeIs_str _ _ _,?_⟩
 cases pl with
 | none=>
  cases pu with
  | none=>exact fin none none rfl rfl rfl rfl
  | int j tj=>exact fin none (some (j,tj)) rfl rfl rfl rfl
 | int i ti=>
  cases pu with
  | none=>exact fin (some (i,ti)) none rfl rfl rfl rfl
  | int j tj=>exact fin (some (i,ti)) (some (j,tj)) rfl rfl rfl rfl
end
theorem uV{K:JG}{a b:JO}{xs ys:List V}{g:TG}{tb:TS}{D:Ends}{σ:St}{H:Hp}(hlen:xs.length=ys.length)(Pv:Nat->St->Hp->Prop)(h0:Pv 0 σ H)(hl:∀i σ H,i<=xs.length->Pv i σ H->Aw K H a xs/\Aw K H b ys)(hs:∀i x y σ H T,xs[i]? = some x->ys[i]? = some y->Pv i σ H->H T=none->g (.ref T) σ (upd H T (.tup [x,y])) λσ2 H2=>tb { D with nx:=Pv (i+1),ct:=Pv (i+1),bk:=D.nx } σ2 H2)(hd:∀σ H,Pv xs.length σ H->D.nx σ H):
 ∃W:Nat->Nat->St->Hp->Prop,(∃m,W 0 m σ H)/\∀i m σ H,W i m σ H ->
  ((yF K a b).stop i H/\D.nx σ H)∨((yF K a b).go i H/\∃N:St->Hp->Prop,(∀σ' H',N σ' H'->∃m',m' < m/\W (i+1) m' σ' H')/\∀x H',(yF K a b).yld i H x H'->g x σ H' λσ2 H2=>tb { D with nx:=N,ct:=N,bk:=D.nx } σ2 H2):=by
 refine⟨λi m σ H=>m=xs.length-i/\i<=xs.length/\Pv i σ H,⟨xs.length,by simp,LK _,h0⟩,?_⟩
 rintro i m σ H ⟨rfl,hi,p⟩
 obtain⟨q1,q2⟩:=hl i σ H hi p
 by_cases hlt:i < xs.length
 ·have hlt2:i < ys.length:=by omega
  refine .inr ⟨⟨xs,ys,xs[i],ys[i],q1,q2,by simp[hlt],by simp[hlt2]⟩,Pv (i+1),λσ' H' p'=>⟨xs.length-(i+1),by omega,rfl,hlt,p'⟩,λx H' y=>?_⟩
  obtain⟨T,x',y',hT,rfl,rfl,e1,e2⟩:=y
  exact hs i x' y' σ _ T (e1 xs q1) (e2 ys q2) p hT
 ·have e:i=xs.length:=by omega
  subst e
  exact .inl ⟨⟨xs,ys,q1,q2,.inl (JM _)⟩,hd σ H p⟩
theorem mG{K:JG}{a:JO}{xs:List V}{g:TG}{tb:TS}{D:Ends}{σ:St}{H:Hp}(Pv:Nat->St->Hp->Prop)(h0:Pv 0 σ H)(hl:∀i σ H,i<=xs.length->Pv i σ H->Aw K H a xs)(hs:∀i x σ H T,xs[i]? = some x->Pv i σ H->H T=none->g (.ref T) σ (upd H T (.tup [.int i,x])) λσ2 H2=>tb { D with nx:=Pv (i+1),ct:=Pv (i+1),bk:=D.nx } σ2 H2)(hd:∀σ H,Pv xs.length σ H->D.nx σ H):
 ∃W:Nat->Nat->St->Hp->Prop,(∃m,W 0 m σ H)/\∀i m σ H,W i m σ H ->
  ((BE K a).stop i H/\D.nx σ H)∨((BE K a).go i H/\∃N:St->Hp->Prop,(∀σ' H',N σ' H'->∃m',m' < m/\W (i+1) m' σ' H')/\∀x H',(BE K a).yld i H x H'->g x σ H' λσ2 H2=>tb { D with nx:=N,ct:=N,bk:=D.nx } σ2 H2):=by
 refine⟨λi m σ H=>m=xs.length-i/\i<=xs.length/\Pv i σ H,⟨xs.length,by simp,LK _,h0⟩,?_⟩
 rintro i m σ H ⟨rfl,hi,p⟩
 have q:=hl i σ H hi p
 by_cases hlt:i < xs.length
 ·refine .inr ⟨⟨xs,xs[i],q,by simp[hlt]⟩,Pv (i+1),λσ' H' p'=>⟨xs.length-(i+1),by omega,rfl,hlt,p'⟩,λx H' y=>?_⟩
  obtain⟨T,x',hT,rfl,rfl,e1⟩:=y
  exact hs i x' σ _ T (e1 xs q) p hT
 ·have e:i=xs.length:=by omega
  subst e
  exact .inl ⟨⟨xs,q,JM _⟩,hd σ H p⟩
theorem Sx{K:JG}{a b:JO}{xs zs:List V}{n:Nat}{fr:List (Str×Nat)}{g:TG}{tc:TT}{te:TE}{σ:St}{H:Hp}{F:List V->Hp->Prop}(hlen:xs.length=zs.length)(Pv:Nat->List V->Hp->Prop)(h0:Pv 0 [] H)(hl:∀i ys H,i<=xs.length->Pv i ys H->Aw K H a xs/\Aw K H b zs)(hs:∀i x z ys H T,xs[i]? = some x->zs[i]? = some z->Pv i ys H->H T=none->g (.ref T) (stC n fr σ) (upd H T (.tup [x,z])) λσ2 H2=>tc σ2 H2 λb H3=>if b=true then te σ2 H3 λy H4=>ys.length < JQ/\Pv (i+1) (ys++[y]) H4 else Pv (i+1) ys H3)(hd:∀ys H,Pv xs.length ys H->F ys H):Ey n fr g tc te σ (yF K a b) H F:=by
 refine⟨λi m ys H=>m=xs.length-i/\i<=xs.length/\Pv i ys H,⟨xs.length,by simp,LK _,h0⟩,?_⟩
 rintro i m ys H ⟨rfl,hi,p⟩
 obtain⟨q1,q2⟩:=hl i ys H hi p
 by_cases hlt:i < xs.length
 ·have hlt2:i < zs.length:=by omega
  refine .inr ⟨⟨xs,zs,xs[i],zs[i],q1,q2,by simp[hlt],by simp[hlt2]⟩,Pv (i+1),λys' H' p'=>⟨xs.length-(i+1),by omega,rfl,hlt,p'⟩,λx H' y=>?_⟩
  obtain⟨T,x',y',hT,rfl,rfl,e1,e2⟩:=y
  exact hs i x' y' ys _ T (e1 xs q1) (e2 zs q2) p hT
 ·have e:i=xs.length:=by omega
  subst e
  exact .inl ⟨⟨xs,zs,q1,q2,.inl (JM _)⟩,hd ys H p⟩
theorem Ec{K:JG}{a:JO}{xs:List V}{n:Nat}{fr:List (Str×Nat)}{g:TG}{te:TE}{σ:St}{H:Hp}{F:List V->Hp->Prop}(Pv:Nat->List V->Hp->Prop)(h0:Pv 0 [] H)(hl:∀i ys H,i<=xs.length->Pv i ys H->Aw K H a xs)(hs:∀i x ys H,xs[i]? = some x->Pv i ys H->g x (stC n fr σ) H λσ2 H2=>te σ2 H2 λy H4=>ys.length < JQ/\Pv (i+1) (ys++[y]) H4)(hd:∀ys H,Pv xs.length ys H->F ys H):Ey n fr g Qp te σ (AD K a) H F:=Qj Pv h0 hl (λi x ys H hx p=>hs i x ys H hx p) hd
theorem Ir{lo:Int}{k n:Nat}{fr:List (Str×Nat)}{g:TG}{te:TE}{σ:St}{H:Hp}{F:List V->Hp->Prop}(Pv:Nat->List V->Hp->Prop)(h0:Pv 0 [] H)(hs:∀i ys H,i < k->Pv i ys H->g (.int (lo+i)) (stC n fr σ) H λσ2 H2=>te σ2 H2 λy H4=>ys.length < JQ/\Pv (i+1) (ys++[y]) H4)(hd:∀ys H,Pv k ys H->F ys H):Ey n fr g Qp te σ (sS lo k) H F:=Xz Pv h0 (λi ys H hi p=>hs i ys H hi p) hd
theorem Pg{K:JG}{a b:JO}{xs zs:List V}{n:Nat}{fr:List (Str×Nat)}{g:TG}{te:TE}{σ:St}{H:Hp}{F:List V->Hp->Prop}(hlen:xs.length=zs.length)(Pv:Nat->List V->Hp->Prop)(h0:Pv 0 [] H)(hl:∀i ys H,i<=xs.length->Pv i ys H->Aw K H a xs/\Aw K H b zs)(hs:∀i x z ys H T,xs[i]? = some x->zs[i]? = some z->Pv i ys H->H T=none->g (.ref T) (stC n fr σ) (upd H T (.tup [x,z])) λσ2 H2=>te σ2 H2 λy H4=>ys.length < JQ/\Pv (i+1) (ys++[y]) H4)(hd:∀ys H,Pv xs.length ys H->F ys H):Ey n fr g Qp te σ (yF K a b) H F:=Sx hlen Pv h0 hl (λi x z ys H T hx hz p hT=>hs i x z ys H T hx hz p hT) hd
abbrev DC(l:List Env):List JO:=l.filterMap (·.frame)
structure Flew(S ch:List JO)(h h':MV):Prop where
 keep:∀b o,b∉S->b∉ch->h.get? b=some o->h'.get? b=some o
 slot:∀b o,b∉ch->h.get? b=some o->∃sl,h'.get? b=some { o with slots:=sl }
 size:h.objs.size<=h'.objs.size
theorem Flew.trans{S c1 c2:List JO}{h h1 h2:MV}(a:Flew S c1 h h1)(b:Flew S c2 h1 h2):Flew S (c1++c2) h h2 where
 keep:=λx o hs hc e=>by
  rw[KO,not_or] at hc
  exact b.keep x o hs hc.2 (a.keep x o hs hc.1 e)
 slot:=λx o hc e=>by
  rw[KO,not_or] at hc
  obtain⟨s1,e1⟩:=a.slot x o hc.1 e
  obtain⟨s2,e2⟩:=b.slot x _ hc.2 e1
  exact⟨s2,e2⟩
 size:=KZ a.size b.size
theorem Flew.mono{S c1 c2:List JO}{h h1:MV}(a:Flew S c1 h h1)(k:∀b∈c1,b∈c2):Flew S c2 h h1:=
 ⟨λx o hs hc e=>a.keep x o hs (λz=>hc (k x z)) e,λx o hc e=>a.slot x o (λz=>hc (k x z)) e,a.size⟩
structure qF(h:MV)(e:JO)(cls:JH)(dx:Option JO)(oe:Obj)(vs:Array JH):Prop where
 get:h.get? e=some oe
 cls:oe.cls=cls
 dict:oe.dict=dx
 data:oe.data=.fields vs
 tb:vs[1]? = some .none
 cx:vs[2]? = some .none
structure ExcAt(h:MV)(e:JO)(cls:JH)(dx:Option JO)(T:JO)(fl:JH)(oe oT:Obj)(vs ts:Array JH):Prop where
 get:h.get? e=some oe
 cls:oe.cls=cls
 dict:oe.dict=dx
 data:oe.data=.fields vs
 tb:vs[1]? = some (.ref T)
 ne:T≠e
 getT:h.get? T=some oT
 dataT:oT.data=.fields ts
 fl:ts[3]? = some fl
 cx:vs[2]? = some .none
theorem iR(o:Obj)(f:Array JH->Array JH):(o.mapFields f).dict=o.dict:=by
 obtain⟨c,d,dt,sl⟩:=o
 cases dt<;>rfl
section
variable {M:Model} {A:LM} {E:JH->JL->Prop} {s:JL} {base:MV} {env:Env} {outer:List Env} {L e:JO} {cls:JH} {dx:Option JO} {Q:Unit->JL->Prop}
theorem Ss(hl:s.heap.FunFrames base (env::outer)){b:JO}{o:Obj}{vs:Array JH}(e1:s.heap.get? b=some o)(d:o.data=.fields vs):b∉DC (env::outer):=λhm=>by
 obtain⟨_,o',ho,hnf⟩:=hl.mem hm
 rw[e1] at ho
 cases ho
 exact hnf vs d
theorem oG{oe:Obj}{vs:Array JH}{head:JH}{hn:Bool}(hfr:A.frames=some (env::outer))(hl:s.heap.FunFrames base (env::outer))(hf:env.frame=some L)(he:s.heap.get? e=some oe)(hc:oe.cls=cls)(hx:oe.dict=dx)(hd:oe.data=.fields vs)(hsz:1 < vs.size)(hcx:vs[2]? = some .none)(h:∀h' T oe' oT vs' ts,s.heap.objs.size<=T->Flew (DC (env::outer)) [e] s.heap h'->ExcAt h' e cls dx T (QN L) oe' oT vs' ts->Q () { s with heap:=h' }):
 KY M A (do let a <- frameOf env;let pl <- entryPlaceOf L hn;let b <- EntryCells.newEntry head a .none (QN L) .none pl;setField (.ref e) 1 b) Q E s:=by
 have ne:=Ss hl he hd
 refine JE (wpAny_frameOf_fun hfr hl hf λh1 so=>JE (wpAny_entryPlaceOf λpl hpl=>?_))
 unfold EntryCells.newEntry newFields
 refine JE (PJ ?_ (hpl.sizeOk5 _ _ _ _ _))
 have e1:h1.get? e=some oe:=(so.2.1 e ne).trans he
 generalize hto:({ cls:=.type "traceback", dict:=none,data:=.fields ([head,.ref L,.none,QN L,.none]++(if pl.isEmpty then LF 6 MY else pl)).toArray }:Obj)=tobj
 have hT3:∃ts,tobj.data=.fields ts/\ts[3]? = some (QN L)/\tobj.isFreed=false:=by
  subst hto
  exact⟨_,rfl,by first | (simp;done) | (rcases hpl with rfl | ⟨_,_,_,_,_,_,_,rfl⟩<;>simp),rfl⟩
 obtain⟨ts,td,t3,tf⟩:=hT3
 have e2:(h1.push tobj).get? e=some oe:=JI tobj e1
 have sz1:h1.objs.size=s.heap.objs.size:=so.1
 have nT:h1.objs.size≠e:=OG (KA e1)
 have d3:=QV hd (·.setIfInBounds 1 (JZ h1.objs.size))
 refine MQ e2 hd hsz (h _ h1.objs.size _ tobj _ ts (QT sz1.symm) ⟨λb o hs hc' q=>?_,λb o hc' q=>?_,?_⟩ ⟨MX _ e2 (RB d3),(Obj.cls_mapFields _ _).trans hc,(iR _ _).trans hx,d3,by simp[hsz],nT,?_,td,t3,by rw[Array.getElem?_setIfInBounds_ne (by decide)];exact hcx⟩)
 ·rw[LV _ _ (LL (show b≠e by simpa using hc'))]
  exact JI _ ((so.2.1 b hs).trans q)
 ·obtain⟨sl,q1⟩:=so.2.2 b o q
  refine⟨sl,?_⟩
  rw[LV _ _ (LL (show b≠e by simpa using hc'))]
  exact JI _ q1
 ·have z:=OP h1 tobj
  have z2:((h1.push tobj).update e (QC (·.setIfInBounds 1 (JZ h1.objs.size)))).objs.size=(h1.push tobj).objs.size:=(QR (a:=e) (h1.push tobj) (QC (·.setIfInBounds 1 (JZ h1.objs.size)))).1
  exact KZ (QT sz1.symm) (KZ (by rw[z];exact ON _) (QT z2.symm))
 ·rw[LV _ _ (LL nT)]
  exact KG h1 tf
theorem Yj{oe:Obj}{vs:Array JH}(hfr:A.frames=some (env::outer))(hl:s.heap.FunFrames base (env::outer))(hf:env.frame=some L)(x:qF s.heap e cls dx oe vs)(h:∀h' T oe' oT vs' ts,s.heap.objs.size<=T->Flew (DC (env::outer)) [e] s.heap h'->ExcAt h' e cls dx T (QN L) oe' oT vs' ts->Q () { s with heap:=h' }):KY M A (noteFrame (.ref e) env) Q E s:=by
 unfold noteFrame
 simp only[hf]
 refine JE (LD x.get x.data x.tb ?_)
 rw[if_neg (by decide)]
 exact oG hfr hl hf x.get x.cls x.dict x.data (NM.mp x.tb).1 x.cx h
theorem pJ{T:JO}{fl:JH}{oe oT:Obj}{vs ts:Array JH}(x:ExcAt s.heap e cls dx T fl oe oT vs ts)(S:List JO):
 Flew S [T] s.heap (s.heap.update T (QC (·.setIfInBounds 3 .none)))/\∃oT' ts',ExcAt (s.heap.update T (QC (·.setIfInBounds 3 .none))) e cls dx T .none oe oT' vs ts':=by
 have hsz:3 < ts.size:=(NM.mp x.fl).1
 have d3:=QV x.dataT (·.setIfInBounds 3 MY)
 have oth:∀b,b≠T->(s.heap.update T (QC (·.setIfInBounds 3 .none))).get? b=s.heap.get? b:=λb hb=>LV _ _ (LL hb)
 refine⟨⟨λb o _ hc q=>(oth b (by simpa using hc)).trans q,λb o hc q=>⟨o.slots,(oth b (by simpa using hc)).trans q⟩,QT (QR (a:=T) s.heap _).1.symm⟩,_,_,(oth e (LL x.ne)).trans x.get,x.cls,x.dict,x.data,x.tb,x.ne,MX _ x.getT (RB d3),d3,by simp[hsz],x.cx⟩
theorem eS{T:JO}{fl:JH}{oe oT:Obj}{vs ts:Array JH}(x:ExcAt s.heap e cls dx T fl oe oT vs ts)(S:List JO)(h:∀h' oT' ts',Flew S [T] s.heap h'->ExcAt h' e cls dx T .none oe oT' vs ts'->Q () { s with heap:=h' }):KY M A (setFlight (.ref e) none) Q E s:=by
 obtain⟨k1,oT',ts',k2⟩:=pJ (s:=s) x S
 unfold setFlight
 refine JE (LD x.get x.data x.tb ?_)
 rw[if_pos (show (JZ T != MY)=true from by simp)]
 exact MQ x.getT x.dataT (NM.mp x.fl).1 (h _ _ _ k1 k2)
theorem bZ{T:JO}{fl:JH}{oe oT:Obj}{vs ts:Array JH}(hfr:A.frames=some (env::outer))(hl:s.heap.FunFrames base (env::outer))(hf:env.frame=some L)(x:ExcAt s.heap e cls dx T fl oe oT vs ts)(hne:(fl == QN L)=false)(h:∀h' T' oe' oT' vs' ts',s.heap.objs.size<=T'->Flew (DC (env::outer)) [e,T] s.heap h'->ExcAt h' e cls dx T' (QN L) oe' oT' vs' ts'->Q () { s with heap:=h' }):KY M A (noteFrame (.ref e) env) Q E s:=by
 unfold noteFrame
 simp only[hf]
 refine JE (LD x.get x.data x.tb ?_)
 rw[if_pos (show (JZ T != MY)=true from by simp)]
 refine JE (LD x.getT x.dataT x.fl ?_)
 rw[if_neg (show ¬ ((fl == QN L)=true) by rw[hne];exact JR)]
 refine JE (MQ x.getT x.dataT (NM.mp x.fl).1 ?_)
 obtain⟨k1,oT',ts',k2⟩:=pJ (s:=s) x (DC (env::outer))
 have nfT:=Ss hl x.getT x.dataT
 have hl2:(s.heap.update T (QC (·.setIfInBounds 3 .none))).FunFrames base (env::outer):=hl.of_keeps λb o q hnf=>by
  obtain⟨sl,q'⟩:=k1.slot b o (λz=>by
   have z':b=T:=by simpa using z
   subst z'
   rw[x.getT] at q
   cases q
   exact hnf ts x.dataT) q
  exact⟨_,q',rfl⟩
 refine oG (s:={ s with heap:=s.heap.update T (QC (·.setIfInBounds 3 .none)) }) hfr hl2 hf k2.get k2.cls k2.dict k2.data (NM.mp x.tb).1 x.cx λh' T' oe' oT2 vs' ts2 hT' fl at'=>?_
 exact h h' T' oe' oT2 vs' ts2 (KZ k1.size hT') ((k1.trans fl).mono (by intro b hb;simp at hb ⊢;rcases hb with z | z<;>simp[z])) at'
end
end L2
namespace L2
open PySem PySem.Spec PyProof.Rows
theorem Ez{N P:List Str}{sc:Scope}(h:N.Nodup/\(∀x∈P,sc.names.lookup x=some .local∨sc.names.lookup x=some .cell)/\∀y∈sc.names,y.2 ≠ .free)(h1:sc.kind=.function:=by rfl)(h2:sc.isCoroutine=false:=by rfl)(h3:sc.isGenerator=false:=by rfl)(h4:N.take P.length=P:=by rfl):An N P sc:=⟨h1,h2,h3,h.1,h4,h.2.1,h.2.2⟩
section
variable {X:Cx} {k:Nat} {f:JO} {fd:LG} {ps:List Str} {sp:Sp} {x:Str} {e a b c d:Expr} {es:List Expr} {t:TA} {ta tb tc td:TE} {p pos pos':Pos}
theorem Du(ha:PE X a ta)(h1:KW [a] X.env=[(false,PD a X.env)]:=by rfl):PA X [a] (Ja ta Wq):=Gc ha Fw h1
theorem Em(ha:PE X a ta)(hb:PE X b tb)(h1:KW [b] X.env=[(false,PD b X.env)]:=by rfl)(h2:KW [a,b] X.env=(false,PD a X.env)::KW [b] X.env:=by rfl):PA X [a,b] (Ja ta (Ja tb Wq)):=Gc ha (Du hb h1) h2
theorem Iz(ha:PE X a ta)(hb:PE X b tb)(hc:PE X c tc)(h0:KW [c] X.env=[(false,PD c X.env)]:=by rfl)(h1:KW [b,c] X.env=(false,PD b X.env)::KW [c] X.env:=by rfl)(h2:KW [a,b,c] X.env=(false,PD a X.env)::KW [b,c] X.env:=by rfl):PA X [a,b,c] (Ja ta (Ja tb (Ja tc Wq))):=Gc ha (Em hb hc h0 h1) h2
theorem rP(ha:PE X a ta)(hb:PE X b tb)(hc:PE X c tc)(hd:PE X d td)(h3:KW [d] X.env=[(false,PD d X.env)]:=by rfl)(h0:KW [c,d] X.env=(false,PD c X.env)::KW [d] X.env:=by rfl)(h1:KW [b,c,d] X.env=(false,PD b X.env)::KW [c,d] X.env:=by rfl)(h2:KW [a,b,c,d] X.env=(false,PD a X.env)::KW [b,c,d] X.env:=by rfl):PA X [a,b,c,d] (Ja ta (Ja tb (Ja tc (Ja td Wq)))):=Gc ha (Iz hb hc hd h3 h0 h1) h2
theorem Cf(F:Al X.prog X.w X.K X.mg X.base Bi k f fd ps sp)(hr:Co k X.A)(hm:X.mg x=some (.ref f))(hk:JV X.K (.ref f)=true)(hb:Binds X.K fd ps [])(ha:PA X (e::es) t)(hg:Gl X x:=by rfl)(hc:X.calm=true:=by rfl)(hdb:(x == ("__debug__" : Str))=false:=by decide)(he:KW (e::es) X.env=(false,PD e X.env)::KW es X.env:=by rfl)(hpl:(QO pos (KW es X.env)).any (·.1)=false:=by rfl):
 PE X (.Call (.Name x p) (e::es) [] pos) (wQ sp [] E0 t):=Dj F hr hg hm hk hb .nil (Dh hc) ha hdb he hpl
theorem Bv(i:Nat){x:Str}{e:Expr}{te:TE}(hN:X.N.Nodup)(he:PE X e te)(hi:X.N[i]? = some x:=by rfl)(hx:Loc X.env.scope x:=by exact .inl rfl)(hs:swapsWith e (some (.Name x pos')) pos.line X.env=pure false:=by rfl)(hf:X.fn x=true∨X.env.scope.names.lookup x=some .local:=by first | exact .inl rfl | exact .inr rfl | assumption):
 PS X (.Assign [.Name x pos'] e pos) (Wz te (Kk i)):=Mw hN hi hx he hs hf
theorem Dg(i:Nat){x:Str}(hN:X.N.Nodup)(hi:X.N[i]? = some x:=by rfl)(hx:Loc X.env.scope x:=by exact .inl rfl)(hf:X.fn x=true∨X.env.scope.names.lookup x=some .local:=by first | exact .inl rfl | exact .inr rfl | assumption):PG X (.Name x pos) (Kk i):=sQ hN hi hx hf
theorem Bw(hm:X.mg "len" = none)(ha:PE X a ta)(hg:Gl X "len" := by rfl)(h1:KW [a] X.env=[(false,PD a X.env)]:=by rfl):PE X (.Call (.Name "len" p) [a] [] pos) (HW (λxs H Q=>∃p ys,xs=[.ref p]/\(Aw X.K H p ys∨Ck X.K H p ys)/\Q (.int ys.length) H) (Ja ta Wq)):=Bz Vd hg hm PySem.boot_len (Du ha h1) (by decide) (by decide) h1 rfl
end
end L2
namespace L2
open PySem PySem.Spec PyProof.Rows PySem.W
section
variable {prog:KI} {w:LQ} {A:LM} {R:Result->JL->Prop} {E:JH->JL->Prop} {h:MV} {g:Array GenState} {d:Drawn} {t:Nat} {os:OsState}
variable {nm q:Str} {C N f:JO} {bs bm bmB:List JH} {hdct:Bool} {sn:List Str} {sub:List JH} {ab:Bool} {col:Option Bool} {dd:Option JO} {k0 k1 k2 k3 k5:Option JH} {B Bn newId nid initId inN:String} {bmN:List JH}
abbrev Dn(C t:JO):Obj:={ cls:=.ref C,data:=.fields #[.ref t,.none,.none,.none,.bool false,.none] }
abbrev Dz(rest:List JH):Obj:={ cls:=.type "tuple", data:=.seq rest.toArray }
theorem uL(Fn:ExcBaseFacts Bn newId inN bmN)(hBn:bmB.contains (.type Bn)=true)(F:ExcBaseFacts B nid initId bmB)(T:OwnTail h bmB bm){rest:List JH}(hC:h.get? C=some (excClassObj nm q C N bs bm hdct sn sub ab col dd k0 k1 k2 k3 k5 newId))(hi:PP (LB prog w) h (typeLookup (.ref C) "__init__") (some (.ref f)))(hb:∀self,PP (LB prog w) h (bindSpecial (.ref f) self) (.ref f,[self]))(hrest:rest.length<=JQ)(hq:RZ (LB prog w) (A.under (.builtin "type.__call__" ⟨.ref C::rest,[]⟩)) (.call (.ref f) ⟨.ref (h.objs.size+1)::rest,[]⟩) (PySem.W.InitBack (h.objs.size+1) R) ⟨(h.push (Dz rest)).push (Dn C h.objs.size),g,d,t,os⟩):
 RZ (LB prog w) A (.call (.ref C) ⟨rest,[]⟩) R ⟨h,g,d,t,os⟩:=by
 have f1:=tc_lookup
 have f2:=tc_bind (.ref C)
 have hT:(⟨h,g,d,t,os⟩:JL).TypeIs (.ref C) "type" := ⟨_,hC,rfl⟩
 refine codeAny_of_tree ?_
 show KY _ _ (callAny (.ref C) _) _ _ _
 repeat (any_goals (first | assumption | with_reducible refine RF hC ?_ | wp_step))
 refine⟨rfl,codeAny_call_builtin_at (SR _ (by decide +kernel)) entry_typeCall (wpAny_check_type_call_sub hC ?_)⟩
 repeat (first | with_reducible refine RF hC ?_ | with_reducible refine wpAny_madeBy_exc hC ?_ | wp_step)
 refine codeAny_call_builtin_code (SR _ Fn.quiet) (wpAny_check_new_subU Fn hBn T hC (codeAny_exc_new_subU Fn hBn F T hC ?_ hrest))
 show KY _ _ _ _ _ _
 have k:∀b o,h.get? b=some o->((h.push (Dz rest)).push (Dn C h.objs.size)).get? b=some o:=λb o e=>JI _ (JI _ e)
 have hx:((h.push (Dz rest)).push (Dn C h.objs.size)).get? (h.objs.size+1)=some (Dn C h.objs.size):=by heap_get
 have c1:=k _ _ hC
 have hcC:(JZ C::bm).contains (.ref C)=true:=by simp
 have i1:=hi.keeps k
 have b1:=(hb (.ref (h.objs.size+1))).keeps k
 have t1:PP (LB prog w) ((h.push (Dz rest)).push (Dn C h.objs.size)) (typeOf (.ref (h.objs.size+1))) (.ref C):=(PySem.W.Looks.ld hx).andThen .now
 have t2:PP (LB prog w) ((h.push (Dz rest)).push (Dn C h.objs.size)) (isSubtype (.ref C) (.ref C)) true:=λA' Q' E' s' k' q'=>by
  obtain⟨h',g',d',tk',os'⟩:=s'
  refine wpAny_isSubtype_exc (k' _ _ c1) ?_
  rw[hcC]
  exact q'
 show KY (LB prog w) _ (isInstance (.ref (h.objs.size+1)) (.ref C) >>= _) _ _ ⟨(h.push (Dz rest)).push (Dn C h.objs.size),g,d,t,os⟩
 unfold isInstance callSpecial? specialOf
 repeat (first | with_reducible refine SA ?_ | lk)
 refine PY hq λr s' z=>?_
 rcases r with e | (v | _ | _ | _)<;>first | exact z | exact z.elim | skip
 obtain⟨rfl,z⟩:=z
 exact JS (JS z)
end
end L2
namespace L2
open PySem PySem.Spec PyProof.Rows
structure AM(P:KI)(w:LQ)(outer:List Env)(H:Hp)(s:JL)(cls:JH)(dx:Option JO)(H':Hp)(x:JO)(s':JL):Prop where
 os:s'.os=s.os
 bare:AllBare s'.gens
 un:Un (Rc outer) [] H H' s.heap s'.heap
 hok:Kg P w H' s'.heap
 hx:H' x=none
 nx:s.heap.objs.size<=x
 fly:∃T oe oT vs ts,H' T=none/\s.heap.objs.size<=T/\ExcAt s'.heap x cls dx T .none oe oT vs ts
def Gk(P:KI)(w:LQ):Wc:=⟨λouter H s E e s'=>∃x cls dx H',e=.ref x/\AM P w outer H s cls dx H' x s'/\E cls dx H',true⟩
section
variable {X:Cx} {pins:List (JO×Obj)} {σ:St} {H:Hp} {s:JL} {h':MV} {ch:List JO}
theorem Inv.flew{g:Array GenState}(I:Inv X pins σ H s)(fl:Flew (Rc X.stack) ch s.heap h')(hc:∀b∈ch,H b=none):Kg X.prog X.w H h':=λa o e=>
 (I.hok a o e).stay (λb u hb q=>fl.keep b u (λz=>by
  rcases hb with rfl | hb
  ·rw[I.stkFree b z] at e;cases e
  ·rw[I.stkFree b z] at hb;cases hb) (λz=>by
  rcases hb with rfl | hb
  ·rw[hc b z] at e;cases e
  ·rw[hc b z] at hb;cases hb) q) (λ_ q=>q) λ_ _ q=>q
theorem Inv.unFlew(I:Inv X pins σ H s)(hx:X.ex=[])(hst:X.stack=X.env::X.outer)(hfr:X.env.frame=some X.env.locals)(fl:Flew (Rc X.stack) ch s.heap h')(hc:∀b∈ch,X.s₀.heap.objs.size<=b):Un (Rc X.outer) [] X.H₀ H X.s₀.heap h':=by
 have old:∀ {b:JO} {o:Obj},X.s₀.heap.get? b=some o->b∉ch/\b≠X.env.locals:=λ{b o} e=>⟨λz=>absurd (LI (KA e) (hc b z)) (PQ _),KQ (LI (KA e) I.ok.above)⟩
 have nex:∀b:JO,b∉X.ex:=λb z=>by rw[hx] at z;cases z
 have nst:∀ {b:JO},b∉Rc X.outer->b≠X.env.locals->b∉Rc X.stack:=λ{b} h1 h2 z=>by
  rcases JT.mp (I.stkSub b z) with q | q
  ·exact h2 q
  ·exact h1 q
 refine⟨λb o e n hb _=>fl.keep b o (nst hb (old e).2) (old e).1 (I.base.keep b o e n hb (nex b)),λb o e n hb _=>?_,λb o e n _=>I.base.free b o e n (nex b),λb o e _=>?_,I.base.tups,I.base.frzs,I.base.tbls⟩
 ·obtain⟨sl,q⟩:=I.base.slot b o e n hb (nex b)
  obtain⟨sl2,q2⟩:=fl.slot b _ (old e).1 q
  exact⟨sl2,q2⟩
 ·obtain⟨o',q⟩:=I.base.there b o e (nex b)
  obtain⟨sl,q2⟩:=fl.slot b o' (old e).1 q
  exact⟨_,q2⟩
end
section
variable {P:KI} {w:LQ} {K:JG} {mg:Str->Option JH} {base:MV} {N:List Str} {qual:Str} {scope:Scope} {f:JO} {cd:JH} {A:LM} {outer:List Env} {s₀:JL} {H₀:Hp} {E:XK}
end
theorem Di.okE{P:KI}{w:LQ}{K:JG}{mg:Str->Option JH}{base:MV}{x qual:Str}{st:OU}{f:JO}{fd:LG}{N ps:List Str}{k:Nat}{sp:Sp}(F:Di K x qual st f fd)(S:An N ps (Ad st))(len:∀vs H Q E,sp vs H Q E->vs.length=ps.length)(hbody:∀(cdv:JH)(A:LM)(outer:List Env)(s:JL)(H:Hp)(vs:List V)(Q:VK)(E:XK),Co k (A.deeper (envOfC qual (Ad st) s.heap.objs.size f cdv))->sp vs H Q E ->
  ∃t,Hy (Er (Gk P w) P w K mg base N qual (Ad st) f cdv A outer s H E) (Bg st) t/\t { nx:=λ_ H'=>Q .non H',rt:=Q } (start N vs) H):
 Al P w K mg base (Gk P w) (k+1) f fd ps sp:=by
 obtain⟨oc,od,kV,doc,pm,an,cdv,ct,osl,rfl,lk,hcd⟩:=F.ex
 exact Yf lk hcd S len λA outer s H vs Q E hr hsp=>hbody cdv A outer s H vs Q E hr hsp
def xE(X:Cx)(h:MV)(H:Hp)(x:JO)(cls:JH)(dx:Option JO):Prop:=
 (∃oe vs,qF h x cls dx oe vs) ∨ ∃T fl oe oT vs ts,Df X [] H T/\ExcAt h x cls dx T fl oe oT vs ts
abbrev XS:=St->JH->Option JO->Hp->Prop
def Wx(X:Cx)(E:XS)(e:JH)(s:JL):Prop:=∃x cls dx H σ,e=.ref x/\Inv X [] σ H s/\Df X [] H x/\xE X s.heap H x cls dx/\E σ cls dx H
structure Own(X:Cx):Prop where
 ex:X.ex=[]
 st:X.stack=X.env::X.outer
 fr:X.env.frame=some X.env.locals
theorem Df.old{X:Cx}{pins:List (JO×Obj)}{H:Hp}{b:JO}(f:Df X pins H b)(o:X.ex=[]):X.s₀.heap.objs.size<=b:=by
 rcases f.2.2.2.1 with z | z
 ·rw[o] at z;cases z
 ·exact z
section
variable {X:Cx} {pins:List (JO×Obj)} {σ:St} {H:Hp} {s:JL} {h':MV} {ch:List JO}
theorem Inv.fly(I:Inv X [] σ H s)(fl:Flew (Rc X.stack) ch s.heap h')(hf:∀b∈ch,Df X [] H b):Inv X [] σ H { s with heap:=h' }:=by
 have nst:∀ {b:JO},b≠X.env.locals->b∉X.fs->b∉Rc X.stack:=λ{b} h1 h2 z=>by
  rcases JT.mp (I.stkSub b z) with q | q
  ·exact h1 q
  ·exact h2 q
 refine I.step (g':=s.gens) (d':=s.drawn) (t':=s.toks) (ch:=ch) (λb hb=>?_) (λb o h1 h2 hc e _=>fl.keep b o (nst h1 h2) hc e) (λb o _ _ hc e _=>fl.slot b o hc e) (λ_ _ _ _ n=>n)
  (λb o hc e=>?_) (λ_ _ e=>e) (λ_ _ _ e=>e) (λb ps e=>⟨#[],by rw[e];simp⟩) (λm hm=>?_) (I.flew (g:=s.gens) fl λb hb=>(hf b hb).1) I.bare
 ·obtain⟨f0,f1,f2,f3,f4,f5⟩:=hf b hb
  exact⟨f3,f1,f4,f5⟩
 ·obtain⟨sl,q⟩:=fl.slot b o hc e
  exact⟨_,q⟩
 ·obtain⟨o,es,ep,ho,r⟩:=hm
  obtain⟨sl,q⟩:=fl.slot _ o (λz=>(hf _ z).2.1 rfl) ho
  exact⟨_,es,ep,q,r⟩
end
section
variable {X:Cx} {σ:St} {H:Hp} {s:JL} {x:JO} {cls:JH} {dx:Option JO} {Q:Unit->JL->Prop} {E:JH->JL->Prop} {A:LM}
theorem pW(ow:Own X)(hA:A.frames=some X.stack)(I:Inv X [] σ H s)(fx:Df X [] H x)(f:xE X s.heap H x cls dx)(h:∀h' T oe oT vs ts,Inv X [] σ H { s with heap:=h' }->Df X [] H T->ExcAt h' x cls dx T (QN X.env.locals) oe oT vs ts->Q () { s with heap:=h' }):KY (LB X.prog X.w) A (noteFrame (.ref x) X.env) Q E s:=by
 have hst:=I.stack
 rw[ow.st] at hst hA
 have hone:∀b∈[x],Df X [] H b:=λb hb=>by rw[JP.mp hb];exact fx
 rcases f with ⟨oe,vs,n⟩ | ⟨T,fl,oe,oT,vs,ts,fT,a⟩
 ·refine Yj hA hst ow.fr n λh' T oe' oT vs' ts hT flw at'=>?_
  exact h h' T oe' oT vs' ts (I.fly (by rw[ow.st];exact flw) hone) (I.fpOk hT (I.hok.fresh hT)) at'
 ·by_cases hfl:fl=QN X.env.locals
  rotate_left
  ·refine bZ hA hst ow.fr a (beq_eq_false_iff_ne.mpr hfl) λh' T' oe' oT' vs' ts' hT flw at'=>?_
   refine h h' T' oe' oT' vs' ts' (I.fly (by rw[ow.st];exact flw) λb hb=>?_) (I.fpOk hT (I.hok.fresh hT)) at'
   simp only[JT,KL,or_false] at hb
   rcases hb with rfl | rfl
   ·exact fx
   ·exact fT
  ·subst hfl
   unfold noteFrame
   simp only[ow.fr]
   refine JE (LD a.get a.data a.tb ?_)
   rw[if_pos (show (JZ T != MY)=true from by simp)]
   refine JE (LD a.getT a.dataT a.fl ?_)
   rw[if_pos (show (QN X.env.locals == QN X.env.locals)=true from by first | (simp;done) | exact beq_self_eq_true _)]
   exact JS (h s.heap T oe oT vs ts I fT a)
theorem wU{T:JO}{fl:JH}{oe oT:Obj}{vs ts:Array JH}(I:Inv X [] σ H s)(fT:Df X [] H T)(a:ExcAt s.heap x cls dx T fl oe oT vs ts)(h:∀h' oT' ts',Inv X [] σ H { s with heap:=h' }->ExcAt h' x cls dx T .none oe oT' vs ts'->Q () { s with heap:=h' }):KY (LB X.prog X.w) A (setFlight (.ref x) none) Q E s:=
 eS a (Rc X.stack) λh' oT' ts' flw at'=>h h' oT' ts' (I.fly flw λb hb=>by rw[JP.mp hb];exact fT) at'
theorem DO{T:JO}{fl:JH}{oe oT:Obj}{vs ts:Array JH}(ow:Own X)(I:Inv X [] σ H s)(fT:Df X [] H T)(a:ExcAt s.heap x cls dx T fl oe oT vs ts)(h:∀h' oT' ts',Inv X [] σ H { s with heap:=h' }->ExcAt h' x cls dx T (QN X.env.locals) oe oT' vs ts'->Q () { s with heap:=h' }):
    KY (LB X.prog X.w) A (do if (<- field (.ref x) 1) == .none then unsupported "frame.own-activation:exception-without-traceback"
                                   setFlight (.ref x) X.env.frame) Q E s:=by
  refine JE (LD a.get a.data a.tb ?_)
  rw[if_neg (show ¬ ((JZ T == MY)=true) from by simp)]
  unfold setFlight
  refine JE (LD a.get a.data a.tb ?_)
  rw[if_pos (show (JZ T != MY)=true from by simp),ow.fr]
  have hsz:3 < ts.size:=(NM.mp a.fl).1
  have d3:=QV a.dataT (·.setIfInBounds 3 (QN X.env.locals))
  have oth:∀b,b≠T->(s.heap.update T (QC (·.setIfInBounds 3 (QN X.env.locals)))).get? b=s.heap.get? b:=λb hb=>LV _ _ (LL hb)
  refine MQ a.getT a.dataT hsz (h _ _ _ (I.fly (ch:=[T]) ⟨λb o _ hc q=>(oth b (by simpa using hc)).trans q,λb o hc q=>⟨o.slots,(oth b (by simpa using hc)).trans q⟩,QT (QR (a:=T) s.heap _).1.symm⟩ λb hb=>by rw[JP.mp hb];exact fT)
    ⟨(oth x (LL a.ne)).trans a.get,a.cls,a.dict,a.data,a.tb,a.ne,MX _ a.getT (RB d3),d3,by simp[hsz],a.cx⟩)
theorem Wx.passesOwn{EX:XS}(ow:Own X):PassesOwn (LB X.prog X.w) X.A X.env (Wx X EX):=by
 intro e s' ⟨x,cls,dx,H,σ,he,I,fx,f,hE⟩
 subst he
 refine pW ow I.ok.frames I fx f λh1 T oe oT vs ts I1 fT a1=>?_
 refine DO ow I1 fT a1 λh2 oT' ts' I2 a2=>?_
 exact⟨x,cls,dx,H,σ,rfl,I2,fx,.inr ⟨T,_,oe,oT',vs,ts',fT,a2⟩,hE⟩
end
section
variable {P:KI} {w:LQ} {K:JG} {mg:Str->Option JH} {base:MV} {N:List Str} {qual:Str} {scope:Scope} {f:JO} {cd:JH} {A:LM} {outer:List Env} {s₀:JL} {H₀:Hp} {E:XK}
theorem Kq{CX:Wc}:Own (Er CX P w K mg base N qual scope f cd A outer s₀ H₀ E):=⟨rfl,rfl,rfl⟩
theorem Wx.leaves{e:JH}{s:JL}(h:Wx (Er (Gk P w) P w K mg base N qual scope f cd A outer s₀ H₀ E) (λ_=>E) e s):(Er (Gk P w) P w K mg base N qual scope f cd A outer s₀ H₀ E).xe e s:=by
 obtain⟨x,cls,dx,H,σ,he,I,fx,fly,hE⟩:=h
 subst he
 have ow:Own (Er (Gk P w) P w K mg base N qual scope f cd A outer s₀ H₀ E):=Kq
 show KY _ _ (leaving _ _) _ _ _
 unfold leaving
 refine JE (pW ow I.ok.frames I fx fly λh1 T oe oT vs ts I1 fT a1=>?_)
 refine eS (s:={ s with heap:=h1 }) a1 (Rc (Er (Gk P w) P w K mg base N qual scope f cd A outer s₀ H₀ E).stack) λh2 oT' ts' flw a2=>?_
 have hch:∀b∈[T],Df (Er (Gk P w) P w K mg base N qual scope f cd A outer s₀ H₀ E) [] H b:=λb hb=>by rw[JP.mp hb];exact fT
 refine⟨x,cls,dx,H,rfl,⟨I1.os,I1.bare,I1.unFlew rfl rfl rfl flw (λb hb=>(hch b hb).old rfl),I1.flew (g:=s.gens) flw (λb hb=>(hch b hb).1),fx.1,fx.old rfl,T,oe,oT',vs,ts',fT.1,fT.old rfl,a2⟩,hE⟩
end
abbrev Cx.thrown(X:Cx)(E:XS):Cx:=X.wish (Wx X E)
theorem Di.okX{P:KI}{w:LQ}{K:JG}{mg:Str->Option JH}{base:MV}{x qual:Str}{st:OU}{f:JO}{fd:LG}{N ps:List Str}{k:Nat}{sp:Sp}(F:Di K x qual st f fd)(S:An N ps (Ad st))(len:∀vs H Q E,sp vs H Q E->vs.length=ps.length)(hbody:∀(cdv:JH)(A:LM)(outer:List Env)(s:JL)(H:Hp)(vs:List V)(Q:VK)(E:XK),Co k (A.deeper (envOfC qual (Ad st) s.heap.objs.size f cdv))->sp vs H Q E ->
  ∃t,Hy ((Er (Gk P w) P w K mg base N qual (Ad st) f cdv A outer s H E).thrown λ_=>E) (Bg st) t/\t { nx:=λ_ H'=>Q .non H',rt:=Q } (start N vs) H):
 Al P w K mg base (Gk P w) (k+1) f fd ps sp:=by
 refine F.okE S len λcdv A outer s H vs Q E hr hsp=>?_
 obtain⟨t,h,q⟩:=hbody cdv A outer s H vs Q E hr hsp
 refine⟨t,λpins s' σ' H' D I hw=>?_,q⟩
 exact ND (h pins s' σ' H' D (I.wish _) hw) (λ_ _ z=>z.unwish) λe s2 z=>z.leaves
theorem Wx.passes{X:Cx}{EX:XS}{pins:List (JO×Obj)}{σ:St}{H:Hp}{s s':JL}{e:JH}(I:Inv X pins σ H s)(h:(Gk X.prog X.w).f X.stack H s (EX σ) e s'):Wx X EX e s':=by
 obtain⟨x,cls,dx,H',he,O,hE⟩:=h
 obtain⟨T,oe,oT,vs,ts,hT,zT,a⟩:=O.fly
 have I0:=I.pins_of (pins':=[]) (λp hp=>nomatch hp)
 have I':=I0.call' (ch:=[]) O.os O.un O.hok O.bare (λb z=>nomatch z)
 exact⟨x,cls,dx,H',σ,he,I',I0.fpOk O.nx O.hx,.inr ⟨T,_,oe,oT,vs,ts,I0.fpOk zT hT,a⟩,hE⟩
def xT(sp:Sp)(dvs:List V)(EX:XS)(t:TA):TE:=λσ H Q=>t σ H λvs H1=>sp (vs++dvs) H1 Q (EX σ)
section
variable {X:Cx} {EX:XS} {k:Nat} {f C:JO} {fd:LG} {ps:List Str} {sp:Sp} {dvs:List V} {ds:List JH} {x m:Str} {p pos apos:Pos} {e o:Expr} {es:List Expr} {ta:TE} {t:TA}
theorem Ug{pins:List (JO×Obj)}{σ:St}{H:Hp}{s:JL}{Q:VK}{us:List JH}{vs:List V}(F:Al X.prog X.w X.K X.mg X.base (Gk X.prog X.w) k f fd ps sp)(hr:Co k X.A)(hb:Binds X.K fd ps ds)(hd:Bb dvs ds)(hcs:X.calm=true/\X.sx=true)(I:Inv (X.thrown EX) pins σ H s)(r:Bb vs us)(h:sp (vs++dvs) H Q (EX σ)):KY (LB X.prog X.w) X.A (call (.ref f) us) (EP (X.thrown EX) pins σ Q) (Wx X EX) s:=by
 have r2:Bb (vs++dvs) (us++ds):=r.append hd
 have hl:(us++ds).length=ps.length:=by rw[<- r2.length];exact F.len _ _ _ _ h
 refine SA (PY (F.run X.A X.stack s H ⟨us,[]⟩ (us++ds) (vs++dvs) Q (EX σ) ⟨hr,λ_=>I.ok.st hcs.2,I.ok.hd hcs.1⟩ I.env0 (hb s us I.kIn hl) r2 h) λr s' hq=>?_)
 cases r with
 | error e=>exact Wx.passes I.unwish hq
 | ok fl=>
  cases fl with
  | ret u=>exact I.after hq
  | next=>exact MF hq
  | brk=>exact MF hq
  | cont=>exact MF hq
theorem Qg(F:Al X.prog X.w X.K X.mg X.base (Gk X.prog X.w) k f fd ps sp)(hr:Co k X.A)(hg:Gl X x)(hm:X.mg x=some (.ref f))(hk:JV X.K (.ref f)=true)(hb:Binds X.K fd ps ds)(hd:Bb dvs ds)(ha:PA (X.thrown EX) (e::es) t)(hdb:(x == ("__debug__" : Str))=false:=by decide)(he:KW (e::es) X.env=(false,PD e X.env)::KW es X.env:=by rfl)(hpl:(QO pos (KW es X.env)).any (·.1)=false:=by rfl)(hcs:X.calm=true/\X.sx=true:=by exact⟨rfl,rfl⟩):
 PE (X.thrown EX) (.Call (.Name x p) (e::es) [] pos) (xT sp dvs EX t):=by
 intro pins s σ H Q I h
 refine OS (Hf I hg hm ?_ hdb)
 refine NX (h₀:=X.base) I.ok.mod.kin hk (Bu (ha pos pins s σ H _ I h) λus s1 ⟨vs,H1,I1,r,q⟩=>⟨I1.kIn,?_⟩) he hpl
 exact Ug F hr hb hd hcs I1 r q
end
end L2
namespace L2
open PySem PySem.Spec PyProof.Rows PySem.W
abbrev Nr:List JH:=[.type "ValueError", .type "Exception", .type "BaseException", .type "object"]
abbrev Mm(C:JO)(dx:Option JO)(t:JO):Obj:={ cls:=.ref C,dict:=dx,data:=.fields #[.ref t,.none,.none,.none,.bool false,.none] }
def Vz(es:List RT):Bool:=es.all λe=>match e.key with | .str _ _=>true | _=>false
theorem Sl{K:JG}{h:MV}{N:JO}{oc:JH}{od:Option JO}{es:Array RT}{ep:Nat}{sl:Array (Option JH)}(X:K.In h)(l:K.lookup N=some ⟨oc,od,.dict es ep,sl⟩)(k:Vz es.toList=true):h.Ns N (λx=>nsFind es x):=
 ⟨_,es,ep,X N _ l,rfl,λe he=>by
  unfold Vz at k
  rw[QI] at k
  have q:=k e (Array.mem_toList_iff.mpr he)
  cases hk:e.key with
  | str n t=>exact⟨n,t,rfl⟩
  | _=>rw[hk] at q;exact absurd q JR,λ_=>rfl⟩
structure Kv(K:JG)(C:JO)(bm:List JH):Prop where
 obj:∃nm q N bs hdct sn sub ab col dd k0 k1 k2 k3 k5,K.lookup C=some (excClassObj nm q C N bs bm hdct sn sub ab col dd k0 k1 k2 k3 k5 "ValueError.__new__")
 tail:∀h,K.In h->OwnTail h Nr bm
 kp:JV K (.ref C)=true
section
variable {prog:KI} {w:LQ} {A:LM} {R:Result->JL->Prop} {E:JH->JL->Prop} {s:JL} {K:JG} {C:JO} {bm:List JH}
theorem aB(self:JH):bindSpecial (.builtin "ValueError.__init__") self=pure (.builtin "ValueError.__init__", [self]):=QU.init.bind self
theorem lX(X:K.In s.heap)(c:Kv K C bm)(hi:MK K (.ref C) "__init__" = some (some (.builtin "ValueError.__init__"))){rest:List JH}(hrest:rest.length<=JQ){Q:JH->JL->Prop}(h:∀h' t,(∀b o,s.heap.get? b=some o->h'.get? b=some o)->h'.get? (s.heap.objs.size+1)=some (Mm C none t)->Q (.ref (s.heap.objs.size+1)) { s with heap:=h' }):
 KY (LB prog w) A (call (.ref C) rest) Q E s:=by
 obtain⟨nm,q,N,bs,hdct,sn,sub,ab,col,dd,k0,k1,k2,k3,k5,lk⟩:=c.obj
 obtain⟨hh,g,d,t,os⟩:=s
 have hC:=X C _ lk
 have F:=QU
 have T:=c.tail _ X
 have f1:=tc_lookup
 have f2:=tc_bind (.ref C)
 have hT:(⟨hh,g,d,t,os⟩:JL).TypeIs (.ref C) "type" := ⟨_,hC,rfl⟩
 refine SA (codeAny_of_tree ?_)
 show KY _ _ (callAny (.ref C) _) _ _ _
 repeat (any_goals (first | assumption | with_reducible refine RF hC ?_ | wp_step))
 refine⟨rfl,codeAny_call_builtin_at (SR _ (by decide +kernel)) entry_typeCall (wpAny_check_type_call_sub hC ?_)⟩
 repeat (first | with_reducible refine RF hC ?_ | with_reducible refine wpAny_madeBy_exc hC ?_ | wp_step)
 refine codeAny_call_builtin_code (SR _ F.quiet) (wpAny_check_new_subU F (by decide +kernel) T hC (codeAny_exc_new_subU F (by decide +kernel) F T hC ?_ hrest))
 show KY _ _ _ _ _ _
 have k:∀b o,hh.get? b=some o->((hh.push (Dz rest)).push (Dn C hh.objs.size)).get? b=some o:=λb o e=>JI _ (JI _ e)
 have hx:((hh.push (Dz rest)).push (Dn C hh.objs.size)).get? (hh.objs.size+1)=some (Dn C hh.objs.size):=by heap_get
 have c1:=k _ _ hC
 have hcC:(JZ C::bm).contains (.ref C)=true:=by simp
 have i1:=(PySem.W.looks_findIn (M:=LB prog w) X hi).keeps k
 have b1:PP (LB prog w) ((hh.push (Dz rest)).push (Dn C hh.objs.size)) (bindSpecial (.builtin "ValueError.__init__") (.ref (hh.objs.size+1))) (.builtin "ValueError.__init__", [.ref (hh.objs.size+1)]):=.of_pure (aB _)
 have t1:PP (LB prog w) ((hh.push (Dz rest)).push (Dn C hh.objs.size)) (typeOf (.ref (hh.objs.size+1))) (.ref C):=(PySem.W.Looks.ld hx).andThen .now
 have t2:PP (LB prog w) ((hh.push (Dz rest)).push (Dn C hh.objs.size)) (isSubtype (.ref C) (.ref C)) true:=λA' Q' E' s' k' q'=>by
  obtain⟨h',g',d',tk',os'⟩:=s'
  refine wpAny_isSubtype_exc (k' _ _ c1) ?_
  rw[hcC]
  exact q'
 show KY (LB prog w) _ (isInstance (.ref (hh.objs.size+1)) (.ref C) >>= _) _ _ ⟨(hh.push (Dz rest)).push (Dn C hh.objs.size),g,d,t,os⟩
 unfold isInstance callSpecial? specialOf
 repeat (first | with_reducible refine SA ?_ | lk)
 refine codeAny_call_builtin F.init.plain F.initEntry (wpAny_check_init_subU F (T.keeps k) c1 hx rfl ?_)
 wp_walk
 refine h _ ((hh.push (Dz rest)).push (Dn C hh.objs.size)).objs.size (λb o e=>?_) ?_
 ·show (Heap.update _ _ _).get? b=_
  rw[LV _ _ (OG (SH (KA (h:=hh) e)))]
  exact JI _ (k b o e)
 ·show (Heap.update _ _ _).get? _=_
  rw[MX _ (JI _ hx) rfl]
  rfl
end
section
variable {M:Model} {A:LM} {E:JH->JL->Prop} {s:JL} {env:Env} {K:JG} {C:JO} {bm:List JH}
theorem qJ{x:Sem JH}{Q:Flow->JL->Prop}(c:Kv K C bm)(hbase:bm.contains (.type "BaseException")=true)(hh:A.handled=none)(h:KY M A x (λv s₁=>∃e dx t,v=.ref e/\K.In s₁.heap/\s₁.heap.get? e=some (Mm C dx t)/\E (.ref e) s₁) E s):KY M A (raiseStmt env (some x) none) Q E s:=by
 obtain⟨nm,q,N,bs,hdct,sn,sub,ab,col,dd,k0,k1,k2,k3,k5,lk⟩:=c.obj
 have hcB:(JZ C::bm).contains (.type "BaseException")=true:=by rw[List.contains_cons,hbase,Bool.or_true]
 unfold raiseStmt
 refine JE (ND h (λv s₁ h₁=>?_) λ_ _ x=>x)
 obtain⟨e,dx,t,rfl,X,he,hE⟩:=h₁
 have hC:=X C _ lk
 obtain⟨hp,g,d,tk,os⟩:=s₁
 repeat (first | with_reducible refine RF he ?_ | with_reducible refine RF hC ?_ | (with_reducible refine wpAny_isSubtype_exc hC ?_;rw[hcB]) | wp_step)
 exact wpAny_raiseNew_none hh hE
end
section
variable {X:Cx} {EX:XS} {C:JO} {bm:List JH} {x:Str} {p pos cpos:Pos} {e:Expr} {es:List Expr} {t:TA}
def xK(C:JO)(EX:XS)(t:TA):TS:=λ_ σ H=>t σ H λvs H1=>vs.length<=JQ/\EX σ (.ref C) none H1
theorem cL(c:Kv X.K C bm)(hbase:bm.contains (.type "BaseException")=true)(hi:MK X.K (.ref C) "__init__" = some (some (.builtin "ValueError.__init__"))){pins:List (JO×Obj)}{σ:St}{H:Hp}{s:JL}{us:List JH}(I:Inv X pins σ H s)(hz:us.length<=JQ)(hE:EX σ (.ref C) none H):
 KY (LB X.prog X.w) X.A (call (.ref C) us) (λv s₁=>∃e dx t,v=.ref e/\X.K.In s₁.heap/\s₁.heap.get? e=some (Mm C dx t)/\Wx X EX (.ref e) s₁) (Wx X EX) s:=by
 refine lX I.kIn c hi hz λh' t k g=>?_
 have I0:=I.pins_of (pins':=[]) (λp hp=>nomatch hp)
 have I1:Inv X [] σ H { s with heap:=h' }:=I0.kept (t':=s.toks) k
 have le:s.heap.objs.size<=s.heap.objs.size+1:=ON _
 exact⟨_,none,t,rfl,I1.kIn,g,_,_,none,H,σ,rfl,I1,I0.fpOk le (I0.hok.fresh le),.inl ⟨_,_,⟨g,rfl,rfl,rfl,rfl,rfl⟩⟩,hE⟩
theorem Yi(hcalm:X.sx=true)(c:Kv X.K C bm)(hbase:bm.contains (.type "BaseException")=true)(hi:MK X.K (.ref C) "__init__" = some (some (.builtin "ValueError.__init__")))(hg:Gl X x)(hm:X.mg x=some (.ref C))(ha:PA (X.thrown EX) (e::es) t)(hdb:(x == ("__debug__" : Str))=false:=by decide)(he:KW (e::es) X.env=(false,PD e X.env)::KW es X.env:=by rfl)(hpl:(QO cpos (KW es X.env)).any (·.1)=false:=by rfl):
 PS (X.thrown EX) (.Raise (some (.Call (.Name x p) (e::es) [] cpos)) none pos) (xK C EX t):=by
 intro pins s σ H D I h
 rw[arm_exec_Raise]
 refine JE (RE ?_)
 show KY _ _ (raiseStmt _ (some (do let v <- PD (.Call (.Name x p) (e::es) [] cpos) X.env;standAt pos;pure v)) none) _ _ _
 refine qJ c hbase (I.ok.st hcalm) (JE (Bu ?_ λv s1 z=>JE (RE (JS z))))
 refine OS (Hf I hg hm ?_ hdb)
 refine NX (h₀:=X.base) I.ok.mod.kin c.kp (Bu (ha cpos pins s σ H _ I h) λus s1 ⟨vs,H1,I1,r,z,hE⟩=>⟨I1.kIn,?_⟩) he hpl
 exact cL (us:=us) c hbase hi I1.unwish (by rw[<- r.length];exact z) hE
end
end L2
namespace L2
open PySem PySem.Spec PyProof.Rows
abbrev Cx.pinned(X:Cx)(pins:List (JO×Obj)):Cx:={ X with pn:=pins }
section
variable {X:Cx} {pins:List (JO×Obj)} {σ:St} {H:Hp} {s:JL}
theorem Inv.intoPn(I:Inv X pins σ H s):Inv (X.pinned (X.pn++pins)) [] σ H s:=
 ⟨⟨I.ok.mod,I.ok.kind,I.ok.glob,I.ok.blt,I.ok.above,I.ok.inj,I.ok.has,I.ok.cab,I.ok.hd,I.ok.st,I.ok.frames,I.ok.stk,I.ok.exf,I.ok.bs,I.ok.bsz,I.ok.noex,I.ok.exfs,I.ok.funs,I.ok.frf⟩,I.os,I.bare,I.base,I.loc,I.cell,I.free,I.freeC,λp hp=>I.pin p (by rw[MD] at hp;exact hp),I.hok,I.len⟩
theorem Inv.outPn(I:Inv (X.pinned (X.pn++pins)) [] σ H s):Inv X pins σ H s:=
 ⟨⟨I.ok.mod,I.ok.kind,I.ok.glob,I.ok.blt,I.ok.above,I.ok.inj,I.ok.has,I.ok.cab,I.ok.hd,I.ok.st,I.ok.frames,I.ok.stk,I.ok.exf,I.ok.bs,I.ok.bsz,I.ok.noex,I.ok.exfs,I.ok.funs,I.ok.frf⟩,I.os,I.bare,I.base,I.loc,I.cell,I.free,I.freeC,λp hp=>I.pin p (by rw[MD];exact hp),I.hok,I.len⟩
theorem Df.outPn{b:JO}(f:Df (X.pinned (X.pn++pins)) [] H b):Df X [] H b:=
 ⟨f.1,f.2.1,f.2.2.1,f.2.2.2.1,f.2.2.2.2.1,λp hp=>f.2.2.2.2.2 p (by rw[MD] at hp ⊢;exact ML _ hp)⟩
theorem Wx.outPn{EX:XS}{e:JH}(h:Wx (X.pinned (X.pn++pins)) EX e s):Wx X EX e s:=by
 obtain⟨x,cls,dx,H,σ,he,I,fx,f,hE⟩:=h
 refine⟨x,cls,dx,H,σ,he,I.outPn.pins_of (λp hp=>nomatch hp),fx.outPn,?_,hE⟩
 rcases f with f | ⟨T,fl,oe,oT,vs,ts,fT,r⟩
 ·exact .inl f
 ·exact .inr ⟨T,fl,oe,oT,vs,ts,fT.outPn,r⟩
theorem SP.outPn{D:Ends}{f:Flow}(h:SP (X.pinned (X.pn++pins)) [] D f s):SP X pins D f s:=by
 cases f with
 | next=>obtain⟨σ',H',I,q⟩:=h;exact⟨σ',H',I.outPn,q⟩
 | brk=>obtain⟨σ',H',I,q⟩:=h;exact⟨σ',H',I.outPn,q⟩
 | cont=>obtain⟨σ',H',I,q⟩:=h;exact⟨σ',H',I.outPn,q⟩
 | ret u=>obtain⟨v,σ',H',I,r,q⟩:=h;exact⟨v,σ',H',I.outPn,r,q⟩
end
def Ii(X:Cx)(x:JO)(oe:Obj):Cx:={ X with A:=X.A.mark (some (.ref x)),calm:=false,sx:=false,pn:=(x,oe)::X.pn,xe:=λ_ _=>False }
section
variable {X:Cx} {σ:St} {H:Hp} {s:JL} {x:JO} {oe:Obj}
theorem Inv.suite(I:Inv X [] σ H s)(fx:Df X [] H x)(g:s.heap.get? x=some oe)(d:∀v,oe.data ≠ .cell v):Inv (Ii X x oe) [] σ H s:=
 ⟨⟨I.ok.mod,I.ok.kind,I.ok.glob,I.ok.blt,I.ok.above,I.ok.inj,I.ok.has,I.ok.cab,λz=>absurd z JR,λz=>absurd z JR,I.ok.frames,I.ok.stk,I.ok.exf,I.ok.bs,I.ok.bsz,I.ok.noex,I.ok.exfs,I.ok.funs,I.ok.frf⟩,I.os,I.bare,I.base,I.loc,I.cell,I.free,I.freeC,λp hp=>by
  rw[MD] at hp
  rcases JT.mp hp with rfl | hp
  ·exact⟨g,fx.1,fx.2.1,fx.2.2.1,d⟩
  ·exact I.pin p (by rw[MD];exact hp),I.hok,I.len⟩
theorem Inv.unsuite(I:Inv (Ii X x oe) [] σ H s)(hd:X.calm=true->Bp X.A X.base)(ok:X.Ok):Inv X [] σ H s:=
 ⟨ok,I.os,I.bare,I.base,I.loc,I.cell,I.free,I.freeC,λp hp=>I.pin p (by rw[MD] at hp ⊢;exact JU _ hp),I.hok,I.len⟩
end
def PH(X:Cx)(hs:List SQ)(EX:XS)(th:Ends->XS):Prop:=
 ∀(σ:St)(H:Hp)(s:JL)(x:JO)(cls:JH)(dx:Option JO)(T:JO)(oe oT:Obj)(vs ts:Array JH)(D:Ends),Inv X [] σ H s->Df X [] H x->Df X [] H T->ExcAt s.heap x cls dx T .none oe oT vs ts->th D σ cls dx H ->
  KY (LB X.prog X.w) X.A (handleBy (.ref x) X.env hs) (SP X [] D) (Wx X EX) s
section
variable {X:Cx} {EX:XS} {th:Ends->XS} {hs:List SQ} {C:JO} {c:Str} {np pos:Pos} {b₀:OU} {suite:List OU} {ts':JO->Obj->TS}
theorem aX(ow:Own X):PH X [] EX (λ_=>EX):=by
 intro σ H s x cls dx T oe oT vs ts D I fx fT a hE
 refine wpAny_handleBy_nil ?_
 unfold PySem.passOn
 refine JE (LD a.get a.data a.tb ?_)
 rw[if_neg (show ¬ ((JZ T == MY)=true) from by simp)]
 unfold setFlight
 refine JE (JE (LD a.get a.data a.tb ?_))
 rw[if_pos (show (JZ T != MY)=true from by simp),ow.fr]
 have hsz:3 < ts.size:=(NM.mp a.fl).1
 have d3:=QV a.dataT (·.setIfInBounds 3 (QN X.env.locals))
 have oth:∀b,b≠T->(s.heap.update T (QC (·.setIfInBounds 3 (QN X.env.locals)))).get? b=s.heap.get? b:=λb hb=>LV _ _ (LL hb)
 refine MQ a.getT a.dataT hsz (wpAny_throw ⟨x,cls,dx,H,σ,rfl,I.fly (ch:=[T]) ⟨λb o _ hc q=>(oth b (by simpa using hc)).trans q,λb o hc q=>⟨o.slots,(oth b (by simpa using hc)).trans q⟩,QT (QR (a:=T) s.heap _).1.symm⟩ (λb hb=>by rw[JP.mp hb];exact fT),fx,
  .inr ⟨T,QN X.env.locals,oe,_,vs,_,fT,⟨(oth x (LL a.ne)).trans a.get,a.cls,a.dict,a.data,a.tb,a.ne,MX _ a.getT (RB d3),d3,by simp[hsz],a.cx⟩⟩,hE⟩)
theorem eE(hcls:Gl X c)(hm:X.mg c=some (.ref C))(hsu:∀x oe,Hy (Ii X x oe) (b₀::suite) (ts' x oe))(hr:PH X hs EX th)(hdb:(c == ("__debug__" : Str))=false:=by decide):
 PH X (.ExceptHandler (some (.Name c np)) none (b₀::suite) pos::hs) EX (λD σ cls dx H=>∃b,QZ X.K cls (.ref C)=some b/\if b=true then ∀x oe,H x=none->oe.cls=cls->oe.dict=dx->(∃ws,oe.data=.fields ws/\ws[2]? = some .none)->ts' x oe D σ H else th D σ cls dx H):=by
 intro σ H s x cls dx T oe oT vs ts D I fx fT a h
 obtain⟨b,hb,h⟩:=h
 have dn:∀v,oe.data ≠ .cell v:=λv z=>by rw[a.data] at z;cases z
 have IS:=I.suite fx a.get dn
 have mk:(X.A.mark (some (.ref x)))=(Ii X x oe).A:=rfl
 refine wpAny_handleBy_cons (codeAny_handlers_test ?_) (by intro q;cases q)
 refine Hf (X:=Ii X x oe) IS hcls hm ?_ hdb
 have lt:PP (LB X.prog X.w) s.heap (typeOf (.ref x)) cls:=by
  have q:PP (LB X.prog X.w) s.heap (typeOf (.ref x)) oe.cls:=(PySem.W.Looks.ld a.get).andThen .now
  rw[a.cls] at q
  exact q
 obtain⟨hh,g,d,tk,os⟩:=s
 refine(PySem.W.exm_one I.kIn lt hb).at ?_
 cases b with
 | false=>
  rw[if_neg JR] at h
  exact hr σ H _ x cls dx T oe oT vs ts D I fx fT a h
 | true=>
  rw[if_pos rfl] at h
  refine codeAny_handlers_suite ?_
  refine wU (A:=X.A.mark (some (.ref x))) I fT a λh1 oT1 ts1 I1 a1=>?_
  have I2:=I1.suite fx a1.get dn
  refine ND (hsu x oe [] _ σ H D I2 (h x oe fx.1 a.cls a.dict ⟨vs,a.data,a.cx⟩)) (λf s2 q=>?_) (λ_ _ z=>z.elim)
  cases f with
  | next=>obtain⟨σ',H',J,q⟩:=q;exact⟨σ',H',J.unsuite I.ok.hd I.ok,q⟩
  | brk=>obtain⟨σ',H',J,q⟩:=q;exact⟨σ',H',J.unsuite I.ok.hd I.ok,q⟩
  | cont=>obtain⟨σ',H',J,q⟩:=q;exact⟨σ',H',J.unsuite I.ok.hd I.ok,q⟩
  | ret u=>obtain⟨v,σ',H',J,r,q⟩:=q;exact⟨v,σ',H',J.unsuite I.ok.hd I.ok,r,q⟩
end
def IA(tb:XS->TS)(th:Ends->XS):TS:=λD σ H=>tb (λσ' cls dx H'=>th D σ' cls dx H') D σ H
theorem Zl{X:Cx}{W:JH->JL->Prop}{EX:XS}{body:List OU}{h₀:SQ}{hs:List SQ}{pos:Pos}{tb:XS->TS}{th:Ends->XS}(ow:Own X)(hW:∀e s,Wx X EX e s->W e s)(hb:∀pn EX1,Hy ((X.pinned pn).thrown EX1) body (tb EX1))(hh:∀pn,PH (X.pinned pn) (h₀::hs) EX th):PS (X.wish W) (.Try body (h₀::hs) [] [] pos) (IA tb th):=by
 intro pins s σ H D I h
 have Ip:=I.unwish.intoPn
 have owp:Own (X.pinned (X.pn++pins)):=⟨ow.ex,ow.st,ow.fr⟩
 refine wpAny_Try_except (ND (hb (X.pn++pins) _ [] s σ H D (Ip.wish _) h) (λf s1 q=>?_) λe s1 z=>?_)
 ·have q':=q.unwish.outPn
  cases f with
  | next=>
   obtain⟨σ',H',J,q⟩:=q'
   exact wpAny_execs_nil ⟨σ',H',J.wish _,q⟩
  | brk=>obtain⟨σ',H',J,q⟩:=q';exact⟨σ',H',J.wish _,q⟩
  | cont=>obtain⟨σ',H',J,q⟩:=q';exact⟨σ',H',J.wish _,q⟩
  | ret u=>obtain⟨v,σ',H',J,r,q⟩:=q';exact⟨v,σ',H',J.wish _,r,q⟩
 ·obtain⟨x,cls,dx,H1,σ1,he,I1,fx,fly,hE⟩:=z
  subst he
  refine pW (X:=X.pinned (X.pn++pins)) owp I1.ok.frames I1 fx fly λh1 T oe oT vs ts I2 fT a1=>?_
  refine wU (X:=X.pinned (X.pn++pins)) (A:=X.A) I2 fT a1 λh2 oT2 ts2 I3 a2=>?_
  refine ND (hh (X.pn++pins) σ1 H1 _ x cls dx T oe oT2 vs ts2 D I3 fx fT a2 hE) (λf s2 q=>?_) λe s2 z=>hW e s2 z.outPn
  have q':=q.outPn
  cases f with
  | next=>obtain⟨σ',H',J,q⟩:=q';exact⟨σ',H',J.wish _,q⟩
  | brk=>obtain⟨σ',H',J,q⟩:=q';exact⟨σ',H',J.wish _,q⟩
  | cont=>obtain⟨σ',H',J,q⟩:=q';exact⟨σ',H',J.wish _,q⟩
  | ret u=>obtain⟨v,σ',H',J,r,q⟩:=q';exact⟨v,σ',H',J.wish _,r,q⟩
end L2
namespace L2
open PySem PySem.Spec PyProof.Rows PySem.W
def rem(H:Hp)(x:JO):Hp:=λb=>if b=x then none else H b
theorem Ud{H:Hp}{x b:JO}(h:b≠x):rem H x b=H b:=if_neg h
theorem Jx{H:Hp}{x:JO}:rem H x x=none:=if_pos rfl
theorem Jw{H:Hp}{x b:JO}(h:H b=none):rem H x b=none:=by
 unfold rem
 split
 ·rfl
 ·exact h
theorem Inv.drop{X:Cx}{pins:List (JO×Obj)}{σ:St}{H:Hp}{s:JL}{x:JO}{φ:MV->Prop}(I:Inv X pins σ H s)(hx:H x=some (.ext φ)):Inv X pins σ (rem H x) s:=by
 have ne:∀b o,H b=some o->(∀ψ,o ≠ .ext ψ)->b≠x:=λb o e n z=>by
  subst z
  rw[hx] at e
  exact n φ (LC e).symm
 have ne':∀ {b o},H b=some o->(∀ψ,o ≠ .ext ψ)->rem H x b=some o:=λ{b o} e n=>by rw[Ud (ne b o e n)];exact e
 refine⟨I.ok,I.os,I.bare,⟨I.base.keep,I.base.slot,λb u e n hx'=>Jw (I.base.free b u e n hx'),I.base.there,λb xs e=>ne' (I.base.tups b xs e) (λψ z=>nomatch z),λb u v e=>ne' (I.base.frzs b u v e) (λψ z=>nomatch z),λb ps e=>?_⟩,I.loc,I.cell,Jw I.free,λy c e=>Jw (I.freeC y c e),λp hp=>?_,λb u e=>?_,I.len⟩
 ·obtain⟨m,q⟩:=I.base.tbls b ps e
  exact⟨m,ne' q (λψ z=>nomatch z)⟩
 ·obtain⟨e,n,r⟩:=I.pin p hp
  exact⟨e,Jw n,r⟩
 ·by_cases hb:b=x
  ·subst hb
   rw[Jx] at e
   cases e
  ·rw[Ud hb] at e
   exact(I.hok b u e).stay (λ_ _ _ q=>q) (λc q=>ne' q (λψ z=>nomatch z)) λc xs q=>ne' q (λψ z=>nomatch z)
def rN(x C:JO)(dx:Option JO)(t:JO):HO:=.ext λh=>h.get? x=some (Mm C dx t)
theorem pX{P:KI}{w:LQ}{H:Hp}{h:MV}{x C:JO}{dx:Option JO}{t:JO}(e:h.get? x=some (Mm C dx t)):Cg P w H h x (rN x C dx t):=⟨e,⟨_,e⟩,λh1 h2 a k=>k _ a⟩
theorem lY{P:KI}{w:LQ}{H:Hp}{h:MV}{x C:JO}{dx:Option JO}{t:JO}(hok:Kg P w H h)(e:H x=some (rN x C dx t)):h.get? x=some (Mm C dx t):=(hok x _ e).1
theorem Yz{h:MV}{self:JH}{l:List JH}(T:OwnTail h Nr l):refuseLoop self "__setattr__" l=pure ():=by
 induction T with
 | base=>exact PySem.F.store_ValueError.passes self
 | own _ _ _ _ ih=>rw[refuseLoop_ref];exact ih
section
variable {prog:KI} {w:LQ} {A:LM} {E:JH->JL->Prop} {s:JL} {K:JG} {C x t:JO} {bm:List JH} {name:Str} {v:JH}
theorem uO{Q:Unit->JL->Prop}(X:K.In s.heap)(c:Kv K C bm)(hs:RY K (.ref C) "__setattr__" = some (some (.builtin "object.__setattr__")))(ht:takerIn K C name=some none)(hh:hasDictIn K C=true)(hx:s.heap.get? x=some (Mm C none t))(h:∀h1 h2 h3,(∀b o,s.heap.get? b=some o->h1.get? b=some o)->h1.Ns1 s.heap.objs.size (λ_=>none)->Heap.SameBut x h1 h2->h2.get? x=some (Mm C (some s.heap.objs.size) t) ->
  Heap.SameBut s.heap.objs.size h2 h3->h3.Ns1 s.heap.objs.size (λy=>if y=name then some v else none)->Q () { s with heap:=h3,toks:=s.toks+2 }):
 KY (LB prog w) A (setAttr (.ref x) name v) Q E s:=by
 have I:InstAt s.heap x (Mm C none t) C none:=⟨hx,rfl,rfl,trivial⟩
 obtain⟨nm,q,N,bs,hdct,sn,sub,ab,col,dd,k0,k1,k2,k3,k5,lk⟩:=c.obj
 have hC:=X C _ lk
 have T:=c.tail _ X
 refine set_plain X I hs ?_
 have SF:=PySem.F.store_object
 obtain⟨cd,hc,hd⟩:=any_some hh
 have hcm:cd.mro=.ref C::bm:=by
  unfold clsIn at hc
  rw[lk] at hc
  cases hc
  rfl
 have ne:cd.mro.isEmpty=false:=by rw[hcm];rfl
 have hob:cd.mro.contains (.type "object")=true:=by rw[hcm,List.contains_cons,T.hasType (X := "object") (b:=true) (by decide +kernel),Bool.or_true]
 have sb:Looks (LB prog w) s.heap (isInstance (.ref x) (.type "object")) true:=I.type.andThen (looks_mroIn X (by unfold mroIn;rw[hc,Option.bind_some,if_neg (by rw[ne];decide),hob]))
 refine codeAny_call_builtin SF.slot.plain SF.entry (@check_slot (LB prog w) _ _ { s with toks:=s.toks+1 } "object.__setattr__" "object" "__setattr__" (.ref x) [.str name s.toks,v] [] _ SF.kind SF.split sb (SF.args (.ref x) (.str name s.toks) v) ?_)
 obtain⟨attr,ha,hr⟩:=Option.bind_eq_some_iff.mp ht
 have hm:Looks (LB prog w) s.heap (mroOf (.ref C)) cd.mro:=(looks_clsIn X hc).andThen .now
 have L3:Looks (LB prog w) s.heap (Builtin.ObjectAttr.storeTaker? attr) none:=by
  cases attr with
  | none=>exact .now
  | some a=>
   obtain⟨b,hb,hb2⟩:=Option.map_eq_some_iff.mp hr
   refine(looks_takesIn X hb).andThen ?_
   cases b with
   | false=>exact .now
   | true=>cases hb2
 rw[osa_eq,refuse_eq]
 refine JE (JE (I.type.here (s:={ s with toks:=s.toks+1 }) (JE (hm.here (s:={ s with toks:=s.toks+1 }) ?_))))
 rw[hcm,refuseLoop_ref,Yz T]
 refine JS (JE (I.type.here (s:={ s with toks:=s.toks+1 }) (JE ((looks_findIn X ha).here (s:={ s with toks:=s.toks+1 }) (JE (L3.here (s:={ s with toks:=s.toks+1 }) ?_))))))
 show KY _ _ (Builtin.ObjectAttr.storeInOwnDict (.ref x) (.ref C) (.str name s.toks) name v _) _ _ _
 have hx₁:(s.heap.push { cls:=.type "dict", data:=.dict #[] }).get? x=some (Mm C none t):=JI _ hx
 have hxs:x≠s.heap.objs.size:=KQ (KA hx)
 refine JE (JS (JE (JE (wpAny_loadPart hx (JE ((looks_clsIn X hc).here (s:={ s with toks:=s.toks+1 }) ?_))))))
 rw[hd,if_neg (by decide)]
 show KY _ _ (do
  let d <- alloc { cls:=OT "dict", data:=Data.dict #[] }
  update x λo=>{ cls:=o.cls,dict:=some d,data:=o.data,slots:=o.slots }
  dictMade (JZ C) x d) _ _ _
 generalize hob1:({ cls:=OT "dict", data:=Data.dict #[] }:Obj)=dob at hx₁
 have g1:(s.heap.push dob).get? s.heap.objs.size=some dob:=KG _ (by subst hob1;rfl)
 refine JE (wpAny_alloc' (JE (wpAny_update' hx₁ (JS ?_))))
 have n1:(s.heap.push dob).Ns1 s.heap.objs.size (λ_=>none):=Heap.Ns1.of_empty ⟨dob,#[],_,g1,by subst hob1;rfl,λe he=>absurd he (by simp),λ_=>rfl⟩
 have sb2:=QR (a:=x) (s.heap.push dob) (λo=>{ cls:=o.cls,dict:=some s.heap.objs.size,data:=o.data,slots:=o.slots })
 have g2:=MX (λo=>{ cls:=o.cls,dict:=some s.heap.objs.size,data:=o.data,slots:=o.slots }) hx₁ rfl
 show KY _ _ (Builtin.ObjectAttr.storeInDict s.heap.objs.size (.str name s.toks) name v) _ _ _
 unfold Builtin.ObjectAttr.storeInDict Builtin.ObjectAttr.newKeyGuard
 refine JE (JS (JE (wpAny_nsSet1 (n1.sameBut sb2 (LL hxs)) λh' hn' hs'=>?_)))
 obtain⟨oD,esD,epD,hoD,hdD,hcD⟩:=hn'.count (Within.cons name v Within.nil)
 refine JE (wpAny_lookBehind hoD (by rw[hdD];exact pastItsLine_dict (KZ hcD (by rw[LU,List.length_nil,KS];omega))) ?_)
 exact JS (h _ _ h' (λb o e=>JI _ e) n1 sb2 g2 hs' hn')
end
structure vD(K:JG)(C:JO)(f:Str):Prop where
 sa:RY K (.ref C) "__setattr__" = some (some (.builtin "object.__setattr__"))
 na:RY K (.ref C) f=some none
 hd:hasDictIn K C=true
 ga:RY K (.ref C) "__getattribute__" = some (some (.builtin "BaseException.__getattribute__"))
 gn:RY K (.ref C) "__getattr__" = some none
 be:mroIn K C (.type "BaseException")=some true
section
variable {prog:KI} {w:LQ} {A:LM} {E:JH->JL->Prop} {s:JL} {K:JG} {C x:JO} {name:Str} {v:JH} {ox od:Obj} {expr:Bool}
end
def DM(K:JG)(ta tv:TE)(f:Str):TS:=λD σ H=>tv σ H λy H1=>ta σ H1 λxv H2=>∃x C bm t,xv=.ref x/\H2 x=some (rN x C none t)/\Kv K C bm/\vD K C f /\
 ∀dx,H2 dx=none->dx≠x->D.nx σ (upd (upd H2 x (rN x C (some dx) t)) dx (.xd [(f,y)]))
section
variable {X:Cx} {o e value:Expr} {f:Str} {pos pos':Pos} {ta tv:TE}
theorem sK(ha:PE X o ta)(hv:PE X value tv)(hs:swapsWith value (some (.Attribute o f pos')) pos.line X.env=pure false:=by rfl):PS X (.Assign [.Attribute o f pos'] value pos) (DM X.K ta tv f):=by
 intro pins s σ H D I h
 refine plainObj_wpAny_Assign_Attribute (Bu (hv pins s σ H _ I h) λu s1 ⟨y,H1,I1,ry,q⟩=>Bu (ha pins s1 σ H1 _ I1 q) λov s2 ⟨xv,H2,I2,rx,x,C,bm,t,ex,ea,c,F,q2⟩=>?_) hs
 subst ex
 obtain rfl:ov=JZ x:=rx
 have g:=lY I2.hok ea
 have hxs:x≠s2.heap.objs.size:=KQ (KA g)
 refine uO I2.kIn c F.sa (Ei.taker F.na) F.hd g λh1 h2 h3 k1 n1 sb2 g2 sb3 n3=>?_
 have k3:∀b u,b≠x->s2.heap.get? b=some u->h3.get? b=some u:=λb u hb z=>(sb3.2 b (KQ (KA z))).trans ((sb2.2 b hb).trans (k1 b u z))
 have g3:h3.get? x=some (Mm C (some s2.heap.objs.size) t):=(sb3.2 x hxs).trans g2
 have J2:Inv X pins σ (upd H2 x (rN x C (some s2.heap.objs.size) t)) { s2 with heap:=h3,toks:=s2.toks+2 }:=
  I2.write (x:=x) (e:=x) (h':=h3) (by rw[ea];exact PK) (.inl rfl) k3 ⟨_,g3⟩ (pX g3)
 have fD:Df X pins H2 s2.heap.objs.size:=I2.fpOk (JM _) (I2.hok.fresh (JM _))
 have J3:=J2.adopt (D:=s2.heap.objs.size) (o:=.xd [(f,y)]) (by rw[Aj (LL hxs)];exact fD.1) fD.2.1 I2.sz fD.2.2.2.2.1 fD.2.2.2.2.2
  ⟨_,n3,λg'=>by
   by_cases hg:g'=f
   ·subst hg
    show Hw (RJ g' [(g',y)]) (if g'=g' then some u else none)
    rw[KR,beq_self_eq_true,if_pos rfl]
    exact ry
   ·show Hw (RJ g' [(f,y)]) (if g'=f then some u else none)
    rw[KR,beq_eq_false_iff_ne.mpr hg,if_neg hg]
    exact PK⟩
 exact⟨σ,_,J3,q2 _ (I2.hok.fresh (JM _)) (LL hxs)⟩
end
section
variable {X:Cx} {EX:XS} {C f:JO} {bm:List JH} {fd:LG} {ps:List Str} {sp:Sp} {k:Nat} {x:Str} {p pos cpos:Pos} {e:Expr} {es:List Expr} {t:TA}
def IE:XK:=λ_ _ _=>False
def xF(C:JO)(sp:Sp)(EX:XS)(σ:St)(vs:List V)(H:Hp):Prop:=vs.length<=JQ /\
 ∀x tt,H x=none->sp (.ref x::vs) (upd H x (rN x C none tt)) (λv H2=>v=.non/\∃dx,H2 x=some (rN x C dx tt)/\EX σ (.ref C) dx (rem H2 x)) IE
theorem jQ(c:Kv X.K C bm)(hi:MK X.K (.ref C) "__init__" = some (some (.ref f)))(hfn:PySem.W.isFn X.K (.ref f)=true)(F:Al X.prog X.w X.K X.mg X.base Bi k f fd ps sp)(hr:Co (k+1) X.A)(hb:Binds X.K fd ps [])(hcl:X.calm=true){pins:List (JO×Obj)}{σ:St}{H:Hp}{s:JL}{us:List JH}{vs:List V}(I:Inv X pins σ H s)(r:Bb vs us)(h:xF C sp EX σ vs H):
 KY (LB X.prog X.w) X.A (call (.ref C) us) (λv s₁=>∃e dx t,v=.ref e/\X.K.In s₁.heap/\s₁.heap.get? e=some (Mm C dx t)/\Wx X EX (.ref e) s₁) (Wx X EX) s:=by
 obtain⟨hz,h⟩:=h
 obtain⟨nm,q,N,bs,hdct,sn,sub,ab,col,dd,k0,k1,k2,k3,k5,lk⟩:=c.obj
 have I0:=I.pins_of (pins':=[]) (λp hp=>nomatch hp)
 have fx:Df X [] H (s.heap.objs.size+1):=I0.fpOk (ON _) (I0.hok.fresh (ON _))
 have hq:=h (s.heap.objs.size+1) s.heap.objs.size fx.1
 have k0':∀b o,s.heap.get? b=some o->((s.heap.push (Dz us)).push (Dn C s.heap.objs.size)).get? b=some o:=λb o e=>JI _ (JI _ e)
 have gx:((s.heap.push (Dz us)).push (Dn C s.heap.objs.size)).get? (s.heap.objs.size+1)=some (Mm C none s.heap.objs.size):=by
  have:=KG (s.heap.push (Dz us)) (o:=Dn C s.heap.objs.size) rfl
  rwa [OP] at this
 have I1:Inv X [] σ H { s with heap:=(s.heap.push (Dz us)).push (Dn C s.heap.objs.size),toks:=s.toks }:=I0.kept k0'
 have I2:=I1.adopt (D:=s.heap.objs.size+1) (o:=rN (s.heap.objs.size+1) C none s.heap.objs.size) fx.1 fx.2.1 (KZ I.sz (ON _)) fx.2.2.2.2.1 fx.2.2.2.2.2 (pX gx)
 have r2:Bb (V.ref (s.heap.objs.size+1)::vs) (JZ (s.heap.objs.size+1)::us):=.cons rfl r
 have hl:(JZ (s.heap.objs.size+1)::us++[]).length=ps.length:=by
  have e:=r2.length
  rw[F.len _ _ _ _ hq] at e
  rw[MD]
  exact e.symm
 have hbb:=hb _ (JZ (s.heap.objs.size+1)::us) I2.kIn hl
 rw[MD] at hbb
 obtain⟨hh,g,d,tk,os⟩:=s
 refine SA (uL QU (by decide +kernel) QU (c.tail _ I.kIn) (I.kIn C _ lk) (PySem.W.looks_findIn I.kIn hi) (λself=>PySem.W.bind_fn I.kIn self (beq_iff_eq.mp hfn)) (by rw[<- r.length];exact hz) ?_)
 refine PY (F.run _ X.stack _ _ ⟨JZ (hh.objs.size+1)::us,[]⟩ (JZ (hh.objs.size+1)::us) _ _ IE ⟨hr.make C us [],(λz=>nomatch z),I2.ok.hd hcl⟩ (I2.env0.make C us []) hbb r2 hq) λr s' hq'=>?_
 cases r with
 | error e=>exact MF hq'
 | ok fl=>
  cases fl with
  | ret u=>
   obtain⟨v,H',I3,rv,ev,dx,ex,q3⟩:=I2.after hq'
   subst ev
   have g3:=lY I3.hok ex
   have I4:=I3.drop ex
   refine⟨rv,_,dx,_,rfl,I4.kIn,g3,_,_,dx,_,σ,rfl,I4,⟨Jx,fx.2⟩,.inl ⟨_,_,⟨g3,rfl,rfl,rfl,rfl,rfl⟩⟩,q3⟩
  | next=>exact MF hq'
  | brk=>exact MF hq'
  | cont=>exact MF hq'
def rY(C:JO)(sp:Sp)(EX:XS)(t:TA):TS:=λ_ σ H=>t σ H λvs H1=>xF C sp EX σ vs H1
theorem iV(hcalm:X.sx=true)(c:Kv X.K C bm)(hbase:bm.contains (.type "BaseException")=true)(hi:MK X.K (.ref C) "__init__" = some (some (.ref f)))(hfn:PySem.W.isFn X.K (.ref f)=true)(F:Al X.prog X.w X.K X.mg X.base Bi k f fd ps sp)(hr:Co (k+1) X.A)(hb:Binds X.K fd ps [])(hg:Gl X x)(hm:X.mg x=some (.ref C))(ha:PA (X.thrown EX) (e::es) t)(hdb:(x == ("__debug__" : Str))=false:=by decide)(he:KW (e::es) X.env=(false,PD e X.env)::KW es X.env:=by rfl)(hpl:(QO cpos (KW es X.env)).any (·.1)=false:=by rfl)(hcl:X.calm=true:=by rfl):
 PS (X.thrown EX) (.Raise (some (.Call (.Name x p) (e::es) [] cpos)) none pos) (rY C sp EX t):=by
 intro pins s σ H D I h
 rw[arm_exec_Raise]
 refine JE (RE ?_)
 show KY _ _ (raiseStmt _ (some (do let v <- PD (.Call (.Name x p) (e::es) [] cpos) X.env;standAt pos;pure v)) none) _ _ _
 refine qJ c hbase (I.ok.st hcalm) (JE (Bu ?_ λv s1 z=>JE (RE (JS z))))
 refine OS (Hf I hg hm ?_ hdb)
 refine NX (h₀:=X.base) I.ok.mod.kin c.kp (Bu (ha cpos pins s σ H _ I h) λus s1 ⟨vs,H1,I1,r,q⟩=>⟨I1.kIn,?_⟩) he hpl
 exact jQ c hi hfn F hr hb hcl I1.unwish r q
end
section
variable {X:Cx} {pins:List (JO×Obj)} {σ:St} {H:Hp} {s:JL} {M:Model} {A:LM} {E:JH->JL->Prop}
end
section
variable {X:Cx} {σ:St} {H:Hp} {s:JL} {x:JO}
end
section
variable {X:Cx} {EX:XS} {th:Ends->XS} {hs:List SQ} {C:JO} {c n:Str} {i:Nat} {np pos:Pos} {b₀:OU} {suite:List OU} {tsu:TS}
end
end L2
namespace L2
open PySem PySem.Spec PyProof.Rows PyProof.V PySem.SeqAt
section
variable {X:Cx} {pins:List (JO×Obj)} {σ:St} {H:Hp} {s:JL}
end
end L2
namespace L2
open PySem PySem.Spec PyProof.Rows
def vB(z:Nat)(it a:JO)(n:Int):HO:=.ext λh=>h.IsRevIter it a n/\z<=it
theorem uG{P:KI}{w:LQ}{H:Hp}{h:MV}{z:Nat}{it a:JO}{n:Int}(e:h.IsRevIter it a n)(hz:z<=it):Cg P w H h it (vB z it a n):=⟨⟨e,hz⟩,let ⟨o,g,_⟩:=e;⟨o,g⟩,λh1 h2 ⟨a,b⟩ k=>⟨a.at k,b⟩⟩
theorem Inv.fpOf{X:Cx}{pins:List (JO×Obj)}{σ:St}{H:Hp}{s:JL}{x:JO}{φ:MV->Prop}(I:Inv X pins σ H s)(hx:H x=some (.ext φ))(hz:X.s₀.heap.objs.size<=x):Df X pins (rem H x) x:=by
 have no:∀ {b},H b=none->x≠b:=λ{b} h e=>by subst e;rw[hx] at h;cases h
 refine⟨Jx,no I.free,λhb=>?_,.inr hz,λy c e=>LL (no (I.freeC y c e)),λp hp=>LL (no (I.pin p hp).2.1)⟩
 obtain⟨_,o,ho,_⟩:=I.ok.funs.mem hb
 exact no (I.base.free x o ho (I.ok.frf x hb) λz=>I.ok.exfs x z hb) rfl
theorem vI{H:Hp}{x:JO}{o:HO}(h:H x=none):rem (upd H x o) x=H:=by
 funext b
 by_cases e:b=x
 ·subst e
  rw[Jx,h]
 ·rw[Ud e,Aj e]
section
variable {prog:KI} {w:LQ} {A:LM} {E:JH->JL->Prop} {s:JL}
theorem Rv:typeLookup (.type "list_reverseiterator") "__len__" = pure none:=by rw[typeLookup_type,builtinLookup_eq_fast];kernel_rfl
theorem Yh:typeLookup (.type "list_reverseiterator") "__length_hint__" = pure (some (.builtin "list_reverseiterator.__length_hint__")):=by rw[typeLookup_type,builtinLookup_eq_fast];kernel_rfl
theorem Wu{Q:JH->JL->Prop}{it l:JO}{items:Array JH}(hh:A.handled=none)(hit:s.heap.IsRevIter it l ((items.size:Int)-1))(hl:s.heap.IsList l items)(hne:l≠it)(hn:items.size<=JQ)(hQ:∀s' acc' c',Moved (s.heap.objs.size::[it]) (λa b=>b=a) { s with heap:=s.heap.push { cls:=.type "list", data:=.seq #[] } } s' ->
  s'.heap.get? s.heap.objs.size=some { cls:=.type "list", dict:=none,data:=.seq acc' c',slots:=#[] }->ItemsOf (λi v=>items[items.size-1-i]? = some v) acc' items.size->Q (.ref s.heap.objs.size) s'):
 KY (LB prog w) A (call (.type "list") [.ref it]) Q E s:=by
 have hiL:it < s.heap.objs.size:=let ⟨_,g,_⟩:=hit;KA g
 have hlL:l < s.heap.objs.size:=let ⟨_,g,_⟩:=hl;KA g
 have hSf:s.heap.objs.size∉[it,l]:=by
  simp only[JT,KL,or_false,not_or]
  exact⟨OG hiL,OG hlL⟩
 have hSI:s.heap.objs.size≠it:=OG hiL
 refine callType_codes (Q₁:=λobj s₁=>obj=.ref s.heap.objs.size/\s₁={ s with heap:=s.heap.push { cls:=.type "list", data:=.seq #[] } }) PySem.F.called_list (PySem.F.typeCall_list_1 _) PySem.F.entry_list_init (code_list_new _ ⟨rfl,rfl⟩) ?_
 rintro obj s₁ ⟨rfl,rfl⟩
 have hS:(s.heap.push { cls:=.type "list", data:=.seq #[] }).get? s.heap.objs.size=some { cls:=.type "list", data:=.seq #[] }:=KG _ rfl
 refine⟨⟨_,hS,rfl⟩,PySem.F.args_list_init_2 _ _,?_⟩
 have hit1:=hit.at (h':=s.heap.push { cls:=.type "list", data:=.seq #[] }) λo e=>JI _ e
 have hl1:=hl.push { cls:=.type "list", data:=.seq #[] }
 generalize hnew:s.heap.push { cls:=.type "list", data:=.seq #[] }=hp0 at hS hit1 hl1 hQ ⊢
 show KY _ A.in1.in1 (Builtin.List.listItems (.ref s.heap.objs.size) >>= λold=>Builtin.List.listUpdate (.ref s.heap.objs.size) (λ_=>#[]) >>= λ_=>letGo old.toList.reverse >>= λ_=>Builtin.List.listExtendWith (.ref s.heap.objs.size) (.ref it) .none) _ _ _
 refine JE (JE (NC hS rfl (JS ?_)))
 refine JE (m:=Builtin.List.listUpdate (.ref s.heap.objs.size) (λ_=>#[])) (show KY _ _ (updateSeq s.heap.objs.size (λ_=>#[])) _ _ _ from wpAny_updateSeq hS rfl (JE (RX ?_)))
 have hS2:=MX (SD (λ_=>(#[]:Array JH))) hS rfl
 have oth:∀b o,b≠s.heap.objs.size->hp0.get? b=some o->(hp0.update s.heap.objs.size (SD (λ_=>(#[]:Array JH)))).get? b=some o:=λb o hb e=>(LV _ _ (LL hb)).trans e
 have hit2:=hit1.at (h':=hp0.update s.heap.objs.size (SD (λ_=>(#[]:Array JH)))) λo e=>oth it o (LL hSI) e
 have hl2:=hl1.at (h':=hp0.update s.heap.objs.size (SD (λ_=>(#[]:Array JH)))) λo e=>oth l o (KQ hlL) e
 generalize hup:hp0.update s.heap.objs.size (SD (λ_=>(#[]:Array JH)))=hp1 at hS2 oth hit2 hl2 ⊢
 have hT:(⟨hp1,s.gens,s.drawn,s.toks,s.os⟩:JL).TypeIs (.ref it) "list_reverseiterator" := hit2.typeIs
 unfold Builtin.List.listExtendWith
 refine JE (wpAny_typeOf hT ?_)
 have h1:Builtin.List.listSameRef (.ref s.heap.objs.size) (.ref it)=false:=by simp[Builtin.List.listSameRef,hSI]
 have h2:(OT "list_reverseiterator" == OT "list")=false:=by decide
 have h3:(OT "list_reverseiterator" == OT "tuple")=false:=by decide
 simp only[h1,h2,h3,Bool.or_false,PR,if_false]
 refine JE (wpAny_pyIter_revIter hit2 (JE (NG ?_)))
 have q1:=Rv
 have q2:=Yh
 have q3:splitId "list_reverseiterator.__length_hint__" = some ("list_reverseiterator","__length_hint__"):=by decide +kernel
 have q4:isSubtype (.type "list_reverseiterator") (.type "list_reverseiterator")=pure true:=by rw[isSubtype_type];kernel_rfl
 unfold Builtin.List.listLengthHint
 refine JE (wpAny_specialOf hT Rv ?_)
 show KY _ _ (specialOf (JZ it) (NL "__length_hint__") >>= _) _ _ _
 refine JE (wpAny_specialOf hT Yh ?_)
 simp only[q3]
 refine JE (RW hT q4 ?_)
 simp only[Bool.not_true,PR,if_false]
 rw[if_pos (by decide +kernel),if_neg (by decide +kernel)]
 refine JS ?_
 rw[if_neg (by decide +kernel)]
 have hW:=(Walks.listRev (prog:=prog) (w:=w) (A:=A.in1.in1) (by simpa using hh) it l hne items).toS
 refine JS ⟨RG PySem.F.plain_extend_loop _,codeAny_extend_loopS hW hn _ hSf .none items.size 0 _ _ _ rfl (LK _) ⟨LK _,by simpa using hit2,hl2⟩ hS2 (ItemsOf.nil _) λs' acc' c' hm hS' hacc=>⟨rfl,?_⟩⟩
 refine hQ s' acc' c' ?_ hS' hacc
 have m0:Moved [s.heap.objs.size,it] (λa b=>b=a) (⟨hp0,s.gens,s.drawn,s.toks,s.os⟩:JL) ⟨hp1,s.gens,s.drawn,s.toks,s.os⟩:=⟨λb o hb e=>oth b o (λh=>hb (by rw[h];exact JW)) e,rfl,rfl,rfl,JM _⟩
 exact Moved.trans hW.gtrans m0 hm
end
section
variable {X:Cx}
theorem boot_reversed:PZ "reversed" = some (.type "reversed"):=by decide +kernel
theorem Ri:Fk X (.type "reversed") (λxs H Q=>∃a ys,xs=[.ref a]/\Aw X.K H a ys/\∀it,H it=none->Q (.ref it) (upd H it (vB X.s₀.heap.objs.size it a ((ys.length:Int)-1)))):=by
 intro pins s σ H xs us Q I r h
 obtain⟨a,ys,rfl,hq,q⟩:=h
 obtain⟨u,rfl,ru⟩:=vals1 r
 cases ru
 obtain⟨its,rv,p,_⟩:=I.list hq
 refine call_reversed_list p.isList ?_
 have hlen:=rv.length
 refine⟨.ref s.heap.objs.size,_,I.laid (t':=s.toks) (o:=vB X.s₀.heap.objs.size s.heap.objs.size a ((ys.length:Int)-1)) (λb o e=>JI _ e) (JM _) (uG ⟨_,KG _ rfl,rfl,?_⟩ I.sz),rfl,q _ (I.hok.fresh (JM _))⟩
 show Data.fields #[.ref a,QN _]=_
 rw[KU,hlen]
theorem Rn(hc:X.sx=true):Fk X (.type "list") (λxs H Q=>∃it a ys,xs=[.ref it]/\H it=some (vB X.s₀.heap.objs.size it a ((ys.length:Int)-1))/\Aw X.K H a ys/\∀l,H l=none->Q (.ref l) (upd (rem H it) l (.lst ys.reverse))):=by
 intro pins s σ H xs us Q I r h
 obtain⟨it,a,ys,rfl,hi,hq,q⟩:=h
 obtain⟨u,rfl,ru⟩:=vals1 r
 cases ru
 obtain⟨its,rv,p,hz⟩:=I.list hq
 have hlen:=rv.length
 obtain⟨hit0,hzi⟩:=(I.hok it _ hi).1
 have hit:s.heap.IsRevIter it a ((its.toArray.size:Int)-1):=by
  rw[KU,<- hlen]
  exact hit0
 have hne:a≠it:=λe=>by
  subst e
  obtain⟨o,g,c,_⟩:=hit
  obtain⟨o',g',c',_⟩:=p.isList
  rw[g] at g'
  cases g'
  rw[c] at c'
  exact absurd c' (by decide)
 refine Wu (I.ok.st hc) hit p.isList hne (by rw[KU];omega) λs' acc' c' hm hS hacc=>?_
 obtain⟨h',g',d',t',os'⟩:=s'
 obtain rfl:os'=s.os:=hm.os
 obtain rfl:d'=s.drawn:=hm.drawn
 obtain rfl:g'=s.gens:=hm.gens
 have k:∀b u,b∉[it]->s.heap.get? b=some u->h'.get? b=some u:=λb u hb e=>hm.heap b u (by
  simp only[JT,KL,or_false,not_or] at hb ⊢
  exact⟨KQ (KA e),hb⟩) (JI _ e)
 have I0:=I.drop hi
 have f0:=I.fpOf hi hzi
 have J1:Inv X pins σ (rem H it) { s with heap:=h',toks:=t' }:=I0.turns (ch:=[it]) k λb hb=>by
  rw[JP.mp hb]
  exact f0
 have fD:Df X pins H s.heap.objs.size:=I.fpOk (JM _) (I.hok.fresh (JM _))
 have ea:acc'.toList=its.reverse:=by
  obtain⟨hs1,hs2⟩:=hacc
  rw[KU] at hs1 hs2
  refine List.ext_getElem (by rw[OY];simpa using hs1) λj h1 h2=>?_
  rw[OY] at h2
  have e1:=hs2 j acc'.toList[j] (by rw[<- SU,JK h1])
  rw[List.getElem_reverse]
  have e2:its[its.length-1-j]? = some acc'.toList[j]:=by simpa using e1
  exact(JF.mp e2).2.symm
 have rv':Bb ys.reverse acc'.toList:=by
  rw[ea]
  exact rv.reverse
 have J2:=J1.adopt (D:=s.heap.objs.size) (o:=.lst ys.reverse) (Jw fD.1) fD.2.1 I.sz fD.2.2.2.2.1 fD.2.2.2.2.2 ⟨by rw[OY];exact hz,acc'.toList,c',rv',by simpa using hS⟩
 exact⟨.ref s.heap.objs.size,_,J2,rfl,q _ fD.1⟩
end
def Xd(P:KI)(w:LQ)(a:JO)(n:Nat):HO:=.ext λh=>∃S,h.SetOf (PM P w) a S n
theorem Ow{P:KI}{w:LQ}{h h':MV}{a:JO}{S:Str->Bool}{n:Nat}(e:h.SetOf (PM P w) a S n)(k:∀o,h.get? a=some o->h'.get? a=some o):h'.SetOf (PM P w) a S n:=by
 obtain⟨o,es,ep,t,g,r⟩:=e
 exact⟨o,es,ep,t,k o g,r⟩
section
variable {prog:KI} {w:LQ} {A:LM} {R:Result->JL->Prop} {I:JO} {fp wr:List JO} {G:Array GenState->Array GenState->Prop} {n:Nat} {P:Nat->JH->Prop} {St:Nat->JL->Prop}
theorem lI(W:WalksS prog w A.in1 I fp wr G n P St)(S:JO)(hS:S∉fp)(val:Nat->Str)(hval:∀i v,P i v->∃t,v=.str (val i) t)(hinj:∀i j,i < n->j < n->val i=val j->i=j)(hb:n+1 < scanBound):
 ∀(k i:Nat)(s:JL),n-i=k->i<=n->St i s->(∃f:Str->Bool,s.heap.SetOf (PM prog w) S f i/\∀x,f x=true->∃j,j < i/\x=val j) ->
  (∀s',Moved (S::wr) G s s'->(∃f:Str->Bool,s'.heap.SetOf (PM prog w) S f n)->R (.ok (.ret .none)) s') ->
  RZ (LB prog w) A (.builtin "set.update.loop" ⟨[.ref S,.ref I],[]⟩) R s:=by
 have hw:S∉wr:=λh=>hS (W.sub _ h)
 have up:∀b∈wr,b∈S::wr:=λb hb=>JU _ hb
 intro k
 induction k with
 | zero=>
  intro i s hk hi st ⟨f,hf,_⟩ hR
  obtain rfl:i=n:=by omega
  refine OR PyProof.Rows.F.entry_set_update_loop ?_
  rw[OC RA _]
  refine JE (m:=PB (.ref I)) (W.done s _ _ st λs' hm=>JS (hR s' (hm.mono up) ⟨f,Ow hf λo e=>hm.heap S o hw e⟩))
 | succ k ih=>
  intro i s hk hi st ⟨f,hf,hfv⟩ hR
  have hlt:i < n:=by omega
  refine OR PyProof.Rows.F.entry_set_update_loop ?_
  rw[OC RA _]
  refine JE (m:=PB (.ref I)) (W.item i s _ _ hlt st λv s' hP st' hm=>?_)
  obtain⟨t,rfl⟩:=hval i v hP
  have hf':=Ow (h':=s'.heap) hf λo e=>hm.heap S o hw e
  refine JE (m:=holding [Value.str (val i) t] (setAdd S (.str (val i) t))) (NG ?_)
  unfold setAdd
  refine NG (JE ((PM prog w).pyHash (k:=val i) (PySem.strKind_is _ _ _ _) ?_))
  have hno:f (val i)=false:=by
   cases e:f (val i) with
   | false=>rfl
   | true=>
    obtain⟨j,hj,ej⟩:=hfv _ e
    have:=hinj i j hlt (by omega) ej
    omega
  refine wpAny_setAddHashed_of (knd:=PM prog w) (s:={ s' with toks:=s'.toks+1 }) (PySem.strKind_is _ _ _ _) rfl hf' (by omega) λh' sb h2=>?_
  rw[hno,if_neg JR] at h2
  refine JS ⟨RG RA _,ih (i+1) _ (by omega) hlt (W.frame _ s' _ _ st' (ON _) λb hb o e=>(sb.2 b (λh=>hS (h ▸ hb))).trans e) ⟨_,h2,λx hx=>?_⟩ λs2 m2 f2=>hR s2 ?_ f2⟩
  ·rw[Bool.or_eq_true] at hx
   rcases hx with z | z
   ·obtain⟨j,hj,e⟩:=hfv x z
    exact⟨j,by omega,e⟩
   ·exact⟨i,by omega,of_decide_eq_true z⟩
  ·exact Moved.trans W.gtrans ((hm.mono up).then_heap (ON _) λb o hb e=>(sb.2 b (λh=>hb (by rw[h];exact JW))).trans e) m2
end
section
variable {prog:KI} {w:LQ} {A:LM} {E:JH->JL->Prop} {s:JL}
abbrev Gm(led:Bool):Obj:={ cls:=.type "set", dict:=none,data:=.set #[] 0 (.fresh 0 0 led) }
theorem Tv{l:JO}{items:Array JH}{xs:List Str}{Q:JH->JL->Prop}(hh:Bp A s.heap)(hl:s.heap.IsList l items)(hi:∀(i:Nat)(v:JH),items[i]? = some v->∃(x:Str)(t:Tok),xs[i]? = some x/\v=Value.str x t)(hlen:items.size=xs.length)(hnd:xs.Nodup)(hb:xs.length+1 < scanBound)(h:∀h' tk,(∃f:Str->Bool,h'.SetOf (PM prog w) s.heap.objs.size f xs.length)->(∀b o,s.heap.get? b=some o->h'.get? b=some o)->Q (.ref s.heap.objs.size) { s with heap:=h',toks:=tk }):
 KY (LB prog w) A (call (.type "set") [.ref l]) Q E s:=by
 have hlS:l < s.heap.objs.size:=let ⟨_,g,_⟩:=hl;KA g
 obtain⟨c,tl,hmro⟩:=OL.mro
 have hmade:=OL.made
 have hsub:=OL.sub
 refine SA (codeAny_of_tree (show KY _ _ (callAny (.type "set") _) _ _ _ from JS ⟨SR _ (by decide +kernel),OR PySem.F.entry_type_call ?_⟩))
 rw[Around.under_plain (weight_type_call_type "set" [.ref l] []) rfl]
 have h1:=OL.notType
 have h2:=OL.canCreate
 have hct:=PySem.F.typeCall_set_1 (.ref l)
 repeat (any_goals (first | assumption | wp_step))
 refine PY (code_set_new_1 (.ref l) (E:=E) (Q₁:=λobj s₁=>∃led:Bool,obj=.ref s.heap.objs.size/\s₁={ s with heap:=s.heap.push (Gm led) }) λled=>⟨led,rfl,rfl⟩) λr s₁ hr=>?_
 rcases r with e | (obj | _ | _ | _)<;>first | exact hr | exact hr.elim | skip
 obtain⟨led,rfl,rfl⟩:=hr
 have hS:(s.heap.push (Gm led)).get? s.heap.objs.size=some (Gm led):=KG _ rfl
 have hT:Shared.TypeIs { s with heap:=s.heap.push (Gm led) } (.ref s.heap.objs.size) "set" := ⟨_,hS,rfl⟩
 have hli:=OL.init.lookup
 have hbi:=OL.init.bind (.ref s.heap.objs.size)
 repeat (any_goals (first | assumption | wp_step))
 refine PY (codeAny_call_builtin (R:=wants (λr s₂=>r=.none/\∃h' tk,s₂={ s with heap:=h',toks:=tk }/\(∃f:Str->Bool,h'.SetOf (PM prog w) s.heap.objs.size f xs.length)/\(∀b o,s.heap.get? b=some o->h'.get? b=some o)) E) OL.init.plain PySem.F.entry_set_init (check_set_init_1 hT ?_)) λr₂ s₂ hr₂=>?_
 ·have hl1:(s.heap.push (Gm led)).IsList l items:=hl.push _
  obtain⟨⟨ocls,odict,odata,oslots⟩,hol,hcl,nl,hdl⟩:=id hl1
  simp only at hcl hdl
  subst hcl hdl
  have hsls:=PySem.F.sub_list_set
  have hslf:=PySem.F.sub_list_frozenset
  have hne:(OT "list" == OT "dict")=false:=by decide
  unfold Builtin.«set.__init__» noKeywords Builtin.Frozenset.updateFrom
  generalize hPI:pyIter=PI
  wp_walk
  subst hPI
  refine wpAny_pyIter_list hl1 (JE (wpAny_runValue ?_))
  have sz:(s.heap.push (Gm led)).objs.size=s.heap.objs.size+1:=OP _ _
  have hneI:l≠(s.heap.push (Gm led)).objs.size:=by rw[sz];exact KQ (SH hlS)
  refine lI ((Ou (A:=A.in1.in1.in1) _ l hneI items).toS) s.heap.objs.size ?_ (λi=>xs.getD i (NL "")) ?_ ?_ (by omega) (items.size-0) 0 _ (by omega) (LK _) ⟨⟨_,KG _ rfl,rfl,rfl⟩,hl1.push _,hh.ext λb o e=>JI _ (JI _ e)⟩ ⟨λ_=>false,?_,λx hx=>absurd hx JR⟩ ?_
  ·simp only[JT,KL,or_false,not_or,sz]
   exact⟨KQ (QG _),OG hlS,λz=>absurd (Bp.lt (A:=A.in1.in1.in1) hh _ z) (PQ _)⟩
  ·intro i v hv
   obtain⟨x,t,hx,e⟩:=hi i v hv
   exact⟨t,by rw[e,LJ,hx];rfl⟩
  ·intro i j hi' hj' e
   rw[hlen] at hi' hj'
   rw[LJ,LJ,JK hi',JK hj'] at e
   exact(List.getElem_inj hnd).mp e
  ·exact(setObjOf_fresh (knd:=PM prog w) led).setOf (JI _ hS) (by unfold scanBound;omega)
  ·rintro⟨h',g',d',tk',os'⟩ hm ⟨f,hf⟩
   obtain rfl:g'=s.gens:=hm.gens
   obtain rfl:d'=s.drawn:=hm.drawn
   obtain rfl:os'=s.os:=hm.os
   refine JS (JS ⟨rfl,h',tk',rfl,⟨f,hlen ▸ hf⟩,λb o e=>hm.heap b o ?_ (JI _ (JI _ e))⟩)
   simp only[JT,KL,or_false,not_or,sz]
   exact⟨KQ (KA e),KQ (SH (KA e))⟩
 ·rcases r₂ with e | (obj | _ | _ | _)<;>first | exact hr₂ | exact hr₂.elim | skip
  obtain⟨rfl,h',tk,rfl,hf,hk⟩:=hr₂
  repeat (any_goals (first | assumption | wp_step))
  exact h _ _ hf hk
end
section
variable {X:Cx}
theorem Sg:PZ "set" = some (.type "set"):=by decide +kernel
theorem Jv(hc:X.calm=true):Fk X (.type "set") (λys H Q=>∃(a:JO)(xs:List Str),ys=[.ref a]/\Aw X.K H a (xs.map V.str)/\xs.Nodup/\xs.length+1 < scanBound/\∀p,H p=none->Q (.ref p) (upd H p (Xd X.prog X.w p xs.length))):=by
 intro pins s σ H ys us Q I r h
 obtain⟨a,xs,rfl,hq,hnd,hb,q⟩:=h
 obtain⟨u,rfl,ru⟩:=vals1 r
 cases ru
 obtain⟨its,rv,p,hz⟩:=I.list hq
 have hlen:=rv.length
 rw[JJ] at hlen
 refine Tv (xs:=xs) (I.calmS hc) p.isList (λi v hv=>?_) (by rw[KU];exact hlen.symm) hnd hb λh' tk ⟨f,hf⟩ k=>?_
 ·have hv':its[i]? = some v:=by simpa using hv
  have hil:i < xs.length:=by rw[hlen];exact(JF.mp hv').1
  obtain⟨v2,e2,r2⟩:=rv.get (i:=i) (x:=.str xs[i]) (by rw[KP,JK hil]<;>rfl)
  rw[hv'] at e2
  cases e2
  obtain⟨t,e⟩:=r2
  exact⟨xs[i],t,JK hil,e⟩
 ·obtain⟨o,es,ep,t,g,rr⟩:=id hf
  exact⟨.ref s.heap.objs.size,_,I.laid (t':=tk) (o:=Xd X.prog X.w s.heap.objs.size xs.length) k (JM _) ⟨⟨f,hf⟩,⟨o,g⟩,λh1 h2 ⟨f1,e1⟩ k1=>⟨f1,Ow e1 k1⟩⟩,rfl,q _ (I.hok.fresh (JM _))⟩
theorem Kj:Fk X (.builtin "len") (λys H Q=>∃a n,ys=[.ref a]/\H a=some (Xd X.prog X.w a n)/\Q (.int (n:Nat)) H):=by
 intro pins s σ H ys us Q I r h
 obtain⟨a,n,rfl,ha,q⟩:=h
 obtain⟨u,rfl,ru⟩:=vals1 r
 cases ru
 obtain⟨f,o,es,ep,t,g,hex,hd,_,_,hb,hf,hn⟩:=(I.hok a _ ha).1
 subst hn
 exact call_len_set g hex hd hf (by unfold scanBound at hb;omega) ⟨.int (es.size:Nat),H,I.tok _,⟨_,rfl⟩,q⟩
end
section
variable {X:Cx} {K:JG} {a e:Expr} {ta te:TE}
def FP(K:JG)(ta:TE):TT:=λσ H Q=>ta σ H λx H'=>∃k,rV K x H' k/\Q k H'
theorem lM(ha:PE X a ta)(hK:X.K=K:=by rfl)(he:∀whole,isTrue a X.env whole=(do let v <- whole;standAt a.pos;holding [v] (truthy v)):=by intro _;rfl):PT X a (FP K ta):=by
 subst hK
 exact oV ha he
def tR(K:JG):List V->Hp->VK->Prop:=λxs H Q=>∃p ys,xs=[.ref p]/\(Aw K H p ys∨Ck K H p ys)/\∀l,H l=none->Q (.ref l) (upd H l (.lst ys))
theorem Pl(hK:X.K=K:=by rfl):Fk X (.type "list") (tR K):=by
 subst hK
 exact Gb
theorem Ye(hK:X.K=K:=by rfl):CJ X (jJ K):=by
 subst hK
 exact Bj
theorem pV(hK:X.K=K:=by rfl):DI X (pO K):=by
 subst hK
 exact El
def zN:XS:=λ_ _ _ _=>False
theorem CV{X:Cx}{e:JH}{s:JL}(h:Wx X zN e s):False:=by
 obtain⟨_,_,_,_,_,_,_,_,_,z⟩:=h
 exact z
end
section
variable {X:Cx}
theorem Ry:Jp X (OW .LtE) (λx y H Q=>∃i j,x=.str i/\y=.str j/\Q (.bl (!decide (j.cps.toList < i.cps.toList))) H):=by
 intro pins s σ H x y v u Q I rx ry h
 obtain⟨i,j,rfl,rfl,q⟩:=h
 obtain⟨t,rfl⟩:=rx
 obtain⟨t',rfl⟩:=ry
 exact PySem.P.le_str (Bt I q rfl)
end
def zQ(x:Str):It:=⟨λi _=>i < x.cps.size,λi H v H'=>H'=H/\∃c,x.cps[i]? = some c/\v=.str ⟨#[c]⟩,λi _=>x.cps.size<=i⟩
theorem nX{P:KI}{w:LQ}{K:JG}{tg:Expr}(x:Str)(t:Tok)(it:JO)(ty:String)(hty:ty = "str_ascii_iterator" ∨ ty = "str_iterator"):
 Turn P w K tg (zQ x) [it] it (λi h=>h.IsStrIter it ty x t i) where
 mem:=by simp
 obj:=λi h st b hb=>by
  have e:b=it:=by simpa using hb
  subst e
  obtain⟨o,e,c,d⟩:=st
  exact⟨o,e,λv z=>by rw[d] at z;cases z⟩
 keep:=λi h h' st k=>by
  obtain⟨o,e,c⟩:=st
  exact⟨o,k it (by simp) o e,c⟩
 item:=by
  intro X hP hw hK hc i pins s σ H E I hf st hg
  subst hP hw hK
  obtain⟨f0,f1,f2,f3,f4,f5⟩:=hf it (by simp)
  have hlt:i < x.cps.size:=hg
  have hx:x.cps[i]? = some x.cps[i]:=by simp[hlt]
  rcases hty with rfl | rfl
  ·refine wpAny_pyNext_ascii_item st hx λh' st' sb=>?_
   have I1:Inv X pins σ H { s with heap:=h',toks:=s.toks+1 }:=I.turned (λb o hb e=>(sb.2 b hb).trans e) f0 f1 f3 f4 f5
   obtain⟨o,e,c,d⟩:=id st'
   exact⟨_,rfl,Tg (s:={ s with heap:=h',toks:=s.toks+1 }) e c d (by decide) ⟨.str ⟨#[x.cps[i]]⟩,H,I1,⟨_,rfl⟩,⟨rfl,_,hx,rfl⟩,st',λb hb=>(hf b hb).1⟩⟩
  ·refine wpAny_pyNext_wide_item st hx λh' st' sb=>?_
   have I1:Inv X pins σ H { s with heap:=h',toks:=s.toks+1 }:=I.turned (λb o hb e=>(sb.2 b hb).trans e) f0 f1 f3 f4 f5
   obtain⟨o,e,c,d⟩:=id st'
   exact⟨_,rfl,Tg (s:={ s with heap:=h',toks:=s.toks+1 }) e c d (by decide) ⟨.str ⟨#[x.cps[i]]⟩,H,I1,⟨_,rfl⟩,⟨rfl,_,hx,rfl⟩,st',λb hb=>(hf b hb).1⟩⟩
 done:=by
  intro X hP hw hK hc i pins s σ H E I hf st hg
  subst hP hw hK
  obtain⟨f0,f1,f2,f3,f4,f5⟩:=hf it (by simp)
  have hle:x.cps.size<=i:=hg
  have hx:x.cps[i]? = none:=by simp[hle]
  rcases hty with rfl | rfl
  ·exact oY (I.calmS hc) st hx λh' eb=>⟨rfl,I.turned (t':=s.toks) (λb o hb e=>eb b o hb e) f0 f1 f3 f4 f5⟩
  ·exact rQ (I.calmS hc) st hx λh' eb=>⟨rfl,I.turned (t':=s.toks) (λb o hb e=>eb b o hb e) f0 f1 f3 f4 f5⟩
 self:=λ_ _ _ _ _ st h=>by
  rcases hty with rfl | rfl
  ·exact wpAny_pyIter_striter_ascii st h
  ·exact wpAny_pyIter_striter_wide st h
def HD(tl:TE):TI:=λσ H R=>tl σ H λx H1=>∃z,x=.str z/\R (zQ z) H1
theorem zG{X:Cx}{tg l:Expr}{tl:TE}(hl:PE X l tl):PI X tg l (HD tl):=by
 intro pins s σ H R I h
 refine Bu (hl pins s σ H _ I h) λv s1 ⟨x,H1,I1,r1,q1⟩=>?_
 obtain⟨z,e,q⟩:=q1
 subst e
 obtain⟨t,rfl⟩:=r1
 refine wpAny_pyIter_strU ?_
 refine⟨s1.heap.objs.size,[s1.heap.objs.size],_,_,H1,rfl,I1.kept (t':=s1.toks) λb o e=>JI _ e,nX z t _ (strIterType z) (by unfold strIterType;split;exact .inl rfl;exact .inr rfl),⟨_,KG _ rfl,rfl,rfl⟩,λb hb=>?_,q⟩
 have e:b=s1.heap.objs.size:=by simpa using hb
 subst e
 exact I1.fpOk (JM _) (I1.hok.fresh (JM _))
theorem ET{x:Str}{g:TG}{tb:TS}{D:Ends}{σ:St}{H:Hp}(Pv:Nat->St->Hp->Prop)(h0:Pv 0 σ H)(hs:∀i c σ H,x.cps[i]? = some c->Pv i σ H->g (.str ⟨#[c]⟩) σ H λσ2 H2=>tb { D with nx:=Pv (i+1),ct:=Pv (i+1),bk:=D.nx } σ2 H2)(hd:∀σ H,Pv x.cps.size σ H->D.nx σ H):
 ∃W:Nat->Nat->St->Hp->Prop,(∃m,W 0 m σ H)/\∀i m σ H,W i m σ H ->
  ((zQ x).stop i H/\D.nx σ H)∨((zQ x).go i H/\∃N:St->Hp->Prop,(∀σ' H',N σ' H'->∃m',m' < m/\W (i+1) m' σ' H')/\∀y H',(zQ x).yld i H y H'->g y σ H' λσ2 H2=>tb { D with nx:=N,ct:=N,bk:=D.nx } σ2 H2):=by
 refine⟨λi m σ H=>m=x.cps.size-i/\i<=x.cps.size/\Pv i σ H,⟨x.cps.size,by simp,LK _,h0⟩,?_⟩
 rintro i m σ H ⟨rfl,hi,p⟩
 by_cases hlt:i < x.cps.size
 ·refine .inr ⟨hlt,Pv (i+1),λσ' H' p'=>⟨x.cps.size-(i+1),by omega,rfl,hlt,p'⟩,λy H' z=>?_⟩
  obtain⟨rfl,c,hc,rfl⟩:=z
  exact hs i c σ _ hc p
 ·have e:i=x.cps.size:=by omega
  subst e
  exact .inl ⟨JM _,hd σ H p⟩
theorem kI{x:Str}{n:Nat}{fr:List (Str×Nat)}{g:TG}{tc:TT}{te:TE}{σ:St}{H:Hp}{F:List V->Hp->Prop}(Pv:Nat->List V->Hp->Prop)(h0:Pv 0 [] H)(hs:∀i c ys H,x.cps[i]? = some c->Pv i ys H->g (.str ⟨#[c]⟩) (stC n fr σ) H λσ2 H2=>tc σ2 H2 λb H3=>if b=true then te σ2 H3 λy H4=>ys.length < JQ/\Pv (i+1) (ys++[y]) H4 else Pv (i+1) ys H3)(hd:∀ys H,Pv x.cps.size ys H->F ys H):Ey n fr g tc te σ (zQ x) H F:=by
 refine⟨λi m ys H=>m=x.cps.size-i/\i<=x.cps.size/\Pv i ys H,⟨x.cps.size,by simp,LK _,h0⟩,?_⟩
 rintro i m ys H ⟨rfl,hi,p⟩
 by_cases hlt:i < x.cps.size
 ·refine .inr ⟨hlt,Pv (i+1),λys' H' p'=>⟨x.cps.size-(i+1),by omega,rfl,hlt,p'⟩,λy H' z=>?_⟩
  obtain⟨rfl,c,hc,rfl⟩:=z
  exact hs i c ys _ hc p
 ·have e:i=x.cps.size:=by omega
  subst e
  exact .inl ⟨JM _,hd ys H p⟩
theorem aZ{x:Str}{n:Nat}{fr:List (Str×Nat)}{g:TG}{te:TE}{σ:St}{H:Hp}{F:List V->Hp->Prop}(Pv:Nat->List V->Hp->Prop)(h0:Pv 0 [] H)(hs:∀i c ys H,x.cps[i]? = some c->Pv i ys H->g (.str ⟨#[c]⟩) (stC n fr σ) H λσ2 H2=>te σ2 H2 λy H4=>ys.length < JQ/\Pv (i+1) (ys++[y]) H4)(hd:∀ys H,Pv x.cps.size ys H->F ys H):Ey n fr g Qp te σ (zQ x) H F:=kI Pv h0 (λi c ys H hx p=>hs i c ys H hx p) hd
def oR(C:JO)(m:Str)(sp:Sp)(dvs:List V)(EX:XS)(ta:TE)(t:TA):TE:=λσ H Q=>ta σ H λx H1=>∃a dx fs,x=.ref a/\H1 a=some (.ins C dx fs)/\fs.lookup m=none /\
 t σ H1 λvs H2=>sp (.ref a::(vs++dvs)) H2 Q (EX σ)
section
variable {X:Cx} {EX:XS} {k:Nat} {f C:JO} {fd:LG} {ps:List Str} {sp:Sp} {dvs:List V} {ds:List JH} {x m:Str} {p pos apos:Pos} {e o:Expr} {es:List Expr} {ta:TE} {t:TA}
theorem Eu{pl:Sem Bool}(he:PE (X.thrown EX) o ta)(c:Wb X.K C)(hm:Dt X.K C m f)(F:Al X.prog X.w X.K X.mg X.base (Gk X.prog X.w) k f fd ps sp)(hr:Co k X.A)(hb:Binds X.K fd ps ds)(hd:Bb dvs ds)(ha:PA (X.thrown EX) (e::es) t)(hst:KW (e::es) X.env=(false,PD e X.env)::KW es X.env:=by rfl)(hpl:(QO pos (KW es X.env)).any (·.1)=false:=by rfl)(ht:PD (.Call (.Attribute o m apos) (e::es) [] pos) X.env=(do
  let ov <- PD o X.env
  standAt apos.atName
  let (f,first) <- holding [ov] (getMethod ov m pl)
  callWith pos f first (QO pos (KW (e::es) X.env)) (backToKw pos (QY [] X.env))):=by rfl)(hcs:X.calm=true/\X.sx=true:=by exact⟨rfl,rfl⟩):
 PE (X.thrown EX) (.Call (.Attribute o m apos) (e::es) [] pos) (oR C m sp dvs EX ta t):=by
 intro pins s σ H Q I h
 refine PN (pl:=pl) (Bu (he pins s σ H _ I h) λu s1 ⟨x,H1,I1,rx,a,dx,fs,ex,ea,l,q⟩=>?_) ht
 subst ex
 obtain rfl:u=JZ a:=rx
 refine Fb I1 ea c hm l ?_
 refine NX (first:=[.ref a]) (h₀:=X.base) I.ok.mod.kin hm.kp (Bu (ha pos pins s1 σ H1 _ I1 q) λus s2 ⟨vs,H2,I2,r,q2⟩=>⟨I2.kIn,?_⟩) hst hpl
 exact Ug (us:=.ref a::us) (vs:=.ref a::vs) F hr hb hd hcs I2 (.cons rfl r) q2
theorem iZ{pl:Sem Bool}(he:PE (X.thrown EX) o ta)(c:Wb X.K C)(hm:Dt X.K C m f)(F:Al X.prog X.w X.K X.mg X.base (Gk X.prog X.w) k f fd ps sp)(hr:Co k X.A)(hb:Binds X.K fd ps ds)(hd:Bb dvs ds)(ht:PD (.Call (.Attribute o m apos) [] [] pos) X.env=(do
  let ov <- PD o X.env
  standAt apos.atName
  let (f,first) <- holding [ov] (getMethod ov m pl)
  callWith pos f first (QO pos (KW [] X.env)) (backToKw pos (QY [] X.env))):=by rfl)(hcs:X.calm=true/\X.sx=true:=by exact⟨rfl,rfl⟩):
 PE (X.thrown EX) (.Call (.Attribute o m apos) [] [] pos) (oR C m sp dvs EX ta Wq):=by
 intro pins s σ H Q I h
 refine PN (pl:=pl) (Bu (he pins s σ H _ I h) λu s1 ⟨x,H1,I1,rx,a,dx,fs,ex,ea,l,q⟩=>?_) ht
 subst ex
 obtain rfl:u=JZ a:=rx
 refine Fb I1 ea c hm l ?_
 exact PySem.W.callWith_K0 (first:=[.ref a]) I1.kIn hm.kp (Ug (us:=[.ref a]) (vs:=[.ref a]) F hr hb hd hcs I1 (.cons rfl .nil) q)
end
theorem Inv.swap{X:Cx}{pins:List (JO×Obj)}{σ:St}{H:Hp}{s:JL}{d:JO}{u u':HO}(I:Inv X pins σ H s)(e:H d=some u)(h1:∀y,u ≠ .own y)(h2:∀xs,u ≠ .tup xs)(h3:∀o v,X.H₀ d≠some (.frz o v))(h4:∀ps,u ≠ .tbl ps)(new:Cg X.prog X.w (upd H d u') s.heap d u'):Inv X pins σ (upd H d u') s:=by
 have ne:∀ {b:JO} {o:HO},H b=some o->o≠u->upd H d u' b=some o:=λ{b o} q n=>by
  rw[Aj (λz=>by subst z;rw[e] at q;exact n (LC q).symm)];exact q
 have nn:∀ {b:JO},H b=none->upd H d u' b=none:=λ{b} q=>by
  rw[Aj (λz=>by subst z;rw[e] at q;cases q)];exact q
 refine⟨I.ok,I.os,I.bare,⟨I.base.keep,I.base.slot,λb o q n hx=>nn (I.base.free b o q n hx),I.base.there,λb xs q=>ne (I.base.tups b xs q) (LL (h2 xs)),λb o v q=>?_,λb ps q=>?_⟩,I.loc,I.cell,nn I.free,λx c q=>nn (I.freeC x c q),λp hp=>?_,λb o q=>?_,I.len⟩
 ·have q':=I.base.frzs b o v q
  rw[Aj (λz=>by subst z;exact h3 o v q)];exact q'
 ·obtain⟨m,q'⟩:=I.base.tbls b ps q
  exact⟨m,ne q' (LL (h4 _))⟩
 ·obtain⟨q,n,r⟩:=I.pin p hp
  exact⟨q,nn n,r⟩
 ·by_cases hb:b=d
  ·subst hb;rw[Aa] at q;cases q;exact new
  ·rw[Aj hb] at q
   exact(I.hok b o q).stay (λ_ _ _ z=>z) (λc z=>ne z (LL (h1 _))) λc xs z=>ne z (LL (h2 xs))
def fX(H₀:Hp)(d:JO):Prop:=∀o v,H₀ d≠some (.frz o v)
section
variable {X:Cx} {pins:List (JO×Obj)} {σ:St} {H:Hp} {s:JL} {d:JO} {kvs:List (Key×V)} {o:Obj}
theorem Inv.freeze(I:Inv X pins σ H s)(e:H d=some (.dK kvs)):fX X.H₀ d/\∃o,s.heap.get? d=some o/\(∃es ep,o.data=.dict es ep)/\Inv X pins σ (upd H d (.frz o (.dK kvs))) s:=by
 have nf:fX X.H₀ d:=λo v z=>by
  have:=I.base.frzs d o v z
  rw[e] at this
  cases this
 obtain⟨z,y,vs,r,ob,es,ep,g,c,dd,rest⟩:=(show Cg X.prog X.w H s.heap d (.dK kvs) from I.hok d _ e)
 exact⟨nf,ob,g,⟨es,ep,dd⟩,I.swap e (λ_ z=>nomatch z) (λ_ z=>nomatch z) nf (λ_ z=>nomatch z) ⟨g,z,y,vs,r,ob,es,ep,g,c,dd,rest⟩⟩
theorem Inv.dictAt{es:Array RT}{ep:Nat}(I:Inv X pins σ H s)(e:H d=some (.frz o (.dK kvs)))(hd:o.data=.dict es ep):(d == OI)=false/\∃vs,KV kvs vs/\s.heap.DictAt (Bo X.prog X.w) d vs ep:=by
 obtain⟨g,z,y,vs,r,ob,es',ep',g',c,dd,rest⟩:=(show Cg X.prog X.w H s.heap d (.frz o (.dK kvs)) from I.hok d _ e)
 rw[g] at g'
 cases g'
 rw[hd] at dd
 cases dd
 exact⟨y,vs,r,o,es,g,c,hd,rest⟩
end
theorem zW{P:KI}{w:LQ}{k:Key}{u:JH}(h:(Bo P w).is k u=true):RelV (kV k) u:=by
 rcases Cr h with ⟨i,t,rfl,rfl⟩ | ⟨x,t,rfl,rfl⟩
 ·exact⟨t,rfl⟩
 ·exact⟨t,rfl⟩
def BR(d:JO)(o:Obj)(kvs:List (Key×V)):It:=
 ⟨λi H=>H d=some (.frz o (.dK kvs))/\i < kvs.length,λi H v H'=>H'=H/\∃kv,kvs[i]? = some kv/\v=kV kv.1,λi H=>H d=some (.frz o (.dK kvs))/\kvs.length<=i⟩
theorem jO{P:KI}{w:LQ}{K:JG}{tg:Expr}{es:Array RT}{ep:Nat}(d it:JO)(o:Obj)(kvs:List (Key×V))(hd:o.data=.dict es ep):
 Turn P w K tg (BR d o kvs) [it] it (λi h=>h.IsKeyIter it d i kvs.length ep) where
 mem:=by simp
 obj:=λi h st b hb=>by
  have e:b=it:=by simpa using hb
  subst e
  obtain⟨o,e,c,d⟩:=st
  exact⟨o,e,λv z=>by rw[d] at z;cases z⟩
 keep:=λi h h' st k=>by
  obtain⟨o,e,c⟩:=st
  exact⟨o,k it (by simp) o e,c⟩
 item:=by
  intro X hP hw hK hc i pins s σ H E I hf st hg
  subst hP hw hK
  obtain⟨f0,f1,f2,f3,f4,f5⟩:=hf it (by simp)
  obtain⟨e,hlt⟩:=hg
  obtain⟨_,vs,r,dd⟩:=I.dictAt e hd
  have hl:kvs.length=vs.length:=NP r
  have hk:kvs[i]? = some kvs[i]:=JK hlt
  obtain⟨⟨k,x⟩,hx,e1,_⟩:=Fa r hk
  have e1':kvs[i].1=k:=e1
  have st':s.heap.IsKeyIter it d i vs.length ep:=by rw[<- hl];exact st
  refine wpAny_pyNext_dict_item st' dd hx λkey h' hkey st2 sb=>?_
  have I1:Inv X pins σ H { s with heap:=h' }:=I.turned (t':=s.toks) (λb o hb e=>(sb.2 b hb).trans e) f0 f1 f3 f4 f5
  obtain⟨oi,ei,ci,di⟩:=id st2
  exact⟨_,rfl,Tg (s:={ s with heap:=h' }) ei ci di (by decide) ⟨kV k,H,I1,zW hkey,⟨rfl,_,hk,by rw[e1']⟩,(by rw[hl];exact st2),λb hb=>(hf b hb).1⟩⟩
 done:=by
  intro X hP hw hK hc i pins s σ H E I hf st hg
  subst hP hw hK
  obtain⟨f0,f1,f2,f3,f4,f5⟩:=hf it (by simp)
  obtain⟨e,hle⟩:=hg
  obtain⟨_,vs,r,dd⟩:=I.dictAt e hd
  have hl:kvs.length=vs.length:=NP r
  have st':s.heap.IsKeyIter it d i vs.length ep:=by rw[<- hl];exact st
  exact tH (I.calmS hc) st' dd (List.getElem?_eq_none_iff.mpr (by omega)) λh' eb=>⟨rfl,I.turned (t':=s.toks) (λb o hb e=>eb b o hb e) f0 f1 f3 f4 f5⟩
 self:=λ_ _ _ _ _ st h=>wpAny_pyIter_keyiter st h
def EO(H₀:Hp)(td:TE):TI:=λσ H R=>td σ H λx H1=>∃d kvs,x=.ref d/\H1 d=some (.dK kvs)/\∀o,fX H₀ d->R (BR d o kvs) (upd H1 d (.frz o (.dK kvs)))
theorem sO{X:Cx}{tg l:Expr}{td:TE}(hl:PE X l td):PI X tg l (EO X.H₀ td):=by
 intro pins s σ H R I h
 refine Bu (hl pins s σ H _ I h) λv s1 ⟨x,H1,I1,r1,q1⟩=>?_
 obtain⟨d,kvs,e,hd,q⟩:=q1
 subst e
 cases r1
 obtain⟨nf,o,g,⟨es,ep,dt⟩,I2⟩:=I1.freeze hd
 obtain⟨lo,vs,r,dd⟩:=I2.dictAt Aa dt
 refine wpAny_pyIter_dict lo dd ?_
 have hl:kvs.length=vs.length:=NP r
 refine⟨s1.heap.objs.size,[s1.heap.objs.size],_,_,_,rfl,I2.kept (t':=s1.toks) λb o e=>JI _ e,jO d _ o kvs dt,⟨_,KG _ rfl,rfl,by rw[hl]<;>rfl⟩,λb hb=>?_,q o nf⟩
 have e:b=s1.heap.objs.size:=by simpa using hb
 subst e
 exact I2.fpOk (JM _) (I2.hok.fresh (JM _))
theorem qB{d:JO}{o:Obj}{kvs:List (Key×V)}{g:TG}{tb:TS}{D:Ends}{σ:St}{H:Hp}(Pv:Nat->St->Hp->Prop)(h0:Pv 0 σ H)(hl:∀i σ H,i<=kvs.length->Pv i σ H->H d=some (.frz o (.dK kvs)))(hs:∀i kv σ H,kvs[i]? = some kv->Pv i σ H->g (kV kv.1) σ H λσ2 H2=>tb { D with nx:=Pv (i+1),ct:=Pv (i+1),bk:=D.nx } σ2 H2)(hd:∀σ H,Pv kvs.length σ H->D.nx σ H):
 ∃W:Nat->Nat->St->Hp->Prop,(∃m,W 0 m σ H)/\∀i m σ H,W i m σ H ->
  ((BR d o kvs).stop i H/\D.nx σ H)∨((BR d o kvs).go i H/\∃N:St->Hp->Prop,(∀σ' H',N σ' H'->∃m',m' < m/\W (i+1) m' σ' H')/\∀y H',(BR d o kvs).yld i H y H'->g y σ H' λσ2 H2=>tb { D with nx:=N,ct:=N,bk:=D.nx } σ2 H2):=by
 refine⟨λi m σ H=>m=kvs.length-i/\i<=kvs.length/\Pv i σ H,⟨kvs.length,by simp,LK _,h0⟩,?_⟩
 rintro i m σ H ⟨rfl,hi,p⟩
 have q:=hl i σ H hi p
 by_cases hlt:i < kvs.length
 ·refine .inr ⟨⟨q,hlt⟩,Pv (i+1),λσ' H' p'=>⟨kvs.length-(i+1),by omega,rfl,hlt,p'⟩,λy H' z=>?_⟩
  obtain⟨rfl,kv,hc,rfl⟩:=z
  exact hs i kv σ _ hc p
 ·have e:i=kvs.length:=by omega
  subst e
  exact .inl ⟨⟨q,JM _⟩,hd σ H p⟩
theorem Sw{P:KI}{w:LQ}:∀ {kvs:List (Key×V)} {vs:List (Key×JH)} {us:List JH},KV kvs vs->us.length=vs.length->(∀(j:Nat)(v:JH),us[j]? = some v->∃k x,vs[j]? = some (k,x)/\(Bo P w).is k v=true)->Bb (kvs.map λkv=>kV kv.1) us
 | _,_,[],.nil,_,_=>.nil
 | _,_,_::_,.nil,e,_=>nomatch e
 | _,_,[],.cons _ _,e,_=>nomatch e
 | (a,_)::kvs,(b,_)::vs,u::us,.cons r t,e,h=>by
  refine .cons ?_ (Sw t (by simpa using e) λj v q=>h (j+1) v (by simpa using q))
  obtain⟨k,x,q,hk⟩:=h 0 u rfl
  have q':(b,_)=(k,x):=LC q
  have e1:a=b:=r.1
  have e2:b=k:=congrArg Prod.fst q'
  show RelV (kV a) u
  rw[e1,e2]
  exact zW hk
theorem Pf{X:Cx}(hc:X.sx=true):Fk X (.type "list") (λxs H Q=>∃d kvs,xs=[.ref d]/\Rd H d (.dK kvs)/\∀l,H l=none->Q (.ref l) (upd H l (.lst (kvs.map λkv=>kV kv.1)))):=by
 intro pins s σ H xs us Q I r h
 obtain⟨d,kvs,rfl,hq,q⟩:=h
 obtain⟨u,rfl,rx⟩:=vals1 r
 cases rx
 obtain⟨hz,lo,vs,rel,dd⟩:=Nk I.hok hq
 obtain⟨ep,hat⟩:=dd.dictAt
 have hl:kvs.length=vs.length:=NP rel
 refine PySem.W.kdl_call (PySem.W.kdl_dict (knd:=Bo X.prog X.w) (kvs:=vs) (ep:=ep) lo) (I.ok.st hc) hat (by rw[<- hl];exact hz) λh' tk acc' c' kp e it=>?_
 have hv:Bb (kvs.map λkv=>kV kv.1) acc'.toList:=Sw (P:=X.prog) (w:=X.w) rel (by rw[RK];exact it.1) λj v z=>it.2 j v (by rw[<- SU];exact z)
 refine⟨.ref s.heap.objs.size,_,I.laid (t':=tk) kp (JM _) (show Cg X.prog X.w _ h' _ (.lst (kvs.map λkv=>kV kv.1)) from ⟨by rw[JJ];exact hz,acc'.toList,c',hv,by rw[Array.toArray_toList];exact e⟩),rfl,q _ (I.hok.fresh (JM _))⟩
theorem PE.imp{X:Cx}{e:Expr}{t t':TE}(h:PE X e t)(i:∀σ H Q,t' σ H Q->t σ H Q):PE X e t':=λpins s σ H Q I hw=>h pins s σ H Q I (i σ H Q hw)
theorem Ge{X:Cx}{tail body:List OU}{G:TS->Prop}(Pr:TS->Prop)(h:∃tt,Hy X tail tt/\Pr tt)(k:∀tt,Hy X tail tt->Pr tt->∃t,Hy X body t/\G t):∃t,Hy X body t/\G t:=let ⟨tt,a,b⟩:=h;k tt a b
def fBody:OU->List OU
 | .For _ _ b _ _=>b
 | _=>[]
structure Np(K:JG)(x qual:Str)(st:OU)(f:JO)(fd:LG)(T:JO):Prop where
 ex:∃(oc:JH)(od:Option JO)(kV doc pm:JH)(an:Option JO)(cdv ct:JH)(osl:Array (Option JH)),
  fd=QD x qual (Dx st) (Bg st) (Ad st) (.ref T) kV doc pm an cdv ct/\K.lookup f=some ⟨oc,od,.func fd,osl⟩/\PySem.W.codeIn K cdv qual=true
 kp:JV K (.ref f)=true
section
variable {P:KI} {w:LQ} {K:JG} {mg:Str->Option JH} {base:MV}
theorem Np.ok{x qual:Str}{st:OU}{f T:JO}{fd:LG}{N ps:List Str}{k:Nat}{sp:Sp}(F:Np K x qual st f fd T)(S:An N ps (Ad st))(len:∀vs H Q E,sp vs H Q E->vs.length=ps.length)(hbody:∀(cdv:JH)(A:LM)(outer:List Env)(s:JL)(H:Hp)(vs:List V)(Q:VK)(E:XK),Co k (A.deeper (envOfC qual (Ad st) s.heap.objs.size f cdv))->sp vs H Q E ->
  ∃t,Hy (Er Bi P w K mg base N qual (Ad st) f cdv A outer s H E).nox (Bg st) t/\t { nx:=λ_ H'=>Q .non H',rt:=Q } (start N vs) H):Al P w K mg base Bi (k+1) f fd ps sp:=by
 obtain⟨oc,od,kV,doc,pm,an,cdv,ct,osl,rfl,lk,hcd⟩:=F.ex
 refine Yf lk hcd S len λA outer s H vs Q E hr hsp=>?_
 obtain⟨t,h,q⟩:=hbody cdv A outer s H vs Q E hr hsp
 exact⟨t,h.nox,q⟩
theorem Np.binds{x qual:Str}{st:OU}{f T:JO}{fd:LG}{ps:List Str}{ds:List JH}{o:Obj}{items:Array JH}{n:Nat}(F:Np K x qual st f fd T)(ho:K.lookup T=some o)(hs:o.data=.seq items n)(m:Nat)(hm:m+ds.length=ps.length)(h:∀(kV doc pm:JH)(an:Option JO)(cdv ct:JH)(us:List JH),us.length=m->∃k:Option (Array JH)->Sem (List (Str×JH)),bindArgs (QD x qual (Dx st) (Bg st) (Ad st) (.ref T) kV doc pm an cdv ct) ⟨us,[]⟩=(seqItems? (.ref T) >>= k)/\k (some items)=pure (ps.zip (us++ds))):Binds K fd ps ds:=by
 obtain⟨oc,od,kV,doc,pm,an,cdv,ct,osl,rfl,lk,hcd⟩:=F.ex
 intro s us KX hl
 obtain⟨k,h1,h2⟩:=h kV doc pm an cdv ct us (by rw[JN] at hl;omega)
 exact PySem.W.binds_K KX rfl ho hs h1 h2
theorem gJ{x qual:Str}{st:OU}{f T:JO}{oc:JH}{od an:Option JO}{osl:Array (Option JH)}{kV doc pm cdv ct:JH}(l:K.lookup f=some ⟨oc,od,.func (QD x qual (Dx st) (Bg st) (Ad st) (.ref T) kV doc pm an cdv ct),osl⟩)(c:PySem.W.codeIn K cdv qual=true)(k:JV K (.ref f)=true):Np K x qual st f (QD x qual (Dx st) (Bg st) (Ad st) (.ref T) kV doc pm an cdv ct) T:=⟨⟨oc,od,kV,doc,pm,an,cdv,ct,osl,rfl,l,c⟩,k⟩
end
def tQ(lo:Int)(n:Nat):It:=⟨λi _=>i < n,λi H x H'=>H'=H/\x=.int (lo-i),λi _=>n<=i⟩
theorem jM{P:KI}{w:LQ}{K:JG}{tg:Expr}(it:JO)(lo:Int)(n:Nat):Turn P w K tg (tQ lo n) [it] it (λi h=>IsRangeIter h it (lo+(i:Nat) * (-1)) ((n:Int)-(i:Nat)) (-1)) where
 mem:=by simp
 obj:=λi h st b hb=>by
  have e:b=it:=by simpa using hb
  subst e
  exact⟨_,st,λv z=>by
   have z':Data.fields _=Data.cell v:=z
   cases z'⟩
 keep:=λi h h' st k=>k it (by simp) _ st
 item:=by
  intro X hP hw hK hc i pins s σ H E I hf st hg
  subst hP hw hK
  obtain⟨f0,f1,f2,f3,f4,f5⟩:=hf it (by simp)
  have W0:True:=trivial
  refine Xe i s _ _ hg st λv h' tk hv st' kk=>?_
  obtain⟨t,rfl⟩:=hv
  have I1:Inv X pins σ H { s with heap:=h',toks:=tk }:=I.turned (λb o hb e=>kk b o (by simpa using hb) e) f0 f1 f3 f4 f5
  refine⟨_,rfl,Tg (s:={ s with heap:=h',toks:=tk }) (n := "range_iterator") st' rfl rfl (by decide) ⟨.int (lo-i),H,I1,⟨t,?_⟩,⟨rfl,rfl⟩,st',λb hb=>(hf b hb).1⟩⟩
  rw[show lo+(i:Int) * (-1)=lo-(i:Int) by omega]
 done:=by
  intro X hP hw hK hc i pins s σ H E I hf st hg
  subst hP hw hK
  obtain⟨f0,f1,f2,f3,f4,f5⟩:=hf it (by simp)
  exact Xb (I.calmS hc) st (by have:n<=i:=hg;omega) λh' eb=>⟨rfl,I.turned (t':=s.toks) (λb o hb e=>eb b o hb e) f0 f1 f3 f4 f5⟩
 self:=λ_ _ _ _ _ st h=>wpAny_pyIter_rangeiter st h
theorem jZ(lo hi:Int):SS lo hi (-1)=(((lo-hi).toNat:Nat):Int):=by
 unfold SS
 rw[if_neg (by decide)]
 split<;>simp<;>omega
theorem nU{a b:Int}(ha : -(2 ^ 62)<=a)(ha':a < 2 ^ 62)(hb : -(2 ^ 62)<=b)(hb':b < 2 ^ 62):Builtin.Range.small a b (-1)=true:=PySem.W.small_down ha ha' hb hb'
section
variable {X:Cx} {tg:Expr}
theorem uZ{pins:List (JO×Obj)}{σ:St}{H:Hp}{s:JL}{R:It->Hp->Prop}{E:JH->JL->Prop}{lo hi:Int}{t u v:Tok}{tk:Nat}(I:Inv X pins σ H s)(h1 : -(2 ^ 62)<=lo)(h2:lo < 2 ^ 62)(h3 : -(2 ^ 62)<=hi)(h4:hi < 2 ^ 62)(q:R (tQ lo (lo-hi).toNat) H):KY (LB X.prog X.w) X.A (pyIter (.ref s.heap.objs.size)) (IB X pins σ tg R) E { s with heap:=s.heap.push { cls:=.type "range", data:=.fields #[.int lo t,.int hi u,.int (-1) v] },toks:=tk }:=by
 refine wpAny_pyIter_range (IsRange.new ..) (nU h1 h2 h3 h4) ?_
 have I1:Inv X pins σ H { s with heap:=s.heap.push { cls:=.type "range", data:=.fields #[.int lo t,.int hi u,.int (-1) v] },toks:=tk }:=I.kept λb o e=>JI _ e
 refine⟨(s.heap.push { cls:=.type "range", data:=.fields #[.int lo t,.int hi u,.int (-1) v] }).objs.size,[(s.heap.push { cls:=.type "range", data:=.fields #[.int lo t,.int hi u,.int (-1) v] }).objs.size],_,_,H,rfl,
  I1.kept (t':=tk) λb o e=>JI _ e,jM _ lo (lo-hi).toNat,?_,λb hb=>?_,q⟩
 ·have e1:lo+((0:Nat):Int) * (-1)=lo:=by simp
  have e2:(((lo-hi).toNat:Nat):Int)-((0:Nat):Int)=SS lo hi (-1):=by rw[jZ];simp
  show IsRangeIter _ _ (lo+((0:Nat):Int) * (-1)) ((((lo-hi).toNat:Nat):Int)-((0:Nat):Int)) (-1)
  rw[e1,e2]
  exact KG _ rfl
 ·have e:b=(s.heap.push { cls:=.type "range", data:=.fields #[.int lo t,.int hi u,.int (-1) v] }).objs.size:=by simpa using hb
  subst e
  exact I1.fpOk (JM _) (I1.hok.fresh (JM _))
def BV(ta:TA):TI:=λσ H R=>ta σ H λvs H1=>∃i j:Int,vs=[.int i,.int j,.int (-1)]/\(-(2 ^ 29)<=i/\i < 2 ^ 29 /\ -(2 ^ 29)<=j/\j < 2 ^ 29)/\R (tQ i (i-j).toNat) H1
theorem uJ{a b c:Expr}{ta:TA}{p pos:Pos}(hg:Gl X "range")(hm:X.mg "range" = none)(ha:PA X [a,b,c] ta)(hs:KW [a,b,c] X.env=[(false,PD a X.env),(false,PD b X.env),(false,PD c X.env)]:=by rfl)(hs2:KW [b,c] X.env=[(false,PD b X.env),(false,PD c X.env)]:=by rfl):
 PI X tg (.Call (.Name "range" p) [a,b,c] [] pos) (BV ta):=by
 intro pins s σ H R I h
 refine Call_ (Io I hg hm boot_range (NH (Bu (ha pos pins s σ H _ I h) λus s1 ⟨vs,H1,I1,r1,q1⟩=>?_) (by rw[hs,hs2]) (by rw[hs2];rfl)))
 obtain⟨i,j,e,⟨q1,q2,q3,q4⟩,q⟩:=q1
 subst e
 cases r1 with
 | cons r rr=>
  cases rr with
  | cons r' rr=>
   cases rr with
   | cons r'' rr=>
    cases rr
    obtain⟨t,rfl⟩:=r
    obtain⟨t',rfl⟩:=r'
    obtain⟨t'',rfl⟩:=r''
    exact call_range_3 (by decide) (uZ I1 (by omega) (by omega) (by omega) (by omega) q) (Or.inl (PyProof.noPylong_small (by decide)))
end
def cX(P:KI)(w:LQ)(K:JG)(a:JO)(kvs:List (Key×V)):Prop:=
 ∃(o:Obj)(es:Array RT)(ep:Nat)(vs:List (Key×JH)),K.lookup a=some o/\o.ExactDict/\o.data=.dict es ep/\KeysOf (Bo P w) es/\Pairs (Bo P w) es.toList vs/\(vs.map (·.1)).Nodup/\KV kvs vs/\(a == OI)=false
theorem cX.at_{X:Cx}{pins:List (JO×Obj)}{σ:St}{H:Hp}{s:JL}{a:JO}{kvs:List (Key×V)}(I:Inv X pins σ H s)(d:cX X.prog X.w X.K a kvs):(a == OI)=false/\∃vs,KV kvs vs/\s.heap.DictOf (Bo X.prog X.w) a vs:=by
 obtain⟨o,es,ep,vs,lk,x,da,hk,hp,hn,kv,sm⟩:=d
 exact⟨sm,vs,kv,o,es,ep,I.kIn _ _ lk,x,da,hk,hp,hn⟩
def CF(P:KI)(w:LQ)(K:JG)(td ty:TE):TE:=λσ H Q=>td σ H λx H1=>∃a kvs,x=.ref a/\cX P w K a kvs/\ty σ H1 λy H2=>∃k,y=kV k/\Q ((valV kvs k).getD .non) H2
theorem vH{X:Cx}{o e:Expr}{apos cpos:Pos}{td ty:TE}(ho:PE X o td)(he:PE X e ty)(m:M1 X o "get" apos e cpos):PE X (.Call (.Attribute o "get" apos) [e] [] cpos) (CF X.prog X.w X.K td ty):=by
 intro pins s σ H Q I h
 refine wpAny_Call_method m.base m.few m.line RN QS PySem.F.type_dict_get (Bu (ho pins s σ H _ I h) λu s1 ⟨x,H1,I1,rx,a,kvs,ex,d,q1⟩=>?_)
 subst ex
 obtain rfl:u=JZ a:=rx
 obtain⟨sm,vs,kv,dd⟩:=cX.at_ I1 d
 refine⟨dd.typeIs,λb q=>?_,?_⟩
 ·cases q
  obtain⟨ob,_,_,h1,h2,_⟩:=dd
  exact⟨ob,h1,h2.2.1⟩
 rw[m.trees]
 refine PU rfl (Calls.evalArgs_plain (QW (Bu (he pins s1 σ H1 _ I1 q1) λiv s2 ⟨y,H2,I2,ry,k,ey,q2⟩=>Calls.spliced_nil ?_)))
 subst ey
 obtain⟨sm,vs,kv,dd⟩:=cX.at_ I2 d
 refine call_meetsIn QS dd.typeIs PySem.F.entry_dict_get (PySem.F.args_dict_get_2 _ _) (meets_dict_get (Bo X.prog X.w) a (Kx ry) sm) ⟨_,dd.mapOf,?_⟩
 exact⟨_,H2,I2.tok _,(kv.val k).getD (d:=.non) (d':=.none) rfl,q2⟩
section
variable {prog:KI} {w:LQ} {A:LM} {E:JH->JL->Prop} {s:JL}
theorem aW{it t:JO}{i:Nat}{its:Array JH}{x:JH}{Q:JH->JL->Prop}(hi:s.heap.IsTupleIter it t i)(ht:s.heap.IsTuple t its)(hx:its[i]? = some x)(q:∀h',h'.IsTupleIter it t (i+1)->Heap.SameBut it s.heap h'->Q x { s with heap:=h' }):KY (LB prog w) A (MC (.ref it)) Q E s:=by
 obtain⟨o,e1,e2,e3⟩:=id hi
 obtain⟨u,g1,_,k,g2⟩:=ht
 unfold MC
 refine JE (LP (name:=NL "__next__") hi.typeIs RM (MG RM hi.typeIs F.entry_tuple_iterator_next ?_ (F.args_tuple_iterator_next_1 _)))
 change KY (LB prog w) _ (field (JZ it) 0 >>= _) _ _ _
 refine JE (LD e1 e3 (x:=JZ t) rfl ?_)
 change KY (LB prog w) _ (if (JZ t == MY)=true then _ else _) _ _ _
 have nt:¬ ((JZ t == MY)=true):=JR
 rw[if_neg nt]
 change KY (LB prog w) _ (field (JZ it) 1 >>= _) _ _ _
 refine JE (LD e1 e3 (x:=Value.int i 0) rfl ?_)
 change KY (LB prog w) _ (seqItems? (JZ t) >>= _) _ _ _
 refine JE (NC g1 g2 ?_)
 simp only[hx,LX]
 refine JE (MQ e1 e3 (by simp) (JS ⟨x,rfl,JS (q _ ⟨_,MX _ e1 (RB (QV e3 _)),(Obj.cls_mapFields ..).trans e2,?_⟩ (QR ..))⟩))
 rw[QV e3]
 simp[QN]
theorem jY{it t:JO}{i:Nat}{its:Array JH}{Q:JH->JL->Prop}(hh:Bp A s.heap)(hi:s.heap.IsTupleIter it t i)(ht:s.heap.IsTuple t its)(hx:its[i]? = none)(q:∀h' e,OJ it s.heap h'->(∃o,h'.get? e=some o/\o.cls=.type "StopIteration")->E (.ref e) { s with heap:=h' }):KY (LB prog w) A (MC (.ref it)) Q E s:=by
 obtain⟨o,e1,e2,e3⟩:=id hi
 obtain⟨u,g1,_,k,g2⟩:=ht
 unfold MC
 refine JE (LP (name:=NL "__next__") hi.typeIs RM (MG RM hi.typeIs F.entry_tuple_iterator_next ?_ (F.args_tuple_iterator_next_1 _)))
 change KY (LB prog w) _ (field (JZ it) 0 >>= _) _ _ _
 refine JE (LD e1 e3 (x:=JZ t) rfl ?_)
 change KY (LB prog w) _ (if (JZ t == MY)=true then _ else _) _ _ _
 have nt:¬ ((JZ t == MY)=true):=JR
 rw[if_neg nt]
 change KY (LB prog w) _ (field (JZ it) 1 >>= _) _ _ _
 refine JE (LD e1 e3 (x:=Value.int i 0) rfl ?_)
 change KY (LB prog w) _ (seqItems? (JZ t) >>= _) _ _ _
 refine JE (NC g1 g2 ?_)
 simp only[hx,LX]
 refine JE (PF (JE (MQ e1 e3 (by simp) ?_)))
 exact Ds (hh.in1.upd (Jf e1 e3)) λh' e kp ty=>q h' e (λb o hb g=>kp _ _ ((LV _ _ (LL hb)).trans g)) ty
end
theorem Qk{h:MV}{it t:JO}{i:Nat}(hit:h.IsTupleIter it t i):∀o vs,h.get? it=some o->o.data=.fields vs->¬ vs[2]? = some .none:=
 let ⟨_,g,_,d⟩:=id hit
 Jf g d
theorem eJ{prog:KI}{w:LQ}{A:LM}(it t:JO)(ne:t≠it)(its:Array JH):Draws prog w A it (it::t::Mr A) its.size (λi v=>its[i]? = some v) (λi h=>h.IsTupleIter it t i/\h.IsTuple t its/\Bp A h) where
 live:=λ_ _ ⟨⟨o,e,_⟩,_⟩=>⟨o,e⟩
 frame:=λ_ _ _ ⟨h1,⟨o,e,r⟩,hh⟩ k=>⟨h1.at λo e=>k it (by simp) o e,⟨o,k t (by simp) o e,r⟩,hh.keep λb hb o e=>k b (JU _ (JU _ hb)) o e⟩
 item:=λi s Q E hi ⟨h1,h2,hh⟩ q=>aW h1 h2 (x:=its[i]) (by simp[hi]) λh' a b=>q _ h' s.toks (by simp[hi]) ⟨a,(let ⟨o,e,r⟩:=h2;⟨o,b.extBut _ _ ne e,r⟩),hh.but (Qk h1) b.extBut⟩ b
 done:=λs Q E ⟨h1,h2,hh⟩ q=>jY hh h1 h2 (by simp) q
structure Hk(n:JO)(fp1 fp2:List JO):Prop where
 m1:∀c∈fp1,c=n∨(c≠n+1/\c≠n+3/\c≠n+4)
 m2:∀c∈fp2,c=n+1∨(c≠n/\c≠n+3/\c≠n+4)
section
variable {prog:KI} {w:LQ} {A:LM} {E:JH->JL->Prop} {s:JL} {n:JO} {fp1 fp2:List JO} {n1 n2:Nat} {P1 P2:Nat->JH->Prop} {S1 S2:Nat->MV->Prop}
theorem Te(Z:Hk n fp1 fp2){c:JO}(h:c∈fp1):c≠n+1/\c≠n+3/\c≠n+4:=by
 rcases Z.m1 c h with rfl | r
 ·exact⟨ap c 0 1 (by decide),ap c 0 3 (by decide),ap c 0 4 (by decide)⟩
 ·exact r
theorem Na(Z:Hk n fp1 fp2){c:JO}(h:c∈fp2):c≠n/\c≠n+3/\c≠n+4:=by
 rcases Z.m2 c h with rfl | r
 ·exact⟨ap n 1 0 (by decide),ap n 1 3 (by decide),ap n 1 4 (by decide)⟩
 ·exact r
theorem jK(Z:Hk n fp1 fp2)(D1:Draws prog w A n fp1 n1 P1 S1)(D2:Draws prog w A (n+1) fp2 n2 P2 S2){a b:JH}{i:Nat}{Q:JH->JL->Prop}(hz:IsZip s.heap (n+4) (n+2) (n+3) .none)(hI:QJ s.heap (n+2) (.ref n) (.ref (n+1)))(hO:QJ s.heap (n+3) a b)(h1:S1 i s.heap)(h2:S2 i s.heap)(l1:i < n1)(l2:i < n2)(q:∀x y h' tk,P1 i x->P2 i y->IsZip h' (n+4) (n+2) (n+3) (QN s.heap.objs.size)->QJ h' (n+3) x y->S1 (i+1) h'->S2 (i+1) h'->QJ h' s.heap.objs.size x y->h'.objs.size=s.heap.objs.size+1 ->
  (∀c o,c≠n+4->c≠n+3->c≠n->c≠n+1->s.heap.get? c=some o->h'.get? c=some o)->Q (.ref s.heap.objs.size) { s with heap:=h',toks:=tk }):
 KY (LB prog w) A (Builtin.«zip.__next__» ⟨[.ref (n+4)],[]⟩) (λfin s'=>∃v,fin=.done (.ret v)/\Q v s') E s:=by
 have d34:n+3≠n+4:=ap n 3 4 (by decide)
 have d04:n≠n+4:=ap n 0 4 (by decide)
 have d14:n+1≠n+4:=ap n 1 4 (by decide)
 have d30:n+3≠n:=ap n 3 0 (by decide)
 have d31:n+3≠n+1:=ap n 3 1 (by decide)
 have d01:n≠n+1:=ap n 0 1 (by decide)
 change KY (LB prog w) _ (field (JZ (n+4)) 2 >>= _) _ _ _
 refine JE (LD hz rfl (x:=Value.bool false) rfl ?_)
 change KY (LB prog w) _ (field (JZ (n+4)) 3 >>= _) _ _ _
 refine JE (LD hz rfl (x:=JZ (n+2)) rfl (JE (NC hI rfl ?_)))
 change KY (LB prog w) _ (MZ (JZ (n+4)) >>= _) _ _ _
 unfold MZ
 refine JE (JE (LD hz rfl (x:=MY) rfl (JS ?_)))
 simp only[if_true]
 refine JE (PF (JE (LD hz rfl (x:=JZ (n+3)) rfl (JE (NZ hz (by simp) λg1 z1 t1=>?_)))))
 replace z1:IsZip g1 (n+4) (n+2) (n+3) .ellipsis:=z1
 refine JE ?_
 simp only[List.forIn_cons,List.forIn_nil,List.zipIdx_cons,List.zipIdx_nil]
 -- the first one
 refine JE (JE (wpAny_onRaise ?_))
 change KY (LB prog w) _ (MC (JZ n) >>= _) _ _ _
 refine JE (D1.item i { s with heap:=g1 } _ _ l1 (D1.frame i _ _ h1 λc hc o e=>t1.extBut _ _ (Te Z hc).2.2 e) λx g2 k2 px h1' t2=>JS ?_)
 have o2:QJ g2 (n+3) a b:=t2.extBut _ _ d30 (t1.extBut _ _ d34 hO)
 refine JE (NC (s:={ s with heap:=g2,toks:=k2 }) o2 rfl (JE (wpAny_updateSeq_pair (s:={ s with heap:=g2,toks:=k2 }) o2 λg3 o3 t3=>?_)))
 replace o3:QJ g3 (n+3) x b:=o3
 refine JE (RX (JS ?_))
 -- the second one
 refine JE (JE (wpAny_onRaise ?_))
 change KY (LB prog w) _ (MC (JZ (n+1)) >>= _) _ _ _
 refine JE (D2.item i { s with heap:=g3,toks:=k2 } _ _ l2 (D2.frame i _ _ h2 λc hc o e=>t3.extBut _ _ (Na Z hc).2.1 (t2.extBut _ _ (Na Z hc).1 (t1.extBut _ _ (Na Z hc).2.2 e))) λy g4 k4 py h2' t4=>JS ?_)
 have o4:QJ g4 (n+3) x b:=t4.extBut _ _ d31 o3
 refine JE (NC (s:={ s with heap:=g4,toks:=k4 }) o4 rfl (JE (wpAny_updateSeq_pair (s:={ s with heap:=g4,toks:=k4 }) o4 λg5 o5 t5=>?_)))
 replace o5:QJ g5 (n+3) x y:=o5
 refine JE (RX (JS (JS (JE (NC (s:={ s with heap:=g5,toks:=k4 }) o5 rfl (JE (wpAny_newTuple ?_)))))))
 have sz:g5.objs.size=s.heap.objs.size:=by rw[t5.1,t4.1,t3.1,t2.1,t1.1]
 have z5:IsZip g5 (n+4) (n+2) (n+3) .ellipsis:=t5.extBut _ _ d34.symm (t4.extBut _ _ d14.symm (t3.extBut _ _ d34.symm (t2.extBut _ _ d04.symm z1)))
 have kp:∀c o,c≠n+4->c≠n+3->c≠n->c≠n+1->s.heap.get? c=some o->g5.get? c=some o:=λc o c1 c2 c3 c4 e=>t5.extBut _ _ c2 (t4.extBut _ _ c4 (t3.extBut _ _ c2 (t2.extBut _ _ c3 (t1.extBut _ _ c1 e))))
 have f1:S1 (i+1) g5:=D1.frame _ _ _ h1' λc hc o e=>t5.extBut _ _ (Te Z hc).2.1 (t4.extBut _ _ (Te Z hc).1 (t3.extBut _ _ (Te Z hc).2.1 e))
 have f2:S2 (i+1) g5:=D2.frame _ _ _ h2' λc hc o e=>t5.extBut _ _ (Na Z hc).2.1 e
 have zl:n+4 < g5.objs.size:=KA z5
 change KY (LB prog w) _ (Builtin.SmallTypes.ownedTupleHandOut (JZ (n+4)) (JZ g5.objs.size) >>= _) _ _ _
 unfold Builtin.SmallTypes.ownedTupleHandOut
 have z6:IsZip (g5.push { cls:=.type "tuple", data:=.seq #[x,y] }) (n+4) (n+2) (n+3) .ellipsis:=JI _ z5
 refine JE (JE (NZ (s:={ s with heap:=g5.push { cls:=.type "tuple", data:=.seq #[x,y] },toks:=k4 }) z6 (by simp) λg7 z7 t7=>?_))
 replace z7:IsZip g7 (n+4) (n+2) (n+3) (QN g5.objs.size):=z7
 refine NZ (s:={ s with heap:=g7,toks:=k4 }) z7 (by simp) λg8 z8 t8=>?_
 replace z8:IsZip g8 (n+4) (n+2) (n+3) (QN g5.objs.size):=z8
 have up:∀c o,c≠n+4->g5.get? c=some o->g8.get? c=some o:=λc o c1 e=>t8.extBut _ _ c1 (t7.extBut _ _ c1 (JI _ e))
 have tp:QJ g8 g5.objs.size x y:=t8.extBut _ _ (OG zl) (t7.extBut _ _ (OG zl) (KG _ rfl))
 have sz8:g8.objs.size=g5.objs.size+1:=by rw[t8.1,t7.1,OP]
 rw[sz] at z8 tp sz8
 refine JS ⟨_,rfl,?_⟩
 change Q (JZ g5.objs.size) _
 rw[sz]
 exact q x y g8 k4 px py z8 (up _ _ d34 o5) (D1.frame _ _ _ f1 λc hc o e=>up c o (Te Z hc).2.2 e) (D2.frame _ _ _ f2 λc hc o e=>up c o (Na Z hc).2.2 e) tp sz8 λc o c1 c2 c3 c4 e=>up c o c1 (kp c o c1 c2 c3 c4 e)
theorem oE(Z:Hk n fp1 fp2)(D1:Draws prog w A n fp1 n1 P1 S1)(D2:Draws prog w A (n+1) fp2 n2 P2 S2){a b:JH}{i:Nat}{Q:PySem.Fin->JL->Prop}(hz:IsZip s.heap (n+4) (n+2) (n+3) .none)(hI:QJ s.heap (n+2) (.ref n) (.ref (n+1)))(hO:QJ s.heap (n+3) a b)(h1:S1 i s.heap)(h2:S2 i s.heap)(l:i=n1∨(i < n1/\i=n2))(q:∀h' e tk,(∀c o,c≠n+4->c≠n+3->c≠n->c≠n+1->s.heap.get? c=some o->h'.get? c=some o)->(∃o,h'.get? e=some o/\o.cls=.type "StopIteration")->E (.ref e) { s with heap:=h',toks:=tk }):
 KY (LB prog w) A (Builtin.«zip.__next__» ⟨[.ref (n+4)],[]⟩) Q E s:=by
 have d34:n+3≠n+4:=ap n 3 4 (by decide)
 have d04:n≠n+4:=ap n 0 4 (by decide)
 have d14:n+1≠n+4:=ap n 1 4 (by decide)
 have d30:n+3≠n:=ap n 3 0 (by decide)
 change KY (LB prog w) _ (field (JZ (n+4)) 2 >>= _) _ _ _
 refine JE (LD hz rfl (x:=Value.bool false) rfl ?_)
 change KY (LB prog w) _ (field (JZ (n+4)) 3 >>= _) _ _ _
 refine JE (LD hz rfl (x:=JZ (n+2)) rfl (JE (NC hI rfl ?_)))
 change KY (LB prog w) _ (MZ (JZ (n+4)) >>= _) _ _ _
 unfold MZ
 refine JE (JE (LD hz rfl (x:=MY) rfl (JS ?_)))
 simp only[if_true]
 refine JE (PF (JE (LD hz rfl (x:=JZ (n+3)) rfl (JE (NZ hz (by simp) λg1 z1 t1=>?_)))))
 replace z1:IsZip g1 (n+4) (n+2) (n+3) .ellipsis:=z1
 refine JE ?_
 simp only[List.forIn_cons,List.forIn_nil,List.zipIdx_cons,List.zipIdx_nil]
 refine JE (JE (wpAny_onRaise ?_))
 change KY (LB prog w) _ (MC (JZ n) >>= _) _ _ _
 have f1:S1 i g1:=D1.frame i _ _ h1 λc hc o e=>t1.extBut _ _ (Te Z hc).2.2 e
 rcases l with rfl | ⟨l1,rfl⟩
 ·refine JE (D1.done { s with heap:=g1 } _ _ f1 λg2 e t2 he=>?_)
  obtain⟨oe,e1,e2⟩:=he
  have z2:IsZip g2 (n+4) (n+2) (n+3) .ellipsis:=t2 _ _ d04.symm z1
  have ez:e≠n+4:=λz=>by rw[z,z2] at e1;cases e1;simp at e2
  exact NZ (s:={ s with heap:=g2 }) z2 (by simp) λg3 _ t3=>q g3 e s.toks (λc o c1 _ c3 _ e'=>t3.extBut _ _ c1 (t2 _ _ c3 (t1.extBut _ _ c1 e'))) ⟨oe,t3.extBut _ _ ez e1,e2⟩
 ·refine JE (D1.item i { s with heap:=g1 } _ _ l1 f1 λx g2 k2 px h1' t2=>JS ?_)
  have o2:QJ g2 (n+3) a b:=t2.extBut _ _ d30 (t1.extBut _ _ d34 hO)
  refine JE (NC (s:={ s with heap:=g2,toks:=k2 }) o2 rfl (JE (wpAny_updateSeq_pair (s:={ s with heap:=g2,toks:=k2 }) o2 λg3 o3 t3=>?_)))
  refine JE (RX (JS (JE (JE (wpAny_onRaise ?_)))))
  change KY (LB prog w) _ (MC (JZ (n+1)) >>= _) _ _ _
  refine JE (D2.done { s with heap:=g3,toks:=k2 } _ _ (D2.frame i _ _ h2 λc hc o e=>t3.extBut _ _ (Na Z hc).2.1 (t2.extBut _ _ (Na Z hc).1 (t1.extBut _ _ (Na Z hc).2.2 e))) λg4 e t4 he=>?_)
  obtain⟨oe,e1,e2⟩:=he
  have z4:IsZip g4 (n+4) (n+2) (n+3) .ellipsis:=t4 _ _ d14.symm (t3.extBut _ _ d34.symm (t2.extBut _ _ d04.symm z1))
  have ez:e≠n+4:=λz=>by rw[z,z4] at e1;cases e1;simp at e2
  exact NZ (s:={ s with heap:=g4,toks:=k2 }) z4 (by simp) λg5 _ t5=>q g5 e k2 (λc o c1 c2 c3 c4 e'=>t5.extBut _ _ c1 (t4 _ _ c4 (t3.extBut _ _ c2 (t2.extBut _ _ c3 (t1.extBut _ _ c1 e'))))) ⟨oe,t5.extBut _ _ ez e1,e2⟩
end
def BH(h:MV)(a:JO):MV:=h.push { cls:=.type "tuple_iterator", data:=.fields #[.ref a,.int 0 0] }
def BL(h:MV)(a b:JO):MV:=(BH h a).push { cls:=.type "tuple_iterator", data:=.fields #[.ref b,.int 0 0] }
def BJ(h:MV)(a b:JO):MV:=(BL h a b).push { cls:=.type "tuple", data:=.seq #[.ref h.objs.size,.ref (BH h a).objs.size] }
def EM(h:MV)(a b:JO):MV:=(BJ h a b).push { cls:=.type "tuple", data:=.seq #[.none,.none] }
def pH(h:MV)(a b:JO):MV:=(EM h a b).push { cls:=.type "zip", data:=.fields #[.none,.bool false,.bool false,.ref (BL h a b).objs.size,.ref (BJ h a b).objs.size] }
theorem nA{h:MV}{t:JO}{its:Array JH}(x:h.IsTuple t its)(o:Obj):(h.push o).IsTuple t its:=let ⟨u,e,r⟩:=x;⟨u,JI o e,r⟩
theorem nW(a b:JO)(xs ys:Array JH):Meets (Builtin.«zip.__new__» ⟨[.type "zip", .ref a,.ref b],[]⟩) (λ_ R s=>s.heap.IsTuple a xs/\s.heap.IsTuple b ys/\R (.ok (.ret (.ref (EM s.heap a b).objs.size))) { s with heap:=pH s.heap a b }):=
 .of_wp λprog w A R s h=>by
  obtain⟨hp,g,d,tk,os⟩:=s
  obtain⟨q1,q2,q⟩:=h
  have hsub:=sub_zip
  have u1:Heap.IsTuple (Shared.heap ⟨hp,g,d,tk,os⟩) a xs:=q1
  have u2:Heap.IsTuple (Shared.heap ⟨hp.push { cls:=.type "tuple_iterator", data:=.fields #[.ref a,.int 0 0] },g,d,tk,os⟩) b ys:=nA q2 _
  wp_walk using wpAny_pyIter_tuple u1,wpAny_pyIter_tuple u2
  exact⟨_,rfl,q⟩
theorem iG{prog:KI}{w:LQ}{A:LM}{E:JH->JL->Prop}{s:JL}{a b:JO}{xs ys:Array JH}{Q:JH->JL->Prop}(q1:s.heap.IsTuple a xs)(q2:s.heap.IsTuple b ys)(q:∀h',IsZip h' (s.heap.objs.size+4) (s.heap.objs.size+2) (s.heap.objs.size+3) .none->QJ h' (s.heap.objs.size+2) (.ref s.heap.objs.size) (.ref (s.heap.objs.size+1))->QJ h' (s.heap.objs.size+3) .none .none->h'.IsTupleIter s.heap.objs.size a 0->h'.IsTupleIter (s.heap.objs.size+1) b 0 ->
  (∀c o,s.heap.get? c=some o->h'.get? c=some o)->Q (.ref (s.heap.objs.size+4)) { s with heap:=h' }):KY (LB prog w) A (call (.type "zip") [.ref a,.ref b]) Q E s:=by
 refine callType_new F.called_zip (by decide) (F.typeCall_zip_2 _ _) (F.newCall_zip_2 _ _) (λobj=>F.args_object_init_3 obj _ _) F.entry_zip_new (nW a b xs ys) ⟨q1,q2,?_⟩
 have z1:(BH s.heap a).objs.size=s.heap.objs.size+1:=OP ..
 have z2:(BL s.heap a b).objs.size=s.heap.objs.size+2:=(OP ..).trans (by rw[z1])
 have z3:(BJ s.heap a b).objs.size=s.heap.objs.size+3:=(OP ..).trans (by rw[z2])
 have z4:(EM s.heap a b).objs.size=s.heap.objs.size+4:=(OP ..).trans (by rw[z3])
 have k4:∀c o,(EM s.heap a b).get? c=some o->(pH s.heap a b).get? c=some o:=λc o e=>JI _ e
 have k3:∀c o,(BJ s.heap a b).get? c=some o->(pH s.heap a b).get? c=some o:=λc o e=>k4 c o (JI _ e)
 have k2:∀c o,(BL s.heap a b).get? c=some o->(pH s.heap a b).get? c=some o:=λc o e=>k3 c o (JI _ e)
 have k1:∀c o,(BH s.heap a).get? c=some o->(pH s.heap a b).get? c=some o:=λc o e=>k2 c o (JI _ e)
 have k0:∀c o,s.heap.get? c=some o->(pH s.heap a b).get? c=some o:=λc o e=>k1 c o (JI _ e)
 have g5:(pH s.heap a b).get? (EM s.heap a b).objs.size=some { cls:=.type "zip", data:=.fields #[.none,.bool false,.bool false,.ref (BL s.heap a b).objs.size,.ref (BJ s.heap a b).objs.size] }:=KG _ rfl
 have g4:(pH s.heap a b).get? (BJ s.heap a b).objs.size=some { cls:=.type "tuple", data:=.seq #[.none,.none] }:=k4 _ _ (KG _ rfl)
 have g3:(pH s.heap a b).get? (BL s.heap a b).objs.size=some { cls:=.type "tuple", data:=.seq #[.ref s.heap.objs.size,.ref (BH s.heap a).objs.size] }:=k3 _ _ (KG _ rfl)
 have g2:(pH s.heap a b).get? (BH s.heap a).objs.size=some { cls:=.type "tuple_iterator", data:=.fields #[.ref b,.int 0 0] }:=k2 _ _ (KG _ rfl)
 have g1:(pH s.heap a b).get? s.heap.objs.size=some { cls:=.type "tuple_iterator", data:=.fields #[.ref a,.int 0 0] }:=k1 _ _ (KG _ rfl)
 rw[z4,z2,z3] at g5
 rw[z3] at g4
 rw[z2,z1] at g3
 rw[z1] at g2
 change _/\_
 rw[z4]
 exact⟨⟨_,g5,rfl⟩,q _ g5 g3 g4 ⟨_,g1,rfl,rfl⟩ ⟨_,g2,rfl,rfl⟩ k0⟩
section
variable {prog:KI} {w:LQ} {A:LM} {E:JH->JL->Prop} {s:JL} {n:JO} {fp1 fp2:List JO} {n1 n2:Nat} {P1 P2:Nat->JH->Prop} {S1 S2:Nat->MV->Prop}
theorem Zb(Z:Hk n fp1 fp2)(D1:Draws prog w A.in1 n fp1 n1 P1 S1)(D2:Draws prog w A.in1 (n+1) fp2 n2 P2 S2){a b:JH}{i:Nat}{Q:Option JH->JL->Prop}(hz:IsZip s.heap (n+4) (n+2) (n+3) .none)(hI:QJ s.heap (n+2) (.ref n) (.ref (n+1)))(hO:QJ s.heap (n+3) a b)(h1:S1 i s.heap)(h2:S2 i s.heap)(l1:i < n1)(l2:i < n2)(q:∀x y h' tk,P1 i x->P2 i y->IsZip h' (n+4) (n+2) (n+3) (QN s.heap.objs.size)->QJ h' (n+3) x y->S1 (i+1) h'->S2 (i+1) h'->QJ h' s.heap.objs.size x y ->
  (∀c o,c≠n+4->c≠n+3->c≠n->c≠n+1->s.heap.get? c=some o->h'.get? c=some o)->Q (some (.ref s.heap.objs.size)) { s with heap:=h',toks:=tk }):KY (LB prog w) A (PB (.ref (n+4))) Q E s:=by
 have ty:s.TypeIs (.ref (n+4)) "zip" := ⟨_,hz,rfl⟩
 unfold PB
 exact JE (OZ (LP (name:=NL "__next__") ty SO (MG SO ty F.entry_zip_next (jK Z D1 D2 hz hI hO h1 h2 l1 l2 λx y h' tk a1 a2 a3 a4 a5 a6 a7 a8 a9=>JS (q x y h' tk a1 a2 a3 a4 a5 a6 a7 a9)) (F.args_zip_next_1 _))))
theorem iL(Z:Hk n fp1 fp2)(D1:Draws prog w A.in1 n fp1 n1 P1 S1)(D2:Draws prog w A.in1 (n+1) fp2 n2 P2 S2){a b:JH}{i:Nat}{Q:Option JH->JL->Prop}(hz:IsZip s.heap (n+4) (n+2) (n+3) .none)(hI:QJ s.heap (n+2) (.ref n) (.ref (n+1)))(hO:QJ s.heap (n+3) a b)(h1:S1 i s.heap)(h2:S2 i s.heap)(l:i=n1∨(i < n1/\i=n2))(q:∀h' tk,(∀c o,c≠n+4->c≠n+3->c≠n->c≠n+1->s.heap.get? c=some o->h'.get? c=some o)->Q none { s with heap:=h',toks:=tk }):KY (LB prog w) A (PB (.ref (n+4))) Q E s:=by
 have ty:s.TypeIs (.ref (n+4)) "zip" := ⟨_,hz,rfl⟩
 unfold PB
 refine JE (OZ (LP (name:=NL "__next__") ty SO (MG SO ty F.entry_zip_next (oE Z D1 D2 hz hI hO h1 h2 l λh' e tk k he=>?_) (F.args_zip_next_1 _))))
 obtain⟨o,e1,e2⟩:=he
 exact JE (RW (s:={ s with heap:=h',toks:=tk }) (T := "StopIteration") (b:=true) ⟨o,e1,e2⟩ isSubtype_stop (JS (q _ _ k)))
end
def zL(K:JG)(a b:JO):It:=
 ⟨λi H=>∃xs ys x y,Ck K H a xs/\Ck K H b ys/\xs[i]? = some x/\ys[i]? = some y,
  λi H v H'=>∃T x y,H T=none/\v=.ref T/\H'=upd H T (.tup [x,y])/\(∀xs,Ck K H a xs->xs[i]? = some x)/\∀ys,Ck K H b ys->ys[i]? = some y,
  λi H=>∃xs ys,Ck K H a xs/\Ck K H b ys/\(i=xs.length∨(i < xs.length/\i=ys.length))⟩
theorem Ya{h:MV}{n a b:JO}{i:Nat}{f0 p q:JH}{xs ys:Array JH}(hz:IsZip h (n+4) (n+2) (n+3) f0)(hO:QJ h (n+3) p q)(h1:h.IsTupleIter n a i)(h2:h.IsTupleIter (n+1) b i)(l1:h.IsTuple a xs)(l2:h.IsTuple b ys)(na:a≠n+3)(nb:b≠n+3):
 Hk n [n,a] [n+1,b]/\a≠n/\b≠n+1:=by
 obtain⟨o1,e1,c1,_⟩:=l1
 obtain⟨o2,e2,c2,_⟩:=l2
 obtain⟨p1,q1,d1,_⟩:=h1
 obtain⟨p2,q2,d2,_⟩:=h2
 have nz:∀ {c:JO} {o:Obj},h.get? c=some o->o.cls=.type "tuple" -> c≠n+4/\c≠n/\c≠n+1:=λ{c o} e z=>⟨Kt e hz (by rw[z];show OT "tuple" ≠ OT "zip"; decide),Kt e q1 (by rw[z,d1];decide),Kt e q2 (by rw[z,d2];decide)⟩
 obtain⟨a1,a2,a3⟩:=nz e1 c1
 obtain⟨b1,b2,b3⟩:=nz e2 c2
 refine⟨⟨λc hc=>?_,λc hc=>?_⟩,a2,b3⟩
 ·rcases JT.mp hc with r | r
  ·exact .inl r
  ·rw[JP] at r
   subst r
   exact .inr ⟨a3,na,a1⟩
 ·rcases JT.mp hc with r | r
  ·exact .inl r
  ·rw[JP] at r
   subst r
   exact .inr ⟨b2,nb,b1⟩
theorem Hk.more{A:LM}{h:MV}{n:JO}{fp1 fp2:List JO}(Z:Hk n fp1 fp2)(hh:Bp A h)(n0:∀o vs,h.get? n=some o->o.data=.fields vs->¬ vs[2]? = some .none)(n1:∀o vs,h.get? (n+1)=some o->o.data=.fields vs->¬ vs[2]? = some .none)(n4:∀o vs,h.get? (n+4)=some o->o.data=.fields vs->¬ vs[2]? = some .none)(n3:∀o vs,h.get? (n+3)=some o->o.data=.fields vs->¬ vs[2]? = some .none):Hk n (fp1++Mr A) (fp2++Mr A):=by
 have no:∀c∈Mr A,c≠n/\c≠n+1/\c≠n+3/\c≠n+4:=λc hc=>by
  rcases hh with z | ⟨x,o,vs,a,g,d,e⟩
  ·unfold Mr at hc
   rw[z] at hc
   cases hc
  ·unfold Mr at hc
   rw[a] at hc
   rw[JP.mp hc]
   exact⟨λy=>n0 o vs (y ▸ g) d e,λy=>n1 o vs (y ▸ g) d e,λy=>n3 o vs (y ▸ g) d e,λy=>n4 o vs (y ▸ g) d e⟩
 refine⟨λc hc=>?_,λc hc=>?_⟩
 ·rcases KO.mp hc with r | r
  ·exact Z.m1 c r
  ·exact .inr ⟨(no c r).2.1,(no c r).2.2.1,(no c r).2.2.2⟩
 ·rcases KO.mp hc with r | r
  ·exact Z.m2 c r
  ·exact .inr ⟨(no c r).1,(no c r).2.2.1,(no c r).2.2.2⟩
theorem iM{P:KI}{w:LQ}{K:JG}{elts:List Expr}{kk:Nat}{tpos:Pos}(n a b:JO)(na:a≠n+3)(nb:b≠n+3):Turn P w K (.Tuple elts kk tpos) (zL K a b) [n+4,n+2,n+3,n,n+1] (n+4)
 (λi h=>IsZip h (n+4) (n+2) (n+3) .none/\QJ h (n+2) (.ref n) (.ref (n+1))/\(∃p q,QJ h (n+3) p q)/\h.IsTupleIter n a i/\h.IsTupleIter (n+1) b i) where
 mem:=by simp
 obj:=λi h st c hc=>by
  obtain⟨hz,hTI,⟨p,q,hTO⟩,⟨o1,e1,c1,d1⟩,⟨o2,e2,c2,d2⟩⟩:=st
  simp only[JT,KL,or_false] at hc
  rcases hc with rfl | rfl | rfl | rfl | rfl
  ·exact⟨_,hz,λv z=>nomatch z⟩
  ·exact⟨_,hTI,λv z=>nomatch z⟩
  ·exact⟨_,hTO,λv z=>nomatch z⟩
  ·exact⟨_,e1,λv z=>by rw[d1] at z;cases z⟩
  ·exact⟨_,e2,λv z=>by rw[d2] at z;cases z⟩
 keep:=λi h h' st k=>by
  obtain⟨hz,hTI,⟨p,q,hTO⟩,h1,h2⟩:=st
  exact⟨k _ (by simp) _ hz,k _ (by simp) _ hTI,⟨p,q,k _ (by simp) _ hTO⟩,h1.at λo e=>k _ (by simp) o e,h2.at λo e=>k _ (by simp) o e⟩
 item:=by
  intro X hP hw hK hc i pins s σ H E I hf st hg
  subst hP hw hK
  obtain⟨xs,ys,x,y,hq1,hq2,hx,hy⟩:=hg
  obtain⟨its1,rv1,p1,_⟩:=I.tuple hq1
  obtain⟨its2,rv2,p2,_⟩:=I.tuple hq2
  obtain⟨u1,hu1,ru1⟩:=rv1.get hx
  obtain⟨u2,hu2,ru2⟩:=rv2.get hy
  obtain⟨hz,hTI,⟨pa,pb,hTO⟩,h1,h2⟩:=st
  obtain⟨Z,a0,b1⟩:=Ya hz hTO h1 h2 p1 p2 na nb
  have hd:Bp X.A.in1 s.heap:=I.calmS hc
  have Z:=Z.more hd (Qk h1) (Qk h2) (aD hz) (λo vs g dt _=>by have e:=hTO.symm.trans g;cases e;cases dt)
  refine Zb Z (eJ n a a0 its1.toArray) (eJ (n+1) b b1 its2.toArray) hz hTI hTO ⟨h1,p1,hd⟩ ⟨h2,p2,hd⟩ (by simpa using (JF.mp hu1).1) (by simpa using (JF.mp hu2).1) λv1 v2 h' tk e1 e2 a1 a2 a3 a4 a5 k=>?_
  obtain rfl:u1=v1:=by
   have e1':its1[i]? = some v1:=by simpa using e1
   rw[hu1] at e1'
   exact LC e1'
  obtain rfl:u2=v2:=by
   have e2':its2[i]? = some v2:=by simpa using e2
   rw[hu2] at e2'
   exact LC e2'
  refine⟨_,rfl,wpAny_letOwnedTupleGo_zip (s:={ s with heap:=h',toks:=tk }) a1 λh2' hz2 sb=>?_⟩
  have lt:∀c∈[n+4,n+2,n+3,n,n+1],c≠s.heap.objs.size:=λc hc=>by
   simp only[JT,KL,or_false] at hc
   obtain⟨_,q1,_,_⟩:=id h1
   obtain⟨_,q2,_,_⟩:=id h2
   rcases hc with rfl | rfl | rfl | rfl | rfl
   ·exact KQ (KA hz)
   ·exact KQ (KA hTI)
   ·exact KQ (KA hTO)
   ·exact KQ (KA q1)
   ·exact KQ (KA q2)
  have kk2:∀c o,c∉[n+4,n+3,n,n+1]->s.heap.get? c=some o->h2'.get? c=some o:=λc o hc e=>by
   simp only[JT,KL,or_false,not_or] at hc
   exact(sb.2 c hc.1).trans (k c o hc.1 hc.2.1 hc.2.2.1 hc.2.2.2 e)
  have I1:Inv X pins σ H { s with heap:=h2',toks:=tk }:=I.turns (t':=tk) (ch:=[n+4,n+3,n,n+1]) kk2 λc hc=>by
   simp only[JT,KL,or_false] at hc
   exact hf c (by simp only[JT,KL,or_false];rcases hc with z | z | z | z<;>simp[z])
  have fT:Df X pins H s.heap.objs.size:=I.fpOk (JM _) (I.hok.fresh (JM _))
  have eT:h2'.get? s.heap.objs.size=some { cls:=.type "tuple", data:=.seq #[u1,u2] }:=(sb.2 _ (LL (lt (n+4) (by simp)))).trans a5
  refine⟨.ref s.heap.objs.size,_,I1.adopt (o:=.tup [x,y]) fT.1 fT.2.1 I.sz fT.2.2.2.2.1 fT.2.2.2.2.2 ⟨by show 2<=JQ;decide,[u1,u2],.cons ru1 (.cons ru2 .nil),⟨_,eT,rfl,0,rfl⟩⟩,rfl,⟨_,x,y,fT.1,rfl,rfl,λzs hzs=>?_,λzs hzs=>?_⟩,?_,λc hc=>?_⟩
  ·rw[I.tuple_inj hzs hq1];exact hx
  ·rw[I.tuple_inj hzs hq2];exact hy
  ·refine⟨hz2,(sb.2 _ (ap n 2 4 (by decide))).trans (k _ _ (ap n 2 4 (by decide)) (ap n 2 3 (by decide)) (ap n 2 0 (by decide)) (ap n 2 1 (by decide)) hTI),⟨u1,u2,(sb.2 _ (ap n 3 4 (by decide))).trans a2⟩,a3.1.at λo e=>(sb.2 _ (ap n 0 4 (by decide))).trans e,a4.1.at λo e=>(sb.2 _ (ap n 1 4 (by decide))).trans e⟩
  ·rw[Aj (lt c hc)]
   exact(hf c hc).1
 done:=by
  intro X hP hw hK hc i pins s σ H E I hf st hg
  subst hP hw hK
  obtain⟨xs,ys,hq1,hq2,hx⟩:=hg
  obtain⟨its1,rv1,p1,_⟩:=I.tuple hq1
  obtain⟨its2,rv2,p2,_⟩:=I.tuple hq2
  obtain⟨hz,hTI,⟨pa,pb,hTO⟩,h1,h2⟩:=st
  obtain⟨Z,a0,b1⟩:=Ya hz hTO h1 h2 p1 p2 na nb
  have hd:Bp X.A.in1 s.heap:=I.calmS hc
  have Z:=Z.more hd (Qk h1) (Qk h2) (aD hz) (λo vs g dt _=>by have e:=hTO.symm.trans g;cases e;cases dt)
  have l1:=rv1.length
  have l2:=rv2.length
  refine iL Z (eJ n a a0 its1.toArray) (eJ (n+1) b b1 its2.toArray) hz hTI hTO ⟨h1,p1,hd⟩ ⟨h2,p2,hd⟩ (by simp;omega) λh' tk k=>⟨rfl,?_⟩
  refine I.turns (t':=tk) (ch:=[n+4,n+3,n,n+1]) (λc o hc e=>?_) λc hc=>?_
  ·simp only[JT,KL,or_false,not_or] at hc
   exact k c o hc.1 hc.2.1 hc.2.2.1 hc.2.2.2 e
  ·simp only[JT,KL,or_false] at hc
   exact hf c (by simp only[JT,KL,or_false];rcases hc with z | z | z | z<;>simp[z])
 self:=λ_ _ _ _ _ st h=>wpAny_pyIter_zip st.1 h
def EB(K:JG)(ta:TA):TI:=λσ H R=>ta σ H λvs H1=>∃a b,vs=[.ref a,.ref b]/\(∃xs,Ck K H1 a xs)/\(∃ys,Ck K H1 b ys)/\R (zL K a b) H1
theorem rT{X:Cx}{elts:List Expr}{kk:Nat}{tpos:Pos}{a b:Expr}{ta:TA}{p pos:Pos}(hg:Gl X "zip")(hm:X.mg "zip" = none)(ha:PA X [a,b] ta)(hs:KW [a,b] X.env=[(false,PD a X.env),(false,PD b X.env)]:=by rfl)(hs2:KW [b] X.env=[(false,PD b X.env)]:=by rfl):
 PI X (.Tuple elts kk tpos) (.Call (.Name "zip" p) [a,b] [] pos) (EB X.K ta):=by
 intro pins s σ H R I h
 refine Call_ (Io I hg hm boot_zip (NH (Bu (ha pos pins s σ H _ I h) λus s1 ⟨vs,H1,I1,r1,q1⟩=>?_) (by rw[hs,hs2]) (by rw[hs2];rfl)))
 obtain⟨a',b',e,⟨xs,hq1⟩,⟨ys,hq2⟩,q⟩:=q1
 subst e
 obtain⟨u,w',rfl,r,r'⟩:=vals2 r1
 cases r
 cases r'
 obtain⟨its1,rv1,p1,_⟩:=I1.tuple hq1
 obtain⟨its2,rv2,p2,_⟩:=I1.tuple hq2
 have lt:∀ {c:JO} {its:Array JH},IsTup s1.heap c its->c≠s1.heap.objs.size+3:=λ{c its} ⟨o,e,_⟩=>KQ (LI (KA e) (QH _ _))
 refine iG (show s1.heap.IsTuple a' its1.toArray from p1) (show s1.heap.IsTuple b' its2.toArray from p2) λh' z1 z2 z3 z4 z5 k=>wpAny_pyIter_zip (s:={ s1 with heap:=h' }) z1 ?_
 refine⟨s1.heap.objs.size+4,[s1.heap.objs.size+4,s1.heap.objs.size+2,s1.heap.objs.size+3,s1.heap.objs.size,s1.heap.objs.size+1],_,_,H1,rfl,I1.kept (t':=s1.toks) k,iM s1.heap.objs.size a' b' (lt p1) (lt p2),⟨z1,z2,⟨_,_,z3⟩,z4,z5⟩,λc hc=>?_,q⟩
 have hle:s1.heap.objs.size<=c:=by
  simp only[JT,KL,or_false] at hc
  rcases hc with rfl | rfl | rfl | rfl | rfl
  ·exact kY _ 4
  ·exact kY _ 2
  ·exact kY _ 3
  ·exact kY _ 0
  ·exact kY _ 1
 exact I1.fpOk hle (I1.hok.fresh hle)
theorem Yo{K:JG}{a b:JO}{xs zs:List V}{n:Nat}{fr:List (Str×Nat)}{g:TG}{te:TE}{σ:St}{H:Hp}{F:List V->Hp->Prop}(hlen:xs.length=zs.length)(Pv:Nat->List V->Hp->Prop)(h0:Pv 0 [] H)(hl:∀i ys H,i<=xs.length->Pv i ys H->Ck K H a xs/\Ck K H b zs)(hs:∀i x z ys H T,xs[i]? = some x->zs[i]? = some z->Pv i ys H->H T=none->g (.ref T) (stC n fr σ) (upd H T (.tup [x,z])) λσ2 H2=>te σ2 H2 λy H4=>ys.length < JQ/\Pv (i+1) (ys++[y]) H4)(hd:∀ys H,Pv xs.length ys H->F ys H):Ey n fr g Qp te σ (zL K a b) H F:=by
 refine⟨λi m ys H=>m=xs.length-i/\i<=xs.length/\Pv i ys H,⟨xs.length,by simp,LK _,h0⟩,?_⟩
 rintro i m ys H ⟨rfl,hi,p⟩
 obtain⟨q1,q2⟩:=hl i ys H hi p
 by_cases hlt:i < xs.length
 ·have hx:=JK hlt
  have hz:zs[i]? = some (zs[i]'(by omega)):=JK (by omega)
  refine .inr ⟨⟨xs,zs,_,_,q1,q2,hx,hz⟩,Pv (i+1),λys' H' p'=>⟨xs.length-(i+1),by omega,rfl,hlt,p'⟩,λy H' z=>?_⟩
  obtain⟨T,x,z',hT,rfl,rfl,e1,e2⟩:=z
  exact hs i x z' ys H T (e1 _ q1) (e2 _ q2) p hT
 ·have e:i=xs.length:=by omega
  subst e
  exact .inl ⟨⟨xs,zs,q1,q2,.inl rfl⟩,hd ys H p⟩
section
variable {X:Cx} {v e:Expr} {es:List Expr} {ta t:TE} {pos:Pos}
end
section
variable {prog:KI} {w:LQ} {A:LM} {R:Result->JL->Prop} {I:JO} {fp wr:List JO} {G:Array GenState->Array GenState->Prop} {n:Nat} {P:Nat->JH->Prop} {St:Nat->JL->Prop}
end
section
variable {prog:KI} {w:LQ} {A:LM} {E:JH->JL->Prop} {s:JL}
end
section
variable {X:Cx}
end
end L2
namespace Mg
section
variable {α:Type} [DecidableEq α]
def cnt(rs:List (List α))(x:α):Nat:=(rs.map λr=>r.tail.count x).sum
def pick(f:α->Nat):List (List α)->Option α
 | []=>none
 | []::r=>pick f r
 | (x::_)::r=>if f x=0 then some x else pick f r
def Cv(x:α):List α->List α
 | []=>[]
 | y::r=>if y=x then r else y::r
def Eg:Nat->List (List α)->List α×List (List α)
 | 0,rs=>([],rs)
 | n+1,rs=>match pick (cnt rs) rs with
  | none=>([],rs)
  | some x=>(x::(Eg n (rs.map (Cv x))).1,(Eg n (rs.map (Cv x))).2)
def Ff(rs:List (List α)):Nat:=(rs.map List.length).sum
theorem cnt_nil(x:α):cnt [] x=0:=rfl
theorem cnt_cons(r:List α)(rs:List (List α))(x:α):cnt (r::rs) x=r.tail.count x+cnt rs x:=rfl
theorem cnt_append(rs ss:List (List α))(x:α):cnt (rs++ss) x=cnt rs x+cnt ss x:=by
 unfold cnt
 rw[JX,List.sum_append]
theorem Jj{rs:List (List α)}{x:α}:cnt rs x=0 ↔ ∀r∈rs,x∉r.tail:=by
 induction rs with
 | nil=>simp[cnt_nil]
 | cons r rs ih=>
  rw[cnt_cons]
  constructor
  ·intro h q hq
   rcases JT.mp hq with rfl | hq
   ·exact List.count_eq_zero.mp (by omega)
   ·exact ih.mp (by omega) q hq
  ·intro h
   have h1:=List.count_eq_zero.mpr (h r JW)
   have h2:=ih.mpr λq hq=>h q (JU _ hq)
   omega
theorem Ht{f:α->Nat}{x:α}:∀ {rs:List (List α)},pick f rs=some x->f x=0/\∃r∈rs,∃t,r=x::t
 | [],h=>nomatch h
 | []::r,h=>by
  obtain⟨h1,q,hq,t,e⟩:=Ht (rs:=r) h
  exact⟨h1,q,JU _ hq,t,e⟩
 | (y::u)::r,h=>by
  unfold pick at h
  by_cases hy:f y=0
  ·rw[if_pos hy] at h
   cases h
   exact⟨hy,_,JW,u,rfl⟩
  ·rw[if_neg hy] at h
   obtain⟨h1,q,hq,t,e⟩:=Ht (rs:=r) h
   exact⟨h1,q,JU _ hq,t,e⟩
theorem Li(r:List α)(rs:List (List α)):Ff (r::rs)=r.length+Ff rs:=rfl
theorem Fd(x y:α)(r:List α):Cv x (y::r)=if y=x then r else y::r:=rfl
theorem Wh(x:α)(r:List α):(Cv x r).length<=r.length:=by
 cases r with
 | nil=>exact JM _
 | cons y r=>
  rw[Fd]
  split
  ·exact ON _
  ·exact JM _
theorem Nl(x:α):∀rs:List (List α),Ff (rs.map (Cv x))<=Ff rs
 | []=>JM _
 | r::rs=>by
  rw[LY,Li,Li]
  have:=Nl x rs
  have:=Wh x r
  omega
theorem Jt{x:α}{t:List α}:∀ {rs:List (List α)},x::t∈rs->Ff (rs.map (Cv x)) < Ff rs
 | r::rs,h=>by
  rw[LY,Li,Li]
  rcases JT.mp h with e | h
  ·subst e
   have h1:=Nl x rs
   have h2:(Cv x (x::t)).length=t.length:=by rw[Fd,if_pos rfl]
   rw[h2,LU]
   omega
  ·have:=Jt h
   have:=Wh x r
   omega
theorem Wy{n:Nat}{rs:List (List α)}(h:pick (cnt rs) rs=none):Eg n rs=([],rs):=by
 cases n with
 | zero=>rfl
 | succ n=>unfold Eg;rw[h]
theorem Qn{n:Nat}{rs:List (List α)}{x:α}(h:pick (cnt rs) rs=some x):Eg (n+1) rs=(x::(Eg n (rs.map (Cv x))).1,(Eg n (rs.map (Cv x))).2):=by
 rw[Eg,h]
theorem Iw(x:α)(r:List α):Cv x (x::r)=r:=by rw[Fd,if_pos rfl]
theorem Pj{x:α}{t:List α}{rs:List (List α)}{f:α->Nat}(h:f x=0):pick f ((x::t)::rs)=some x:=by unfold pick;rw[if_pos h]
end
end Mg
namespace Mg
section
variable {α:Type} [DecidableEq α]
def rests(rows:List (List α))(st:List Nat):List (List α):=List.zipWith (λr n=>r.drop n) rows st
theorem Gh{rows:List (List α)}{st:List Nat}{i:Nat}{r:List α}{n:Nat}(h1:rows[i]? = some r)(h2:st[i]? = some n):(rests rows st)[i]? = some (r.drop n):=by
 unfold rests
 rw[List.getElem?_zipWith,h1,h2]
theorem Im{rows:List (List α)}{st:List Nat}(h:st.length=rows.length):(rests rows st).length=rows.length:=by
 unfold rests
 rw[List.length_zipWith,h,Nat.min_self]
theorem Ct:∀rows:List (List α),rests rows (LF rows.length 0)=rows
 | []=>rfl
 | r::rows=>by
  have ih:=Ct rows
  show (r.drop 0)::rests rows (LF rows.length 0)=r::rows
  rw[ih,List.drop_zero]
theorem Gj{r:List α}{n:Nat}(h:n < r.length):r.drop n=r[n]::r.drop (n+1):=MP h
theorem Zm{f:α->Nat}{rs:List (List α)}{i:Nat}(h:rs[i]? = some []):pick f (rs.drop i)=pick f (rs.drop (i+1)):=by
 obtain⟨hi,e⟩:=JF.mp h
 rw[MP hi,e]
 rfl
theorem Zk{f:α->Nat}{rs:List (List α)}{i:Nat}{x:α}{t:List α}(h:rs[i]? = some (x::t)):pick f (rs.drop i)=if f x=0 then some x else pick f (rs.drop (i+1)):=by
 obtain⟨hi,e⟩:=JF.mp h
 rw[MP hi,e]
 rfl
def half(x:α)(rs:List (List α))(i:Nat):List (List α):=(rs.take i).map (Cv x)++rs.drop i
theorem jU(x:α)(rs:List (List α)):half x rs 0=rs:=by unfold half;simp
theorem lE(x:α)(rs:List (List α)){i:Nat}(h:rs.length<=i):half x rs i=rs.map (Cv x):=by
 unfold half
 rw[LN h,OB h,MD]
theorem Ko{x:α}{rs:List (List α)}{i:Nat}{r:List α}(h:rs[i]? = some r):half x rs i=(rs.take i).map (Cv x)++r::rs.drop (i+1)/\half x rs (i+1)=(rs.take i).map (Cv x)++Cv x r::rs.drop (i+1):=by
 obtain⟨hi,e⟩:=JF.mp h
 unfold half
 constructor
 ·rw[MP hi,e]
 ·rw[MI,h,JX]
  simp
theorem nE{x:α}{rs:List (List α)}{i:Nat}{r:List α}(h:rs[i]? = some r)(y:α):cnt (half x rs (i+1)) y+r.tail.count y=cnt (half x rs i) y+(Cv x r).tail.count y:=by
 obtain⟨e1,e2⟩:=Ko (x:=x) h
 rw[e1,e2,cnt_append,cnt_append,cnt_cons,cnt_cons]
 omega
theorem iO{rows:List (List α)}{st:List Nat}{i n:Nat}{r:List α}(h1:rows[i]? = some r)(hi:i < st.length):rests rows (st.set i n)=(rests rows st).set i (r.drop n):=by
 apply List.ext_getElem?
 intro j
 unfold rests
 rw[List.getElem?_zipWith]
 by_cases hj:i=j
 ·subst hj
  have hi2:i < rows.length:=(JF.mp h1).1
  rw[OA hi,h1,OA (by rw[List.length_zipWith];omega)]
 ·rw[NN hj,NN hj,List.getElem?_zipWith]
theorem Ki{rs:List (List α)}{i:Nat}{r:List α}(h:rs[i]? = some r):Ff (rs.take (i+1))=Ff (rs.take i)+r.length:=by
 unfold Ff
 rw[MI,h,JX,List.sum_append]
 simp
theorem Xy(rs:List (List α))(i:Nat):Ff (rs.take i)<=Ff rs:=by
 have e:Ff rs=Ff (rs.take i)+Ff (rs.drop i):=by
  unfold Ff
  rw[<- List.sum_append,<- JX,List.take_append_drop]
 omega
theorem Rm{rs:List (List α)}{i:Nat}{r:List α}(h:rs[i]? = some r)(x:α):cnt (rs.take (i+1)) x=cnt (rs.take i) x+r.tail.count x:=by
 unfold cnt
 rw[MI,h,JX,List.sum_append]
 simp
theorem Jc{r:List α}{j:Nat}{y:α}(h:r[j]? = some y)(x:α):(r.take (j+1)).count x=(r.take j).count x+if x=y then 1 else 0:=by
 rw[MI,h,List.count_append]
 by_cases e:x=y
 ·subst e
  rw[if_pos rfl]
  simp
 ·rw[if_neg e]
  have:¬ y=x:=λz=>e z.symm
  simp[this]
end
end Mg
namespace Mg
section
variable {α:Type} [DecidableEq α]
theorem nQ{x:α}{rs:List (List α)}{i:Nat}{r:List α}(h:rs[i]? = some r):(half x rs i).set i (Cv x r)=half x rs (i+1):=by
 obtain⟨e1,e2⟩:=Ko (x:=x) h
 have hi:i < rs.length:=(JF.mp h).1
 have hl:((rs.take i).map (Cv x)).length=i:=by rw[JJ,NT];omega
 rw[e1,e2,List.set_append_right _ _ (by rw[hl];exact JM _),hl,Nat.sub_self]
 rfl
theorem jI{x:α}{rs:List (List α)}{i:Nat}{r:List α}(h:rs[i]? = some r)(e:Cv x r=r):half x rs (i+1)=half x rs i:=by
 obtain⟨e1,e2⟩:=Ko (x:=x) h
 rw[e1,e2,e]
end
end Mg
namespace Nm
open PySem PyProof.Rows
def Ek:Str := "abcdefghijklmnopqrstuvwxyz"
def fill(c:Int):Str:=SL (Ek++Ek) (some (c % 26)) (some (c % 26+c / 26 % 19))
def place(c:Int):Int:=c / 494 % (((fill c).length:Int)+1)
def sign(k:Int):Str:=⟨#[97+k.toNat]⟩
def Ft(k c:Int):Str:=SL (fill c) none (some (place c))++sign (k / 26 % 26)++sign (k % 26)++SL (fill c) (some (place c)) none
def iQ(x:Str):Prop:=1<=x.length/\x.length<=20/\∀c∈x.cps.toList,97<=c/\c<=122
theorem Ng:Ek.length=26:=by decide +kernel
theorem Nh:Ek.cps.toList=(SI 26).map (97 + ·):=by decide +kernel
theorem len_app(a b:Str):(a++b).length=a.length+b.length:=by
 show (a.cps++b.cps).size=_
 rw[Array.size_append]
 rfl
theorem app_list(a b:Str):(a++b).cps.toList=a.cps.toList++b.cps.toList:=by
 show (a.cps++b.cps).toList=_
 rw[Array.toList_append]
theorem len_list(a:Str):a.length=a.cps.toList.length:=by
 show a.cps.size=_
 rw[RK]
theorem rZ{x:Str}{i j:Int}(h0:0<=i)(h1:i<=j)(h2:j<=x.length):(SL x (some i) (some j)).cps.toList=(x.cps.toList.drop i.toNat).take (j-i).toNat:=by
 have e:=eq_of_beq (slice_closesL h0 h1 h2)
 rw[e]
theorem AB{x:Str}{j:Int}(h0:0<=j)(h2:j<=x.length):(SL x none (some j)).cps.toList=x.cps.toList.take j.toNat:=by
 have e:=eq_of_beq (slice_closes_toL h0 h2)
 rw[e]
 simp
theorem pF{x:Str}{i:Int}(h0:0<=i)(h2:i<=x.length):(SL x (some i) none).cps.toList=x.cps.toList.drop i.toNat:=by
 have e:=eq_of_beq (slice_closes_fromL h0 h2 rfl)
 rw[e]
 show (x.cps.toList.drop i.toNat).take ((x.length:Int)-i).toNat=_
 refine LN ?_
 rw[MW,<- len_list]
 omega
theorem Wj(c:Int):(fill c).cps.toList=((Ek++Ek).cps.toList.drop (c % 26).toNat).take (c / 26 % 19).toNat:=by
 have a1:=ME c (show (26:Int)≠0 by decide)
 have a2:=LZ c (show (0:Int) < 26 by decide)
 have b1:=ME (c / 26) (show (19:Int)≠0 by decide)
 have b2:=LZ (c / 26) (show (0:Int) < 19 by decide)
 unfold fill
 rw[rZ a1 (by omega) (by rw[len_app,Ng];omega)]
 congr 2
 omega
theorem Wn(c:Int):(fill c).length<=18:=by
 rw[len_list,Wj,NT]
 have b1:=ME (c / 26) (show (19:Int)≠0 by decide)
 have b2:=LZ (c / 26) (show (0:Int) < 19 by decide)
 omega
theorem Pb(c:Int):∀x∈(fill c).cps.toList,97<=x/\x<=122:=λx hx=>by
 rw[Wj,app_list,Nh] at hx
 have h:=PX (List.mem_of_mem_take hx)
 have h':x∈(SI 26).map (97 + ·):=by
  rcases KO.mp h with z | z<;>exact z
 obtain⟨i,hi,rfl⟩:=LR.mp h'
 have:=List.mem_range.mp hi
 omega
theorem rH(c:Int):0<=place c/\place c<=(fill c).length:=by
 unfold place
 have b1:=ME (c / 494) (show (((fill c).length:Int)+1)≠0 by omega)
 have b2:=LZ (c / 494) (show (0:Int) < (((fill c).length:Int)+1) by omega)
 omega
theorem Ls(k c:Int):(Ft k c).cps.toList=(fill c).cps.toList.take (place c).toNat++[97+(k / 26 % 26).toNat]++[97+(k % 26).toNat]++(fill c).cps.toList.drop (place c).toNat:=by
 obtain⟨h0,h1⟩:=rH c
 unfold Ft
 rw[app_list,app_list,app_list,AB h0 h1,pF h0 h1]
 rfl
theorem lH(k c:Int):(Ft k c).length=(fill c).length+2:=by
 rw[len_list,Ls]
 simp only[JN,NT,MW,JY]
 rw[len_list]
 omega
theorem fU(k c:Int):iQ (Ft k c):=by
 have h1:=lH k c
 have h2:=Wn c
 refine⟨by omega,by omega,λx hx=>?_⟩
 rw[Ls] at hx
 have k1:=ME (k / 26) (show (26:Int)≠0 by decide)
 have k2:=LZ (k / 26) (show (0:Int) < 26 by decide)
 have k3:=ME k (show (26:Int)≠0 by decide)
 have k4:=LZ k (show (0:Int) < 26 by decide)
 rcases KO.mp hx with hx | hx
 ·rcases KO.mp hx with hx | hx
  ·rcases KO.mp hx with hx | hx
   ·exact Pb c x (List.mem_of_mem_take hx)
   ·have:=JP.mp hx
    omega
  ·have:=JP.mp hx
   omega
 ·exact Pb c x (PX hx)
theorem Xh{k j c:Int}(h0:0<=k)(h1:k < 676)(h2:0<=j)(h3:j < 676)(h:Ft k c=Ft j c):k=j:=by
 have e:=congrArg (λx:Str=>x.cps.toList) h
 rw[Ls,Ls,OF,OF,OF,OF] at e
 have e2:=List.append_cancel_left e
 have e3:(97+(k / 26 % 26).toNat)=(97+(j / 26 % 26).toNat)/\(97+(k % 26).toNat)=(97+(j % 26).toNat):=by
  simpa using e2
 omega
theorem uI(c:Nat):(!decide (([c]:List Nat) < [97]))=decide (97<=c):=by
 by_cases h:97<=c
 ·rw[decide_eq_true h]
  have:¬ ([c]:List Nat) < [97]:=λz=>by
   rcases SN.mp z with z | ⟨_,z⟩
   ·omega
   ·exact absurd z (List.not_lt_nil _)
  rw[decide_eq_false this];rfl
 ·rw[decide_eq_false h]
  have:([c]:List Nat) < [97]:=SN.mpr (.inl (by omega))
  rw[decide_eq_true this];rfl
theorem rW(c:Nat):(!decide (([122]:List Nat) < [c]))=decide (c<=122):=by
 by_cases h:c<=122
 ·rw[decide_eq_true h]
  have:¬ ([122]:List Nat) < [c]:=λz=>by
   rcases SN.mp z with z | ⟨_,z⟩
   ·omega
   ·exact absurd z (List.not_lt_nil _)
  rw[decide_eq_false this];rfl
 ·rw[decide_eq_false h]
  have:([122]:List Nat) < [c]:=SN.mpr (.inl (by omega))
  rw[decide_eq_true this];rfl
end Nm
namespace Ah
inductive Ld where
 | none | go (p:Nat)
inductive Stp where
 | ld (l:Ld) | ei (a b:Ld) | oth
inductive Nd where
 | ans (n:Nat) | una (n:Nat) | nev | need (p:Nat)
 deriving DecidableEq
abbrev Mp:=Nat->Option Nd
def Hx(m:Mp):Ld->Nd
 | .none=>.una 0
 | .go p=>(m p).getD (.need p)
def Nt(c:Nat):Nd->Nd
 | .ans n=>.ans (c+n)
 | .una n=>.una (c+n)
 | .nev=>.nev
 | .need p=>.need p
def rO(x y:Nd):Nd:=match x with
 | .una n=>Nt n y
 | .ans n=>.ans n
 | .nev=>.nev
 | .need p=>.need p
def Rf(m:Mp):Stp->Nd
 | .ld l=>Hx m l
 | .ei a b=>rO (Hx m a) (Hx m b)
 | .oth=>.ans 0
def rowE(m:Mp):Nat->List Stp->Nd
 | c,[]=>.ans c
 | c,s::t=>match Rf m s with
  | .ans n=>rowE m (c+n) t
  | .una n=>.una (c+n)
  | .nev=>.nev
  | .need p=>.need p
def Out(x:Nd):Prop:=x=.nev ∨ ∃p,x=.need p
section
variable {m m':Mp} {B:Nd->Prop}
theorem Uz(h:∀q,m q=m' q∨B ((m q).getD (.need q))):∀l,Hx m l=Hx m' l∨B (Hx m l)
 | .none=>.inl rfl
 | .go p=>by
  rcases h p with e | e
  ·left
   show (m p).getD _=(m' p).getD _
   rw[e]
  ·exact .inr e
theorem vS(hB:∀x,B x->Out x)(h:∀q,m q=m' q∨B ((m q).getD (.need q))):∀s,Rf m s=Rf m' s∨B (Rf m s)
 | .ld l=>Uz h l
 | .oth=>.inl rfl
 | .ei a b=>by
  show rO (Hx m a) (Hx m b)=rO (Hx m' a) (Hx m' b)∨B (rO (Hx m a) (Hx m b))
  rcases Uz h a with ea | ea
  ·rw[<- ea]
   cases x:Hx m a with
   | una n=>
    rcases Uz h b with eb | eb
    ·rw[<- eb];exact .inl rfl
    ·right
     rcases hB _ eb with z | ⟨p,z⟩<;>rw[z] at eb ⊢<;>exact eb
   | ans n=>exact .inl rfl
   | nev=>exact .inl rfl
   | need p=>exact .inl rfl
  ·right
   rcases hB _ ea with z | ⟨p,z⟩<;>rw[z] at ea ⊢<;>exact ea
theorem Qq(hB:∀x,B x->Out x)(h:∀q,m q=m' q∨B ((m q).getD (.need q))):∀(r:List Stp)(c:Nat),rowE m c r=rowE m' c r∨B (rowE m c r)
 | [],_=>.inl rfl
 | s::t,c=>by
  rcases vS hB h s with es | es
  ·unfold rowE
   rw[<- es]
   cases x:Rf m s with
   | ans n=>exact Qq hB h t (c+n)
   | una n=>exact .inl rfl
   | nev=>exact .inl rfl
   | need p=>exact .inl rfl
  ·right
   unfold rowE
   rcases hB _ es with z | ⟨p,z⟩<;>rw[z] at es ⊢<;>exact es
def Good(m m':Mp):Prop:=∀x e,m x=some e->e ≠ .nev->m' x=some e
theorem Lc(hG:Good m m')(r:List Stp)(c:Nat):rowE m c r=rowE m' c r∨rowE m c r=.nev ∨ ∃p,rowE m c r=.need p/\m' p≠none:=by
 refine Qq (m:=m) (m':=m') (B:=λy=>y=.nev ∨ ∃p,y=.need p/\m' p≠none) (λx hx=>?_) (λq=>?_) r c
 ·rcases hx with z | ⟨p,z,_⟩
  ·exact .inl z
  ·exact .inr ⟨p,z⟩
 ·cases e:m q with
  | none=>
   cases e':m' q with
   | none=>exact .inl rfl
   | some y=>exact .inr (.inr ⟨q,rfl,by rw[e'];exact nofun⟩)
  | some y=>
   by_cases hy:y=.nev
   ·exact .inr (.inl hy)
   ·exact .inl (hG q y e hy).symm
theorem gZ(hs:∀x e,m x=some e->m' x=some e){r:List Stp}{c:Nat}(h:rowE m c r=.nev):rowE m' c r=.nev:=by
 have key:rowE m c r=rowE m' c r ∨ ∃p,rowE m c r=.need p:=Qq (m:=m) (m':=m') (B:=λy=>∃p,y=.need p) (λx hx=>.inr hx) (λq=>by
  cases e:m q with
  | none=>exact .inr ⟨q,rfl⟩
  | some y=>exact .inl (hs q y e).symm) r c
 rcases key with e | ⟨p,e⟩
 ·rw[<- e];exact h
 ·rw[h] at e;cases e
def Gp(m:Mp):Prop:=∀x p,m x≠some (.need p)
def ldsL:Ld->List Nat
 | .none=>[]
 | .go p=>[p]
def Qo:Stp->List Nat
 | .ld l=>ldsL l
 | .ei a b=>ldsL a++ldsL b
 | .oth=>[]
theorem Vf(hn:Gp m){p:Nat}:∀ {l:Ld},Hx m l=.need p->m p=none/\p∈ldsL l
 | .none,h=>nomatch h
 | .go q,h=>by
  have h:(m q).getD (.need q)=.need p:=h
  cases e:m q with
  | none=>
   rw[e] at h
   cases h
   exact⟨e,JP.mpr rfl⟩
  | some y=>
   rw[e] at h
   have h:y=.need p:=h
   subst h
   exact absurd e (hn q p)
theorem lG{c:Nat}{e:Nd}{p:Nat}(h:Nt c e=.need p):e=.need p:=by
 cases e<;>first | exact h | cases h
theorem sJ(hn:Gp m){p:Nat}:∀ {s:Stp},Rf m s=.need p->m p=none/\p∈Qo s
 | .ld l,h=>Vf hn h
 | .oth,h=>nomatch h
 | .ei a b,h=>by
  have h:rO (Hx m a) (Hx m b)=.need p:=h
  cases x:Hx m a with
  | una n=>
   rw[x] at h
   obtain⟨h1,h2⟩:=Vf hn (lG h)
   exact⟨h1,KC _ h2⟩
  | ans n=>rw[x] at h;cases h
  | nev=>rw[x] at h;cases h
  | need q=>
   rw[x] at h
   cases h
   obtain⟨h1,h2⟩:=Vf hn x
   exact⟨h1,ML _ h2⟩
theorem Pc(hn:Gp m){p:Nat}:∀ {r:List Stp} {c:Nat},rowE m c r=.need p->m p=none/\∃s∈r,p∈Qo s
 | [],_,h=>nomatch h
 | s::t,c,h=>by
  unfold rowE at h
  cases x:Rf m s with
  | ans n=>
   rw[x] at h
   obtain⟨h1,u,hu,h2⟩:=Pc hn (r:=t) h
   exact⟨h1,u,JU _ hu,h2⟩
  | una n=>rw[x] at h;cases h
  | nev=>rw[x] at h;cases h
  | need q=>
   rw[x] at h
   cases h
   obtain⟨h1,h2⟩:=sJ hn x
   exact⟨h1,s,JW ..,h2⟩
theorem Vk{m:Mp}:∀ {r:List Stp} {c:Nat},(∀k,rowE m c r=.ans k->c<=k)/\∀k,rowE m c r=.una k->c<=k
 | [],c=>⟨λk h=>by cases h;exact JM _,λk h=>nomatch h⟩
 | s::t,c=>by
  unfold rowE
  cases x:Rf m s with
  | ans n=>
   obtain⟨h1,h2⟩:=Vk (m:=m) (r:=t) (c:=c+n)
   exact⟨λk h=>KZ (QH _ _) (h1 k h),λk h=>KZ (QH _ _) (h2 k h)⟩
  | una n=>exact⟨(λk h=>nomatch h),λk h=>by cases h;exact QH _ _⟩
  | nev=>exact⟨(λk h=>nomatch h),λk h=>nomatch h⟩
  | need q=>exact⟨(λk h=>nomatch h),λk h=>nomatch h⟩
def fN(p:Nat)(e:Nd):Nd:=if e=.need p then .nev else e
def setM(m:Mp)(q:Nat)(e:Nd):Mp:=λx=>if x=q then some e else m x
theorem Cp{q:Nat}{e:Nd}:setM m q e q=some e:=if_pos rfl
theorem Bh{q x:Nat}{e:Nd}(h:x≠q):setM m q e x=m x:=if_neg h
theorem Zq(hn:Gp m){p:Nat}(hp:m p=none):∀l,Hx (setM m p .nev) l=fN p (Hx m l)
 | .none=>by show Nd.una 0=fN p (.una 0);unfold fN;rw[if_neg (by exact nofun)]
 | .go q=>by
  show (setM m p .nev q).getD (.need q)=fN p ((m q).getD (.need q))
  unfold fN
  by_cases h:q=p
  ·subst h
   rw[Cp,hp]
   show Nd.nev=if Nd.need q=Nd.need q then Nd.nev else Nd.need q
   rw[if_pos rfl]
  ·rw[Bh h]
   cases e:m q with
   | none=>
    show Nd.need q=if Nd.need q=Nd.need p then Nd.nev else Nd.need q
    rw[if_neg (λz=>h (Nd.need.inj z))]
   | some y=>
    show y=if y=Nd.need p then Nd.nev else y
    rw[if_neg (λz=>hn q p (by rw[e,z]))]
theorem BA{p c:Nat}(e:Nd):Nt c (fN p e)=fN p (Nt c e):=by
 cases e with
 | need q=>
  by_cases h:q=p
  ·subst h
   unfold fN
   rw[if_pos rfl]
   show Nd.nev=if Nd.need q=Nd.need q then Nd.nev else Nd.need q
   rw[if_pos rfl]
  ·unfold fN
   rw[if_neg (λz=>h (Nd.need.inj z))]
   show Nd.need q=if Nd.need q=Nd.need p then Nd.nev else Nd.need q
   rw[if_neg (λz=>h (Nd.need.inj z))]
 | ans n=>rfl
 | una n=>rfl
 | nev=>rfl
theorem yM(hn:Gp m){p:Nat}(hp:m p=none):∀s,Rf (setM m p .nev) s=fN p (Rf m s)
 | .ld l=>Zq hn hp l
 | .oth=>rfl
 | .ei a b=>by
  show rO (Hx _ a) (Hx _ b)=fN p (rO (Hx m a) (Hx m b))
  rw[Zq hn hp a,Zq hn hp b]
  cases x:Hx m a with
  | una n=>
   show Nt n (fN p (Hx m b))=fN p (Nt n (Hx m b))
   exact BA _
  | ans n=>rfl
  | nev=>rfl
  | need q=>
   by_cases h:q=p
   ·subst h
    have e:fN q (.need q)=.nev:=if_pos rfl
    rw[e]
    exact e.symm
   ·have e:fN p (.need q)=.need q:=if_neg (λz=>h (Nd.need.inj z))
    rw[e]
    exact e.symm
theorem dZ(hn:Gp m){p:Nat}(hp:m p=none):∀(r:List Stp)(c:Nat),rowE (setM m p .nev) c r=fN p (rowE m c r)
 | [],_=>rfl
 | s::t,c=>by
  unfold rowE
  rw[yM hn hp s]
  cases x:Rf m s with
  | ans n=>exact dZ hn hp t (c+n)
  | una n=>rfl
  | nev=>rfl
  | need q=>
   by_cases h:q=p
   ·subst h
    have e:fN q (.need q)=.nev:=if_pos rfl
    rw[e]
   ·have e:fN p (.need q)=.need q:=if_neg (λz=>h (Nd.need.inj z))
    rw[e]
end
def er(m:Mp)(ps:List Nat):Mp:=λq=>if q∈ps then none else m q
theorem Ni{m:Mp}{ps:List Nat}{q:Nat}(h:q∈ps):er m ps q=none:=if_pos h
theorem Gr{m:Mp}{ps:List Nat}{q:Nat}(h:q∉ps):er m ps q=m q:=if_neg h
theorem Om{m:Mp}{ps:List Nat}{q:Nat}{e:Nd}(h:er m ps q=some e):q∉ps/\m q=some e:=by
 by_cases z:q∈ps
 ·rw[Ni z] at h;cases h
 ·rw[Gr z] at h;exact⟨z,h⟩
def Lg(row:Nat->List Stp)(m:Mp):List Nat->Prop
 | []=>True
 | [_]=>True
 | p::q::r=>rowE (er m [p]) 1 (row q)=.need p/\Lg row m (q::r)
theorem Lg.good{row:Nat->List Stp}{m m':Mp}(h:Good m m'):∀ {ps:List Nat},Lg row m ps->Lg row m' ps
 | [],_=>trivial
 | [_],_=>trivial
 | p::q::r,c=>by
  refine⟨?_,Lg.good h c.2⟩
  have hG:Good (er m [p]) (er m' [p]):=λx e hx he=>by
   obtain⟨h1,h2⟩:=Om hx
   rw[Gr h1]
   exact h x e h2 he
  rcases Lc hG (row q) 1 with z | z | ⟨y,z,hy⟩
  ·rw[<- z];exact c.1
  ·rw[c.1] at z;cases z
  ·rw[c.1] at z
   cases z
   exact absurd (Ni (JP.mpr rfl)) hy
theorem Lg.tail{row:Nat->List Stp}{m:Mp}{p:Nat}:∀ {ps:List Nat},Lg row m (p::ps)->Lg row m ps
 | [],_=>trivial
 | _::_,c=>c.2
structure Ue(row:Nat->List Stp)(n:Nat)(m:Mp)(ps:List Nat):Prop where
 nd:ps.Nodup
 lt:∀p∈ps,p < n
 tl:∀p∈ps.tail,m p=some .nev
 hd:∀p,ps.head? = some p->m p=none∨m p=some .nev
 ky:∀p e,m p=some e->p < n
 nn:Gp m
 ch:Lg row m ps
 ph:(∀x e,m x=some e->x∉ps->rowE (er m ps) 1 (row x)=e)∨((∀x e,m x=some e->x∉ps->rowE m 1 (row x)=e)/\∀q,ps.head? = some q->m q=some .nev/\rowE m 1 (row q)=.nev)
structure Told(row:Nat->List Stp)(n:Nat)(m:Mp):Prop where
 ky:∀p e,m p=some e->p < n
 nn:Gp m
 fo:∀x e,m x=some e->rowE m 1 (row x)=e
theorem AV(m:Mp):er m []=m:=by
 funext q
 exact Gr (by simp)
theorem Ue.done{row:Nat->List Stp}{n:Nat}{m:Mp}(h:Ue row n m []):Told row n m:=by
 refine⟨h.ky,h.nn,λx e hx=>?_⟩
 rcases h.ph with p | ⟨p,_⟩
 ·have:=p x e hx (by simp)
  rw[AV] at this
  exact this
 ·exact p x e hx (by simp)
theorem Told.start{row:Nat->List Stp}{n:Nat}{m:Mp}(T:Told row n m){p:Nat}(hp:m p=none)(hl:p < n):Ue row n m [p]:=by
 refine⟨by simp,λq hq=>?_,(λq hq=>nomatch hq),λq hq=>?_,T.ky,T.nn,trivial,.inl λx e hx hn=>?_⟩
 ·rw[JP] at hq
  subst hq
  exact hl
 ·cases hq
  exact .inl hp
 ·have z:er m [p]=m:=by
   funext q
   by_cases c:q=p
   ·subst c
    rw[Ni (JP.mpr rfl),hp]
   ·exact Gr (λw=>c (JP.mp w))
  rw[z]
  exact T.fo x e hx
section
variable {row:Nat->List Stp} {n:Nat} {m:Mp} {q:Nat} {ps:List Nat}
theorem Ue.nevs(P:Ue row n m (q::ps)):∀x∈q::ps,setM m q .nev x=some .nev:=by
 intro x hx
 by_cases h:x=q
 ·subst h;exact Cp
 ·rw[Bh h]
  rcases JT.mp hx with z | z
  ·exact absurd z h
  ·exact P.tl x z
theorem Ue.goodN(P:Ue row n m (q::ps)):Good m (setM m q .nev):=λx e hx he=>by
 by_cases h:x=q
 ·subst h
  rcases P.hd _ rfl with z | z
  ·rw[z] at hx;cases hx
  ·rw[z] at hx
   cases hx
   exact absurd rfl he
 ·rw[Bh h];exact hx
theorem Ue.nnN(P:Ue row n m (q::ps)):Gp (setM m q .nev):=λx p h=>by
 by_cases z:x=q
 ·subst z;rw[Cp] at h;cases h
 ·rw[Bh z] at h;exact P.nn x p h
theorem Ue.kyS(P:Ue row n m (q::ps))(e:Nd):∀p x,setM m q e p=some x->p < n:=λp x h=>by
 by_cases z:p=q
 ·rw[z];exact P.lt q (JW ..)
 ·rw[Bh z] at h;exact P.ky p x h
theorem Ue.push(P:Ue row n m (q::ps)){p:Nat}(he:rowE (setM m q .nev) 1 (row q)=.need p)(hl:p < n):setM m q .nev p=none/\Ue row n (setM m q .nev) (p::q::ps):=by
 have hp:=(Pc P.nnN he).1
 refine⟨hp,?_⟩
 have hnin:p∉q::ps:=λz=>by
  have:=P.nevs p z
  rw[hp] at this
  cases this
 have e1:er (setM m q .nev) [p]=setM m q .nev:=by
  funext x
  by_cases c:x=p
  ·subst c;rw[Ni (JP.mpr rfl),hp]
  ·exact Gr (λw=>c (JP.mp w))
 refine⟨LW.mpr ⟨hnin,P.nd⟩,λx hx=>?_,λx hx=>P.nevs x hx,λx hx=>?_,P.kyS _,P.nnN,⟨by rw[e1];exact he,P.ch.good P.goodN⟩,?_⟩
 ·rcases JT.mp hx with z | z
  ·rw[z];exact hl
  ·exact P.lt x z
 ·cases hx
  exact .inl hp
 ·left
  rcases P.ph with ph | ⟨ph,top⟩
  ·intro x e hx hxn
   have hx1:x∉q::ps:=λz=>hxn (JU _ z)
   have hxq:x≠q:=λz=>hx1 (z ▸ JW ..)
   rw[Bh hxq] at hx
   have e2:er (setM m q .nev) (p::q::ps)=er m (q::ps):=by
    funext y
    by_cases c:y∈q::ps
    ·rw[Ni c,Ni (JU _ c)]
    ·have cq:y≠q:=λz=>c (z ▸ JW ..)
     by_cases c2:y=p
     ·subst c2
      rw[Ni (JW ..),Gr c]
      rw[Bh cq] at hp
      exact hp.symm
     ·rw[Gr c,Gr (λz=>(JT.mp z).elim c2 c),Bh cq]
   rw[e2]
   exact ph x e hx hx1
  ·obtain⟨t1,t2⟩:=top q rfl
   have e3:setM m q .nev=m:=by
    funext x
    by_cases c:x=q
    ·subst c;rw[Cp,t1]
    ·exact Bh c
   rw[e3,t2] at he
   cases he
theorem Ue.pop(P:Ue row n m (q::ps)){e:Nd}(he:rowE (setM m q .nev) 1 (row q)=e)(hne:∀p,e ≠ .need p):Ue row n (setM m q e) ps:=by
 have hq:q∉ps:=(LW.mp P.nd).1
 have nn:Gp (setM m q e):=λx p h=>by
  by_cases z:x=q
  ·subst z;rw[Cp] at h;exact hne p (LC h)
  ·rw[Bh z] at h;exact P.nn x p h
 have hin:∀x∈ps,m x=some .nev:=P.tl
 have hG:Good m (setM m q e):=λx y hx hy=>by
  by_cases h:x=q
  ·subst h
   rcases P.hd _ rfl with z | z
   ·rw[z] at hx;cases hx
   ·rw[z] at hx
    cases hx
    exact absurd rfl hy
  ·rw[Bh h];exact hx
 refine⟨(LW.mp P.nd).2,λx hx=>P.lt x (JU _ hx),λx hx=>?_,λx hx=>?_,P.kyS _,nn,P.ch.tail.good hG,?_⟩
 ·have hx:=List.mem_of_mem_tail hx
  have hxq:x≠q:=λz=>hq (by rw[<- z];exact hx)
  rw[Bh hxq]
  exact hin x hx
 ·have hx:x∈ps:=List.mem_of_mem_head? (by rw[hx];exact rfl)
  have hxq:x≠q:=λz=>hq (by rw[<- z];exact hx)
  rw[Bh hxq]
  exact .inr (hin x hx)
 ·by_cases hv:e=.nev
  ·subst hv
   right
   have sub:∀x y,er m (q::ps) x=some y->setM m q .nev x=some y:=λx y h=>by
    obtain⟨h1,h2⟩:=Om h
    have hxq:x≠q:=λz=>h1 (by rw[z];exact JW ..)
    rw[Bh hxq]
    exact h2
   constructor
   ·intro x y hx hxn
    by_cases c:x=q
    ·subst c
     rw[Cp] at hx
     cases hx
     exact he
    ·rw[Bh c] at hx
     have hx1:x∉q::ps:=λz=>(JT.mp z).elim c hxn
     rcases P.ph with ph | ⟨ph,top⟩
     ·have r:=ph x y hx hx1
      by_cases hy:y=.nev
      ·subst hy
       exact gZ sub r
      ·rcases Lc (m:=er m (q::ps)) (m':=setM m q .nev) (λa b h _=>sub a b h) (row x) 1 with z | z | ⟨p,z,_⟩
       ·rw[<- z];exact r
       ·rw[r] at z;exact absurd z hy
       ·rw[r] at z;rw[z] at hx;exact absurd hx (P.nn x p)
     ·obtain⟨t1,t2⟩:=top q rfl
      have e3:setM m q .nev=m:=by
       funext x
       by_cases c:x=q
       ·subst c;rw[Cp,t1]
       ·exact Bh c
      rw[e3]
      exact ph x y hx hx1
   ·intro x hx
    cases ps with
    | nil=>cases hx
    | cons y r=>
     cases hx
     have hyq:x≠q:=λz=>hq (z ▸ JW ..)
     refine⟨by rw[Bh hyq];exact hin x (JW ..),?_⟩
     have c1:=P.ch.1
     have hz:er m [q] q=none:=Ni (JP.mpr rfl)
     have hnn:Gp (er m [q]):=λa b h=>P.nn a b (Om h).2
     have e4:setM (er m [q]) q .nev=setM m q .nev:=by
      funext a
      by_cases c:a=q
      ·subst c;rw[Cp,Cp]
      ·rw[Bh c,Bh c,Gr (λw=>c (JP.mp w))]
     rw[<- e4,dZ hnn hz,c1]
     exact if_pos rfl
  ·left
   have phA:∀x y,m x=some y->x∉q::ps->rowE (er m (q::ps)) 1 (row x)=y:=by
    rcases P.ph with ph | ⟨ph,top⟩
    ·exact ph
    ·obtain⟨t1,t2⟩:=top q rfl
     have e3:setM m q .nev=m:=by
      funext x
      by_cases c:x=q
      ·subst c;rw[Cp,t1]
      ·exact Bh c
     rw[e3,t2] at he
     exact absurd he.symm hv
   have sub:∀x y,er m (q::ps) x=some y->er (setM m q e) ps x=some y:=λx y h=>by
    obtain⟨h1,h2⟩:=Om h
    have hxq:x≠q:=λz=>h1 (by rw[z];exact JW ..)
    rw[Gr (λz=>h1 (JU _ z)),Bh hxq]
    exact h2
   intro x y hx hxn
   by_cases c:x=q
   ·subst c
    rw[Cp] at hx
    cases hx
    have hG2:Good (setM m x .nev) (er (setM m x e) ps):=λa b ha hb=>by
     by_cases c:a∈x::ps
     ·rw[P.nevs a c] at ha
      cases ha
      exact absurd rfl hb
     ·have ca:a≠x:=λz=>c (z ▸ JW ..)
      rw[Bh ca] at ha
      rw[Gr (λz=>c (JU _ z)),Bh ca]
      exact ha
    rcases Lc hG2 (row x) 1 with z | z | ⟨p,z,_⟩
    ·rw[<- z];exact he
    ·rw[he] at z;exact absurd z hv
    ·rw[he] at z;exact absurd z (hne p)
   ·rw[Bh c] at hx
    have hx1:x∉q::ps:=λz=>(JT.mp z).elim c hxn
    have r:=phA x y hx hx1
    by_cases hy:y=.nev
    ·subst hy
     exact gZ sub r
    ·rcases Lc (m:=er m (q::ps)) (m':=er (setM m q e) ps) (λa b h _=>sub a b h) (row x) 1 with z | z | ⟨p,z,_⟩
     ·rw[<- z];exact r
     ·rw[r] at z;exact absurd z hy
     ·rw[r] at z;rw[z] at hx;exact absurd hx (P.nn x p)
end
def cnt(m:Mp)(n:Nat):Nat:=(SI n).countP λp=>(m p).isSome
theorem Zx(m:Mp)(n:Nat):cnt m n<=n:=by
 have:=List.countP_le_length (p:=λp=>(m p).isSome) (l:=SI n)
 rw[List.length_range] at this
 exact this
theorem Lk(m:Mp)(n:Nat):cnt m (n+1)=cnt m n+(if (m n).isSome then 1 else 0):=by
 unfold cnt
 rw[List.range_succ,List.countP_append,List.countP_singleton]
theorem Ol{m m':Mp}:∀ {n:Nat},(∀p,p < n->(m p).isSome=(m' p).isSome)->cnt m n=cnt m' n
 | 0,_=>rfl
 | n+1,h=>by
  rw[Lk,Lk,Ol λp hp=>h p (SH hp),h n (QG n)]
theorem gQ{m:Mp}{n q:Nat}{e:Nd}(h:(m q).isSome=true):cnt (setM m q e) n=cnt m n:=Ol λp _=>by
 by_cases c:p=q
 ·subst c;rw[Cp,h];rfl
 ·rw[Bh c]
theorem Tn{m:Mp}{q:Nat}{e:Nd}(h:m q=none):∀ {n:Nat},q < n->cnt (setM m q e) n=cnt m n+1
 | 0,hl=>absurd hl (Nat.not_lt_zero _)
 | n+1,hl=>by
  rw[Lk,Lk]
  by_cases c:q=n
  ·subst c
   rw[Cp,h,Ol (m:=setM m q e) (m':=m) λp hp=>by rw[Bh (KQ hp)]]
   rfl
  ·rw[Tn h (Nat.lt_of_le_of_ne (Nat.le_of_lt_succ hl) c),Bh (LL c)]
   omega
theorem Told.nil(row:Nat->List Stp)(n:Nat):Told row n λ_=>none:=⟨(λ_ _ h=>nomatch h),(λ_ _ h=>nomatch h),(λ_ _ h=>nomatch h)⟩
end Ah
namespace Bk
open PySem L2 Mg
def top(i:Nat):OU:=PySem.Challenge.pw_elderline_k16_whole_house_ahead.main.body.getD i (.Pass ⟨0,0,0,0⟩)
abbrev Nj:OU:=top 3
abbrev Qr:OU:=top 4
abbrev Iv:OU:=top 5
abbrev Iy:OU:=top 6
abbrev Fj:OU:=top 7
abbrev Ik:OU:=top 8
abbrev Of:OU:=top 22
abbrev aA:OU:=top 23
abbrev Va:OU:=top 24
abbrev bJ:OU:=top 25
abbrev qQ:OU:=top 27
abbrev Pi:OU:=top 28
abbrev Gi:OU:=top 32
abbrev Ga:OU:=top 35
abbrev Lh:OU:=top 36
abbrev Xw:OU:=top 37
abbrev Yu:OU:=top 38
abbrev mU:OU:=top 39
abbrev Pk:OU:=top 40
abbrev Xp:OU:=top 41
abbrev Wg:OU:=top 43
abbrev Oq:OU:=top 46
abbrev Oc:OU:=top 47
abbrev Ub:OU:=top 48
abbrev Ph:OU:=top 53
abbrev Vw:OU:=top 54
abbrev lZ:OU:=top 55
abbrev yL:OU:=top 56
abbrev Ql:OU:=top 58
abbrev qK:OU:=top 59
abbrev Ej:OU:=top 60
abbrev Zs:OU:=top 61
abbrev Hh:OU:=top 62
abbrev Ob:OU:=top 63
abbrev Uv:OU:=top 64
abbrev cT:OU:=top 65
abbrev aC:OU:=top 66
abbrev Fq:OU:=top 67
abbrev Ps:OU:=inClass (top 18) 0
abbrev cY:OU:=inClass (top 50) 0
abbrev cK:OU:=inClass (top 51) 0
abbrev Il:OU:=inClass (top 51) 1
abbrev cE:OU:=inClass (top 51) 3
abbrev yN:OU:=inClass (top 51) 6
abbrev aL:OU:=inClass (top 51) 7
abbrev qD:OU:=inClass (top 51) 9
abbrev Zd:OU:=inClass (top 51) 10
abbrev Zw:OU:=inClass (top 30) 0
abbrev Zu:OU:=inClass (top 30) 1
abbrev lV:OU:=inClass (top 30) 2
abbrev aI:OU:=inClass (top 33) 0
abbrev Qs:OU:=inClass (top 33) 1
abbrev Mb:OU:=inClass (top 33) 2
abbrev Oe:OU:=inClass (top 33) 3
abbrev Py:OU:=inClass (top 33) 4
structure Txt(mg:Str->Option JH):Prop where
 len:mg "len" = none
 zip:mg "zip" = none
 enum:mg "enumerate" = none
 any:mg "any" = none
 range:mg "range" = none
 isi:mg "isinstance" = none
 list:mg "list" = none
 str:mg "str" = none
 all:mg "all" = none
 rev:mg "reversed" = none
 set:mg "set" = none
 tup:mg "tuple" = none
 int:mg "int" = none
 bool:mg "bool" = none
 vErr:mg "ValueError" = none
def Az(r:List Str):List V:=r.map V.str
theorem Av(r:List Str):(Az r).length=r.length:=JJ _
theorem Ih{r:List Str}{i:Nat}{v:V}(h:(Az r)[i]? = some v):∃x,r[i]? = some x/\v=.str x:=by
 unfold Az at h
 rw[KP] at h
 cases e:r[i]? with
 | none=>rw[e] at h;cases h
 | some x=>rw[e] at h;exact⟨x,rfl,(LC h).symm⟩
theorem Ms{r:List Str}{i:Nat}{x:Str}(h:r[i]? = some x):(Az r)[i]? = some (.str x):=by
 unfold Az
 rw[KP,h]<;>rfl
structure Dc(H:Hp)(ra:JO)(as:List JO)(rows:List (List Str)):Prop where
 lst:H ra=some (.lst (as.map V.ref))
 len:as.length=rows.length
 row:∀(i:Nat)(a:JO)(r:List Str),as[i]? = some a->rows[i]? = some r->H a=some (.lst (Az r))
theorem Dc.same{H H':Hp}{ra:JO}{as:List JO}{rows:List (List Str)}(R:Dc H ra as rows)(h:Am H H'):Dc H' ra as rows:=⟨h _ _ R.lst,R.len,λi a r h1 h2=>h _ _ (R.row i a r h1 h2)⟩
theorem Ea{as:List JO}{i:Nat}{v:V}(h:(as.map V.ref)[i]? = some v):∃a,as[i]? = some a/\v=.ref a:=by
 rw[KP] at h
 cases e:as[i]? with
 | none=>rw[e] at h;cases h
 | some x=>rw[e] at h;exact⟨x,rfl,(LC h).symm⟩
theorem Dc.get{H:Hp}{ra:JO}{as:List JO}{rows:List (List Str)}(R:Dc H ra as rows){i:Nat}{a:JO}(h:as[i]? = some a):∃r,rows[i]? = some r/\H a=some (.lst (Az r)):=by
 have hi:i < rows.length:=by rw[<- R.len];exact(JF.mp h).1
 exact⟨rows[i],JK hi,R.row i a _ h (JK hi)⟩
def Jd(st:List Nat):List V:=st.map λn:Nat=>V.int (n:Int)
theorem Hd(st:List Nat):(Jd st).length=st.length:=JJ _
theorem Tt{st:List Nat}{i:Nat}{v:V}(h:(Jd st)[i]? = some v):∃n:Nat,st[i]? = some n/\v=.int n:=by
 unfold Jd at h
 rw[KP] at h
 cases e:st[i]? with
 | none=>rw[e] at h;cases h
 | some x=>rw[e] at h;exact⟨x,rfl,(LC h).symm⟩
theorem rD{st:List Nat}{i n:Nat}(h:st[i]? = some n):(Jd st)[i]? = some (.int n):=by
 unfold Jd
 rw[KP,h]<;>rfl
def Yw(kvs:List (Key×V))(f:Str->Nat):Prop:=∀x:Str,(valV kvs (KJ x:Key)).getD (V.int 0)=V.int (f x)
theorem Yw.put{kvs:List (Key×V)}{f g:Str->Nat}{x:Str}{n:Int}(h:Yw kvs f)(hx:n=(g x:Int))(hg:∀y,¬ y=x->g y=f y):Yw (putK kvs (KJ x:Key) (.int n)) g:=λy=>by
 rw[Fp]
 by_cases e:y=x
 ·subst e
  rw[if_pos rfl,hx]
  all_goals rfl
 ·rw[if_neg (λz:(KJ y:Key)=KJ x=>e (KJ.inj z)),h y,hg y e]
theorem Yw.pos{kvs:List (Key×V)}{f:Str->Nat}{x:Str}(h:Yw kvs f)(hx:0 < f x):valV kvs (KJ x:Key)=some (.int (f x)):=by
 have q:=h x
 cases e:valV kvs (KJ x:Key) with
 | none=>
  rw[e] at q
  have q':(0:Int)=(f x:Int):=V.int.inj q
  omega
 | some v=>
  rw[e] at q
  exact congrArg some q
theorem Uh{kvs:List (Key×V)}{k:Key}{u v:V}(h:valV kvs k=some u):(putK kvs k v).length=kvs.length:=by
 unfold putK
 rw[Es,h,if_pos (show (some u).isSome=true from rfl),JJ]
theorem Ag{H:Hp}{p:JO}(h:H p=none)(o:HO):Am H (upd H p o):=λb u q=>by rw[Aj (Ai q h)];exact q
theorem lay{H:Hp}{l:JO}(h:H l=none)(o:HO):∃H',upd H l o=H'/\Am H H'/\H' l=some o:=⟨_,rfl,Ag h o,Aa⟩
theorem xR(xs:List V):Fy xs (some 1) none=xs.tail:=by
 unfold Fy
 rw[HT.sIx_none]
 have e:HT.sIx xs.length 0 (some 1)=min 1 xs.length:=HT.sIx_nat xs.length 0 1
 rw[e]
 cases xs with
 | nil=>rfl
 | cons x r=>
  have e2:min 1 (x::r).length=1:=by rw[LU];omega
  rw[e2]
  simp
theorem Ot(xs:List V)(n:Nat)(h:n<=xs.length):Fy xs (some (n:Int)) none=xs.drop n:=by
 unfold Fy
 rw[HT.sIx_none,HT.sIx_nat,Nat.min_eq_left h]
 rw[LN (by rw[MW];omega)]
def Qm:Sp:=λvs H Q _=>∃(ra:JO)(as:List JO)(rows:List (List Str)),vs=[.ref ra]/\Dc H ra as rows/\Ff rows<=1000000 /\
 ∀(d:JO)(kvs:List (Key×V))(H':Hp),H d=none->Am H H'->H' d=some (.dK kvs)->Yw kvs (cnt rows)->kvs.length<=Ff rows->Q (.ref d) H'
structure StAt(H:Hp)(rows:List (List Str))(sa ba:JO)(st:List Nat)(kvs:List (Key×V)):Prop where
 lst:H sa=some (.lst (Jd st))
 len:st.length=rows.length
 dic:H ba=some (.dK kvs)
def Wk:Option Str->V
 | some x=>.str x
 | none=>.non
def Za:Sp:=λvs H Q _=>∃(ra sa ba:JO)(as:List JO)(rows:List (List Str))(st:List Nat)(kvs:List (Key×V))(g:Str->Nat),vs=[.ref ra,.ref sa,.ref ba]/\Dc H ra as rows/\StAt H rows sa ba st kvs/\Yw kvs g /\
 ∀H',Am H H'->Q (Wk (pick g (rests rows st))) H'
def aJ:Sp:=λvs H Q _=>∃(x:Str)(ra sa ba:JO)(as:List JO)(rows:List (List Str))(st:List Nat)(kvs:List (Key×V)),vs=[.str x,.ref ra,.ref sa,.ref ba]/\Dc H ra as rows/\StAt H rows sa ba st kvs /\
 (∀(i:Nat)(r:List Str)(n:Nat),rows[i]? = some r->st[i]? = some n->n<=r.length)/\Yw kvs (cnt (rests rows st))/\kvs.length<=1000000/\sa≠ra/\(∀a∈as,a≠sa) /\
 ∀(st':List Nat)(kvs':List (Key×V))(H':Hp),StAt H' rows sa ba st' kvs'->rests rows st'=(rests rows st).map (Cv x)->(∀(i:Nat)(r:List Str)(n:Nat),rows[i]? = some r->st'[i]? = some n->n<=r.length) ->
  Yw kvs' (cnt (rests rows st'))->kvs'.length=kvs.length->(∀b o,H b=some o->b≠sa->b≠ba->H' b=some o)->Q .non H'
section
variable {P:KI} {w:LQ} {K:JG} {mg:Str->Option JH} {base:MV} {f:JO} {fd:LG}
theorem Lb:An ["rows","behind","row","name"] ["rows"] (Ad Lh):=Ez (by decide +kernel)
theorem Tf(F:Di K "counts_behind" "counts_behind" Lh f fd)(T:Txt mg):Al P w K mg base Bi 1 f fd ["rows"] Qm:=by
 refine F.ok Lb (λvs H Q E h=>?_) (λcdv A outer s H vs Q E hr h=>?_)
 ·obtain⟨ra,as,rows,rfl,_⟩:=h
  rfl
 obtain⟨ra,as,rows,rfl,R,ht,q⟩:=h
 have hu:=Fo hr
 refine⟨_,Ac (Bv 1 Lb.nd Ho)
  (Ac (Eh MN rfl (Dk (pv 0)) (Dg 2 Lb.nd)
   (Af (Eh MN rfl (Dk (Cj El (pv 2) (Cy Ae) Dw)) (Dg 3 Lb.nd)
    (Af (Gd hu (pv 1) (pv 3) (Aq Cm (Jh hu (pv 1) (pv 3) Ae ⟨rfl,rfl,rfl,rfl⟩) Ae) rfl)))))
  (Af (Ao (pv 1)))),?_⟩
 intro d hd
 have s0:Am H (upd H d (.dK [])):=Ag hd _
 refine⟨_,rfl,ra,rfl,⟨_,Aw.of (s0 _ _ R.lst)⟩,Fi (K:=K) (a:=ra) (xs:=as.map V.ref) (λi σ H2=>∃(kvs:List (Key×V))(v3 v4:Option V),σ=[some (.ref ra),some (.ref d),v3,v4]/\Am H H2/\H2 d=some (.dK kvs)/\Yw kvs (cnt (rows.take i))/\kvs.length<=Ff (rows.take i))
  ⟨[],none,none,rfl,s0,Aa,λx=>rfl,LK _⟩ (λi σ H2 _ ⟨_,_,_,_,s2,_⟩=>Aw.of (s2 _ _ R.lst)) ?_ ?_⟩
 ·rintro i y σ H2 hi ⟨kvs,v3,v4,rfl,s2,hd2,B,hl⟩
  obtain⟨a,ha,rfl⟩:=Ea hi
  obtain⟨r,hr',er⟩:=R.get ha
  refine⟨_,rfl,_,rfl,a,_,rfl,Aw.of (s2 _ _ er),λp hp=>?_⟩
  rw[xR]
  have npd:p≠d:=λe=>by rw[e] at hp;rw[hd2] at hp;cases hp
  refine⟨p,rfl,⟨_,Aw.of Aa⟩,Fi (K:=K) (a:=p) (xs:=(Az r).tail) (λj σ H3=>∃(kvs:List (Key×V))(v4:Option V),σ=[some (.ref ra),some (.ref d),some (.ref a),v4]/\Am H H3/\H3 p=some (.lst (Az r).tail)/\H3 d=some (.dK kvs)/\Yw kvs (λx=>cnt (rows.take i) x+(r.tail.take j).count x)/\kvs.length<=Ff (rows.take i)+j)
   ⟨kvs,v4,rfl,s2.trans (Ag hp _),Aa,by rw[Aj (LL npd)];exact hd2,λx=>by rw[B x];simp,Nat.le_add_right_of_le hl⟩ (λj σ H3 _ ⟨_,_,_,_,e,_⟩=>Aw.of e) ?_ ?_⟩
  ·rintro j y σ H3 hj ⟨kvs,v4,rfl,s3,ep,ed,B,hl⟩
   have hj':(Az r.tail)[j]? = some y:=by
    unfold Az at hj ⊢
    rw[List.map_tail]
    exact hj
   obtain⟨x,hx,rfl⟩:=Ih hj'
   refine⟨_,rfl,d,rfl,.inl ⟨kvs,.inl ed⟩,_,rfl,_,Et.k (k:=KJ x) ed,_,_,B x,rfl,_,rfl,_,rfl,d,_,rfl,Kr.k (k:=KJ x) ed (QP hl ?_),?_⟩
   ·have h1:=Xy rows (i+1)
    rw[Ki hr'] at h1
    have h2:j < r.tail.length:=(JF.mp hx).1
    rw[List.length_tail] at h2
    rw[KS]
    omega
   ·refine⟨_,_,rfl,λb o e=>?_,by rw[Aj npd];exact ep,Aa,B.put ?_ λz hz=>?_,KZ (Dm _ _ _) (by omega)⟩
    ·rw[Aj (Ai e hd)];exact s3 b o e
    ·show ((cnt (rows.take i) x+(r.tail.take j).count x:Nat):Int)+1=((cnt (rows.take i) x+(r.tail.take (j+1)).count x:Nat):Int)
     rw[Jc hx,if_pos rfl]
     omega
    ·show cnt (rows.take i) z+(r.tail.take (j+1)).count z=cnt (rows.take i) z+(r.tail.take j).count z
     rw[Jc hx,if_neg hz]
     omega
  ·rintro σ H3 ⟨kvs,v4,rfl,s3,ep,ed,B,hl⟩
   have hlen:(Az r).tail.length=r.tail.length:=by unfold Az;rw[<- List.map_tail,JJ]
   rw[hlen] at B hl
   refine⟨kvs,_,_,rfl,s3,ed,λx=>?_,?_⟩
   ·rw[B x,Rm hr',LN (JM _)]
   ·rw[Ki hr']
    rw[List.length_tail] at hl
    omega
 ·rintro σ H2 ⟨kvs,v3,v4,rfl,s2,hd2,B,hl⟩
  have hlen:(as.map V.ref).length=rows.length:=by rw[JJ,R.len]
  rw[hlen,LN (JM _)] at B hl
  exact⟨_,rfl,q d kvs H2 hd s2 hd2 B hl⟩
end
theorem Ui{r:List Str}{n:Nat}(h:n < r.length):Jb (Az r) (n:Int)=some (.str r[n]):=Bc (Ms (JK h))
section
variable {P:KI} {w:LQ} {K:JG} {mg:Str->Option JH} {base:MV} {f:JO} {fd:LG}
theorem bX:An ["rows","starts","behind","row","start"] ["rows","starts","behind"] (Ad Xw):=Ez (by decide +kernel)
theorem gD(F:Di K "free_name" "free_name" Xw f fd)(T:Txt mg):Al P w K mg base Bi 1 f fd ["rows","starts","behind"] Za:=by
 refine F.ok bX (λvs H Q E h=>?_) (λcdv A outer s H vs Q E hr h=>?_)
 ·obtain⟨ra,sa,ba,as,rows,st,kvs,g,rfl,_⟩:=h
  rfl
 obtain⟨ra,sa,ba,as,rows,st,kvs,g,rfl,R,S,B,q⟩:=h
 have hu:=Fo hr
 refine⟨_,Ac (Eh MN rfl (Vy rfl T.zip (Em (pv 0) (pv 1))) (Jm rfl (Ce (Dg 3 bX.nd) (Ce (Dg 4 bX.nd) Hb)))
  (Af (Ay (PW.pt (Px (Ar Oz (pv 4) (Bw T.len (pv 3)) (Au _)) (Lu (Ar Cc (Jh hu (pv 2) (As Bj (pv 3) (pv 4) (λ_ _=>rfl)) Ae ⟨rfl,rfl,rfl,rfl⟩) Ae (Au _)))))
   (Af (Ao (As Bj (pv 3) (pv 4) (λ_ _=>rfl)))) Ap)))
  (Af (Ao lF)),?_⟩
 refine⟨_,rfl,_,rfl,ra,sa,rfl,⟨_,Aw.of R.lst⟩,⟨_,Aw.of S.lst⟩,uV (K:=K) (a:=ra) (b:=sa) (xs:=as.map V.ref) (ys:=Jd st) (by rw[JJ,Hd,S.len,R.len])
  (λi σ H2=>∃v3 v4:Option V,σ=[some (.ref ra),some (.ref sa),some (.ref ba),v3,v4]/\Am H H2/\pick g (rests rows st)=pick g ((rests rows st).drop i)) ⟨none,none,rfl,Am.refl _,rfl⟩
  (λi σ H2 _ ⟨_,_,_,s2,_⟩=>⟨Aw.of (s2 _ _ R.lst),Aw.of (s2 _ _ S.lst)⟩) ?_ ?_⟩
 ·rintro i x y σ H2 Tp hx hy ⟨v3,v4,rfl,s2,hp⟩ hT
  obtain⟨a,ha,rfl⟩:=Ea hx
  obtain⟨n,hn,rfl⟩:=Tt hy
  obtain⟨r,hr',er⟩:=R.get ha
  have s3:Am H (upd H2 Tp (.tup [.ref a,.int n])):=s2.trans (Ag hT _)
  have hrs:=Gh hr' hn
  refine⟨Tp,_,rfl,Ck.of Aa,rfl,_,_,rfl,_,_,rfl,rfl,?_⟩
  refine⟨_,rfl,_,rfl,a,_,rfl,.inl (Aw.of (s3 _ _ er)),_,_,rfl,rfl,_,rfl,?_⟩
  refine Br (λc=>?_) (λc=>?_)
  ·have c':(n:Int) < ((Az r).length:Int):=of_decide_eq_true c
   rw[Av] at c'
   have c2:n < r.length:=by omega
   refine⟨_,rfl,ba,rfl,.inl ⟨kvs,.inl (s3 _ _ S.dic)⟩,_,rfl,_,rfl,a,_,_,_,rfl,rfl,Aw.of (s3 _ _ er),Ui c2,_,Et.k (k:=KJ r[n]) (s3 _ _ S.dic),?_⟩
   rw[B r[n]]
   refine⟨rfl,_,rfl,?_⟩
   have hd:pick g ((rests rows st).drop i)=if g r[n]=0 then some r[n] else pick g ((rests rows st).drop (i+1)):=by
    rw[Gj c2] at hrs
    exact Zk hrs
   refine Br (λc3=>?_) (λc3=>?_)
   ·have c4:V.int (g r[n]:Int)=V.int 0:=of_decide_eq_true c3
    have c5:g r[n]=0:=by
     have:=V.int.inj c4
     omega
    refine⟨_,rfl,_,rfl,a,_,_,_,rfl,rfl,Aw.of (s3 _ _ er),Ui c2,?_⟩
    have qq:=q _ s3
    rw[hp,hd,if_pos c5] at qq
    exact qq
   ·have c4:¬ V.int (g r[n]:Int)=V.int 0:=of_decide_eq_false (NK.mpr c3)
    have c5:¬ g r[n]=0:=λz=>c4 (by rw[z]<;>rfl)
    rw[if_neg c5] at hd
    exact⟨_,_,rfl,s3,hp.trans hd⟩
  ·have c':¬ (n:Int) < ((Az r).length:Int):=of_decide_eq_false (NK.mpr c)
   rw[Av] at c'
   refine Eb ?_
   have hd:pick g ((rests rows st).drop i)=pick g ((rests rows st).drop (i+1)):=by
    rw[OB (by omega)] at hrs
    exact Zm hrs
   exact⟨_,_,rfl,s3,hp.trans hd⟩
 ·rintro σ H2 ⟨v3,v4,rfl,s2,hp⟩
  have qq:=q H2 s2
  rw[hp,OB (by rw[Im S.len,JJ,R.len];exact JM _)] at qq
  exact qq
theorem Ut:An ["name","rows","starts","behind","index","row","start"] ["name","rows","starts","behind"] (Ad Yu):=Ez (by decide +kernel)
theorem gF(F:Di K "take_out" "take_out" Yu f fd)(T:Txt mg):Al P w K mg base Bi 1 f fd ["name","rows","starts","behind"] aJ:=by
 refine F.ok Ut (λvs H Q E h=>?_) (λcdv A outer s H vs Q E hr h=>?_)
 ·obtain⟨x,ra,sa,ba,as,rows,st,kvs,rfl,_⟩:=h
  rfl
 obtain⟨x,ra,sa,ba,as,rows,st,kvs,rfl,R,S,hb,B,hk,nsr,nsa,q⟩:=h
 have hu:=Fo hr
 refine⟨_,Af (Eh MN rfl (sI rfl T.enum (Du (pv 1))) (Jm rfl (Ce (Dg 4 Ut.nd) (Ce (Dg 5 Ut.nd) Hb)))
  (Ac (Bv 6 Ut.nd (As Bj (pv 2) (pv 4) (λ_ _=>rfl)))
  (Af (Ay (PW.pt (Px (Ar Oz (pv 6) (Bw T.len (pv 5)) (Au _)) (Lu (Ar Cc (As Bj (pv 5) (pv 6) (λ_ _=>rfl)) (pv 0) (Au _)))))
   (Ac (yO (Aq Cm (pv 6) Ae) (yQ (pv 2) (pv 4) set_list))
   (Af (Ay (Ar Oz (Aq Cm (pv 6) Ae) (Bw T.len (pv 5)) (Au _))
    (Af (Gd hu (pv 3) (As Bj (pv 5) (Aq Cm (pv 6) Ae) (λ_ _=>rfl)) (Aq Jo (Ie hu (pv 3) (As Bj (pv 5) (Aq Cm (pv 6) Ae) (λ_ _=>rfl)) (λ_ _=>rfl)) Ae) rfl)) Ap))) Ap)))),?_⟩
 have hba:ba≠sa:=Cd S.dic S.lst (by intro z;cases z)
 have hra:ra≠ba:=Cd R.lst S.dic (by intro z;cases z)
 have naa:∀(i:Nat)(a:JO),as[i]? = some a->a≠sa/\a≠ba:=λi a ha=>⟨nsa a (KD ha),by
  obtain⟨r,_,er⟩:=R.get ha
  exact Cd er S.dic (by intro z;cases z)⟩
 refine⟨_,rfl,ra,rfl,⟨_,Aw.of R.lst⟩,mG (K:=K) (a:=ra) (xs:=as.map V.ref)
  (λi σ H2=>∃(v4 v5 v6:Option V)(st2:List Nat)(kvs2:List (Key×V)),σ=[some (.str x),some (.ref ra),some (.ref sa),some (.ref ba),v4,v5,v6]/\(∀b o,H b=some o->b≠sa->b≠ba->H2 b=some o)/\StAt H2 rows sa ba st2 kvs2 /\
   rests rows st2=half x (rests rows st) i/\(∀(j:Nat)(r:List Str)(n:Nat),rows[j]? = some r->st2[j]? = some n->n<=r.length)/\Yw kvs2 (cnt (rests rows st2))/\kvs2.length=kvs.length/\∀j,i<=j->st2[j]? = st[j]?)
  ⟨none,none,none,st,kvs,rfl,λb o e _ _=>e,S,(jU _ _).symm,hb,B,rfl,λ_ _=>rfl⟩
  (λi σ H2 _ ⟨_,_,_,_,_,_,k,_⟩=>Aw.of (k _ _ R.lst (LL nsr) hra)) ?_ ?_⟩
 ·rintro i y σ H2 Tp hx ⟨v4,v5,v6,st2,kvs2,rfl,k2,S2,h2,hb2,B2,hl2,hst⟩ hT
  obtain⟨a,ha,rfl⟩:=Ea hx
  obtain⟨r,hr',er⟩:=R.get ha
  obtain⟨na1,na2⟩:=naa i a ha
  have hi:i < st2.length:=by rw[S2.len];exact(JF.mp hr').1
  obtain⟨n,hn⟩:∃n,st2[i]? = some n:=⟨st2[i],JK hi⟩
  have hn0:st[i]? = some n:=by rw[<- hst i (JM _)];exact hn
  have hle:n<=r.length:=hb2 i r n hr' hn
  have hrs:=Gh hr' hn0
  have hrs2:=Gh hr' hn
  have eT:∀b o,H2 b=some o->(upd H2 Tp (.tup [.int i,.ref a])) b=some o:=λb o e=>Ag hT _ b o e
  have ea:(upd H2 Tp (.tup [.int i,.ref a])) a=some (.lst (Az r)):=eT _ _ (k2 _ _ er na1 na2)
  have es:(upd H2 Tp (.tup [.int i,.ref a])) sa=some (.lst (Jd st2)):=eT _ _ S2.lst
  have ed:(upd H2 Tp (.tup [.int i,.ref a])) ba=some (.dK kvs2):=eT _ _ S2.dic
  have k3:∀b o,H b=some o->b≠sa->b≠ba->(upd H2 Tp (.tup [.int i,.ref a])) b=some o:=λb o e n1 n2=>eT _ _ (k2 b o e n1 n2)
  have hil:jN (Jd st2).length (i:Int)=some i:=by
   unfold jN
   rw[Hd,if_pos (by omega),if_pos (by omega)]
   simp
  refine⟨Tp,_,rfl,Ck.of Aa,rfl,_,_,rfl,_,_,rfl,rfl,?_⟩
  refine⟨_,rfl,_,rfl,sa,_,_,_,rfl,rfl,Aw.of es,Bc (rD hn),?_⟩
  refine⟨_,rfl,_,rfl,a,_,rfl,.inl (Aw.of ea),_,_,rfl,rfl,_,rfl,?_⟩
  have stay:Cv x (r.drop n)=r.drop n->StAt (upd H2 Tp (.tup [.int i,.ref a])) rows sa ba st2 kvs2/\rests rows st2=half x (rests rows st) (i+1):=λe=>⟨⟨es,S2.len,ed⟩,by rw[h2,jI hrs e]⟩
  refine Br (λc=>?_) (λc=>?_)
  ·have c':(n:Int) < ((Az r).length:Int):=of_decide_eq_true c
   rw[Av] at c'
   have c2:n < r.length:=by omega
   refine⟨_,rfl,_,rfl,a,_,_,_,rfl,rfl,Aw.of ea,Ui c2,_,rfl,rfl,_,rfl,?_⟩
   refine Br (λc3=>?_) (λc3=>?_)
   ·have c4:V.str r[n]=V.str x:=of_decide_eq_true c3
    have c5:r[n]=x:=V.str.inj c4
    have hdr:Cv x (r.drop n)=r.drop (n+1):=by rw[Gj c2,c5,Iw]
    -- starts[index]=start+1
    refine⟨_,rfl,_,_,rfl,rfl,_,rfl,_,rfl,sa,_,_,_,rfl,rfl,es,hil,?_⟩
    have e1:(Jd st2).set i (.int ((n:Int)+1))=Jd (st2.set i (n+1)):=by
     unfold Jd
     rw[List.map_set]
     rfl
    rw[e1]
    have hnew:rests rows (st2.set i (n+1))=half x (rests rows st) (i+1):=by
     rw[iO hr' hi,h2,<- hdr,nQ hrs]
    have eT4:∀b o,b≠sa->(upd H2 Tp (.tup [.int i,.ref a])) b=some o->(upd (upd H2 Tp (.tup [.int i,.ref a])) sa (.lst (Jd (st2.set i (n+1))))) b=some o:=λb o hne e=>by rw[Aj hne];exact e
    have hb3:∀(j:Nat)(r':List Str)(m:Nat),rows[j]? = some r'->(st2.set i (n+1))[j]? = some m->m<=r'.length:=λj r' m h1 h3=>by
     by_cases hj:i=j
     ·subst hj
      rw[OA hi] at h3
      cases h3
      rw[hr'] at h1
      cases h1
      omega
     ·rw[NN hj] at h3
      exact hb2 j r' m h1 h3
    have hst3:∀j,i+1<=j->(st2.set i (n+1))[j]? = st[j]?:=λj hj=>by rw[NN (by omega)];exact hst j (by omega)
    have hc:=nE (x:=x) hrs
    rw[hdr] at hc
    refine⟨_,rfl,_,_,rfl,rfl,_,rfl,a,_,rfl,.inl (Aw.of (eT4 _ _ na1 ea)),_,_,rfl,rfl,_,rfl,?_⟩
    refine Br (λc6=>?_) (λc6=>?_)
    ·have c7:(n:Int)+1 < ((Az r).length:Int):=of_decide_eq_true c6
     rw[Av] at c7
     have c8:n+1 < r.length:=by omega
     have e2:((n:Int)+1)=((n+1:Nat):Int):=by omega
     have hat:Jb (Az r) ((n:Int)+1)=some (.str r[n+1]):=by rw[e2];exact Ui c8
     have ht1:(r.drop n).tail=r[n+1]::r.drop (n+2):=by rw[Gj c2,List.tail_cons,Gj c8]
     have ht2:(r.drop (n+1)).tail=r.drop (n+2):=by rw[Gj c8,List.tail_cons]
     rw[ht1,ht2] at hc
     have hpos:0 < cnt (rests rows st2) r[n+1]:=by
      have:=hc r[n+1]
      rw[List.count_cons_self] at this
      rw[h2]
      omega
     have hv:=B2.pos hpos
     refine⟨_,rfl,_,rfl,_,rfl,_,_,rfl,rfl,a,_,_,_,rfl,rfl,Aw.of (eT4 _ _ na1 ea),hat,ba,.int (cnt (rests rows st2) r[n+1]),rfl,?_,_,_,rfl,rfl,_,rfl,_,rfl,_,rfl,_,_,rfl,rfl,a,_,_,_,rfl,rfl,Aw.of (eT4 _ _ na1 ea),hat,ba,_,rfl,Kr.k (k:=KJ r[n+1]) (eT4 _ _ hba ed) (by rw[hl2,KS];omega),?_⟩
     ·exact hv ▸ Et.k (k:=KJ r[n+1]) (eT4 _ _ hba ed)
     ·refine⟨_,_,_,st2.set i (n+1),_,rfl,λb o e n1 n2=>by rw[Aj n2];exact eT4 _ _ n1 (k3 b o e n1 n2),⟨by rw[Aj (LL hba),Aa],by rw[List.length_set];exact S2.len,Aa⟩,hnew,hb3,B2.put ?_ λz hz=>?_,(Uh hv).trans hl2,hst3⟩
      ·have:=hc r[n+1]
       rw[List.count_cons_self] at this
       rw[hnew,h2]
       omega
      ·have:=hc z
       rw[List.count_cons_of_ne (λe=>hz e.symm)] at this
       rw[hnew,h2]
       omega
    ·have c7:¬ (n:Int)+1 < ((Az r).length:Int):=of_decide_eq_false (NK.mpr c6)
     rw[Av] at c7
     have hd0:r.drop (n+1)=[]:=OB (by omega)
     have ht1:(r.drop n).tail=[]:=by rw[Gj c2,List.tail_cons,hd0]
     rw[ht1,hd0] at hc
     refine⟨_,_,_,st2.set i (n+1),kvs2,rfl,λb o e n1 n2=>eT4 _ _ n1 (k3 b o e n1 n2),⟨Aa,by rw[List.length_set];exact S2.len,eT4 _ _ hba ed⟩,hnew,hb3,λz=>?_,hl2,hst3⟩
     rw[B2 z,hnew,h2]
     have:=hc z
     simp only[List.tail_nil,List.count_nil,Nat.add_zero] at this
     rw[this]
   ·have c4:¬ V.str r[n]=V.str x:=of_decide_eq_false (NK.mpr c3)
    have c5:¬ r[n]=x:=λz=>c4 (by rw[z])
    obtain⟨z1,z2⟩:=stay (by rw[Gj c2,Fd,if_neg c5])
    exact⟨_,_,_,st2,kvs2,rfl,k3,z1,z2,hb2,B2,hl2,λj hj=>hst j (by omega)⟩
  ·have c':¬ (n:Int) < ((Az r).length:Int):=of_decide_eq_false (NK.mpr c)
   rw[Av] at c'
   refine Eb ?_
   obtain⟨z1,z2⟩:=stay (by rw[OB (by omega)]<;>rfl)
   exact⟨_,_,_,st2,kvs2,rfl,k3,z1,z2,hb2,B2,hl2,λj hj=>hst j (by omega)⟩
 ·rintro σ H2 ⟨v4,v5,v6,st2,kvs2,rfl,k2,S2,h2,hb2,B2,hl2,hst⟩
  rw[lE _ _ (by rw[Im S.len,JJ,R.len];exact JM _)] at h2
  exact q st2 kvs2 H2 S2 h2 hb2 B2 hl2 k2
end
end Bk
namespace Bk
open PySem L2 Mg Nm
def My(K:JG):Sp:=λvs H Q _=>∃(a:JO)(ns:List Int)(k:Nat),vs=[.ref a,.int (k:Int)]/\Aw K H a (ns.map V.int)/\Q (.int (ns.getD k 0)) H
def Qa:Sp:=λvs H Q _=>∃k c:Int,vs=[.int k,.int c]/\Q (.str (Ft k c)) H
theorem Sy{i:Int}(h0:0<=i)(h1:i < 26):Jb Ek.cps.toList i=some (97+i.toNat):=by
 obtain⟨n,rfl⟩:=NJ h0
 refine Bc ?_
 rw[Nh,KP,List.getElem?_range (by omega)]
 simp
theorem sl52:(52:Nat)<=JQ:=by rw[KS];decide
section
variable {P:KI} {w:LQ} {K:JG} {mg:Str->Option JH} {base:MV} {f:JO} {fd:LG}
theorem AL:An ["_law_script","_law_k"] ["_law_script","_law_k"] (Ad Ql):=Ez (by decide +kernel)
theorem tG(F:Di K "_law_cell_at" "_law_cell_at" Ql f fd)(T:Txt mg):Al P w K mg base Bi 1 f fd ["_law_script","_law_k"] (My K):=by
 refine F.ok AL (λvs H Q E h=>?_) (λcdv A outer s H vs Q E hr h=>?_)
 ·obtain⟨a,ns,k,rfl,_⟩:=h
  rfl
 obtain⟨a,ns,k,rfl,S,q⟩:=h
 refine⟨_,Ac (Ay (Ar Oz (pv 1) (Bw T.len (pv 0)) (Au _)) (Af (Ao (As Bj (pv 0) (pv 1) (λ_ _=>rfl)))) Ap) (Af (Ao Ae)),?_⟩
 refine⟨_,rfl,_,rfl,a,_,rfl,.inl S,_,_,rfl,rfl,_,rfl,?_⟩
 refine Br (λc=>?_) (λc=>?_)
 ·have c':(k:Int) < ((ns.map V.int).length:Int):=of_decide_eq_true c
  rw[JJ] at c'
  have c2:k < ns.length:=by omega
  refine⟨_,rfl,_,rfl,a,_,_,_,rfl,rfl,S,Bc (v:=.int ns[k]) (by rw[KP,JK c2]<;>rfl),?_⟩
  have e:ns.getD k 0=ns[k]:=by rw[LJ,JK c2];rfl
  rw[e] at q
  exact q
 ·have c':¬ (k:Int) < ((ns.map V.int).length:Int):=of_decide_eq_false (NK.mpr c)
  rw[JJ] at c'
  have e:ns.getD k 0=0:=by rw[LJ,List.getElem?_eq_none (by omega)];rfl
  rw[e] at q
  exact q
theorem Hr(K:JG)(n:String):QK K (.type n) (.type n)=some true:=by
 unfold QK
 exact if_pos (by simp)
end
def Fz(x:Str):Bool:=decide (1<=x.length) && decide (x.length<=20) && x.cps.toList.all λc=>decide (97<=c) && decide (c<=122)
theorem Up{x:Str}(h:iQ x):Fz x=true:=by
 obtain⟨h1,h2,h3⟩:=h
 unfold Fz
 rw[decide_eq_true h1,decide_eq_true h2,RV,RV,QI]
 intro c hc
 obtain⟨a,b⟩:=h3 c hc
 rw[decide_eq_true a,decide_eq_true b]
 rfl
def PV(v:V):Prop:=(∃i,v=.int i) ∨ ∃x,v=.str x/\x.length<=JQ
def CD:V->Bool
 | .str x=>Fz x
 | _=>false
def Gy:Sp:=λvs H Q _=>∃v:V,vs=[v]/\PV v/\∀H',Am H H'->Q (.bl (CD v)) H'
theorem Ig{K:JG}{H:Hp}:∀ks:List Bool,Xk K H (ks.map V.bl) ks
 | []=>.nil
 | k::ks=>.cons rfl (Ig ks)
section
variable {P:KI} {w:LQ} {K:JG} {mg:Str->Option JH} {base:MV} {f fM fC fF fT:JO} {fd dM dC dF dT:LG}
theorem HE:(["sign"]:List Str).Nodup:=by decide +kernel
theorem pT:An ["value"] ["value"] (Ad Of):=Ez (by decide +kernel)
theorem Rt(F:Di K "is_name" "is_name" Of f fd)(T:Txt mg):Al P w K mg base Bi 1 f fd ["value"] Gy:=by
 refine F.ok pT (λvs H Q E h=>?_) (λcdv A outer s H vs Q E hr h=>?_)
 ·obtain⟨v,rfl,_⟩:=h
  rfl
 obtain⟨v,rfl,hv,q⟩:=h
 refine⟨_,Af (Ao (Ks (Bz Eo rfl T.isi NA (Em (pv 0) (Ij (v:=.ty "str") rfl T.str PyProof.Rows.boot_str rfl)))
  (Ks (Qt Qe Qe Ae (Bz Lp rfl T.len PySem.boot_len (Du (pv 0))) Ae)
  (Vi (Bz (Qf rfl) rfl T.all Mz (Du (He (Ad Of) ["value"] ["sign"] [] rfl (zG (pv 0)) (Bm (i:=0) (by decide)) (λ_ _ _ _ _ _=>⟨Dg 0 HE,Dr,
   Qt Ry Ry Ba (pv 0) Ba⟩)))))))),?_⟩
 rcases hv with ⟨i,rfl⟩ | ⟨x,rfl,hx⟩
 ·exact⟨_,rfl,_,_,_,_,rfl,.int _,(show QK K (.type "int") (.type "str")=some false from rfl),_,rfl,Eb (q _ (Am.refl _))⟩
 replace q:∀H',Am H H'->Q (.bl (Fz x)) H':=q
 refine⟨_,rfl,_,_,_,_,rfl,.str _,Hr K "str", _,rfl,Jn ?_⟩
 refine⟨_,rfl,x,rfl,hx,_,_,rfl,rfl,_,rfl,Br (λc1=>?_) (λc1=>?_)⟩
 rotate_left
 ·have h1:¬ 1<=x.length:=λz=>c1 (decide_eq_true (by omega))
  have e:Fz x=false:=by unfold Fz;rw[decide_eq_false h1,RD,RD]
  rw[e] at q
  exact⟨_,rfl,Eb (q _ (Am.refl _))⟩
 have h1:1<=x.length:=by have:=of_decide_eq_true c1;omega
 refine⟨_,_,rfl,rfl,_,rfl,Br (λc2=>?_) (λc2=>?_)⟩
 rotate_left
 ·have h2:¬ x.length<=20:=λz=>c2 (decide_eq_true (by omega))
  have e:Fz x=false:=by unfold Fz;rw[decide_eq_false h2,Bool.and_false,RD]
  rw[e] at q
  exact q _ (Am.refl _)
 have h2:x.length<=20:=by have:=of_decide_eq_true c2;omega
 have ea:("a" : Str).cps.toList=[97]:=by decide +kernel
 have ez:("z" : Str).cps.toList=[122]:=by decide +kernel
 refine⟨_,rfl,x,rfl,aZ (λi ys H2=>H2=H/\ys=((x.cps.toList.take i).map λc=>decide (97<=c) && decide (c<=122)).map V.bl) ⟨rfl,rfl⟩ ?_ ?_⟩
 ·rintro i c ys H2 hc ⟨rfl,rfl⟩
  have ga:(!decide ((⟨#[c]⟩:Str).cps.toList < ("a" : Str).cps.toList))=decide (97<=c):=by rw[ea];exact uI c
  have gz:(!decide (("z" : Str).cps.toList < (⟨#[c]⟩:Str).cps.toList))=decide (c<=122):=by rw[ez];exact rW c
  have hc':x.cps.toList[i]? = some c:=by rw[SU];exact hc
  have hil:i < x.cps.toList.length:=(JF.mp hc').1
  have hxl:x.length=x.cps.toList.length:=len_list x
  have hlen:(((x.cps.toList.take i).map λc=>decide (97<=c) && decide (c<=122)).map V.bl).length < JQ:=by
   rw[JJ,JJ,NT,KS]
   omega
  have htk:x.cps.toList.take (i+1)=x.cps.toList.take i++[c]:=by rw[MI,hc'];rfl
  refine⟨_,rfl,_,_,rfl,rfl,_,rfl,Br (λk=>?_) (λk=>?_)⟩
  ·refine⟨_,_,rfl,rfl,hlen,rfl,?_⟩
   have k':decide (97<=c)=true:=ga.symm.trans k
   rw[htk,JX,JX]
   refine congrArg (_ ++ ·) ?_
   show [V.bl (!decide (("z" : Str).cps.toList < (⟨#[c]⟩:Str).cps.toList))]=[V.bl (decide (97<=c) && decide (c<=122))]
   rw[gz,k',RV]
  ·refine⟨hlen,rfl,?_⟩
   have k':decide (97<=c)=false:=by
    rw[<- ga]
    exact NK.mpr k
   rw[htk,JX,JX]
   refine congrArg (_ ++ ·) ?_
   show [V.bl false]=[V.bl (decide (97<=c) && decide (c<=122))]
   rw[k',RD]
 ·rintro ys H2 ⟨rfl,rfl⟩ p hp
  refine⟨p,_,_,rfl,Aw.of Aa,Ig _,?_⟩
  have e:Fz x=((x.cps.toList.take x.cps.size).map λc=>decide (97<=c) && decide (c<=122)).all id:=by
   unfold Fz
   rw[decide_eq_true h1,decide_eq_true h2,RV,RV,LN (by simp),List.all_map]
   rfl
  rw[e] at q
  exact q _ (Ag hp _)
theorem Dc.snoc{H H':Hp}{ra q ea:JO}{as:List JO}{rows:List (List Str)}{el:List Str}(R:Dc H ra as rows)(s:Am H H')(e:H' ea=some (.lst (Az el)))(l:H' q=some (.lst ((as++[ea]).map V.ref))):Dc H' q (as++[ea]) (rows++[el]):=by
 refine⟨l,by rw[JN,JN,R.len];rfl,λi a r h1 h2=>?_⟩
 by_cases hi:i < as.length
 ·rw[KN hi] at h1
  rw[KN (by rw[<- R.len];exact hi)] at h2
  exact s _ _ (R.row i a r h1 h2)
 ·have hl:i < (as++[ea]).length:=(JF.mp h1).1
  rw[JN,JY] at hl
  obtain rfl:i=as.length:=by omega
  rw[KH] at h1
  cases h1
  rw[R.len,KH] at h2
  cases h2
  exact e
end
def hF(ea oa ba:JO):List (Str×V):=[("elder_row", .ref ea),("order_row", .ref oa),("bodies", .ref ba)]
def bF(d:JO):List (Str×V):=[("by_name", .ref d)]
theorem Se(d:JO):(bF d).lookup ("by_name" : Str)=some (.ref d):=by
 unfold bF
 rw[KR,beq_self_eq_true]
theorem Gs(d:JO){m:Str}(h:(m == ("by_name" : Str))=false):(bF d).lookup m=none:=by
 unfold bF
 rw[KR,h]
 rfl
theorem DJ(ea oa ba:JO):(hF ea oa ba).lookup ("order_row" : Str)=some (.ref oa):=by
 unfold hF
 rw[KR,show (("order_row" : Str) == "elder_row")=false by decide +kernel,KR,beq_self_eq_true]
theorem qL(ea oa ba:JO):(hF ea oa ba).lookup ("bodies" : Str)=some (.ref ba):=by
 unfold hF
 rw[KR,show (("bodies" : Str) == "elder_row")=false by decide +kernel,KR,show (("bodies" : Str) == "order_row")=false by decide +kernel,KR,beq_self_eq_true]
theorem zM(ea oa ba:JO):Ep "bodies" (.ref ba) (Ep "order_row" (.ref oa) (Ep "elder_row" (.ref ea) []))=hF ea oa ba:=by
 show Ep "bodies" (.ref ba) (if ("elder_row" : Str) = "order_row" then [(("elder_row" : Str),V.ref oa)] else (("elder_row" : Str),V.ref ea)::Ep "order_row" (.ref oa) [])=hF ea oa ba
 rw[if_neg (by decide +kernel)]
 show (if ("elder_row" : Str) = "bodies" then _ else (("elder_row" : Str),V.ref ea)::(if ("order_row" : Str) = "bodies" then _ else (("order_row" : Str),V.ref oa)::[(("bodies" : Str),V.ref ba)]))=hF ea oa ba
 rw[if_neg (by decide +kernel),if_neg (by decide +kernel)]
 rfl
structure Ent where
 nm:Str
 at_:JO
 dx:JO
 ea:JO
 oa:JO
 ba:JO
 el:List Str
 od:List Str
 bd:List (Key×V)
structure Xc(CH:JO)(H:Hp)(e:Ent):Prop where
 ob:H e.at_=some (.ins CH e.dx (hF e.ea e.oa e.ba))
 el:H e.ea=some (.lst (Az e.el))
 od:H e.oa=some (.lst (Az e.od))
 bd:H e.ba=some (.dK e.bd)
theorem Xc.same{CH:JO}{H H':Hp}{e:Ent}(E:Xc CH H e)(h:Am H H'):Xc CH H' e:=⟨h _ _ E.ob,h _ _ E.el,h _ _ E.od,h _ _ E.bd⟩
def nJ(L:List Ent):List (Key×V):=L.map λe=>((KJ e.nm:Key),V.ref e.at_)
def Hl(L:List Ent)(x:Str):Option Ent:=L.find? λe=>decide (e.nm=x)
theorem Tq(L:List Ent)(x:Str):valV (nJ L) (KJ x:Key)=(Hl L x).map λe=>V.ref e.at_:=by
 unfold nJ Hl
 induction L with
 | nil=>rfl
 | cons e L ih=>
  rw[LY]
  by_cases h:e.nm=x
  ·rw[Cu (show ((KJ e.nm:Key),V.ref e.at_).1=KJ x by rw[h]),QL (by rw[decide_eq_true h])]
   rfl
  ·rw[Cw (λz=>h (KJ.inj z)),ih,QM (by rw[decide_eq_false h];exact JR)]
theorem Fx{L:List Ent}{x:Str}{e:Ent}(h:Hl L x=some e):e∈L/\e.nm=x:=⟨List.mem_of_find?_eq_some h,of_decide_eq_true (List.find?_some (p:=λe:Ent=>decide (e.nm=x)) h)⟩
theorem qV{L:List Ent}{x:Str}(h:∀e∈L,e.nm≠x):Hl L x=none:=List.find?_eq_none.mpr λe he=>by rw[decide_eq_false (h e he)];exact JR
theorem Mn{L:List Ent}{e:Ent}(nd:(L.map (·.nm)).Nodup)(h:e∈L):Hl L e.nm=some e:=by
 unfold Hl
 induction L with
 | nil=>cases h
 | cons a L ih=>
  rw[LY,LW] at nd
  rcases JT.mp h with rfl | h'
  ·rw[QL (by rw[decide_eq_true rfl])]
  ·rw[QM,ih nd.2 h']
   have:a.nm≠e.nm:=λz=>nd.1 (by rw[z];exact List.mem_map_of_mem h')
   rw[decide_eq_false this]
   exact JR
structure Be(CB CH:JO)(H:Hp)(p d:JO)(L:List Ent):Prop where
 ob:∃dx,H p=some (.ins CB dx (bF d))
 dc:H d=some (.dK (nJ L))
 en:∀e∈L,Xc CH H e
 nb:∀e∈L,e.ba≠d
 nd:(L.map (·.nm)).Nodup
 nn:(L.map (·.ba)).Nodup
theorem Be.same{CB CH:JO}{H H':Hp}{p d:JO}{L:List Ent}(B:Be CB CH H p d L)(h:Am H H'):Be CB CH H' p d L:=
 ⟨let ⟨dx,e⟩:=B.ob;⟨dx,h _ _ e⟩,h _ _ B.dc,λe he=>(B.en e he).same h,B.nb,B.nd,B.nn⟩
theorem Be.get{CB CH:JO}{H:Hp}{p d:JO}{L:List Ent}{x:Str}{e:Ent}(B:Be CB CH H p d L)(h:Hl L x=some e):Et H d (.str x) (some (.ref e.at_)):=by
 have:=Et.k (k:=(KJ x:Key)) B.dc
 rw[Tq,h] at this
 exact this
theorem Be.no{CB CH:JO}{H:Hp}{p d:JO}{L:List Ent}{x:Str}(B:Be CB CH H p d L)(h:Hl L x=none):Et H d (.str x) none:=by
 have:=Et.k (k:=(KJ x:Key)) B.dc
 rw[Tq,h] at this
 exact this
structure Ha(K:JG)(mg:Str->Option JH)(CB CH:JO):Prop where
 clB:Wb K CB
 clH:Wb K CH
 nBy:Ei K CB "by_name"
 nEl:Ei K CH "elder_row"
 nOd:Ei K CH "order_row"
 nBd:Ei K CH "bodies"
 mgB:mg "Book" = some (.ref CB)
 mgH:mg "House" = some (.ref CH)
def Tw(CB:JO):Sp:=λvs H Q _=>∃(p dx:JO),vs=[.ref p]/\H p=some (.ins CB dx [])/\∀d,H d=none->Q .non (upd (upd H d (.dK [])) p (.ins CB dx (bF d)))
def La(CH:JO):Sp:=λvs H Q _=>∃(p ea oa dx:JO),vs=[.ref p,.ref ea,.ref oa]/\H p=some (.ins CH dx [])/\∀(b:JO)(H':Hp),H b=none->H' p=some (.ins CH dx (hF ea oa b))->H' b=some (.dK [])->(∀c o,H c=some o->c≠p->H' c=some o)->Q .non H'
def Ib(CB CH:JO):Sp:=λvs H Q _=>∃(p d:JO)(L:List Ent)(x:Str)(e:Ent),vs=[.ref p,.str x]/\Be CB CH H p d L/\Hl L x=some e/\Q (.ref e.at_) H
def Ia(CB CH:JO):Sp:=λvs H Q _=>∃(p d:JO)(L:List Ent)(x:Str)(e:Ent),vs=[.ref p,.str x]/\Be CB CH H p d L/\Hl L x=some e/\∀l,H l=none->Q (.ref l) (upd H l (.lst (Az e.od)))
section
variable {P:KI} {w:LQ} {K:JG} {mg:Str->Option JH} {base:MV} {f fH CB CH:JO} {fd dH:LG}
theorem tI:An ["self"] ["self"] (Ad cK):=Ez (by decide +kernel)
theorem nB(F:Di K "__init__" "Book.__init__" cK f fd)(T:Ha K mg CB CH):Al P w K mg base Bi 1 f fd ["self"] (Tw CB):=by
 refine F.ok tI (λvs H Q E h=>?_) (λcdv A outer s H vs Q E hr h=>?_)
 ·obtain⟨p,dx,rfl,_⟩:=h
  rfl
 obtain⟨p,dx,rfl,hp,k⟩:=h
 refine⟨_,Af (Gn (pv 0) Ho rfl),?_⟩
 intro d hd
 have npd:p≠d:=Ai hp hd
 refine⟨_,rfl,p,CB,dx,[],rfl,(by rw[Aj npd];exact hp),T.clB,T.nBy,(by show 0 < 1000;decide),?_⟩
 exact k d hd
theorem vZ:An ["self","elder_row","order_row"] ["self","elder_row","order_row"] (Ad cY):=Ez (by decide +kernel)
theorem Wt(F:Di K "__init__" "House.__init__" cY f fd)(T:Ha K mg CB CH):Al P w K mg base Bi 1 f fd ["self","elder_row","order_row"] (La CH):=by
 refine F.ok vZ (λvs H Q E h=>?_) (λcdv A outer s H vs Q E hr h=>?_)
 ·obtain⟨p,ea,oa,dx,rfl,_⟩:=h
  rfl
 obtain⟨p,ea,oa,dx,rfl,hp,k⟩:=h
 refine⟨_,Ac (Gn (pv 0) (pv 1) rfl) (Ac (Gn (pv 0) (pv 2) rfl) (Af (Gn (pv 0) Ho rfl))),?_⟩
 refine⟨_,rfl,_,rfl,p,CH,dx,[],rfl,hp,T.clH,T.nEl,(by show 0 < 1000;decide),?_⟩
 refine⟨_,rfl,_,rfl,p,CH,dx,_,rfl,Aa,T.clH,T.nOd,(by show 1 < 1000;decide),?_⟩
 intro b hb
 have hb2:p≠b:=λz=>by rw[<- z,Aa] at hb;cases hb
 have hb':H b=none:=by rw[Aj (LL hb2),Aj (LL hb2)] at hb;exact hb
 refine⟨_,rfl,p,CH,dx,_,rfl,(by rw[Aj hb2];exact Aa),T.clH,T.nBd,?_,?_⟩
 ·exact QP (Fm _ _ _) (by show 2 < 1000;decide)
 ·refine k b _ hb' (by rw[Aa,zM]) (by rw[Aj (LL hb2),Aa]) λc o e hc=>?_
  rw[Aj hc,Aj (Ai e hb'),Aj hc,Aj hc]
  exact e
theorem tM:An ["self","name"] ["self","name"] (Ad Zd):=Ez (by decide +kernel)
theorem Ww(F:Di K "house" "Book.house" Zd f fd)(T:Ha K mg CB CH):Al P w K mg base Bi 1 f fd ["self","name"] (Ib CB CH):=by
 refine F.ok tM (λvs H Q E h=>?_) (λcdv A outer s H vs Q E hr h=>?_)
 ·obtain⟨p,d,L,x,e,rfl,_⟩:=h
  rfl
 obtain⟨p,d,L,x,e,rfl,B,he,q⟩:=h
 have hu:=Fo hr
 obtain⟨dx,hp⟩:=B.ob
 refine⟨_,Ac (Ay (Fu (Ka hu (pv 1) (Cq (pv 0) rfl))) Bs Ap) (Af (Ao (Ie hu (Cq (pv 0) rfl) (pv 1) (λ_ _=>rfl)))),?_⟩
 refine⟨_,rfl,_,rfl,p,CB,dx,_,_,rfl,hp,T.clB,T.nBy,Se d,d,_,rfl,B.get he,_,rfl,Eb ?_⟩
 exact⟨_,rfl,p,CB,dx,_,_,rfl,hp,T.clB,T.nBy,Se d,_,rfl,d,_,rfl,B.get he,q⟩
theorem sZ:An ["self","name"] ["self","name"] (Ad cE):=Ez (by decide +kernel)
theorem Xg(F:Di K "order" "Book.order" cE f fd)(T:Ha K mg CB CH)(Tx:Txt mg)(GH:Al P w K mg base Bi 1 fH dH ["self","name"] (Ib CB CH))(bH:Binds K dH ["self","name"] [])(mH:Dt K CB "house" fH):Al P w K mg base Bi 2 f fd ["self","name"] (Ia CB CH):=by
 refine F.ok sZ (λvs H Q E h=>?_) (λcdv A outer s H vs Q E hr h=>?_)
 ·obtain⟨p,d,L,x,e,rfl,_⟩:=h
  rfl
 obtain⟨p,d,L,x,e,rfl,B,he,q⟩:=h
 obtain⟨dx,hp⟩:=B.ob
 have E:=B.en e (Fx he).1
 refine⟨_,Af (Ao (Dl Gb rfl Tx.list NQ (Du (Cq (Ee (pv 0) T.clB mH GH hr bH .nil Dh (Du (pv 1))) rfl)))),?_⟩
 exact⟨_,rfl,p,dx,_,rfl,hp,Gs d (by decide +kernel),_,rfl,p,d,L,x,e,rfl,B,he,e.at_,CH,e.dx,_,_,rfl,E.ob,T.clH,T.nOd,DJ _ _ _,e.oa,_,rfl,.inl (Aw.of E.od),q⟩
end
end Bk
namespace Bk
open PySem L2 Mg
def Pp:Sp:=λvs H Q _=>∃(ra la:JO)(as:List JO)(rows:List (List Str))(n:Nat),vs=[.ref ra,.ref la]/\Dc H ra as rows/\Ff rows<=1000/\rows.length<=1000/\(∀r∈(Eg n rows).2,r=[]) /\
 ∀(p:JO)(H':Hp),H p=none->Am H H'->H' p=some (.lst (Az (Eg n rows).1))->Q (.ref p) H'
theorem pP(n:Nat):(LF n (V.int 0))=Jd (LF n 0):=by
 unfold Jd
 rw[List.map_replicate]
 rfl
theorem Qh{K:JG}{H:Hp}:∀ps:List JO,(∀p∈ps,H p=some (.lst []))->Xk K H (ps.map V.ref) (LF ps.length false)
 | [],_=>.nil
 | p::ps,h=>.cons (.inl ⟨[],Aw.of (h p JW),rfl⟩) (Qh ps λq hq=>h q (JU _ hq))
theorem hX(n:Nat):(LF n false).any id=false:=by
 induction n with
 | zero=>rfl
 | succ n ih=>rw[List.replicate_succ,List.any_cons,ih];rfl
section
variable {P:KI} {w:LQ} {K:JG} {mg:Str->Option JH} {base:MV} {f fC fF fT:JO} {fd dC dF dT:LG}
abbrev eF:List Str:=["rows","labels","starts","behind","joined","name","rests"]
theorem IP:(["row"]:List Str).Nodup:=by decide +kernel
theorem ID:(["row","start"]:List Str).Nodup:=by decide +kernel
theorem Gq:An ["rows","labels","starts","behind","joined","name","rests"] ["rows","labels"] (Ad Ga):=Ez (by decide +kernel)
theorem jS(F:Di K "merged" "merged" Ga f fd)(T:Txt mg)(FC:Di K "counts_behind" "counts_behind" Lh fC dC)(bC:Binds K dC ["rows"] [])(mC:mg "counts_behind" = some (.ref fC))(FF:Di K "free_name" "free_name" Xw fF dF)(bF:Binds K dF ["rows","starts","behind"] [])(mF:mg "free_name" = some (.ref fF))(FT:Di K "take_out" "take_out" Yu fT dT)(bT:Binds K dT ["name","rows","starts","behind"] [])(mT:mg "take_out" = some (.ref fT)):Al P w K mg base Bi 2 f fd ["rows","labels"] Pp:=by
 have GC:Al P w K mg base Bi 1 fC dC ["rows"] Qm:=Tf FC T
 have GF:Al P w K mg base Bi 1 fF dF ["rows","starts","behind"] Za:=gD FF T
 have GT:Al P w K mg base Bi 1 fT dT ["name","rows","starts","behind"] aJ:=gF FT T
 refine F.ok Gq (λvs H Q E h=>?_) (λcdv A outer s H vs Q E hr h=>?_)
 ·obtain⟨ra,la,as,rows,n,rfl,_⟩:=h
  rfl
 obtain⟨ra,la,as,rows,n,rfl,R,ht,hrl,hend,q⟩:=h
 refine⟨_,Ac (Dd (i:=2) (Ad Ga) eF ["row"] [] rfl Gq.nd rfl rfl (Dk (pv 0)) (Bm (i:=0) (by decide)) (λ_ _ _ _ _ _=>⟨Dg 0 IP,Dr,Ae⟩))
  (Ac (Bv 3 Gq.nd (Dj GC hr rfl mC FC.kp bC .nil Dh (Du (pv 0))))
  (Ac (Bv 4 Gq.nd (De Fw))
  (Ac (Bv 5 Gq.nd (Dj GF hr rfl mF FF.kp bF .nil Dh (Iz (pv 0) (pv 2) (pv 3))))
  (Ac (Lw MN (Fu (Tu (pv 5)))
   (Ac (Bx (Ll MO MS MR Ed (pv 4) (Du (pv 5))))
   (Ac (Bx (Dj GT hr rfl mT FT.kp bT .nil Dh (rP (pv 5) (pv 0) (pv 2) (pv 3))))
   (Af (Bv 5 Gq.nd (Dj GF hr rfl mF FF.kp bF .nil Dh (Iz (pv 0) (pv 2) (pv 3))))))))
  (Ac (Dd (i:=6) (Ad Ga) eF ["row","start"] [] rfl Gq.nd rfl rfl (Vy rfl T.zip (Em (pv 0) (pv 2))) (Kc (K:=K) (Cs (Bm (i:=0) (by decide)) (Cs (Bm (i:=1) (by decide)) Hn)))
   (λ_ _ _ _ _ _=>⟨Jm (n:=2) rfl (Ce (Dg 0 ID) (Ce (Dg 1 ID) Hb)),Dr,Cj (r:=pO K) El (pv 0) (Cy (pv 1)) Dw⟩))
  (Ac (Ay (Fv (Bz (Xx rfl) rfl T.any Sk (Du (pv 6)))) Bs Ap)
  (Af (Ao (pv 4))))))))),?_⟩
 -- starts=[0 for row in rows]
 refine⟨_,rfl,ra,rfl,⟨_,Aw.of R.lst⟩,Ec (K:=K) (a:=ra) (xs:=as.map V.ref) (λi ys H2=>H2=H/\ys=LF i (V.int 0)) ⟨rfl,rfl⟩ (λi ys H2 _ h=>by rw[h.1];exact Aw.of R.lst) ?_ ?_⟩
 ·rintro i y ys H2 hi ⟨rfl,rfl⟩
  refine⟨?_,rfl,?_⟩
  ·have hi':=(JF.mp hi).1
   rw[JJ,R.len] at hi'
   rw[NW,KS]
   omega
  ·exact SW.symm
 rintro ys H2 ⟨rfl,rfl⟩ sa hsa
 rw[JJ,R.len,pP]
 have s1:Am H2 (upd H2 sa (.lst (Jd (LF rows.length 0)))):=Ag hsa _
 -- behind=counts_behind(rows)
 refine⟨_,rfl,ra,as,rows,rfl,R.same s1,by omega,λba kvs H3 hba s2 eb B hl=>?_⟩
 -- joined=[]
 refine⟨(by show 0<=JQ;decide),λja hja=>?_⟩
 have s3:Am H3 (upd H3 ja (.lst [])):=Ag hja _
 have hsa3:H3 sa=some (.lst (Jd (LF rows.length 0))):=s2 _ _ Aa
 have n_sj:sa≠ja:=Ai hsa3 hja
 have n_bj:ba≠ja:=Ai eb hja
 have n_sb:sa≠ba:=Cd hsa3 eb (by intro z;cases z)
 have st0:StAt (upd H3 ja (.lst [])) rows sa ba (LF rows.length 0) kvs:=⟨s3 _ _ hsa3,NW,s3 _ _ eb⟩
 have sH:Am H2 (upd H3 ja (.lst [])):=s1.trans (s2.trans s3)
 have hba2:H2 ba=none:=s1.free hba
 have hja2:H2 ja=none:=s1.free (s2.free hja)
 have nsr:sa≠ra:=LL (Ai R.lst hsa)
 have nsa:∀a∈as,a≠sa:=λa ha=>by
  obtain⟨i,hi⟩:=MM ha
  obtain⟨r,_,er⟩:=R.get hi
  exact Ai er hsa
 -- name=free_name(rows,starts,behind)
 refine⟨_,rfl,_,rfl,_,rfl,ra,sa,ba,as,rows,_,kvs,cnt rows,rfl,R.same sH,st0,B,λH4 s4=>?_⟩
 rw[Ct]
 have hb0:∀(i:Nat)(r:List Str)(m:Nat),rows[i]? = some r->(LF rows.length 0)[i]? = some m->m<=r.length:=λi r m _ h2=>by
  rw[QF] at h2
  split at h2
  ·cases h2;exact LK _
  ·cases h2
 -- while name is not None
 refine⟨λm σ H5=>∃(joined:List Str)(st:List Nat)(kvs:List (Key×V))(k:Nat)(v6:Option V),σ=[some (.ref ra),some (.ref la),some (.ref sa),some (.ref ba),some (.ref ja),some (Wk (pick (cnt (rests rows st)) (rests rows st))),v6] /\
  Am H2 H5/\H5 ja=some (.lst (Az joined))/\StAt H5 rows sa ba st kvs/\(∀(i:Nat)(r:List Str)(m:Nat),rows[i]? = some r->st[i]? = some m->m<=r.length)/\Yw kvs (cnt (rests rows st))/\kvs.length<=1000 /\
  (joined++(Eg k (rests rows st)).1=(Eg n rows).1/\(Eg k (rests rows st)).2=(Eg n rows).2)/\m=Ff (rests rows st)/\joined.length+Ff (rests rows st)<=Ff rows,
  ⟨_,[],LF rows.length 0,kvs,n,none,by rw[Ct];rfl,sH.trans s4,s4 _ _ Aa,⟨s4 _ _ st0.lst,st0.len,s4 _ _ st0.dic⟩,hb0,by rw[Ct];exact B,by omega,by rw[Ct];exact⟨rfl,rfl⟩,rfl,by rw[Ct];simp⟩,?_⟩
 rintro m σ H5 ⟨joined,st,kvs,k,v6,rfl,s5,ej,S,hb,B,hl,⟨e1,e2⟩,rfl,hj⟩
 refine⟨_,rfl,_,rfl,?_⟩
 cases hp:pick (cnt (rests rows st)) (rests rows st) with
 | some x=>
  refine Jn ?_
  obtain⟨hx0,r0,hr0,t0,er0⟩:=Ht hp
  have hlt:Ff ((rests rows st).map (Cv x)) < Ff (rests rows st):=Jt (by rw[<- er0];exact hr0)
  refine⟨λσ' H'=>∃m',m' < Ff (rests rows st)/\∃(joined:List Str)(st:List Nat)(kvs:List (Key×V))(k:Nat)(v6:Option V),σ'=[some (.ref ra),some (.ref la),some (.ref sa),some (.ref ba),some (.ref ja),some (Wk (pick (cnt (rests rows st)) (rests rows st))),v6] /\
   Am H2 H'/\H' ja=some (.lst (Az joined))/\StAt H' rows sa ba st kvs/\(∀(i:Nat)(r:List Str)(m:Nat),rows[i]? = some r->st[i]? = some m->m<=r.length)/\Yw kvs (cnt (rests rows st))/\kvs.length<=1000 /\
   (joined++(Eg k (rests rows st)).1=(Eg n rows).1/\(Eg k (rests rows st)).2=(Eg n rows).2)/\m'=Ff (rests rows st)/\joined.length+Ff (rests rows st)<=Ff rows,λσ' H' h=>h,?_⟩
  -- joined.append(name)
  refine⟨_,rfl,.inl ⟨rfl,_,Aw.of ej⟩,_,rfl,ja,_,_,rfl,rfl,ej,by rw[Av,KS];omega,?_⟩
  have ejx:Az joined++[V.str x]=Az (joined++[x]):=by unfold Az;rw[JX];rfl
  have hup:∀b o,b≠ja->H5 b=some o->(upd H5 ja (.lst (Az joined++[V.str x]))) b=some o:=λb o hne e=>by rw[Aj hne];exact e
  have s6:Am H2 (upd H5 ja (.lst (Az joined++[V.str x]))):=λb o e=>hup b o (Ai e hja2) (s5 b o e)
  -- take_out(name,rows,starts,behind)
  refine⟨_,rfl,_,rfl,_,rfl,_,rfl,x,ra,sa,ba,as,rows,st,kvs,rfl,R.same s6,⟨hup _ _ n_sj S.lst,S.len,hup _ _ n_bj S.dic⟩,hb,B,by omega,nsr,nsa,λst' kvs' H6 S6 h6 hb6 B6 hl6 k6=>?_⟩
  have s7:Am H2 H6:=λb o e=>k6 b o (s6 b o e) (Ai e hsa) (Ai e hba2)
  -- name=free_name(rows,starts,behind)
  refine⟨_,rfl,_,rfl,_,rfl,ra,sa,ba,as,rows,st',kvs',_,rfl,R.same s7,S6,B6,λH7 s8=>?_⟩
  obtain⟨k',rfl⟩:∃k',k=k'+1:=by
   cases k with
   | zero=>
    have z:=hend r0 (by rw[<- e2];exact hr0)
    rw[er0] at z
    cases z
   | succ k'=>exact⟨k',rfl⟩
  rw[Qn hp] at e1 e2
  refine⟨_,?_,joined++[x],st',kvs',k',v6,rfl,s7.trans s8,s8 _ _ ?_,⟨s8 _ _ S6.lst,S6.len,s8 _ _ S6.dic⟩,hb6,B6,by omega,⟨?_,?_⟩,rfl,?_⟩
  ·rw[h6];exact hlt
  ·rw[<- ejx]
   exact k6 _ _ Aa (LL n_sj) (LL n_bj)
  ·rw[h6,OF];exact e1
  ·rw[h6];exact e2
  ·rw[h6,JN,JY];omega
 | none=>
  refine Eb ?_
  rw[Wy hp] at e1 e2
  have e1':joined=(Eg n rows).1:=by rw[<- e1,MD]
  have e2':rests rows st=(Eg n rows).2:=e2
  have hall:∀(i:Nat)(r:List Str)(j:Nat),rows[i]? = some r->st[i]? = some j->r.drop j=[]:=λi r j h1 h2=>hend _ (by rw[<- e2'];exact KD (Gh h1 h2))
  -- rests=[row[start:] for row,start in zip(rows,starts)]
  have R5:=R.same s5
  refine⟨_,rfl,_,rfl,ra,sa,rfl,⟨_,Aw.of R5.lst⟩,⟨_,Aw.of S.lst⟩,Pg (K:=K) (a:=ra) (b:=sa) (xs:=as.map V.ref) (zs:=Jd st) (by rw[JJ,Hd,S.len,R.len])
   (λi ys H6=>Am H5 H6/\∃ps:List JO,ys=ps.map V.ref/\ps.length=i/\∀p∈ps,H6 p=some (.lst [])) ⟨Am.refl _,[],rfl,rfl,λp hp=>nomatch hp⟩ (λi ys H6 _ h=>⟨Aw.of (h.1 _ _ R5.lst),Aw.of (h.1 _ _ S.lst)⟩) ?_ ?_⟩
  ·rintro i y z ys H6 Tp hy hz ⟨s6,ps,rfl,hps,hpl⟩ hT
   obtain⟨a,ha,rfl⟩:=Ea hy
   obtain⟨j,hj',rfl⟩:=Tt hz
   obtain⟨r,hr',er⟩:=R5.get ha
   have s9:Am H5 (upd H6 Tp (.tup [.ref a,.int j])):=s6.trans (Ag hT _)
   refine⟨Tp,_,rfl,Ck.of Aa,rfl,_,_,rfl,_,_,rfl,rfl,?_⟩
   refine⟨_,rfl,_,rfl,_,rfl,a,_,rfl,Aw.of (s9 _ _ er),λp hp'=>?_⟩
   have hc:Fy (Az r) (some (j:Int)) none=[]:=by
    rw[Ot _ _ (by rw[Av];exact hb i r j hr' hj')]
    unfold Az
    rw[<- RP,hall i r j hr' hj']
    rfl
   rw[hc]
   refine⟨?_,s9.trans (Ag hp' _),ps++[p],by rw[JX];rfl,by rw[JN,hps];rfl,λp' hp2=>?_⟩
   ·have:=(JF.mp hr').1
    rw[JJ,hps,KS]
    omega
   ·rcases KO.mp hp2 with z | z
    ·have e:=Ag hT (.tup [.ref a,.int j]) _ _ (hpl p' z)
     exact Ag hp' _ _ _ e
    ·have e:p'=p:=by simpa using z
     subst e
     exact Aa
  ·rintro ys H6 ⟨s6,ps,rfl,hps,hpl⟩ qa hqa
   -- if any(rests)
   have s9:=Ag (H:=H6) hqa (.lst (ps.map V.ref))
   refine⟨_,rfl,qa,_,_,rfl,Aw.of Aa,Qh ps λp hp'=>s9 _ _ (hpl p hp'),?_⟩
   rw[hX]
   refine⟨_,rfl,Eb ?_⟩
   -- return joined
   refine⟨_,rfl,q ja _ hja2 (s5.trans (s6.trans s9)) ?_⟩
   rw[<- e1']
   exact s9 _ _ (s6 _ _ ej)
end
end Bk
namespace Bk
open PySem L2 Mg Nm
section
variable {P:KI} {w:LQ} {K:JG} {mg:Str->Option JH} {base:MV} {f fM fC fF fT:JO} {fd dM dC dF dT:LG}
def cP:Sp:=λvs H Q _=>∃(x:Str)(ea oa:JO)(as:List JO)(el:List Str)(rows:List (List Str))(n:Nat),vs=[.str x,.ref ea,.ref oa]/\H ea=some (.lst (Az el))/\Dc H oa as rows/\Ff (rows++[el])<=900/\rows.length<=900/\el.length<=900/\(∀r∈(Eg n (rows++[el])).2,r=[])/\(Eg n (rows++[el])).1.length<=900 /\
 ∀(p:JO)(H':Hp),H p=none->Am H H'->H' p=some (.lst (Az (x::(Eg n (rows++[el])).1)))->Q (.ref p) H'
theorem xM:An ["name","elders","orders"] ["name","elders","orders"] (Ad Wg):=Ez (by decide +kernel)
theorem vT(F:Di K "made_order" "made_order" Wg f fd)(T:Txt mg)(GM:Al P w K mg base Bi 2 fM dM ["rows","labels"] Pp)(kM:JV K (.ref fM)=true)(bM:Binds K dM ["rows","labels"] [])(mM:mg "merged" = some (.ref fM)):
 Al P w K mg base Bi 3 f fd ["name","elders","orders"] cP:=by
 refine F.ok xM (λvs H Q E h=>?_) (λcdv A outer s H vs Q E hr h=>?_)
 ·obtain⟨x,ea,oa,as,el,rows,n,rfl,_⟩:=h
  rfl
 obtain⟨x,ea,oa,as,el,rows,n,rfl,eel,R,ht,hrl,hell,hrun,hjl,q⟩:=h
 refine⟨_,Af (Ao (Aq Jr (De (Du (pv 0))) (Cf GM hr mM kM bM (Em (Aq Jr (pv 2) (De (Du (pv 1)))) (Aq Jr (pv 1) (De (Du (pv 0)))))))),?_⟩
 have hlR:as.length=rows.length:=R.len
 refine⟨_,rfl,by show 1<=JQ;decide,λl1 hl1=>?_⟩
 have s1:=Ag hl1 (.lst [V.str x])
 refine⟨_,rfl,_,rfl,by show 1<=JQ;decide,λl2 hl2=>?_⟩
 have s2:=Ag hl2 (.lst [V.ref ea])
 refine⟨oa,l2,_,_,rfl,rfl,s2 _ _ (s1 _ _ R.lst),Aa,by rw[JJ,KS,JY];omega,λl3 hl3=>?_⟩
 have s3:=Ag hl3 (.lst (as.map V.ref++[V.ref ea]))
 refine⟨_,rfl,_,rfl,by show 1<=JQ;decide,λl4 hl4=>?_⟩
 have s4:=Ag hl4 (.lst [V.str x])
 have sA:=s1.trans (s2.trans (s3.trans s4))
 refine⟨ea,l4,_,_,rfl,rfl,sA _ _ eel,Aa,by rw[Av,KS,JY];omega,λl5 hl5=>?_⟩
 have s5:=Ag hl5 (.lst (Az el++[V.str x]))
 have sB:=sA.trans s5
 have e3:=s5 _ _ (s4 _ _ (Aa (H:=upd (upd H l1 (.lst [V.str x])) l2 (.lst [V.ref ea])) (a:=l3) (o:=.lst (as.map V.ref++[V.ref ea]))))
 have R5:=R.snoc sB (sB _ _ eel) (q:=l3) (by rw[JX];exact e3)
 have n1:=s5 _ _ (s4 _ _ (s3 _ _ (s2 _ _ (Aa (H:=H) (a:=l1) (o:=.lst [V.str x])))))
 refine⟨l3,l5,as++[ea],rows++[el],n,rfl,R5,by omega,by rw[JN,JY];omega,hrun,λp H6 hp s6 ep=>?_⟩
 refine⟨l1,p,_,_,rfl,rfl,s6 _ _ n1,ep,by rw[Av,KS,JY];omega,λz hz=>?_⟩
 exact q z _ (sB.free (s6.free hz)) (sB.trans (s6.trans (Ag hz _))) Aa
end
def Hand(H:Hp)(v:V)(el:List Str):Prop:=(v=.non/\el=[]) ∨ ∃a,v=.ref a/\H a=some (.lst (Az el))
theorem Hand.same{H H':Hp}{v:V}{el:List Str}(h:Hand H v el)(s:Am H H'):Hand H' v el:=by
 rcases h with h | ⟨a,e,h⟩
 ·exact .inl h
 ·exact .inr ⟨a,e,s _ _ h⟩
def jR(L:List Ent)(y:Str):List Str:=((Hl L y).map (·.od)).getD []
theorem gK{L:List Ent}{y:Str}{e:Ent}(h:Hl L y=some e):jR L y=e.od:=by
 unfold jR
 rw[h]
 rfl
def rowsOf(L:List Ent)(el:List Str):List (List Str):=el.map (jR L)++[el]
structure gE(H:Hp)(e:Ent):Prop where
 at_:H e.at_=none
 ea:H e.ea=none
 oa:H e.oa=none
 ba:H e.ba=none
structure Wv(CB CH:JO)(H:Hp)(p d:JO)(L:List Ent)(x:Str)(el:List Str)(n:Nat):Prop where
 bk:Be CB CH H p d L
 nm:Fz x=true
 nl:x.length<=JQ
 new:Hl L x=none
 els:∀y∈el,∃e,Hl L y=some e
 nd:el.Nodup
 ell:el.length<=60
 ll:L.length<=100
 Ff:Ff (rowsOf L el)<=900
 run:∀r∈(Eg n (rowsOf L el)).2,r=[]
 jl:(Eg n (rowsOf L el)).1.length<=900
def CI(H:Hp)(L:List Ent)(x:Str)(el:List Str)(n:Nat)(e:Ent):Prop:=e.nm=x/\e.el=el/\e.od=x::(Eg n (rowsOf L el)).1/\e.bd=[]/\gE H e
def Nz(CB CH:JO):Sp:=λvs H Q _=>∃(p d:JO)(L:List Ent)(x:Str)(v:V)(el:List Str)(n:Nat),vs=[.ref p,.str x,v]/\Wv CB CH H p d L x el n/\Hand H v el /\
 ∀(e:Ent)(H':Hp),CI H L x el n e->Be CB CH H' p d (L++[e])->(∀b o,H b=some o->b≠d->H' b=some o)->Q .non H'
theorem Be.add{CB CH:JO}{H H':Hp}{p d:JO}{L:List Ent}{e:Ent}(B:Be CB CH H p d L)(hn:Hl L e.nm=none)(fr:H e.ba=none)(E:Xc CH H' e)(hd:H' d=some (.dK (putK (nJ L) (KJ e.nm) (.ref e.at_))))(k:∀b o,H b=some o->b≠d->H' b=some o):Be CB CH H' p d (L++[e]):=by
 obtain⟨dx,hp⟩:=B.ob
 have npd:p≠d:=Cd hp B.dc (by intro z;cases z)
 refine⟨⟨dx,k _ _ hp npd⟩,?_,?_,?_,?_,?_⟩
 ·rw[hd,Pt _ (by rw[Tq,hn];rfl)]
  unfold nJ
  rw[JX]
  rfl
 ·intro a ha
  rcases KO.mp ha with h | h
  ·have A:=B.en a h
   exact⟨k _ _ A.ob (Cd A.ob B.dc (by intro z;cases z)),k _ _ A.el (Cd A.el B.dc (by intro z;cases z)),k _ _ A.od (Cd A.od B.dc (by intro z;cases z)),k _ _ A.bd (B.nb a h)⟩
  ·rw[JP] at h
   subst h
   exact E
 ·intro a ha
  rcases KO.mp ha with h | h
  ·exact B.nb a h
  ·rw[JP] at h
   subst h
   exact LL (Ai B.dc fr)
 ·rw[JX,OE]
  refine⟨B.nd,by simp,λa ha b hb=>?_⟩
  obtain⟨c,hc,rfl⟩:=LR.mp ha
  have hb':b=e.nm:=by simpa using hb
  subst hb'
  intro z
  have:=List.find?_eq_none.mp hn c hc
  exact this (decide_eq_true z)
 ·rw[JX,OE]
  refine⟨B.nn,by simp,λa ha b hb=>?_⟩
  obtain⟨c,hc,rfl⟩:=LR.mp ha
  have hb':b=e.ba:=by simpa using hb
  subst hb'
  exact Ai (B.en c hc).bd fr
section
variable {P:KI} {w:LQ} {K:JG} {mg:Str->Option JH} {base:MV} {f fO fN fM fI CB CH T0:JO} {fd dO dN dM dI:LG}
abbrev pE:List Str:=["self","name","elders","elder_row","orders"]
theorem CM:(["elder","self"]:List Str).Nodup:=by decide +kernel
theorem Jz:An ["self","name","elders","elder_row","orders"] ["self","name","elders"] (Ad Il):=Ez (by decide +kernel)
theorem qS(F:Np K "found" "Book.found" Il f fd T0)(T:Ha K mg CB CH)(Tx:Txt mg)(GO:Al P w K mg base Bi 2 fO dO ["self","name"] (Ia CB CH))(bO:Binds K dO ["self","name"] [])(mO:Dt K CB "order" fO)(GN:Al P w K mg base Bi 1 fN dN ["value"] Gy)(kN:JV K (.ref fN)=true)(bN:Binds K dN ["value"] [])(mN:mg "is_name" = some (.ref fN))(GM:Al P w K mg base Bi 3 fM dM ["name","elders","orders"] cP)(kM:JV K (.ref fM)=true)(bM:Binds K dM ["name","elders","orders"] [])(mM:mg "made_order" = some (.ref fM))(GI:Al P w K mg base Bi 1 fI dI ["self","elder_row","order_row"] (La CH))(bI:Binds K dI ["self","elder_row","order_row"] [])(MH:Mk K CH fI):Al P w K mg base Bi 4 f fd ["self","name","elders"] (Nz CB CH):=by
 refine F.ok Jz (λvs H Q E h=>?_) (λcdv A outer s H vs Q E hr h=>?_)
 ·obtain⟨p,d,L,x,v,el,n,rfl,_⟩:=h
  rfl
 obtain⟨p,d,L,x,v,el,n,rfl,⟨B,hok,hxl,hno,hel,hnd,hell,hll,htot,hrun,hjl⟩,hand,q⟩:=h
 have hu:=Fo hr
 have hr1:=hr.mono (j:=1) (by decide)
 have hr2:=hr.mono (j:=2) (by decide)
 obtain⟨dx,hp⟩:=B.ob
 refine⟨_,Ac (Ay (Hi (Fv (Cf GN hr1 mN kN bN (Du (pv 1))))) Bs Ap)
  (Ac (Ay (Fu (qI hu (pv 1) (Cq (pv 0) rfl))) Bs Ap)
  (Ac (Bv 3 Jz.nd (PE.imp (t':=λσ H Q=>∃v el,σ[2]? = some (some v)/\Hand H v el/\∀l,H l=none->Q (.ref l) (upd H l (.lst (Az el)))) (Xu (Fu (Zz (pv 2))) (De Fw) (Dl (Pl (K:=K)) rfl Tx.list NQ (Du (pv 2))))
   (λσ H Q ⟨v,el,h1,h2,h3⟩=>?imp)))
  (Ac (Dd (i:=4) (Ad Il) pE ["elder"] [("self", 0)] rfl Jz.nd rfl rfl (Dk (pv 3)) (Bm (i:=0) (by decide)) (λ_ _ _ _ _ _=>⟨Dg 0 CM,Dr,Ee (pv 1) T.clB mO GO hr2 bO .nil Dh (Du (pv 0))⟩))
  (Ac (Ay (Ar Oz (Bz Kj rfl Tx.len PySem.boot_len (Du (Dl (Jv rfl) rfl Tx.set Sg (Du (pv 3))))) (Bw Tx.len (pv 3)) (Au _)) Bs Ap)
  (Af (Gd hu (Cq (pv 0) rfl) (pv 1) (Oj MH GI hr2 rfl T.mgH bI .nil Dh (Em (pv 3) (Cf GM hr mM kM bM (Iz (pv 1) (pv 3) (pv 4))))) rfl)))))),?_⟩
 case imp=>
  refine⟨_,h1,_,rfl,?_⟩
  rcases h2 with ⟨rfl,rfl⟩ | ⟨a,rfl,ea⟩
  ·exact Jn ⟨by show 0<=JQ;decide,h3⟩
  ·exact Eb ⟨_,h1,a,_,rfl,.inl (Aw.of ea),h3⟩
 -- is_name(name)
 refine⟨_,rfl,.str x,rfl,.inr ⟨x,rfl,hxl⟩,λH1 s1=>?_⟩
 rw[show CD (.str x)=true from hok]
 refine⟨_,rfl,Eb ?_⟩
 -- name in self.by_name
 have B1:=B.same s1
 refine⟨_,rfl,_,rfl,p,CB,dx,_,_,rfl,s1 _ _ hp,T.clB,T.nBy,Se d,d,_,rfl,B1.no hno,_,rfl,Eb ?_⟩
 -- elder_row
 refine⟨v,el,rfl,hand.same s1,λla hla=>?_⟩
 have s2:=Ag hla (.lst (Az el))
 have sA:=s1.trans s2
 have hla0:H la=none:=s1.free hla
 have ela:(upd H1 la (.lst (Az el))) la=some (.lst (Az el)):=Aa
 generalize upd H1 la (.lst (Az el))=H2 at *
 -- orders
 refine⟨_,rfl,la,rfl,⟨_,Aw.of ela⟩,Ec (K:=K) (a:=la) (xs:=Az el) (λi ys H3=>Am H2 H3/\∃ps:List JO,ys=ps.map V.ref/\ps.length=i/\∀(j:Nat)(a:JO)(r:List Str),ps[j]? = some a->(el.map (jR L))[j]? = some r->H3 a=some (.lst (Az r)))
  ⟨Am.refl _,[],rfl,rfl,λj a r h=>by simp at h⟩ (λi ys H3 _ h=>Aw.of (h.1 _ _ ela)) ?_ ?_⟩
 ·rintro i y ys H3 hi ⟨s3,ps,rfl,hps,hpl⟩
  obtain⟨z,hz,rfl⟩:=Ih hi
  obtain⟨e,he⟩:=hel z (KD hz)
  have sB:=sA.trans s3
  have hil:i < el.length:=(JF.mp hz).1
  refine⟨_,rfl,p,dx,_,rfl,sB _ _ hp,Gs d (by decide +kernel),_,rfl,p,d,L,z,e,rfl,B.same sB,he,λl hl=>?_⟩
  have s4:=Ag hl (.lst (Az e.od))
  refine⟨by rw[JJ,hps,KS];omega,s3.trans s4,ps++[l],by rw[JX];rfl,by rw[JN,hps];rfl,λj a r h1 h2=>?_⟩
  by_cases hj:j < ps.length
  ·rw[KN hj] at h1
   exact s4 _ _ (hpl j a r h1 h2)
  ·have hjl:j < (ps++[l]).length:=(JF.mp h1).1
   rw[JN,JY] at hjl
   obtain rfl:j=ps.length:=by omega
   rw[KH] at h1
   cases h1
   rw[KP,hps,hz] at h2
   cases h2
   rw[gK he]
   exact Aa
 rintro ys H3 ⟨s3,ps,rfl,hps,hpl⟩ qa hqa
 rw[Av] at hps
 have s4:=Ag hqa (.lst (ps.map V.ref))
 have R:Dc (upd H3 qa (.lst (ps.map V.ref))) qa ps (el.map (jR L)):=⟨Aa,by rw[hps,JJ],λi a r h1 h2=>s4 _ _ (hpl i a r h1 h2)⟩
 have sB:=s3.trans s4
 have sC:=sA.trans sB
 generalize upd H3 qa (.lst (ps.map V.ref))=H4 at *
 -- len(set(elder_row)) < len(elder_row)
 refine⟨_,rfl,la,el,rfl,Aw.of (sB _ _ ela),hnd,by show el.length+1 < 4096;omega,λsa hsa=>?_⟩
 have s5:=Ag hsa (Xd P w sa el.length)
 refine⟨sa,_,rfl,Aa,_,rfl,la,_,rfl,.inl (Aw.of (s5 _ _ (sB _ _ ela))),_,_,rfl,rfl,_,rfl,Br (λc=>?_) (λ_=>?_)⟩
 ·have:=of_decide_eq_true c
  rw[Av] at this
  omega
 have sD:=sC.trans s5
 have R5:=R.same s5
 have ela5:=s5 _ _ (sB _ _ ela)
 -- self.by_name[name]=House(elder_row,made_order(name,elder_row,orders))
 refine⟨_,rfl,_,rfl,_,rfl,_,rfl,x,la,qa,ps,el,el.map (jR L),n,rfl,ela5,R5,htot,by rw[JJ];omega,by omega,hrun,hjl,λoa H6 hoa s6 eoa=>?_⟩
 intro hx hdx nx ndx nex
 have sE:=sD.trans s6
 have s7:Am H6 (upd (upd H6 hdx (.own hx)) hx (.ins CH hdx [])):=λb o e=>by
  rw[Aj (Ai e nx),Aj (Ai e ndx)]
  exact e
 refine⟨hx,la,oa,hdx,rfl,Aa,λba H7 hba e1 e2 kp=>⟨rfl,?_⟩⟩
 have s8:Am H6 H7:=λb o e=>kp b o (s7 b o e) (Ai e nx)
 have sF:=sE.trans s8
 have B7:=B.same sF
 refine⟨_,rfl,p,CB,dx,_,_,rfl,sF _ _ hp,T.clB,T.nBy,Se d,_,rfl,d,_,rfl,Kr.k (k:=(KJ x:Key)) B7.dc (by unfold nJ;rw[JJ,KS];omega),?_⟩
 have hla6:H6 la=some (.lst (Az el)):=s6 _ _ ela5
 have hba6:H6 ba=none:=s7.free hba
 have nlx:la≠hx:=Ai hla6 nx
 have frE:gE H ⟨x,hx,hdx,la,oa,ba,el,x::(Eg n (rowsOf L el)).1,[]⟩:=⟨sE.free nx,hla0,sD.free hoa,sE.free hba6⟩
 have k8:∀b o,H b=some o->b≠d->(upd H7 d (.dK (putK (nJ L) (KJ x:Key) (.ref hx)))) b=some o:=λb o e hb=>by rw[Aj hb];exact sF _ _ e
 have nd_of:∀b,H b=none->b≠d:=λb hb=>LL (Ai B.dc hb)
 refine q ⟨x,hx,hdx,la,oa,ba,el,x::(Eg n (rowsOf L el)).1,[]⟩ _ ⟨rfl,rfl,rfl,rfl,frE⟩ (B.add (e:=⟨x,hx,hdx,la,oa,ba,el,x::(Eg n (rowsOf L el)).1,[]⟩) hno frE.ba ⟨?_,?_,?_,?_⟩ Aa k8) k8
 ·rw[Aj (nd_of _ frE.at_)];exact e1
 ·rw[Aj (nd_of _ frE.ea)];exact s8 _ _ hla6
 ·rw[Aj (nd_of _ frE.oa)];exact s8 _ _ eoa
 ·rw[Aj (nd_of _ frE.ba)];exact e2
end
def big:Int:=10 ^ 30
def sL(lo hi:Int):V->Bool
 | .int i=>decide (lo<=i) && decide (i<=hi)
 | _=>false
def Ew(kd:Str)(v:V):Bool:=if kd = "word" then CD v else if kd = "shift" then sL 0 64 v else if kd = "divisor" then sL (-big) big v && !decide (v=.int 0) else sL (-big) big v
def Kw:Sp:=λvs H Q _=>∃(v:V)(lo hi:Int),vs=[v,.int lo,.int hi]/\PV v/\Q (.bl (sL lo hi v)) H
def Ly:Sp:=λvs H Q _=>∃v:V,vs=[v]/\PV v/\Q (.bl (sL (-big) big v)) H
def aR:Sp:=λvs H Q _=>∃(v:V)(kd:Str),vs=[v,.str kd]/\PV v/\∀H',Am H H'->Q (.bl (Ew kd v)) H'
section
variable {P:KI} {w:LQ} {K:JG} {mg:Str->Option JH} {base:MV} {f fW fA fN fP fS aP:JO} {fd dW dA dN dP dS:LG}
theorem uY:An ["value","least","most"] ["value","least","most"] (Ad aA):=Ez (by decide +kernel)
theorem oB(F:Di K "is_whole" "is_whole" aA f fd)(T:Txt mg):Al P w K mg base Bi 1 f fd ["value","least","most"] Kw:=by
 refine F.ok uY (λvs H Q E h=>?_) (λcdv A outer s H vs Q E hr h=>?_)
 ·obtain⟨v,lo,hi,rfl,_⟩:=h
  rfl
 obtain⟨v,lo,hi,rfl,hv,q⟩:=h
 refine⟨_,Af (Ao (Ks (Bz Eo rfl T.isi NA (Em (pv 0) (Ij (v:=.ty "int") rfl T.int PyProof.Rows.boot_int rfl)))
  (Ks (xN (Bz Eo rfl T.isi NA (Em (pv 0) (Ij (v:=.ty "bool") rfl T.bool PyProof.Rows.boot_bool rfl))))
  (Vi (Qt Qe Qe (pv 1) (pv 0) (pv 2)))))),?_⟩
 rcases hv with ⟨i,rfl⟩ | ⟨x,rfl,hx⟩
 ·refine⟨_,rfl,_,_,_,_,rfl,.int _,Hr K "int", _,rfl,Jn ?_⟩
  refine⟨_,rfl,_,_,_,_,rfl,.int _,(show QK K (.type "int") (.type "bool")=some false from rfl),_,rfl,_,rfl,Jn ?_⟩
  refine⟨_,rfl,_,rfl,_,_,rfl,rfl,_,rfl,Br (λc=>?_) (λc=>?_)⟩
  ·refine⟨_,rfl,_,_,rfl,rfl,?_⟩
   have e:sL lo hi (.int i)=decide (i<=hi):=by
    show (decide (lo<=i) && decide (i<=hi))=_
    rw[c,RV]
   rw[e] at q
   exact q
  ·have e:sL lo hi (.int i)=false:=by
    show (decide (lo<=i) && decide (i<=hi))=_
    rw[NK.mpr c,RD]
   rw[e] at q
   exact q
 ·exact⟨_,rfl,_,_,_,_,rfl,.str _,(show QK K (.type "str") (.type "int")=some false from rfl),_,rfl,Eb q⟩
theorem qT:An ["value"] ["value"] (Ad Va):=Ez (by decide +kernel)
theorem kD(F:Di K "is_amount" "is_amount" Va f fd)(T:Txt mg)(GW:Al P w K mg base Bi 1 fW dW ["value","least","most"] Kw)(kW:JV K (.ref fW)=true)(bW:Binds K dW ["value","least","most"] [])(mW:mg "is_whole" = some (.ref fW)):Al P w K mg base Bi 2 f fd ["value"] Ly:=by
 refine F.ok qT (λvs H Q E h=>?_) (λcdv A outer s H vs Q E hr h=>?_)
 ·obtain⟨v,rfl,_⟩:=h
  rfl
 obtain⟨v,rfl,hv,q⟩:=h
 refine⟨_,Af (Ao (Cf GW hr mW kW bW (Iz (pv 0) (Jy Gx (Aq Tl Ae Ae)) (Aq Tl Ae Ae)))),?_⟩
 exact⟨_,rfl,_,_,rfl,rfl,⟨by decide,by decide,by decide⟩,_,rfl,_,_,rfl,rfl,⟨by decide,by decide,by decide⟩,v,-big,big,rfl,hv,q⟩
theorem AT:An ["part","kind"] ["part","kind"] (Ad Ub):=Ez (by decide +kernel)
theorem vA(F:Di K "is_part" "is_part" Ub f fd)(T:Txt mg)(GW:Al P w K mg base Bi 1 fW dW ["value","least","most"] Kw)(kW:JV K (.ref fW)=true)(bW:Binds K dW ["value","least","most"] [])(mW:mg "is_whole" = some (.ref fW))(GA:Al P w K mg base Bi 2 fA dA ["value"] Ly)(kA:JV K (.ref fA)=true)(bA:Binds K dA ["value"] [])(mA:mg "is_amount" = some (.ref fA))(GN:Al P w K mg base Bi 1 fN dN ["value"] Gy)(kN:JV K (.ref fN)=true)(bN:Binds K dN ["value"] [])(mN:mg "is_name" = some (.ref fN)):Al P w K mg base Bi 3 f fd ["part","kind"] aR:=by
 refine F.ok AT (λvs H Q E h=>?_) (λcdv A outer s H vs Q E hr h=>?_)
 ·obtain⟨v,kd,rfl,_⟩:=h
  rfl
 obtain⟨v,kd,rfl,hv,q⟩:=h
 have hr1:=hr.mono (j:=1) (by decide)
 refine⟨_,Ac (Ay (Ar Cc (pv 1) Ba (Au _)) (Af (Ao (Cf GN hr1 mN kN bN (Du (pv 0))))) Ap)
  (Ac (Ay (Ar Cc (pv 1) Ba (Au _)) (Af (Ao (Cf GW hr1 mW kW bW (Iz (pv 0) Ae Ae)))) Ap)
  (Ac (Ay (Ar Cc (pv 1) Ba (Au _)) (Af (Ao (Ks (Cf GA hr mA kA bA (Du (pv 0))) (Vi (eM Rr (pv 0) Ae (Au _)))))) Ap)
  (Af (Ao (Cf GA hr mA kA bA (Du (pv 0))))))),?_⟩
 unfold Ew at q
 have de:∀ {a b:Str},decide (V.str a=V.str b)=true->a=b:=λh=>V.str.inj (of_decide_eq_true h)
 have dn:∀ {a b:Str},¬ decide (V.str a=V.str b)=true->¬ a=b:=λh e=>h (by rw[e];exact decide_eq_true rfl)
 refine⟨_,rfl,rfl,_,rfl,Br (λc=>?_) (λc=>?_)⟩
 ·rw[if_pos (de c)] at q
  exact⟨_,rfl,v,rfl,hv,q⟩
 rw[if_neg (dn c)] at q
 refine⟨_,rfl,rfl,_,rfl,Br (λc=>?_) (λc=>?_)⟩
 ·rw[if_pos (de c)] at q
  exact⟨_,rfl,v,0,64,rfl,hv,q _ (Am.refl _)⟩
 rw[if_neg (dn c)] at q
 refine⟨_,rfl,rfl,_,rfl,Br (λc=>?_) (λc=>?_)⟩
 ·rw[if_pos (de c)] at q
  refine⟨_,rfl,v,rfl,hv,_,rfl,Br (λc2=>?_) (λc2=>?_)⟩
  ·rw[c2,RV] at q
   rcases hv with ⟨i,rfl⟩ | ⟨x,rfl,_⟩
   ·exact⟨_,rfl,rfl,q _ (Am.refl _)⟩
   ·cases c2
  ·rw[NK.mpr c2,RD] at q
   exact q _ (Am.refl _)
 rw[if_neg (dn c)] at q
 exact⟨_,rfl,v,rfl,hv,q _ (Am.refl _)⟩
theorem pL:(["part","kind"]:List Str).Nodup:=by decide +kernel
theorem xO:(["step"]:List Str).Nodup:=by decide +kernel
structure Tab(P:KI)(w:LQ)(K:JG)(aP:JO)(ks:List (Str×JO×List Str)):Prop where
 dic:cX P w K aP (ks.map λp=>((KJ p.1:Key),V.ref p.2.1))
 tup:∀p∈ks,∀H:Hp,Ck K H p.2.1 (Az p.2.2)
def kindsOf(ks:List (Str×JO×List Str))(kd:Str):Option (JO×List Str):=(ks.find? λp=>decide (p.1=kd)).map (·.2)
theorem sT(ks:List (Str×JO×List Str))(kd:Str):valV (ks.map λp=>((KJ p.1:Key),V.ref p.2.1)) (KJ kd:Key)=(kindsOf ks kd).map λq=>V.ref q.1:=by
 unfold kindsOf
 induction ks with
 | nil=>rfl
 | cons e L ih=>
  rw[LY]
  by_cases h:e.1=kd
  ·rw[Cu (show ((KJ e.1:Key),V.ref e.2.1).1=KJ kd by rw[h]),QL (by rw[decide_eq_true h])]
   rfl
  ·rw[Cw (λz=>h (KJ.inj z)),ih,QM (by rw[decide_eq_false h];exact JR)]
theorem iH{ks:List (Str×JO×List Str)}{kd:Str}{a:JO}{r:List Str}(h:kindsOf ks kd=some (a,r)):∃p∈ks,p.2=(a,r):=by
 unfold kindsOf at h
 cases e:ks.find? λp=>decide (p.1=kd) with
 | none=>rw[e] at h;cases h
 | some p=>
  rw[e] at h
  exact⟨p,List.mem_of_find?_eq_some e,LC h⟩
def Hu(ks:List (Str×JO×List Str))(kd:Str)(ps:List V):Prop:=∃a r,kindsOf ks kd=some (a,r)/\ps.length=r.length/\∀(i:Nat)(v:V)(k:Str),ps[i]? = some v->r[i]? = some k->Ew k v=true
def aO(K:JG)(ks:List (Str×JO×List Str)):Sp:=λvs H Q _=>∃(t:JO)(kd:Str)(ps:List V),vs=[.ref t]/\Ck K H t (.str kd::ps)/\H t=some (.tup (.str kd::ps))/\Hu ks kd ps/\(∀v∈ps,PV v)/\ps.length<=100/\∀H',Am H H'->Q (.bl true) H'
theorem DP(x:V)(xs:List V):Fy (x::xs) (some 1) none=xs:=by rw[xR];rfl
theorem qX:An ["value","kinds"] ["value"] (Ad Oc):=Ez (by decide +kernel)
theorem sW{ks:List (Str×JO×List Str)}(F:Di K "is_step" "is_step" Oc f fd)(T:Txt mg)(Tb:Tab P w K aP ks)(mP:mg "PARTS" = some (.ref aP))(GP:Al P w K mg base Bi 3 fP dP ["part","kind"] aR)(kP:JV K (.ref fP)=true)(bP:Binds K dP ["part","kind"] [])(mPt:mg "is_part" = some (.ref fP)):Al P w K mg base Bi 4 f fd ["value"] (aO K ks):=by
 refine F.ok qX (λvs H Q E h=>?_) (λcdv A outer s H vs Q E hr h=>?_)
 ·obtain⟨t,kd,ps,rfl,_⟩:=h
  rfl
 obtain⟨t,kd,ps,rfl,ht,ht',⟨a,r,hk,hl,hg⟩,hpv,hps,q⟩:=h
 refine⟨_,Ac (Ay (PW.pt (Xm (Hi (Fv (Bz Eo rfl T.isi NA (Em (pv 0) (Ij (v:=.ty "tuple") rfl T.tup PyProof.Rows.boot_tuple rfl)))))
  (Xm (Ar Cc (Bw T.len (pv 0)) Ae (Au _))
  (aT (Hi (Fv (Bz Eo rfl T.isi NA (Em (As Ax (pv 0) Ae (λ_ _=>rfl)) (Ij (v:=.ty "str") rfl T.str PyProof.Rows.boot_str rfl))))))))) Bs Ap)
  (Ac (Bv 1 qX.nd (vH (eC (v:=.ref aP) rfl mP rfl) (As Ax (pv 0) Ae (λ_ _=>rfl)) ⟨rfl,rfl,rfl,rfl⟩))
  (Ac (Ay (PW.pt (Xm (Fu (Zz (pv 1))) (aT (Ar Rr (Bw T.len (pv 0)) (Aq Cm Ae (Bw T.len (pv 1))) (Au _))))) Bs Ap)
  (Af (Ao (Bz (Qf rfl) rfl T.all Mz (Du (He (Ad Oc) ["value","kinds"] ["part","kind"] [] rfl (rT rfl T.zip (Em (Cj BB (pv 0) (Cy Ae) Dw) (pv 1))) (Kc (K:=K) (Cs (Bm (i:=0) (by decide)) (Cs (Bm (i:=1) (by decide)) Hn)))
   (λ_ _ _ _ _ _=>⟨Jm (n:=2) rfl (Ce (Dg 0 pL) (Ce (Dg 1 pL) Hb)),Dr,Cf GP hr mPt kP bP (Em (pv 0) (pv 1))⟩)))))))),?_⟩
 have at0:Jb (V.str kd::ps) 0=some (.str kd):=Bc (j:=0) rfl
 obtain⟨pr,hpr,epr⟩:=iH hk
 have hr0:∀H:Hp,Ck K H a (Az r):=λH=>by
  have:=Tb.tup pr hpr H
  rw[epr] at this
  exact this
 refine⟨_,rfl,_,_,_,_,rfl,.tup ht',Hr K "tuple", _,rfl,Eb ?_⟩
 refine⟨_,rfl,t,_,rfl,.inr ht,rfl,_,rfl,Br (λc=>?_) (λ_=>?_)⟩
 ·have:=V.int.inj (of_decide_eq_true c)
  rw[LU] at this
  omega
 refine⟨_,rfl,t,_,_,_,rfl,rfl,ht,at0,_,_,_,_,rfl,.str _,Hr K "str", _,rfl,Eb ?_⟩
 -- kinds=PARTS.get(value[0])
 refine⟨aP,_,rfl,Tb.dic,_,rfl,t,_,_,_,rfl,rfl,ht,at0,KJ kd,rfl,?_⟩
 rw[sT,hk]
 refine⟨_,rfl,_,rfl,Eb ?_⟩
 refine⟨_,rfl,t,_,rfl,.inr ht,_,rfl,a,_,rfl,.inr (hr0 _),_,_,rfl,rfl,rfl,_,rfl,?_⟩
 have hlen:(V.int ((V.str kd::ps).length:Int))=V.int (1+((Az r).length:Int)):=by rw[LU,Av,hl];congr 1;omega
 refine dX hlen ?_
 -- all([is_part(part,kind) for part,kind in zip(value[1:],kinds)])
 refine⟨_,rfl,_,rfl,t,_,rfl,ht,?_,λp hp=>?_⟩
 ·intro z
  have z1:=z.1
  rw[show HT.sIx (V.str kd::ps).length 0 (some 1)=min 1 (V.str kd::ps).length from HT.sIx_nat _ _ 1,LU] at z1
  omega
 rw[DP]
 have s1:=Ag hp (.tup ps)
 refine⟨_,rfl,p,a,rfl,⟨_,Ck.of Aa⟩,⟨_,hr0 _⟩,Yo (K:=K) (a:=p) (b:=a) (xs:=ps) (zs:=Az r) (by rw[Av];exact hl) (λi ys H2=>Am (upd H p (.tup ps)) H2/\ys=(LF i true).map V.bl) ⟨Am.refl _,rfl⟩ (λi ys H2 _ h=>⟨Ck.of (h.1 _ _ Aa),hr0 _⟩) ?_ ?_⟩
 ·rintro i x z ys H2 Tp hx hz ⟨s2,rfl⟩ hT
  obtain⟨k,hk',rfl⟩:=Ih hz
  have s3:=Ag hT (.tup [x,.str k])
  refine⟨Tp,_,rfl,Ck.of Aa,rfl,_,_,rfl,_,_,rfl,rfl,?_⟩
  have hil:i < ps.length:=(JF.mp hx).1
  refine⟨_,rfl,_,rfl,x,k,rfl,hpv x (KD hx),λH3 s4=>?_⟩
  rw[hg i x k hx hk']
  refine⟨by rw[JJ,NW,KS];omega,s2.trans (s3.trans s4),?_⟩
  rw[SW,JX]
  rfl
 ·rintro ys H2 ⟨s2,rfl⟩ l hl'
  refine⟨l,_,LF ps.length true,rfl,Aw.of Aa,Ig _,?_⟩
  have e:(LF ps.length true).all id=true:=by simp
  rw[e]
  exact q _ (s1.trans (s2.trans (Ag hl' _)))
def Dp(H:Hp)(ts:List JO)(ss:List (Str×List V)):Prop:=ts.length=ss.length/\∀(i:Nat)(t:JO)(p:Str×List V),ts[i]? = some t->ss[i]? = some p->H t=some (.tup (.str p.1::p.2))
theorem Dp.same{H H':Hp}{ts:List JO}{ss:List (Str×List V)}(h:Dp H ts ss)(s:Am H H'):Dp H' ts ss:=⟨h.1,λi t p a b=>s _ _ (h.2 i t p a b)⟩
def Mu(ks:List (Str×JO×List Str))(ss:List (Str×List V)):Prop:=ss.length<=30/\∀p∈ss,Hu ks p.1 p.2/\(∀v∈p.2,PV v)/\p.2.length<=100
def Qu(ks:List (Str×JO×List Str)):Sp:=λvs H Q _=>∃(l:JO)(ts:List JO)(ss:List (Str×List V)),vs=[.ref l]/\H l=some (.lst (ts.map V.ref))/\Dp H ts ss/\Mu ks ss/\∀H',Am H H'->Q (.bl true) H'
theorem pQ:An ["value"] ["value"] (Ad Oq):=Ez (by decide +kernel)
theorem jG{ks:List (Str×JO×List Str)}(F:Di K "is_body" "is_body" Oq f fd)(T:Txt mg)(GS:Al P w K mg base Bi 4 fS dS ["value"] (aO K ks))(kS:JV K (.ref fS)=true)(bS:Binds K dS ["value"] [])(mS:mg "is_step" = some (.ref fS)):Al P w K mg base Bi 5 f fd ["value"] (Qu ks):=by
 refine F.ok pQ (λvs H Q E h=>?_) (λcdv A outer s H vs Q E hr h=>?_)
 ·obtain⟨l,ts,ss,rfl,_⟩:=h
  rfl
 obtain⟨l,ts,ss,rfl,el,⟨hts,hat⟩,⟨hs30,hgs⟩,q⟩:=h
 refine⟨_,Af (Ao (Ks (Bz Eo rfl T.isi NA (Em (pv 0) (Ij (v:=.ty "list") rfl T.list NQ rfl)))
  (Ks (eM Qe (Bw T.len (pv 0)) Ae (Au _))
  (Vi (Bz (Qf rfl) rfl T.all Mz (Du (He (Ad Oq) ["value"] ["step"] [] rfl (Dk (pv 0)) (Bm (i:=0) (by decide)) (λ_ _ _ _ _ _=>⟨Dg 0 xO,Dr,
   Cf GS hr mS kS bS (Du (pv 0))⟩)))))))),?_⟩
 refine⟨_,rfl,_,_,_,_,rfl,.lst el,Hr K "list", _,rfl,Jn ?_⟩
 refine⟨_,rfl,l,_,rfl,.inl (Aw.of el),_,_,rfl,rfl,_,rfl,Br (λ_=>?_) (λc=>absurd (decide_eq_true (by rw[JJ];omega)) c)⟩
 refine⟨_,rfl,l,rfl,⟨_,Aw.of el⟩,Ec (K:=K) (a:=l) (xs:=ts.map V.ref) (λi ys H2=>Am H H2/\ys=(LF i true).map V.bl) ⟨Am.refl _,rfl⟩ (λi ys H2 _ h=>Aw.of (h.1 _ _ el)) ?_ ?_⟩
 ·rintro i y ys H2 hi ⟨s2,rfl⟩
  obtain⟨t,ht,rfl⟩:=Ea hi
  have hil:i < ss.length:=by rw[<- hts];exact(JF.mp ht).1
  have hp:=JK hil
  have et:=s2 _ _ (hat i t _ ht hp)
  obtain⟨g1,g2,g3⟩:=hgs _ (OO hil)
  refine⟨_,rfl,t,_,_,rfl,Ck.of et,et,g1,g2,g3,λH3 s3=>⟨by rw[JJ,NW,KS];omega,s2.trans s3,?_⟩⟩
  rw[SW,JX]
  rfl
 ·rintro ys H2 ⟨s2,rfl⟩ p hp
  refine⟨p,_,LF (ts.map V.ref).length true,rfl,Aw.of Aa,Ig _,?_⟩
  have e:(LF (ts.map V.ref).length true).all id=true:=by simp
  rw[e]
  exact q _ (s2.trans (Ag hp _))
end
end Bk
namespace Rk
open PySem
def Ab(b:Nat)(n:Int):Prop:=n.natAbs<=2 ^ b
theorem nK{b c:Nat}(h:b<=c):2 ^ b<=2 ^ c:=Nat.pow_le_pow_right (by decide) h
theorem Ab.mono{b c:Nat}{n:Int}(h:Ab b n)(hc:b<=c):Ab c n:=KZ h (nK hc)
theorem rJ{n:Int}(h0 : -(10 ^ 30)<=n)(h1:n<=10 ^ 30):Ab 100 n:=by
 unfold Ab
 have e:(2:Nat) ^ 100=1267650600228229401496703205376:=by decide
 have e2:(10:Int) ^ 30=1000000000000000000000000000000:=by decide
 rw[e2] at h0 h1
 rw[e]
 omega
theorem Ab.add{b:Nat}{x y:Int}(hx:Ab b x)(hy:Ab b y):Ab (b+1) (x+y):=by
 unfold Ab at *
 have:=Int.natAbs_add_le x y
 rw[Nat.pow_succ]
 omega
theorem Ab.neg{b:Nat}{x:Int}(hx:Ab b x):Ab b (-x):=by
 unfold Ab at *
 rw[Int.natAbs_neg]
 exact hx
theorem Ab.sub{b:Nat}{x y:Int}(hx:Ab b x)(hy:Ab b y):Ab (b+1) (x-y):=by
 rw[Int.sub_eq_add_neg]
 exact hx.add hy.neg
theorem Ab.mul{b c:Nat}{x y:Int}(hx:Ab b x)(hy:Ab c y):Ab (b+c) (x * y):=by
 unfold Ab at *
 rw[Int.natAbs_mul,Nat.pow_add]
 exact Nat.mul_le_mul hx hy
theorem Ab.ediv{b:Nat}{x y:Int}(hx:Ab b x):Ab b (x / y):=KZ (Int.natAbs_ediv_le_natAbs x y) hx
theorem Ab.fdiv{b:Nat}{x y:Int}(hx:Ab b x):Ab (b+1) (x.fdiv y):=by
 have h:=hx.ediv (y:=y)
 have hp:0 < 2 ^ b:=Nat.pow_pos (by decide)
 unfold Ab at *
 rw[Int.fdiv_eq_ediv,Nat.pow_succ]
 split<;>omega
theorem Ab.up{b k:Nat}{x:Int}(hx:Ab b x):Ab (b+k) (x * 2 ^ k):=by
 refine hx.mul ?_
 unfold Ab
 rw[Int.natAbs_pow]
 exact JM _
def In(b:Nat)(n:Int):Prop:=-((2 ^ b:Nat):Int)<=n/\n < ((2 ^ b:Nat):Int)
theorem Ab.inn{b:Nat}{x:Int}(h:Ab b x):In (b+1) x:=by
 have hp:0 < 2 ^ b:=Nat.pow_pos (by decide)
 unfold Ab at h
 unfold In
 rw[Nat.pow_succ]
 generalize 2 ^ b=p at *
 omega
theorem In.ab{b:Nat}{x:Int}(h:In b x):Ab b x:=by
 unfold In at h
 unfold Ab
 generalize 2 ^ b=p at *
 omega
theorem In.not{b:Nat}{x:Int}(h:In b x):In b (OQ x):=by
 unfold In at *
 unfold OQ
 generalize 2 ^ b=p at *
 omega
theorem In.nat{b:Nat}{x:Int}(h:In b x):x.toNat < 2 ^ b:=by
 have hp:0 < 2 ^ b:=Nat.pow_pos (by decide)
 unfold In at h
 generalize 2 ^ b=p at *
 omega
theorem pN{x:Int}{m:Nat}(h:0<=x):(0:Int)<=x-((x.toNat &&& m:Nat):Int)/\x-((x.toNat &&& m:Nat):Int)<=x:=by
 have:=Nat.and_le_left (n:=x.toNat) (m:=m)
 omega
theorem In.and{b:Nat}{x y:Int}(hx:In b x)(hy:In b y):In b (Builtin.bitAnd x y):=by
 have h1:=hx.not.nat
 have h2:=hy.not.nat
 have hl:=Nat.and_le_left (n:=x.toNat) (m:=y.toNat)
 have ho:=Nat.or_lt_two_pow h1 h2
 unfold Builtin.bitAnd
 by_cases h:0<=x<;>by_cases g:0<=y
 ·rw[decide_eq_true h,decide_eq_true g]
  unfold In at *
  show -_<=((x.toNat &&& y.toNat:Nat):Int)/\((x.toNat &&& y.toNat:Nat):Int) < _
  generalize 2 ^ b=p at *
  omega
 ·rw[decide_eq_true h,decide_eq_false g]
  have:=pN (m:=(OQ y).toNat) h
  unfold In at *
  show -_<=x-((x.toNat &&& (OQ y).toNat:Nat):Int)/\x-((x.toNat &&& (OQ y).toNat:Nat):Int) < _
  generalize 2 ^ b=p at *
  omega
 ·rw[decide_eq_false h,decide_eq_true g]
  have:=pN (m:=(OQ x).toNat) g
  unfold In at *
  show -_<=y-((y.toNat &&& (OQ x).toNat:Nat):Int)/\y-((y.toNat &&& (OQ x).toNat:Nat):Int) < _
  generalize 2 ^ b=p at *
  omega
 ·rw[decide_eq_false h,decide_eq_false g]
  show In b (OQ (((OQ x).toNat ||| (OQ y).toNat:Nat):Int))
  refine In.not ?_
  unfold In
  generalize 2 ^ b=p at *
  omega
theorem In.or{b:Nat}{x y:Int}(hx:In b x)(hy:In b y):In b (Builtin.bitOr x y):=(hx.not.and hy.not).not
theorem In.xor{b:Nat}{x y:Int}(hx:In b x)(hy:In b y):Ab (b+1) (Builtin.bitXor x y):=(hx.or hy).ab.sub (hx.and hy).ab
theorem Ab.bits{b:Nat}{n:Int}(h:Ab b n):Builtin.Int.intBits n<=b+1:=by
 unfold Builtin.Int.intBits
 split
 ·exact LK _
 ·next hz=>
  have hn:n.natAbs≠0:=by
   intro z
   apply hz
   have:n=0:=by omega
   rw[this];rfl
  have:n.natAbs.log2 < b+1:=(Nat.log2_lt hn).mpr (by
   have hp:0 < 2 ^ b:=Nat.pow_pos (by decide)
   unfold Ab at h
   rw[Nat.pow_succ]
   omega)
  omega
theorem Ab.log{b:Nat}{n:Int}(h:Ab b n):n.natAbs.log2 < b+1:=by
 rcases Nat.eq_zero_or_pos n.natAbs with h0 | hp
 ·rw[h0];exact QP (by decide) (Nat.succ_pos b)
 ·refine(Nat.log2_lt (OG hp)).mpr ?_
  have hp:0 < 2 ^ b:=Nat.pow_pos (by decide)
  unfold Ab at h
  rw[Nat.pow_succ]
  omega
end Rk
namespace L2
open PySem PySem.Spec PyProof.Rows Rk
section
variable {X:Cx}
def DR(i j:Int):Prop:=∃b,Ab b i/\Ab b j/\b<=1000000
theorem wY{b:Nat}(h:b<=1000000):b+1<=2 ^ 20:=by
 have e:(2:Nat) ^ 20=1048576:=by decide
 omega
theorem vP:Jp X (QQ .Mult) (rI DR λi j=>.int (i * j)):=wA λ_ _ _ _ _ _ _ hc q=>
 let ⟨b,h1,h2,h3⟩:=hc
 mul_int q (IntMulOk.of_bits (KZ h1.bits (wY h3)) (KZ h2.bits (wY h3)))
def BN(i j:Int):Prop:=j≠0/\Ab 8000 j
theorem Wd:Jp X (QQ .FloorDiv) (rI BN λi j=>.int (i.fdiv j)):=wA λ_ _ _ _ _ _ _ hc q=>floordiv_int hc.1 q (.inl (PyProof.noPylong_of_log2 (Nat.lt_trans hc.2.log (by decide))))
def CZ(i j:Int):Prop:=0<=j/\j<=1000/\Ab 1000000 i
theorem wD:Jp X (QQ .LShift) (rI CZ λi j=>.int (i * 2 ^ j.toNat)):=wA λ_ _ _ _ _ _ _ hc q=>lshift_int hc.1 (by
 have h:=hc.2.2.bits
 have h2:=hc.2.1
 have e:(2:Int) ^ 27=134217728:=by decide
 omega) q
end
def Xo:List Expr->Option (List Str)
 | []=>some []
 | .Constant (.str x) _ _::es=>(Xo es).map (x :: ·)
 | _=>none
def eB(vs:List V):TA:=λ_ H Q=>Q vs H
theorem Ic{X:Cx}:∀ {es:List Expr} {xs:List Str},Xo es=some xs->PA X es (eB (xs.map V.str))
 | [],xs,h=>by
  cases h
  exact Fw
 | e::es,xs,h=>by
  cases e with
  | Constant c j p=>
   cases c with
   | str x=>
    have h':(Xo es).map (x :: ·)=some xs:=h
    cases e:Xo es with
    | none=>
     rw[e] at h'
     cases h'
    | some ys=>
     rw[e] at h'
     cases h'
     exact Gc Ba (Ic e)
   | _=>cases h
  | _=>cases h
structure CW(X:Cx)(st:OU)(t:TS):Prop where
 ok:PS X st t
structure IC(X:Cx)(es:List Expr)(t:TA):Prop where
 ok:PA X es t
theorem Yk{X:Cx}{es:List Expr}{xs:List Str}(h:Xo es=some xs):IC X es (eB (xs.map V.str)):=⟨Ic h⟩
theorem uW{X:Cx}{i:Nat}{x:Str}{es:List Expr}{t:TA}{pos pos' p2:Pos}(hN:X.N.Nodup)(hi:X.N[i]? = some x)(hx:Loc X.env.scope x)(h:IC X es t)(hf:X.fn x=true∨X.env.scope.names.lookup x=some .local):CW X (.Assign [.Name x pos'] (.List es p2) pos) (Wz (oP t) (Kk i)):=⟨Mw hN hi hx (De h.ok) rfl hf⟩
theorem eK{X:Cx}{st:OU}{rest:List OU}{t:TS}{G:TS->Prop}(h1:CW X st t)(h2:∃u,Hy X rest u/\G (DN t u)):∃t',Hy X (st::rest) t'/\G t':=let ⟨u,a,b⟩:=h2;⟨_,Ac h1.ok a,b⟩
theorem uS{X:Cx}{K:JG}{e:Expr}{ta:TE}{f:Str}{pos:Pos}(he:PE X e ta)(hb:RH e f X.env (PD e X.env)=PD e X.env)(hK:X.K=K:=by rfl):PE X (.Attribute e f pos) (DD K ta f):=by
 subst hK
 exact Cq he hb
def II(K:JG)(C:JO)(tsu:TS)(th:Ends->XS):Ends->XS:=λD σ cls dx H=>∃b,QZ K cls (.ref C)=some b/\if b=true then tsu D σ H else th D σ cls dx H
theorem Qz{X:Cx}{K:JG}{EX:XS}{th:Ends->XS}{hs:List SQ}{C:JO}{c:Str}{np pos:Pos}{b₀:OU}{suite:List OU}{tsu:TS}(hcls:Gl X c)(hm:X.mg c=some (.ref C))(hsu:∀x oe,Hy (Ii X x oe) (b₀::suite) tsu)(hr:PH X hs EX th)(hK:X.K=K:=by rfl)(hdb:(c == ("__debug__" : Str))=false:=by decide):
 PH X (.ExceptHandler (some (.Name c np)) none (b₀::suite) pos::hs) EX (II K C tsu th):=by
 subst hK
 intro σ H s x cls dx T oe oT vs ts D I fx fT a h
 refine eE (ts':=λ_ _=>tsu) hcls hm hsu hr hdb σ H s x cls dx T oe oT vs ts D I fx fT a ?_
 obtain⟨b,hb,h⟩:=h
 refine⟨b,hb,?_⟩
 cases b with
 | true=>rw[if_pos rfl] at h ⊢;exact λ_ _ _ _ _ _=>h
 | false=>rw[if_neg JR] at h ⊢;exact h
end L2
namespace Bk
open PySem L2 Mg Nm Rk
inductive Sm
 | say
 | op (kd:Str) (a:Int)
def Qw:List Str:=["put","plus","times","over","both","any","odd","up","down","part"]
structure xH(kd:Str)(a:Int):Prop where
 mem:kd∈Qw
 lo : -big<=a
 hi:a<=big
 dv:kd = "over" ∨ kd = "part" -> a≠0
 sh:kd = "up" ∨ kd = "down" -> 0<=a/\a<=64
def CY:Sm->Prop
 | .say=>True
 | .op kd a=>xH kd a
def Sm.pr:Sm->Str×List V
 | .say=>("say", [])
 | .op kd a=>(kd,[V.int a])
def yB(kd:Str)(a n:Int):Int:=if kd = "put" then a else if kd = "plus" then n+a else if kd = "times" then n * a else if kd = "over" then n.fdiv a else if kd = "both" then Builtin.bitAnd n a else if kd = "any" then Builtin.bitOr n a else if kd = "odd" then Builtin.bitXor n a else if kd = "up" then n * 2 ^ a.toNat else n / 2 ^ a.toNat
def Sm.out:Sm->Int->List Int
 | .say,n=>[n]
 | .op kd a,n=>if kd = "part" then [n.fmod a] else []
def Sm.nx:Sm->Int->Int
 | .say,n=>n
 | .op kd a,n=>if kd = "part" then n.fdiv a else yB kd a n
theorem xH.ab{kd:Str}{a:Int}(h:xH kd a):Ab 100 a:=rJ h.lo h.hi
theorem BC{kd:Str}{a n:Int}{b:Nat}(h:xH kd a)(hk:kd ≠ "part")(hn:Ab b n)(hb:100<=b):Ab (b+101) (yB kd a n):=by
 have ha:=h.ab.mono hb
 have m:b+1<=b+101:=by omega
 unfold yB
 split
 ·exact ha.mono (by omega)
 split
 ·exact(hn.add ha).mono m
 split
 ·exact(hn.mul h.ab).mono (by omega)
 split
 ·exact hn.fdiv.mono m
 split
 ·exact(hn.inn.and ha.inn).ab.mono m
 split
 ·exact(hn.inn.or ha.inn).ab.mono m
 split
 ·exact(hn.inn.xor ha.inn).mono (by omega)
 split
 ·next hu=>exact hn.up.mono (by have:=h.sh (.inl hu);omega)
 ·exact hn.ediv.mono (by omega)
theorem Sm.nx_ab{s:Sm}{n:Int}{b:Nat}(h:CY s)(hn:Ab b n)(hb:100<=b):Ab (b+101) (s.nx n):=by
 cases s with
 | say=>exact hn.mono (by omega)
 | op kd a=>
  show Ab (b+101) (if kd = "part" then n.fdiv a else yB kd a n)
  split
  ·exact hn.fdiv.mono (by omega)
  ·next hk=>exact BC h hk hn hb
theorem vO(s:Sm)(n:Int):(s.out n).length<=1:=by
 cases s with
 | say=>exact JM _
 | op kd a=>
  show (if kd = "part" then [n.fmod a] else []).length<=1
  split
  ·exact JM _
  ·exact LK _
def Wa(ns:List Int):List V:=ns.map V.int
theorem Oo(ns:List Int):(Wa ns).length=ns.length:=JJ _
theorem Uu(a b:List Int):Wa (a++b)=Wa a++Wa b:=JX
def Mv:Sp:=λvs H Q _=>∃(n:Int)(kd:Str)(a:Int)(b:Nat),vs=[.int n,.str kd,.int a]/\xH kd a/\kd ≠ "part" /\ Ab b n/\b<=900000/\Q (.int (yB kd a n)) H
def Tz:Sp:=λvs H Q _=>∃(t sa:JO)(n:Int)(s:Sm)(ns:List Int)(b:Nat),vs=[.ref t,.int n,.ref sa]/\H t=some (.tup (.str s.pr.1::s.pr.2))/\CY s/\Ab b n/\b<=900000/\H sa=some (.lst (Wa ns))/\ns.length<=100000 /\
 ∀H',H' sa=some (.lst (Wa (ns++s.out n)))->(∀c,c≠sa->H' c=H c)->Q (.int (s.nx n)) H'
theorem Bq{a b:Str}(h:decide (V.str a=V.str b)=true):a=b:=V.str.inj (of_decide_eq_true h)
theorem Cz{a b:Str}(h:¬ decide (V.str a=V.str b)=true):¬ a=b:=λe=>h (by rw[e];exact decide_eq_true rfl)
section
variable {P:KI} {w:LQ} {K:JG} {mg:Str->Option JH} {base:MV} {f fC:JO} {fd dC:LG}
theorem jX:An ["number","sort","amount"] ["number","sort","amount"] (Ad Pi):=Ez (by decide +kernel)
theorem cW(F:Di K "changed" "changed" Pi f fd)(T:Txt mg):Al P w K mg base Bi 1 f fd ["number","sort","amount"] Mv:=by
 refine F.ok jX (λvs H Q E h=>?_) (λcdv A outer s H vs Q E hr h=>?_)
 ·obtain⟨n,kd,a,b,rfl,_⟩:=h
  rfl
 obtain⟨n,kd,a,b,rfl,ok,hk,hn,hb,q⟩:=h
 refine⟨_,Ac (Ay (Ar Cc (pv 1) Ba (Au _)) (Af (Ao (pv 2))) Ap)
  (Ac (Ay (Ar Cc (pv 1) Ba (Au _)) (Af (Ao (Aq Cm (pv 0) (pv 2)))) Ap)
  (Ac (Ay (Ar Cc (pv 1) Ba (Au _)) (Af (Ao (Aq vP (pv 0) (pv 2)))) Ap)
  (Ac (Ay (Ar Cc (pv 1) Ba (Au _)) (Af (Ao (Aq Wd (pv 0) (pv 2)))) Ap)
  (Ac (Ay (Ar Cc (pv 1) Ba (Au _)) (Af (Ao (Aq AU (pv 0) (pv 2)))) Ap)
  (Ac (Ay (Ar Cc (pv 1) Ba (Au _)) (Af (Ao (Aq ER (pv 0) (pv 2)))) Ap)
  (Ac (Ay (Ar Cc (pv 1) Ba (Au _)) (Af (Ao (Aq AY (pv 0) (pv 2)))) Ap)
  (Ac (Ay (Ar Cc (pv 1) Ba (Au _)) (Af (Ao (Aq wD (pv 0) (pv 2)))) Ap)
  (Af (Ao (Aq xQ (pv 0) (pv 2))))))))))),?_⟩
 unfold yB at q
 refine⟨_,rfl,rfl,_,rfl,Br (λc=>?_) (λc=>?_)⟩
 ·rw[if_pos (Bq c)] at q
  exact⟨_,rfl,q⟩
 have c1:=Cz c
 rw[if_neg c1] at q
 refine⟨_,rfl,rfl,_,rfl,Br (λc=>?_) (λc=>?_)⟩
 ·rw[if_pos (Bq c)] at q
  exact⟨_,rfl,_,rfl,_,_,rfl,rfl,q⟩
 have c2:=Cz c
 rw[if_neg c2] at q
 refine⟨_,rfl,rfl,_,rfl,Br (λc=>?_) (λc=>?_)⟩
 ·rw[if_pos (Bq c)] at q
  exact⟨_,rfl,_,rfl,_,_,rfl,rfl,⟨max b 100,hn.mono (Nat.le_max_left _ _),ok.ab.mono (Nat.le_max_right _ _),by omega⟩,q⟩
 have c3:=Cz c
 rw[if_neg c3] at q
 refine⟨_,rfl,rfl,_,rfl,Br (λc=>?_) (λc=>?_)⟩
 ·have c':=Bq c
  rw[if_pos c'] at q
  exact⟨_,rfl,_,rfl,_,_,rfl,rfl,⟨ok.dv (.inl c'),ok.ab.mono (by decide)⟩,q⟩
 have c4:=Cz c
 rw[if_neg c4] at q
 refine⟨_,rfl,rfl,_,rfl,Br (λc=>?_) (λc=>?_)⟩
 ·rw[if_pos (Bq c)] at q
  exact⟨_,rfl,_,rfl,_,_,rfl,rfl,q⟩
 have c5:=Cz c
 rw[if_neg c5] at q
 refine⟨_,rfl,rfl,_,rfl,Br (λc=>?_) (λc=>?_)⟩
 ·rw[if_pos (Bq c)] at q
  exact⟨_,rfl,_,rfl,_,_,rfl,rfl,q⟩
 have c6:=Cz c
 rw[if_neg c6] at q
 refine⟨_,rfl,rfl,_,rfl,Br (λc=>?_) (λc=>?_)⟩
 ·rw[if_pos (Bq c)] at q
  exact⟨_,rfl,_,rfl,_,_,rfl,rfl,q⟩
 have c7:=Cz c
 rw[if_neg c7] at q
 refine⟨_,rfl,rfl,_,rfl,Br (λc=>?_) (λc=>?_)⟩
 ·have c':=Bq c
  rw[if_pos c'] at q
  have z:=ok.sh (.inl c')
  exact⟨_,rfl,_,rfl,_,_,rfl,rfl,⟨z.1,by omega,hn.mono (by omega)⟩,q⟩
 have c8:=Cz c
 rw[if_neg c8] at q
 have hd:kd = "down" := by
  have m:=ok.mem
  unfold Qw at m
  simp only[JT,KL,or_false] at m
  rcases m with h | h | h | h | h | h | h | h | h | h
  ·exact absurd h c1
  ·exact absurd h c2
  ·exact absurd h c3
  ·exact absurd h c4
  ·exact absurd h c5
  ·exact absurd h c6
  ·exact absurd h c7
  ·exact absurd h c8
  ·exact h
  ·exact absurd h hk
 exact⟨_,rfl,_,rfl,_,_,rfl,rfl,(ok.sh (.inr hd)).1,q⟩
theorem AI:An ["step","number","said"] ["step","number","said"] (Ad qQ):=Ez (by decide +kernel)
theorem vE(F:Di K "reckoned" "reckoned" qQ f fd)(T:Txt mg)(GC:Al P w K mg base Bi 1 fC dC ["number","sort","amount"] Mv)(kC:JV K (.ref fC)=true)(bC:Binds K dC ["number","sort","amount"] [])(mC:mg "changed" = some (.ref fC)):Al P w K mg base Bi 2 f fd ["step","number","said"] Tz:=by
 refine F.ok AI (λvs H Q E h=>?_) (λcdv A outer s H vs Q E hr h=>?_)
 ·obtain⟨t,sa,n,s,ns,b,rfl,_⟩:=h
  rfl
 obtain⟨t,sa,n,s,ns,b,rfl,ht,ok,hn,hb,hs,hl,q⟩:=h
 refine⟨_,Ac (Ay (Ar Cc (As Ax (pv 0) Ae (λ_ _=>rfl)) Ba (Au _))
  (Ac (Bx (Ll MO MS MR Ed (pv 2) (Du (pv 1)))) (Af (Ao (pv 1)))) Ap)
  (Ac (Ay (Ar Cc (As Ax (pv 0) Ae (λ_ _=>rfl)) Ba (Au _))
   (Ac (Bx (Ll MO MS MR Ed (pv 2) (Du (Aq sY (pv 1) (As Ax (pv 0) Ae (λ_ _=>rfl))))))
   (Af (Ao (Aq Wd (pv 1) (As Ax (pv 0) Ae (λ_ _=>rfl)))))) Ap)
  (Af (Ao (Cf GC hr mC kC bC (Iz (pv 1) (As Ax (pv 0) Ae (λ_ _=>rfl)) (As Ax (pv 0) Ae (λ_ _=>rfl))))))),?_⟩
 have hls:(Wa ns).length < JQ:=by rw[Oo,KS];omega
 cases s with
 | say=>
  have at0:Jb [V.str "say"] 0=some (.str "say"):=Bc (j:=0) rfl
  refine⟨_,rfl,t,_,_,_,rfl,rfl,Ck.of ht,at0,rfl,_,rfl,Jn ?_⟩
  refine⟨_,rfl,.inl ⟨rfl,_,Aw.of hs⟩,_,rfl,sa,_,_,rfl,rfl,hs,hls,?_⟩
  refine⟨_,rfl,q _ ?_ λc hc=>Aj hc⟩
  rw[Aa,Uu]
  rfl
 | op kd a=>
  have at0:Jb [V.str kd,V.int a] 0=some (.str kd):=Bc (j:=0) rfl
  have at1:Jb [V.str kd,V.int a] 1=some (.int a):=Bc (j:=1) rfl
  have okA:xH kd a:=ok
  have ns_:kd ≠ "say" := λz=>by
   have m:=okA.mem
   rw[z] at m
   revert m
   decide +kernel
  refine⟨_,rfl,t,_,_,_,rfl,rfl,Ck.of ht,at0,rfl,_,rfl,Br (λc=>absurd (Bq c) ns_) (λ_=>?_)⟩
  refine⟨_,rfl,t,_,_,_,rfl,rfl,Ck.of ht,at0,rfl,_,rfl,Br (λc=>?_) (λc=>?_)⟩
  ·have c':=Bq c
   have a0:=okA.dv (.inr c')
   have e1:(Sm.op kd a).out n=[n.fmod a]:=if_pos c'
   have e2:(Sm.op kd a).nx n=n.fdiv a:=if_pos c'
   rw[e1,e2] at q
   refine⟨_,rfl,.inl ⟨rfl,_,Aw.of hs⟩,_,rfl,_,rfl,t,_,_,_,rfl,rfl,Ck.of ht,at1,_,_,rfl,rfl,a0,sa,_,_,rfl,rfl,hs,hls,?_⟩
   have nts:t≠sa:=Cd ht hs (by intro z;cases z)
   refine⟨_,rfl,_,rfl,t,_,_,_,rfl,rfl,Ck.of (by rw[Aj nts];exact ht),at1,_,_,rfl,rfl,⟨a0,okA.ab.mono (by decide)⟩,?_⟩
   refine q _ ?_ λc hc=>Aj hc
   rw[Aa,Uu]
   rfl
  ·have c':=Cz c
   have e1:(Sm.op kd a).out n=[]:=if_neg c'
   have e2:(Sm.op kd a).nx n=yB kd a n:=if_neg c'
   rw[e1,e2] at q
   refine⟨_,rfl,_,rfl,t,_,_,_,rfl,rfl,Ck.of ht,at0,_,rfl,t,_,_,_,rfl,rfl,Ck.of ht,at1,n,kd,a,b,rfl,okA,c',hn,hb,?_⟩
   exact q H (by rw[MD];exact hs) λc _=>rfl
end
end Bk
namespace L2
open PySem PySem.Spec PyProof.Rows PySem.W
section
variable {prog:KI} {w:LQ} {A:LM} {E:JH->JL->Prop} {s:JL} {K:JG} {C x:JO} {ox:Obj} {odo:Option Obj}
end
end L2
namespace L2
open PySem PySem.Spec PyProof.Rows
structure Sa(k:Nat)(A:LM):Prop where
 dp:A.depth+3 * k+5 < recursionLimit
 un:A.units+16 * k+200 < cLine
theorem Co.caught{k:Nat}{A:LM}(r:Co k A)(v:Option JH):Sa k (A.mark v):=⟨r.dp,r.un⟩
theorem Sa.calmed{k:Nat}{A:LM}(r:Sa k A):Co k { A with handled:=none }:=⟨r.dp,r.un⟩
abbrev Cx.stirred(X:Cx):Cx:={ X with calm:=false,sx:=false }
structure Su(P:KI)(w:LQ)(K:JG)(mg:Str->Option JH)(base:MV)(k:Nat)(f:JO)(fd:LG)(ps:List Str)(sp:Sp):Prop where
 len:∀vs H Q E,sp vs H Q E->vs.length=ps.length
 run:∀(A:LM)(outer:List Env)(s:JL)(H:Hp)(args:Args)(us:List JH)(vs:List V)(Q:VK)(E:XK),Sa k A->Vc P w K mg base A outer s H->BindsTo s fd args (ps.zip us)->Bb vs us->sp vs H Q E ->
  RZ (LB P w) A (.call (.ref f) args) (CR Bi outer P w H s Q E) s
section
variable {X:Cx} {k:Nat} {f:JO} {fd:LG} {ps:List Str} {sp:Sp} {dvs:List V} {ds:List JH} {E:XK} {x:Str} {p pos:Pos} {e:Expr} {es:List Expr} {t:TA}
end
section
variable {P:KI} {w:LQ} {K:JG} {mg:Str->Option JH} {base:MV}
theorem Di.okN{x qual:Str}{st:OU}{f:JO}{fd:LG}{N ps:List Str}{k:Nat}{sp:Sp}(F:Di K x qual st f fd)(S:An N ps (Ad st))(len:∀vs H Q E,sp vs H Q E->vs.length=ps.length)(hbody:∀(cdv:JH)(A:LM)(outer:List Env)(s:JL)(H:Hp)(vs:List V)(Q:VK)(E:XK),Sa k (A.deeper (envOfC qual (Ad st) s.heap.objs.size f cdv))->sp vs H Q E ->
  ∃t,Hy (Er Bi P w K mg base N qual (Ad st) f cdv A outer s H E).stirred.nox (Bg st) t/\t { nx:=λ_ H'=>Q .non H',rt:=Q } (start N vs) H):Su P w K mg base (k+1) f fd ps sp:=by
 obtain⟨oc,od,kV,doc,pm,an,cdv,ct,osl,rfl,lk,hcd⟩:=F.ex
 refine⟨len,λA outer s H args us vs Q E hr e0 hb r hsp=>?_⟩
 have hl:=len _ _ _ _ hsp
 have KX:K.In s.heap:=e0.mod.kin.keeps λb o e=>(e0.bs b o e).1
 have lim:s.heap.NoLimit:=e0.mod.nolimit.keeps λb o e=>(e0.bs b o e).1
 have hkind:∀y∈ps.zip us,(Ad st).names.lookup y.1=some .local∨((Ad st).names.lookup y.1=some .cell/\((cellsFrom (s.heap.objs.size+1) (Ad st).names []).lookup y.1).isSome=true):=λ⟨n,v⟩ hy=>by
  rcases S.par n (List.of_mem_zip hy).1 with q | q
  ·exact .inl q
  ·exact .inr ⟨q,PySem.W.cellsFrom_some _ _ _ (.inl q)⟩
 refine codeAny_call_function hr.calmed.depth (KX _ _ lk) rfl S.co S.gen rfl (PySem.W.codeRec_of KX hcd) (hb _ _ _ _ ?_)
 refine wpAny_newFunctionEnv_cells S.kind hkind λenv he s1 x=>?_
 subst he
 refine⟨lim.keeps x.toInCall.keep,codeAny_func ?_⟩
 obtain⟨t,ht,hq⟩:=hbody cdv A outer s H vs Q E ⟨(hr.calmed.deeper (envOfC qual (Ad st) s.heap.objs.size f cdv)).dp,(hr.calmed.deeper (envOfC qual (Ad st) s.heap.objs.size f cdv)).un⟩ hsp
 have J:=Sv (CX:=Bi) (E:=E) (A:={ A with handled:=none }) S (λz=>nomatch z) (.inl rfl) ⟨e0.frames,e0.mod,e0.bs,e0.bsz,e0.funs,e0.frf,e0.hok,e0.bare⟩ hl r x
 have I:Inv (Er Bi P w K mg base N qual (Ad st) f cdv A outer s H E).stirred [] (start N vs) H s1:=
  ⟨⟨J.ok.mod,J.ok.kind,J.ok.glob,J.ok.blt,J.ok.above,J.ok.inj,J.ok.has,J.ok.cab,λz=>absurd z JR,λz=>absurd z JR,J.ok.frames,J.ok.stk,J.ok.exf,J.ok.bs,J.ok.bsz,J.ok.noex,J.ok.exfs,J.ok.funs,J.ok.frf⟩,J.os,J.bare,J.base,J.loc,J.cell,J.free,J.freeC,J.pin,J.hok,J.len⟩
 refine ND (ht.nox [] s1 (start N vs) H _ I hq) (λfl s' hs=>?_) λe s' hs=>hs
 have fin:∀ {σ':St} {H':Hp} {v:V} {u:JH},Inv (Er Bi P w K mg base N qual (Ad st) f cdv A outer s H E).stirred [] σ' H' s'->RelV v u->Q v H'->CE outer P w H s Q u s':=
  λ{σ' H' v u} J rv q=>⟨v,H',J.os,J.bare,J.base,J.hok,rv,q⟩
 cases fl with
 | ret u=>
  obtain⟨v,σ',H',J,rv,q⟩:=hs
  exact fin J rv q
 | next=>
  obtain⟨σ',H',J,q⟩:=hs
  exact fin (v:=V.non) (u:=MY) J rfl q
 | brk=>
  obtain⟨_,_,_,q⟩:=hs
  exact MF q
 | cont=>
  obtain⟨_,_,_,q⟩:=hs
  exact MF q
end
section
variable {X:Cx} {k:Nat} {f C:JO} {fd:LG} {ps:List Str} {sp:Sp} {dvs:List V} {ds:List JH} {m:Str} {pos apos:Pos} {e o:Expr} {es:List Expr} {ta:TE} {t:TA}
theorem lR{pl:Sem Bool}(he:PE X o ta)(c:Wb X.K C)(hm:Dt X.K C m f)(F:Su X.prog X.w X.K X.mg X.base k f fd ps sp)(hr:Sa k X.A)(hb:Binds X.K fd ps ds)(hd:Bb dvs ds)(ha:PA X (e::es) t)(hst:KW (e::es) X.env=(false,PD e X.env)::KW es X.env:=by rfl)(hpl:(QO pos (KW es X.env)).any (·.1)=false:=by rfl)(ht:PD (.Call (.Attribute o m apos) (e::es) [] pos) X.env=(do let ov <- PD o X.env;standAt apos.atName;let (f,first) <- holding [ov] (getMethod ov m pl);callWith pos f first (QO pos (KW (e::es) X.env)) (backToKw pos (QY [] X.env))):=by rfl):
 PE X (.Call (.Attribute o m apos) (e::es) [] pos) (rF C m sp dvs E0 ta t):=by
 intro pins s σ H Q I h
 refine PN (pl:=pl) (Bu (he pins s σ H _ I h) λu s1 ⟨x,H1,I1,rx,a,dx,fs,ex,ea,l,q⟩=>?_) ht
 subst ex
 obtain rfl:u=JZ a:=rx
 refine Fb I1 ea c hm l ?_
 refine NX (first:=[.ref a]) (h₀:=X.base) I.ok.mod.kin hm.kp (Bu (ha pos pins s1 σ H1 _ I1 q) λus s2 ⟨vs,H2,I2,r,q2⟩=>⟨I2.kIn,?_⟩) hst hpl
 have r2:Bb ((.ref a::vs)++dvs) ((.ref a::us)++ds):=Bb.append (.cons rfl r) hd
 have hl:((.ref a::us)++ds).length=ps.length:=by rw[<- r2.length];exact F.len _ _ _ _ q2
 refine SA (PY (F.run X.A X.stack s2 H2 ⟨.ref a::us,[]⟩ ((.ref a::us)++ds) ((.ref a::vs)++dvs) Q E0 hr I2.env0 (hb s2 (.ref a::us) I2.kIn hl) r2 q2) λr s' hq=>?_)
 cases r with
 | error e=>exact MF hq
 | ok fl=>
  cases fl with
  | ret u=>exact I2.after hq
  | next=>exact MF hq
  | brk=>exact MF hq
  | cont=>exact MF hq
end
end L2
namespace Bk
open PySem L2 Mg Nm Rk
def tF(k:Int)(sa:JO):List (Str×V):=[("left", .int k),("said", .ref sa)]
theorem gU(k:Int)(sa:JO):(tF k sa).lookup ("left" : Str)=some (.int k):=by
 unfold tF
 rw[KR,beq_self_eq_true]
theorem Ny(k:Int)(sa:JO):(tF k sa).lookup ("said" : Str)=some (.ref sa):=by
 unfold tF
 rw[KR,show (("said" : Str) == "left")=false by decide +kernel,KR,beq_self_eq_true]
theorem wK{k:Int}{sa:JO}{m:Str}(h:∀x∈(["left","said"]:List Str),m≠x):(tF k sa).lookup m=none:=by
 unfold tF
 rw[KR,beq_false_of_ne (h _ (by simp)),KR,beq_false_of_ne (h _ (by simp))]
 rfl
theorem AK(k:Int)(sa:JO):Ep "said" (.ref sa) (Ep "left" (.int k) [])=tF k sa:=by
 show (if ("left" : Str) = "said" then _ else (("left" : Str),V.int k)::[(("said" : Str),V.ref sa)])=_
 rw[if_neg (by decide +kernel)]
 rfl
theorem Zt(k j:Int)(sa:JO):Ep "left" (.int j) (tF k sa)=tF j sa:=by
 show (if ("left" : Str) = "left" then (("left" : Str),V.int j)::[(("said" : Str),V.ref sa)] else _)=_
 rw[if_pos rfl]
 rfl
theorem Zv(k:Int)(sa sb:JO):Ep "said" (.ref sb) (tF k sa)=tF k sb:=by
 show (if ("left" : Str) = "said" then _ else (("left" : Str),V.int k)::(if ("said" : Str) = "said" then [(("said" : Str),V.ref sb)] else _))=_
 rw[if_neg (by decide +kernel),if_pos rfl]
 rfl
structure Vh(K:JG)(mg:Str->Option JH)(CT:JO):Prop where
 cl:Wb K CT
 nLeft:Ei K CT "left"
 nSaid:Ei K CT "said"
 mgT:mg "Tally" = some (.ref CT)
structure aH(K:JG)(mg:Str->Option JH)(CU CS:JO)(bU bS:List JH):Prop where
 exU:Kv K CU bU
 baU:bU.contains (.type "BaseException")=true
 inU:MK K (.ref CU) "__init__" = some (some (.builtin "ValueError.__init__"))
 mgU:mg "Unanswered" = some (.ref CU)
 exS:Kv K CS bS
 baS:bS.contains (.type "BaseException")=true
 inS:MK K (.ref CS) "__init__" = some (some (.builtin "ValueError.__init__"))
 mgS:mg "Spent" = some (.ref CS)
 uu:QZ K (.ref CU) (.ref CU)=some true
 su:QZ K (.ref CS) (.ref CU)=some false
structure Rg(M H:Hp)(CT tq dt sa:JO)(k:Nat)(sd:List Int):Prop where
 same:Am M H
 mq:M tq=none
 ms:M sa=none
 hq:H tq=some (.ins CT dt (tF (k:Int) sa))
 hs:H sa=some (.lst (Wa sd))
theorem Rg.upd{M H H':Hp}{CT tq dt sa:JO}{k:Nat}{sd sd':List Int}(C:Rg M H CT tq dt sa k sd)(h1:H' sa=some (.lst (Wa sd')))(h2:∀c,c≠sa->H' c=H c):Rg M H' CT tq dt sa k sd':=by
 have nqs:tq≠sa:=Cd C.hq C.hs (by intro z;cases z)
 refine⟨λb o e=>?_,C.mq,C.ms,by rw[h2 tq nqs];exact C.hq,h1⟩
 have:b≠sa:=λz=>by rw[z,C.ms] at e;cases e
 rw[h2 b this]
 exact C.same b o e
section
variable (CT CS:JO)
def Vs:Sp:=λvs H Q _=>∃(q dx:JO)(k:Int),vs=[.ref q,.int k]/\H q=some (.ins CT dx [])/\∀(sa:JO)(H':Hp),H sa=none->H' q=some (.ins CT dx (tF k sa))->H' sa=some (.lst [])->(∀c o,H c=some o->c≠q->H' c=some o)->Q .non H'
def Oh:Sp:=λvs H Q E=>∃(M:Hp)(tq dt sa:JO)(k:Nat)(sd:List Int),vs=[.ref tq]/\Rg M H CT tq dt sa k sd/\(k=0->∀H':Hp,Am M H'->E (.ref CS) none H')/\∀k',k=k'+1->∀H':Hp,Rg M H' CT tq dt sa k' sd->Q .non H'
def To:Sp:=λvs H Q _=>∃(M:Hp)(tq dt sa:JO)(k:Nat)(sd t:List Int),vs=[.ref tq,.int (sd.length:Int)]/\Rg M H CT tq dt sa k (sd++t)/\∀(H':Hp)(sb:JO),Rg M H' CT tq dt sb k sd->Q .non H'
end
section
variable {P:KI} {w:LQ} {K:JG} {mg:Str->Option JH} {base:MV} {f CT CU CS:JO} {fd:LG} {bU bS:List JH}
theorem tS:An ["self","left"] ["self","left"] (Ad Zw):=Ez (by decide +kernel)
theorem qG(F:Di K "__init__" "Tally.__init__" Zw f fd)(T:Vh K mg CT):Al P w K mg base Bi 1 f fd ["self","left"] (Vs CT):=by
 refine F.ok tS (λvs H Q E h=>?_) (λcdv A outer s H vs Q E hr h=>?_)
 ·obtain⟨q,dx,k,rfl,_⟩:=h
  rfl
 obtain⟨q,dx,k,rfl,hq,g⟩:=h
 refine⟨_,Ac (Gn (pv 0) (pv 1) rfl) (Af (Gn (pv 0) (De Fw) rfl)),?_⟩
 refine⟨_,rfl,_,rfl,q,CT,dx,[],rfl,hq,T.cl,T.nLeft,(by show 0 < 1000;decide),?_⟩
 refine⟨by show 0<=JQ;decide,λsa hsa=>?_⟩
 have nq:q≠sa:=λz=>by rw[<- z,Aa] at hsa;cases hsa
 have hsa':H sa=none:=by rw[Aj (LL nq)] at hsa;exact hsa
 refine⟨_,rfl,q,CT,dx,_,rfl,(by rw[Aj nq];exact Aa),T.cl,T.nSaid,QP (Fm _ _ _) (by show 1 < 1000;decide),?_⟩
 refine g sa _ hsa' (by rw[Aa,AK]) (by rw[Aj (LL nq),Aa]) λc o e hc=>?_
 rw[Aj hc,Aj (Ai e hsa'),Aj hc]
 exact e
theorem vV:An ["self"] ["self"] (Ad Zu):=Ez (by decide +kernel)
theorem qZ(F:Di K "enter" "Tally.enter" Zu f fd)(T:Vh K mg CT)(X:aH K mg CU CS bU bS):Al P w K mg base (Gk P w) 1 f fd ["self"] (Oh CT CS):=by
 refine F.okX vV (λvs H Q E h=>?_) (λcdv A outer s H vs Q E hr h=>?_)
 ·obtain⟨M,tq,dt,sa,k,sd,rfl,_⟩:=h
  rfl
 obtain⟨M,tq,dt,sa,k,sd,rfl,C,g0,g1⟩:=h
 refine⟨_,Ac (Ay (Ar Cc (Cq (pv 0) rfl) Ae (Au _)) (Af (Yi rfl X.exS X.baS X.inS rfl X.mgS (Du Ba))) Ap)
  (Af (Gn (pv 0) (Aq Jo (Cq (pv 0) rfl) Ae) rfl)),?_⟩
 refine⟨_,rfl,tq,CT,dt,_,_,rfl,C.hq,T.cl,T.nLeft,gU _ _,rfl,_,rfl,Br (λc=>?_) (λc=>?_)⟩
 ·have hk0:(k:Int)=0:=V.int.inj (of_decide_eq_true c)
  exact⟨by show 1<=JQ;decide,g0 (by omega) H C.same⟩
 obtain⟨k',rfl⟩:∃k',k=k'+1:=by
  cases k with
  | zero=>exact absurd (decide_eq_true rfl) c
  | succ k'=>exact⟨k',rfl⟩
 refine⟨_,rfl,tq,CT,dt,_,_,rfl,C.hq,T.cl,T.nLeft,gU _ _,_,_,rfl,rfl,_,rfl,tq,CT,dt,_,rfl,C.hq,T.cl,T.nLeft,(by show 2 < 1000;decide),?_⟩
 rw[Zt]
 have ek:((k'+1:Nat):Int)-1=(k':Int):=by omega
 rw[ek]
 have nsq:sa≠tq:=Cd C.hs C.hq (by intro z;cases z)
 refine g1 k' rfl _ ⟨λb' o hb=>?_,C.mq,C.ms,Aa,by rw[Aj nsq];exact C.hs⟩
 rw[Aj (λz=>by rw[z,C.mq] at hb;cases hb)]
 exact C.same _ _ hb
theorem zZ:An ["self","length"] ["self","length"] (Ad lV):=Ez (by decide +kernel)
theorem tY(F:Di K "take_back" "Tally.take_back" lV f fd)(T:Vh K mg CT):Su P w K mg base 1 f fd ["self","length"] (To CT):=by
 refine F.okN zZ (λvs H Q E h=>?_) (λcdv A outer s H vs Q E hr h=>?_)
 ·obtain⟨M,tq,dt,sa,k,sd,t,rfl,_⟩:=h
  rfl
 obtain⟨M,tq,dt,sa,k,sd,t,rfl,C,g⟩:=h
 refine⟨_,Af (Gn (pv 0) (Cj El (Cq (pv 0) rfl) Dw (Cy (pv 1))) rfl),?_⟩
 refine⟨_,rfl,tq,CT,dt,_,_,rfl,C.hq,T.cl,T.nSaid,Ny _ _,_,rfl,_,rfl,sa,_,rfl,Aw.of C.hs,λsb hsb=>?_⟩
 have hcut:Fy (Wa (sd++t)) none (some (sd.length:Int))=Wa sd:=by
  unfold Fy
  rw[show HT.sIx (Wa (sd++t)).length (Wa (sd++t)).length (some (sd.length:Int))=min sd.length (Wa (sd++t)).length from HT.sIx_nat _ _ _]
  show ((Wa (sd++t)).drop 0).take (min sd.length (Wa (sd++t)).length-0)=Wa sd
  rw[List.drop_zero,Nat.sub_zero,Uu,JN,Oo,Nat.min_eq_left (QH _ _),List.take_left']
  exact Oo sd
 rw[hcut]
 have nqb:tq≠sb:=Ai C.hq hsb
 refine⟨_,rfl,tq,CT,dt,_,rfl,by rw[Aj nqb];exact C.hq,T.cl,T.nSaid,(by show 2 < 1000;decide),?_⟩
 rw[Zv]
 refine g _ sb ⟨λb' o hb=>?_,C.mq,C.same.free hsb,Aa,by rw[Aj (LL nqb)];exact Aa⟩
 have h1:b'≠tq:=λz=>by rw[z,C.mq] at hb;cases hb
 rw[Aj h1,Aj (Ai (C.same _ _ hb) hsb)]
 exact C.same _ _ hb
end
end Bk
namespace Bk
open PySem L2 Mg Nm
def Mc(W:List (Str×JO)):List (Key×V):=W.map λp=>((KJ p.1:Key),V.ref p.2)
theorem Vj(W:List (Str×JO)):(Mc W).length=W.length:=JJ _
theorem lQ(W:List (Str×JO)):((Mc W).map λkv=>kV kv.1)=Az (W.map (·.1)):=by
 unfold Mc Az
 rw[List.map_map,List.map_map]
 rfl
theorem Vn(W:List (Str×JO))(x:Str):valV (Mc W) (KJ x:Key)=(W.find? λp=>decide (p.1=x)).map λp=>V.ref p.2:=by
 unfold Mc
 induction W with
 | nil=>rfl
 | cons e L ih=>
  rw[LY]
  by_cases h:e.1=x
  ·rw[Cu (show ((KJ e.1:Key),V.ref e.2).1=KJ x by rw[h]),QL (by rw[decide_eq_true h])]
   rfl
  ·rw[Cw (λz=>h (KJ.inj z)),ih,QM (by rw[decide_eq_false h];exact JR)]
def rB(CB CH:JO):Sp:=λvs H Q _=>∃(p d:JO)(L:List Ent)(x:Str)(e:Ent)(W:List (Str×JO)),vs=[.ref p,.str x]/\Be CB CH H p d L/\Hl L x=some e/\e.bd=Mc W/\∀l,H l=none->Q (.ref l) (upd H l (.lst (Az (W.map (·.1)))))
def Ky(CB CH:JO)(ks:List (Str×JO×List Str)):Sp:=λvs H Q _=>∃(p d l:JO)(L:List Ent)(x y:Str)(e:Ent)(ts:List JO)(ss:List (Str×List V)),vs=[.ref p,.str x,.str y,.ref l]/\Be CB CH H p d L/\Hl L x=some e/\Fz y=true/\y.length<=JQ/\H l=some (.lst (ts.map V.ref))/\Dp H ts ss/\Mu ks ss/\e.bd.length<=1000 /\
 ∀(la:JO)(H':Hp),H la=none->H' la=some (.lst (ts.map V.ref))->H' e.ba=some (.dK (putK e.bd (KJ y:Key) (.ref la)))->(∀b o,H b=some o->b≠e.ba->H' b=some o)->Q .non H'
def Pu(CB CH:JO):Sp:=λvs H Q _=>∃(p d:JO)(L:List Ent)(x y:Str)(e:Ent),vs=[.ref p,.str x,.str y]/\Be CB CH H p d L/\Hl L x=some e /\
 ((valV e.bd (KJ y:Key)=none/\Q .non H) ∨ ∃(la:JO)(xs:List V),valV e.bd (KJ y:Key)=some (.ref la)/\H la=some (.lst xs)/\∀l,H l=none->Q (.ref l) (upd H l (.lst xs)))
section
variable {P:KI} {w:LQ} {K:JG} {mg:Str->Option JH} {base:MV} {f fH fN fB CB CH:JO} {fd dH dN dB:LG} {ks:List (Str×JO×List Str)}
theorem qC:An ["self","name","word","bodies"] ["self","name","word"] (Ad qD):=Ez (by decide +kernel)
theorem vC(F:Di K "body" "Book.body" qD f fd)(T:Ha K mg CB CH)(Tx:Txt mg)(GH:Al P w K mg base Bi 1 fH dH ["self","name"] (Ib CB CH))(bH:Binds K dH ["self","name"] [])(mH:Dt K CB "house" fH):Al P w K mg base Bi 2 f fd ["self","name","word"] (Pu CB CH):=by
 refine F.ok qC (λvs H Q E h=>?_) (λcdv A outer s H vs Q E hr h=>?_)
 ·obtain⟨p,d,L,x,y,e,rfl,_⟩:=h
  rfl
 obtain⟨p,d,L,x,y,e,rfl,B,he,q⟩:=h
 obtain⟨dx,hp⟩:=B.ob
 have hu:=Fo hr
 have E:=B.en e (Fx he).1
 refine⟨_,Ac (Bv 3 qC.nd (Cq (Ee (pv 0) T.clB mH GH hr bH .nil Dh (Du (pv 1))) rfl))
  (Ac (Ay (Fu (Ka hu (pv 2) (pv 3))) (Af (Ao lF)) Ap)
  (Af (Ao (Dl Gb rfl Tx.list NQ (Du (Ie hu (pv 3) (pv 2) (λ_ _=>rfl))))))),?_⟩
 refine⟨_,rfl,p,dx,_,rfl,hp,Gs d (by decide +kernel),_,rfl,p,d,L,x,e,rfl,B,he,e.at_,CH,e.dx,_,_,rfl,E.ob,T.clH,T.nBd,qL _ _ _,?_⟩
 refine⟨_,rfl,_,rfl,e.ba,_,rfl,Et.k (k:=KJ y) E.bd,_,rfl,?_⟩
 rcases q with ⟨hv,q⟩ | ⟨la,xs,hv,hla,q⟩
 ·rw[hv]
  exact Jn q
 ·rw[hv]
  refine Eb ?_
  have g:=Et.k (k:=(KJ y:Key)) E.bd
  rw[hv] at g
  exact⟨_,rfl,_,rfl,e.ba,_,rfl,g,la,_,rfl,.inl (Aw.of hla),q⟩
theorem gS:An ["self","name","word","body","house"] ["self","name","word","body"] (Ad aL):=Ez (by decide +kernel)
theorem lJ(F:Di K "teach" "Book.teach" aL f fd)(T:Ha K mg CB CH)(Tx:Txt mg)(GH:Al P w K mg base Bi 1 fH dH ["self","name"] (Ib CB CH))(bH:Binds K dH ["self","name"] [])(mH:Dt K CB "house" fH)(GN:Al P w K mg base Bi 1 fN dN ["value"] Gy)(kN:JV K (.ref fN)=true)(bN:Binds K dN ["value"] [])(mN:mg "is_name" = some (.ref fN))(GB:Al P w K mg base Bi 5 fB dB ["value"] (Qu ks))(kB:JV K (.ref fB)=true)(bB:Binds K dB ["value"] [])(mB:mg "is_body" = some (.ref fB)):Al P w K mg base Bi 6 f fd ["self","name","word","body"] (Ky CB CH ks):=by
 refine F.ok gS (λvs H Q E h=>?_) (λcdv A outer s H vs Q E hr h=>?_)
 ·obtain⟨p,d,l,L,x,y,e,ts,ss,rfl,_⟩:=h
  rfl
 obtain⟨p,d,l,L,x,y,e,ts,ss,rfl,B,he,hy,hyl,el,hst,hgd,hbl,q⟩:=h
 obtain⟨dx,hp⟩:=B.ob
 have hu:=Fo hr
 have hr1:=hr.mono (j:=1) (by decide)
 have E:=B.en e (Fx he).1
 refine⟨_,Ac (Bv 4 gS.nd (Ee (pv 0) T.clB mH GH hr1 bH .nil Dh (Du (pv 1))))
  (Ac (Ay (Hi (Fv (Cf GN hr1 mN kN bN (Du (pv 2))))) Bs Ap)
  (Ac (Ay (Hi (Fv (Cf GB hr mB kB bB (Du (pv 3))))) Bs Ap)
  (Af (Gd hu (Cq (pv 4) rfl) (pv 2) (Dl Gb rfl Tx.list NQ (Du (pv 3))) rfl)))),?_⟩
 refine⟨_,rfl,p,dx,_,rfl,hp,Gs d (by decide +kernel),_,rfl,p,d,L,x,e,rfl,B,he,?_⟩
 refine⟨_,rfl,.str y,rfl,.inr ⟨y,rfl,hyl⟩,λH1 s1=>?_⟩
 rw[show CD (.str y)=true from hy]
 refine⟨_,rfl,Eb ?_⟩
 refine⟨_,rfl,l,ts,ss,rfl,s1 _ _ el,hst.same s1,hgd,λH2 s2=>⟨_,rfl,Eb ?_⟩⟩
 have s3:=s1.trans s2
 refine⟨_,rfl,l,_,rfl,.inl (Aw.of (s3 _ _ el)),λla hla=>?_⟩
 have s4:=Ag hla (.lst (ts.map V.ref))
 have s5:=s3.trans s4
 refine⟨_,rfl,e.at_,CH,e.dx,_,_,rfl,s5 _ _ E.ob,T.clH,T.nBd,qL _ _ _,_,rfl,e.ba,_,rfl,Kr.k (k:=(KJ y:Key)) (s5 _ _ E.bd) (by rw[KS];omega),?_⟩
 have nlb:la≠e.ba:=LL (Ai (s3 _ _ E.bd) hla)
 exact q la _ (s3.free hla) (by rw[Aj nlb];exact Aa) Aa λb o hb hne=>by rw[Aj hne];exact s5 _ _ hb
end
end Bk
namespace Bk
open PySem L2 Mg Nm Rk
def Ul:Sp:=λvs H Q _=>∃n c:Int,vs=[.int n,.int c] /\ -big<=n/\n<=big/\0<=c/\c<=40/\Q .non H
theorem fZ{lo hi n:Int}(h0:lo<=n)(h1:n<=hi):sL lo hi (.int n)=true:=by
 show (decide (lo<=n) && decide (n<=hi))=true
 rw[decide_eq_true h0,decide_eq_true h1]
 rfl
def aF(p ra tq:JO):List (Str×V):=[("book", .ref p),("row", .ref ra),("tally", .ref tq)]
theorem sG(p ra tq:JO):(aF p ra tq).lookup ("book" : Str)=some (.ref p):=by
 unfold aF
 rw[KR,beq_self_eq_true]
theorem lS(p ra tq:JO):(aF p ra tq).lookup ("row" : Str)=some (.ref ra):=by
 unfold aF
 rw[KR,show (("row" : Str) == "book")=false by decide +kernel,KR,beq_self_eq_true]
theorem Ji(p ra tq:JO):(aF p ra tq).lookup ("tally" : Str)=some (.ref tq):=by
 unfold aF
 rw[KR,show (("tally" : Str) == "book")=false by decide +kernel,KR,show (("tally" : Str) == "row")=false by decide +kernel,KR,beq_self_eq_true]
theorem Nb{p ra tq:JO}{m:Str}(h:∀x∈(["book","row","tally"]:List Str),m≠x):(aF p ra tq).lookup m=none:=by
 unfold aF
 rw[KR,beq_false_of_ne (h _ (by simp)),KR,beq_false_of_ne (h _ (by simp)),KR,beq_false_of_ne (h _ (by simp))]
 rfl
theorem xZ(p ra tq:JO):Ep "tally" (.ref tq) (Ep "row" (.ref ra) (Ep "book" (.ref p) []))=aF p ra tq:=by
 have e1:Ep "row" (.ref ra) (Ep "book" (.ref p) [])=[(("book" : Str),V.ref p),("row", .ref ra)]:=by
  show (if ("book" : Str) = "row" then _ else (("book" : Str),V.ref p)::[(("row" : Str),V.ref ra)])=_
  rw[if_neg (by decide +kernel)]
 rw[e1]
 show (if ("book" : Str) = "tally" then _ else (("book" : Str),V.ref p)::(if ("row" : Str) = "tally" then _ else (("row" : Str),V.ref ra)::[(("tally" : Str),V.ref tq)]))=_
 rw[if_neg (by decide +kernel),if_neg (by decide +kernel)]
 rfl
structure Xn(K:JG)(mg:Str->Option JH)(CA:JO):Prop where
 cl:Wb K CA
 nBook:Ei K CA "book"
 nRow:Ei K CA "row"
 nTally:Ei K CA "tally"
 mgA:mg "Asking" = some (.ref CA)
def Ur(CA:JO):Sp:=λvs H Q _=>∃(q p ra tq dx:JO),vs=[.ref q,.ref p,.ref ra,.ref tq]/\H q=some (.ins CA dx [])/\∀H':Hp,H' q=some (.ins CA dx (aF p ra tq))->(∀c o,H c=some o->c≠q->H' c=some o)->Q .non H'
section
variable {P:KI} {w:LQ} {K:JG} {mg:Str->Option JH} {base:MV} {f fW fA CA:JO} {fd dW dA:LG}
theorem uF:An ["number","count"] ["number","count"] (Ad bJ):=Ez (by decide +kernel)
theorem oK(F:Di K "check_question" "check_question" bJ f fd)(T:Txt mg)(GW:Al P w K mg base Bi 1 fW dW ["value","least","most"] Kw)(kW:JV K (.ref fW)=true)(bW:Binds K dW ["value","least","most"] [])(mW:mg "is_whole" = some (.ref fW))(GA:Al P w K mg base Bi 2 fA dA ["value"] Ly)(kA:JV K (.ref fA)=true)(bA:Binds K dA ["value"] [])(mA:mg "is_amount" = some (.ref fA)):Al P w K mg base Bi 3 f fd ["number","count"] Ul:=by
 refine F.ok uF (λvs H Q E h=>?_) (λcdv A outer s H vs Q E hr h=>?_)
 ·obtain⟨n,c,rfl,_⟩:=h
  rfl
 obtain⟨n,c,rfl,n0,n1,c0,c1,q⟩:=h
 have hr1:=hr.mono (j:=1) (by decide)
 refine⟨_,Ac (Ay (Hi (Fv (Cf GA hr mA kA bA (Du (pv 0))))) Bs Ap)
  (Af (Ay (Hi (Fv (Cf GW hr1 mW kW bW (Iz (pv 1) Ae Ae)))) Bs Ap)),?_⟩
 refine⟨_,rfl,.int n,rfl,.inl ⟨n,rfl⟩,?_⟩
 rw[fZ n0 n1]
 refine⟨_,rfl,Eb ?_⟩
 refine⟨_,rfl,.int c,0,40,rfl,.inl ⟨c,rfl⟩,?_⟩
 rw[fZ c0 c1]
 exact⟨_,rfl,Eb q⟩
theorem uH:An ["self","book","row","tally"] ["self","book","row","tally"] (Ad aI):=Ez (by decide +kernel)
theorem oX(F:Di K "__init__" "Asking.__init__" aI f fd)(T:Xn K mg CA):Al P w K mg base Bi 1 f fd ["self","book","row","tally"] (Ur CA):=by
 refine F.ok uH (λvs H Q E h=>?_) (λcdv A outer s H vs Q E hr h=>?_)
 ·obtain⟨q,p,ra,tq,dx,rfl,_⟩:=h
  rfl
 obtain⟨q,p,ra,tq,dx,rfl,hq,g⟩:=h
 refine⟨_,Ac (Gn (pv 0) (pv 1) rfl) (Ac (Gn (pv 0) (pv 2) rfl) (Af (Gn (pv 0) (pv 3) rfl))),?_⟩
 refine⟨_,rfl,_,rfl,q,CA,dx,[],rfl,hq,T.cl,T.nBook,(by show 0 < 1000;decide),?_⟩
 refine⟨_,rfl,_,rfl,q,CA,dx,_,rfl,Aa,T.cl,T.nRow,(by show 1 < 1000;decide),?_⟩
 refine⟨_,rfl,_,rfl,q,CA,dx,_,rfl,Aa,T.cl,T.nTally,QP (Fm _ _ _) (by show 2 < 1000;decide),?_⟩
 refine g _ (by rw[Aa,xZ]) λc o e hc=>?_
 rw[Aj hc,Aj hc,Aj hc]
 exact e
end
inductive Stp
 | sm (s:Sm)
 | onw
 | ask (w:Str)
 | tri (w o:Str)
def nV:Stp->Prop
 | .sm s=>CY s
 | _=>True
def Stp.pr:Stp->Str×List V
 | .sm s=>s.pr
 | .onw=>("onwards", [])
 | .ask w=>("ask", [V.str w])
 | .tri w o=>("try", [V.str w,V.str o])
inductive Res
 | ok (n:Int) (k:Nat) (sd:List Int)
 | una (k:Nat) (sd:List Int)
 | spent
abbrev Gz:=Str->Nat->Int->Nat->List Int->Res
def Nq(R:Gz)(y z:Str)(n:Int)(k:Nat)(sd:List Int):Res:=match R y 0 n k sd with
 | .una k' _=>R z 0 n k' sd
 | .ok a b c=>.ok a b c
 | .spent=>.spent
def Hc(R:Gz)(w:Str)(ix:Nat)(n:Int)(k:Nat)(sd:List Int):Stp->Res
 | .sm s=>.ok (s.nx n) k (sd++s.out n)
 | .onw=>R w (ix+1) n k sd
 | .ask y=>R y 0 n k sd
 | .tri y z=>Nq R y z n k sd
def Dv(R:Gz)(w:Str)(ix:Nat):List Stp->Int->Nat->List Int->Res
 | [],n,k,sd=>.ok n k sd
 | s::ss,n,k,sd=>match Hc R w ix n k sd s with
  | .ok n' k' sd'=>Dv R w ix ss n' k' sd'
  | .una k' sd'=>.una k' sd'
  | .spent=>.spent
abbrev Ci:=Str->Str->Option (List Stp)
def findF(B:Ci)(w:Str):Nat->List Str->Option (Nat×List Stp)
 | _,[]=>none
 | i,y::ys=>match B y w with
  | some b=>some (i,b)
  | none=>findF B w (i+1) ys
def inS(R:Gz)(w:Str)(n:Int)(k:Nat)(sd:List Int)(ix:Nat)(body:List Stp):Res:=match k with
 | 0=>.spent
 | k'+1=>Dv R w ix body n k' sd
def HK(R:Gz)(B:Ci)(rs:List Str):Gz:=λw pl n k sd=>match findF B w pl (rs.drop pl) with
 | none=>.una k sd
 | some (ix,body)=>inS R w n k sd ix body
def En(B:Ci)(rs:List Str):Nat->Gz
 | 0=>λ_ _ _ _ _=>.spent
 | m+1=>HK (En B rs m) B rs
def Goes(b c k:Nat)(sd:List Int):Res->Prop
 | .ok n k' sd'=>k'<=k/\Ab (b+3200 * (k-k')) n/\∃t,sd'=sd++t/\t.length<=c+31 * (k-k')
 | .una k' sd'=>k'<=k/\∃t,sd'=sd++t/\t.length<=c+31 * (k-k')
 | .spent=>True
def GoodR(R:Gz):Prop:=∀y pl n k sd b,Ab b n->100<=b->Goes b 0 k sd (R y pl n k sd)
theorem Goes.step{b c b' c' k k':Nat}{sd t:List Int}{r:Res}(h:Goes b' c' k' (sd++t) r)(hk:k'<=k)(hb:b'<=b+3200 * (k-k'))(hc:c'+t.length<=c+31 * (k-k')):Goes b c k sd r:=by
 cases r with
 | ok n k2 sd2=>
  obtain⟨h1,h2,t2,h3,h4⟩:=h
  refine⟨by omega,h2.mono (by omega),t++t2,by rw[h3,OF],by rw[JN];omega⟩
 | una k2 sd2=>
  obtain⟨h1,t2,h3,h4⟩:=h
  exact⟨by omega,t++t2,by rw[h3,OF],by rw[JN];omega⟩
 | spent=>trivial
theorem pR{R:Gz}(hR:GoodR R){y z:Str}{n:Int}{k:Nat}{sd:List Int}{b:Nat}(hn:Ab b n)(hb:100<=b):Goes b 0 k sd (Nq R y z n k sd):=by
 have h:=hR y 0 n k sd b hn hb
 unfold Nq
 cases e:R y 0 n k sd with
 | ok a c d=>rw[e] at h;exact h
 | spent=>trivial
 | una k' sd'=>
  rw[e] at h
  have h2:=hR z 0 n k' sd b hn hb
  refine Goes.step (t:=[]) (b':=b) (c':=0) (by rw[MD];exact h2) h.1 (by omega) (by simp)
theorem Sb{R:Gz}(hR:GoodR R){w:Str}{ix:Nat}{n:Int}{k:Nat}{sd:List Int}{b:Nat}{s:Stp}(hs:nV s)(hn:Ab b n)(hb:100<=b):Goes (b+101) 1 k sd (Hc R w ix n k sd s):=by
 have up:∀ {r:Res},Goes b 0 k sd r->Goes (b+101) 1 k sd r:=λ{r} h=>Goes.step (t:=[]) (b':=b) (c':=0) (k':=k) (by rw[MD];exact h) (JM _) (by omega) (by simp)
 cases s with
 | sm s=>exact⟨JM _,by rw[Nat.sub_self];exact Sm.nx_ab hs hn hb,_,rfl,by have:=vO s n;omega⟩
 | onw=>exact up (hR _ _ _ _ _ _ hn hb)
 | ask y=>exact up (hR _ _ _ _ _ _ hn hb)
 | tri y z=>exact up (pR hR hn hb)
theorem Pm{R:Gz}(hR:GoodR R){w:Str}{ix:Nat}:∀ {ss:List Stp} {n:Int} {k:Nat} {sd:List Int} {b:Nat},(∀s∈ss,nV s)->Ab b n->100<=b->Goes (b+101 * ss.length) ss.length k sd (Dv R w ix ss n k sd)
 | [],n,k,sd,b,_,hn,_=>⟨JM _,by rw[Nat.sub_self];exact hn,[],by rw[MD],LK _⟩
 | s::ss,n,k,sd,b,hs,hn,hb=>by
  have h:=Sb hR (w:=w) (ix:=ix) (k:=k) (sd:=sd) (hs s JW) hn hb
  show Goes (b+101 * (ss.length+1)) (ss.length+1) k sd (match Hc R w ix n k sd s with
   | .ok n' k' sd'=>Dv R w ix ss n' k' sd'
   | .una k' sd'=>.una k' sd'
   | .spent=>.spent)
  cases e:Hc R w ix n k sd s with
  | ok n' k' sd'=>
   rw[e] at h
   obtain⟨h1,h2,t,rfl,h4⟩:=h
   have ih:=Pm hR (w:=w) (ix:=ix) (k:=k') (sd:=sd++t) (λs hs'=>hs s (JU _ hs')) h2 (by omega)
   exact ih.step h1 (by omega) (by omega)
  | una k' sd'=>
   rw[e] at h
   obtain⟨h1,t,h3,h4⟩:=h
   exact⟨h1,t,h3,by omega⟩
  | spent=>trivial
theorem Ym{B:Ci}{w:Str}:∀ {ys:List Str} {i ix:Nat} {body:List Stp},findF B w i ys=some (ix,body)->∃y∈ys,B y w=some body
 | [],_,_,_,h=>by cases h
 | y::ys,i,ix,body,h=>by
  cases e:B y w with
  | some b=>
   have h':findF B w i (y::ys)=some (i,b):=by show (match B y w with | some b=>some (i,b) | none=>findF B w (i+1) ys)=_;rw[e]
   rw[h'] at h
   cases h
   exact⟨y,JW,e⟩
  | none=>
   have h':findF B w i (y::ys)=findF B w (i+1) ys:=by show (match B y w with | some b=>some (i,b) | none=>findF B w (i+1) ys)=_;rw[e]
   rw[h'] at h
   obtain⟨z,hz,hb⟩:=Ym h
   exact⟨z,JU _ hz,hb⟩
def FZ(B:Ci)(rs:List Str):Prop:=∀y∈rs,∀w ss,B y w=some ss->(∀s∈ss,nV s)/\ss.length<=30
theorem Rb{B:Ci}{rs:List Str}(hB:FZ B rs):∀m,GoodR (En B rs m)
 | 0=>λ_ _ _ _ _ _ _ _=>trivial
 | m+1=>λw pl n k sd b hn hb=>by
  show Goes b 0 k sd (match findF B w pl (rs.drop pl) with
   | none=>.una k sd
   | some (ix,body)=>inS (En B rs m) w n k sd ix body)
  cases e:findF B w pl (rs.drop pl) with
  | none=>exact⟨JM _,[],by rw[MD],by simp⟩
  | some p=>
   obtain⟨ix,body⟩:=p
   obtain⟨y,hy,hb2⟩:=Ym e
   obtain⟨o1,o2⟩:=hB y (PX hy) w body hb2
   cases k with
   | zero=>trivial
   | succ k=>
    have h:=Pm (Rb hB m) (w:=w) (ix:=ix) (k:=k) (sd:=sd) o1 hn hb
    exact Goes.step (t:=[]) (b':=b+101 * body.length) (c':=body.length) (k':=k) (by rw[MD];exact h) (by omega) (by omega) (by simp;omega)
def mask(H:Hp)(q sa:JO):Hp:=λb=>if b=q∨b=sa then none else H b
theorem Xi{H:Hp}{q sa:JO}:Am (mask H q sa) H:=λb o e=>by
 unfold mask at e
 split at e
 ·cases e
 ·exact e
theorem Og{H:Hp}{q sa b:JO}{o:HO}(e:H b=some o)(h1:b≠q)(h2:b≠sa):mask H q sa b=some o:=by
 unfold mask
 rw[if_neg (λz=>z.elim h1 h2)]
 exact e
theorem Rg.masked{M H:Hp}{CT tq dt sa:JO}{k:Nat}{sd:List Int}(C:Rg M H CT tq dt sa k sd):Rg (mask H tq sa) H CT tq dt sa k sd/\Am M (mask H tq sa):=by
 refine⟨⟨Xi,?_,?_,C.hq,C.hs⟩,λb o e=>Og (C.same b o e) (λz=>?_) (λz=>?_)⟩
 ·unfold mask
  rw[if_pos (.inl rfl)]
 ·unfold mask
  rw[if_pos (.inr rfl)]
 ·rw[z,C.mq] at e;cases e
 ·rw[z,C.ms] at e;cases e
structure Xs(CA CB CH:JO)(M:Hp)(q dx tq p d ra:JO)(L:List Ent)(rs:List Str)(B:Ci):Prop where
 ob:M q=some (.ins CA dx (aF p ra tq))
 bk:Be CB CH M p d L
 row:M ra=some (.lst (Az rs))
 rl:rs.length<=1000
 hs:∀y∈rs,∃e,Hl L y=some e
 no:∀y∈rs,∀e w,Hl L y=some e->B y w=none->valV e.bd (KJ w:Key)=none
 yes:∀y∈rs,∀e w ss,Hl L y=some e->B y w=some ss->∃(la:JO)(ts:List JO),valV e.bd (KJ w:Key)=some (.ref la)/\M la=some (.lst (ts.map V.ref))/\Dp M ts (ss.map Stp.pr)
 ok:FZ B rs
theorem Xs.same{CA CB CH:JO}{M M':Hp}{q dx tq p d ra:JO}{L:List Ent}{rs:List Str}{B:Ci}(U:Xs CA CB CH M q dx tq p d ra L rs B)(s:Am M M'):Xs CA CB CH M' q dx tq p d ra L rs B:=
 ⟨s _ _ U.ob,U.bk.same s,s _ _ U.row,U.rl,U.hs,U.no,λy hy e w ss h1 h2=>let ⟨la,ts,a,b,c⟩:=U.yes y hy e w ss h1 h2;⟨la,ts,a,s _ _ b,c.same s⟩,U.ok⟩
def Ux(M:Hp)(CT CU CS tq dt:JO)(Q:VK)(E:XK):Res->Prop
 | .ok n k sd=>∀(H':Hp)(sa:JO),Rg M H' CT tq dt sa k sd->Q (.int n) H'
 | .una k sd=>∀(H':Hp)(sa:JO),Rg M H' CT tq dt sa k sd->E (.ref CU) none H'
 | .spent=>∀H':Hp,Am M H'->E (.ref CS) none H'
structure Fits(b:Nat)(n:Int)(k:Nat)(sd:List Int):Prop where
 ab:Ab b n
 lo:100<=b
 hi:b+3200 * (k+1)<=800000
 len:sd.length+31 * (k+1)<=90000
section
variable (CA CT CB CH CU CS:JO)
def Ra(m:Nat):Sp:=λvs H Q E=>∃(M:Hp)(q dx p d ra tq dt sa:JO)(L:List Ent)(rs:List Str)(B:Ci)(w:Str)(pl:Nat)(n:Int)(k:Nat)(sd:List Int)(b:Nat),
 vs=[.ref q,.str w,.int (pl:Int),.int n]/\Xs CA CB CH M q dx tq p d ra L rs B/\Rg M H CT tq dt sa k sd/\k < m/\pl<=2000/\Fits b n k sd/\Ux M CT CU CS tq dt Q E (En B rs m w pl n k sd)
def wO(m:Nat):Sp:=λvs H Q E=>∃(M:Hp)(q dx p d ra tq dt sa:JO)(L:List Ent)(rs:List Str)(B:Ci)(y z:Str)(n:Int)(k:Nat)(sd:List Int)(b:Nat),
 vs=[.ref q,.str y,.str z,.int n]/\Xs CA CB CH M q dx tq p d ra L rs B/\Rg M H CT tq dt sa k sd/\k < m/\Fits b n k sd/\Ux M CT CU CS tq dt Q E (Nq (En B rs m) y z n k sd)
def wW(m:Nat):Sp:=λvs H Q E=>∃(M:Hp)(q dx p d ra tq dt sa t:JO)(L:List Ent)(rs:List Str)(B:Ci)(w:Str)(ix:Nat)(n:Int)(k:Nat)(sd:List Int)(b:Nat)(s:Stp),
 vs=[.ref q,.ref t,.str w,.int (ix:Int),.int n]/\Xs CA CB CH M q dx tq p d ra L rs B/\Rg M H CT tq dt sa k sd/\M t=some (.tup (.str s.pr.1::s.pr.2))/\nV s/\k < m/\ix < 2000/\Fits b n k sd/\Ux M CT CU CS tq dt Q E (Hc (En B rs m) w ix n k sd s)
def xD(m:Nat):Sp:=λvs H Q E=>∃(M:Hp)(q dx p d ra tq dt sa l:JO)(L:List Ent)(rs:List Str)(B:Ci)(w:Str)(ix:Nat)(n:Int)(k:Nat)(sd:List Int)(b:Nat)(ts:List JO)(ss:List Stp),
 vs=[.ref q,.ref l,.str w,.int (ix:Int),.int n]/\Xs CA CB CH M q dx tq p d ra L rs B/\Rg M H CT tq dt sa k sd/\M l=some (.lst (ts.map V.ref))/\Dp M ts (ss.map Stp.pr)/\(∀s∈ss,nV s)/\ss.length<=30/\k<=m/\ix < 2000/\Fits b n k sd/\Ux M CT CU CS tq dt Q E (inS (En B rs m) w n k sd ix ss)
end
theorem Lj{s:Sm}(h:CY s){x:Str}(hx:x∉(("say" : Str)::Qw)):s.pr.1≠x:=λz=>hx (z ▸ (by
 cases s with
 | say=>exact JW
 | op kd a=>exact JU _ (xH.mem h)))
section
variable {P:KI} {w:LQ} {K:JG} {mg:Str->Option JH} {base:MV} {f fR fB fE fO fC fI fQ fT fN CA CT CB CH CU CS:JO} {fd dR dB dE dO dC dI dQ dT dN:LG} {bU bS:List JH}
theorem jL:An ["self","step","word","index","number"] ["self","step","word","index","number"] (Ad Oe):=Ez (by decide +kernel)
theorem zH{m:Nat}(F:Di K "behind" "Asking.behind" Oe f fd)(T:Xn K mg CA)(TT:Vh K mg CT)(GR:Al P w K mg base Bi 2 fR dR ["step","number","said"] Tz)(kR:JV K (.ref fR)=true)(bR:Binds K dR ["step","number","said"] [])(mR:mg "reckoned" = some (.ref fR))(GQ:Al P w K mg base (Gk P w) (4 * m+3) fQ dQ ["self","word","place","number"] (Ra CA CT CB CH CU CS m))(bQ:Binds K dQ ["self","word","place","number"] [])(mQ:Dt K CA "asked" fQ)(GT:Al P w K mg base (Gk P w) (4 * m+4) fT dT ["self","word","other","number"] (wO CA CT CB CH CU CS m))(bT:Binds K dT ["self","word","other","number"] [])(mT:Dt K CA "tried" fT):
 Al P w K mg base (Gk P w) (4 * m+5) f fd ["self","step","word","index","number"] (wW CA CT CB CH CU CS m):=by
 refine F.okX jL (λvs H Q E h=>?_) (λcdv A outer s H vs Q E hr h=>?_)
 ·obtain⟨M,q,dx,p,d,ra,tq,dt,sa,t,L,rs,B,w,ix,n,k,sd,b,s,rfl,_⟩:=h
  rfl
 obtain⟨M,q,dx,p,d,ra,tq,dt,sa,t,L,rs,B,w,ix,n,k,sd,b,s,rfl,U,C,ht,ok,hk,hix,ft,g⟩:=h
 have hr2:=hr.mono (j:=2) (by omega)
 have hr3:=hr.mono (j:=4 * m+3) (by omega)
 refine⟨_,Ac (Ay (Ar Cc (As Ax (pv 1) Ae (λ_ _=>rfl)) Ba (Au _)) (Af (Ao (Eu (pv 0) T.cl mQ GQ hr3 bQ .nil (Iz (pv 2) (Aq Cm (pv 3) Ae) (pv 4))))) Ap)
  (Ac (Ay (Ar Cc (As Ax (pv 1) Ae (λ_ _=>rfl)) Ba (Au _)) (Af (Ao (Eu (pv 0) T.cl mQ GQ hr3 bQ .nil (Iz (As Ax (pv 1) Ae (λ_ _=>rfl)) Ae (pv 4))))) Ap)
  (Ac (Ay (Ar Cc (As Ax (pv 1) Ae (λ_ _=>rfl)) Ba (Au _)) (Af (Ao (Eu (pv 0) T.cl mT GT hr bT .nil (Iz (As Ax (pv 1) Ae (λ_ _=>rfl)) (As Ax (pv 1) Ae (λ_ _=>rfl)) (pv 4))))) Ap)
  (Af (Ao (Cf GR hr2 mR kR bR (Iz (pv 1) (pv 4) (Cq (Cq (pv 0) rfl) rfl))))))),?_⟩
 have at0:Jb (V.str s.pr.1::s.pr.2) 0=some (.str s.pr.1):=Bc (j:=0) rfl
 have htH:=C.same _ _ ht
 refine⟨_,rfl,t,_,_,_,rfl,rfl,Ck.of htH,at0,rfl,_,rfl,Br (λc=>?_) (λc1=>?_)⟩
 ·have hs:s=.onw:=by
   cases s with
   | sm s=>exact absurd (Bq c) (Lj ok (by decide +kernel))
   | onw=>rfl
   | ask w=>exact absurd (Bq c) (show ¬ ("ask" : Str) = "onwards" by decide +kernel)
   | tri w o=>exact absurd (Bq c) (show ¬ ("try" : Str) = "onwards" by decide +kernel)
  subst hs
  have e1:(ix:Int)+1=((ix+1:Nat):Int):=by omega
  refine⟨_,rfl,q,dx,_,rfl,C.same _ _ U.ob,Nb (by decide +kernel),_,rfl,_,rfl,_,_,rfl,rfl,_,rfl,?_⟩
  exact⟨M,q,dx,p,d,ra,tq,dt,sa,L,rs,B,w,ix+1,n,k,sd,b,by rw[<- e1];rfl,U,C,hk,by omega,ft,g⟩
 refine⟨_,rfl,t,_,_,_,rfl,rfl,Ck.of htH,at0,rfl,_,rfl,Br (λc=>?_) (λc2=>?_)⟩
 ·obtain⟨y,rfl⟩:∃y,s=.ask y:=by
   cases s with
   | sm s=>exact absurd (Bq c) (Lj ok (by decide +kernel))
   | onw=>exact absurd (Bq c) (by decide +kernel)
   | ask w=>exact⟨w,rfl⟩
   | tri w o=>exact absurd (Bq c) (show ¬ ("try" : Str) = "ask" by decide +kernel)
  have at1:Jb [V.str "ask", V.str y] 1=some (.str y):=Bc (j:=1) rfl
  refine⟨_,rfl,q,dx,_,rfl,C.same _ _ U.ob,Nb (by decide +kernel),_,rfl,t,_,_,_,rfl,rfl,Ck.of htH,at1,_,rfl,?_⟩
  exact⟨M,q,dx,p,d,ra,tq,dt,sa,L,rs,B,y,0,n,k,sd,b,rfl,U,C,hk,by omega,ft,g⟩
 refine⟨_,rfl,t,_,_,_,rfl,rfl,Ck.of htH,at0,rfl,_,rfl,Br (λc=>?_) (λc3=>?_)⟩
 ·obtain⟨y,z,rfl⟩:∃y z,s=.tri y z:=by
   cases s with
   | sm s=>exact absurd (Bq c) (Lj ok (by decide +kernel))
   | onw=>exact absurd (Bq c) (by decide +kernel)
   | ask w=>exact absurd (Bq c) (show ¬ ("ask" : Str) = "try" by decide +kernel)
   | tri w o=>exact⟨w,o,rfl⟩
  have at1:Jb [V.str "try", V.str y,V.str z] 1=some (.str y):=Bc (j:=1) rfl
  have at2:Jb [V.str "try", V.str y,V.str z] 2=some (.str z):=Bc (j:=2) rfl
  refine⟨_,rfl,q,dx,_,rfl,C.same _ _ U.ob,Nb (by decide +kernel),_,rfl,t,_,_,_,rfl,rfl,Ck.of htH,at1,_,rfl,t,_,_,_,rfl,rfl,Ck.of htH,at2,_,rfl,?_⟩
  exact⟨M,q,dx,p,d,ra,tq,dt,sa,L,rs,B,y,z,n,k,sd,b,rfl,U,C,hk,ft,g⟩
 obtain⟨s',rfl⟩:∃s',s=.sm s':=by
  cases s with
  | sm s=>exact⟨s,rfl⟩
  | onw=>exact absurd rfl (Cz c1)
  | ask w=>exact absurd rfl (Cz c2)
  | tri w o=>exact absurd rfl (Cz c3)
 have f2:=ft.hi
 have f3:=ft.len
 refine⟨_,rfl,_,rfl,_,rfl,q,CA,dx,_,_,rfl,C.same _ _ U.ob,T.cl,T.nTally,Ji _ _ _,tq,CT,dt,_,_,rfl,C.hq,TT.cl,TT.nSaid,Ny _ _,t,sa,n,s',sd,b,rfl,htH,ok,ft.ab,by omega,C.hs,by omega,λH' h1 h2=>?_⟩
 exact g H' sa (C.upd h1 h2)
theorem gY:An ["self","word","other","number","said_before"] ["self","word","other","number"] (Ad Py):=Ez (by decide +kernel)
theorem yE{m:Nat}(F:Di K "tried" "Asking.tried" Py f fd)(T:Xn K mg CA)(TT:Vh K mg CT)(Tx:Txt mg)(X:aH K mg CU CS bU bS)(GQ:Al P w K mg base (Gk P w) (4 * m+3) fQ dQ ["self","word","place","number"] (Ra CA CT CB CH CU CS m))(bQ:Binds K dQ ["self","word","place","number"] [])(mQ:Dt K CA "asked" fQ)(GN:Su P w K mg base 1 fN dN ["self","length"] (To CT))(bN:Binds K dN ["self","length"] [])(mN:Dt K CT "take_back" fN):
 Al P w K mg base (Gk P w) (4 * m+4) f fd ["self","word","other","number"] (wO CA CT CB CH CU CS m):=by
 refine F.okX gY (λvs H Q E h=>?_) (λcdv A outer s H vs Q E hr h=>?_)
 ·obtain⟨M,q,dx,p,d,ra,tq,dt,sa,L,rs,B,y,z,n,k,sd,b,rfl,_⟩:=h
  rfl
 obtain⟨M,q,dx,p,d,ra,tq,dt,sa,L,rs,B,y,z,n,k,sd,b,rfl,U,C,hk,ft,g⟩:=h
 have hr1:=hr.mono (j:=1) (by omega)
 refine⟨_,Ac (Bv 4 gY.nd (Bw Tx.len (Cq (Cq (pv 0) rfl) rfl)))
  (Ac (Zl (X:=Er (Gk P w) P w K mg base ["self","word","other","number","said_before"] "Asking.tried" (Ad Py) f cdv A outer s H E) (EX:=λ_=>E) Kq (λ_ _ h=>h) (λpn EX1=>Af (Ao (Eu (pv 0) T.cl mQ GQ hr bQ .nil (Iz (pv 1) Ae (pv 3)))))
   (λpn=>Qz (K:=K) rfl X.mgU (λx oe=>Af (Bx (lR (uS (K:=K) (pv 0) rfl) TT.cl mN GN (hr1.caught _) bN .nil (Du (pv 4))))) (aX ⟨rfl,rfl,rfl⟩)))
  (Af (Ao (Eu (pv 0) T.cl mQ GQ hr bQ .nil (Iz (pv 2) Ae (pv 3)))))),?_⟩
 have hgo:=Rb U.ok m y 0 n k sd b ft.ab ft.lo
 unfold Nq at g
 refine⟨_,rfl,q,CA,dx,_,_,rfl,C.same _ _ U.ob,T.cl,T.nTally,Ji _ _ _,tq,CT,dt,_,_,rfl,C.hq,TT.cl,TT.nSaid,Ny _ _,sa,_,rfl,.inl (Aw.of C.hs),?_⟩
 refine⟨_,rfl,q,dx,_,rfl,C.same _ _ U.ob,Nb (by decide +kernel),_,rfl,_,rfl,?_⟩
 refine⟨M,q,dx,p,d,ra,tq,dt,sa,L,rs,B,y,0,n,k,sd,b,rfl,U,C,hk,by omega,ft,?_⟩
 cases e:En B rs m y 0 n k sd with
 | ok a c t=>
  rw[e] at g
  exact g
 | spent=>
  rw[e] at g
  exact λH' hs=>⟨false,X.su,Eb (g H' hs)⟩
 | una k' sd'=>
  rw[e] at g hgo
  obtain⟨hk',t,rfl,_⟩:=hgo
  intro H' sa' C'
  refine⟨true,X.uu,Jn ?_⟩
  refine⟨_,rfl,q,CA,dx,_,_,rfl,C'.same _ _ U.ob,T.cl,T.nTally,Ji _ _ _,tq,dt,_,rfl,C'.hq,wK (by decide +kernel),_,rfl,?_⟩
  refine⟨M,tq,dt,sa',k',sd,t,by rw[Oo];rfl,C',λH2 sb C2=>?_⟩
  refine⟨_,rfl,q,dx,_,rfl,C2.same _ _ U.ob,Nb (by decide +kernel),_,rfl,_,rfl,?_⟩
  have f1:=ft.hi
  have f2:=ft.len
  exact⟨M,q,dx,p,d,ra,tq,dt,sb,L,rs,B,z,0,n,k',sd,b,rfl,U,C2,by omega,by omega,⟨ft.ab,ft.lo,by omega,by omega⟩,g⟩
theorem Kp:An ["self","body","word","index","number","step"] ["self","body","word","index","number"] (Ad Mb):=Ez (by decide +kernel)
theorem yX{m:Nat}(F:Di K "entered" "Asking.entered" Mb f fd)(T:Xn K mg CA)(TT:Vh K mg CT)(X:aH K mg CU CS bU bS)(GB:Al P w K mg base (Gk P w) (4 * m+5) fB dB ["self","step","word","index","number"] (wW CA CT CB CH CU CS m))(bB:Binds K dB ["self","step","word","index","number"] [])(mB:Dt K CA "behind" fB)(GT:Al P w K mg base (Gk P w) 1 fT dT ["self"] (Oh CT CS))(bT:Binds K dT ["self"] [])(mT:Dt K CT "enter" fT):
 Al P w K mg base (Gk P w) (4 * m+6) f fd ["self","body","word","index","number"] (xD CA CT CB CH CU CS m):=by
 refine F.okX Kp (λvs H Q E h=>?_) (λcdv A outer s H vs Q E hr h=>?_)
 ·obtain⟨M,q,dx,p,d,ra,tq,dt,sa,l,L,rs,B,w,ix,n,k,sd,b,ts,ss,rfl,_⟩:=h
  rfl
 obtain⟨M,q,dx,p,d,ra,tq,dt,sa,l,L,rs,B,w,ix,n,k,sd,b,ts,ss,rfl,U,C,hl,hst,hok,h30,hk,hix,ft,g⟩:=h
 have hr1:=hr.mono (j:=1) (by omega)
 refine⟨_,Ac (Bx (iZ (Cq (pv 0) rfl) TT.cl mT GT hr1 bT .nil))
  (Ac (Eh (Wx.passesOwn Kq) rfl (Dk (pv 1)) (Dg 5 Kp.nd)
   (Af (Bv 4 Kp.nd (Eu (pv 0) T.cl mB GB hr bB .nil (rP (pv 5) (pv 2) (pv 3) (pv 4))))))
  (Af (Ao (pv 4)))),?_⟩
 refine⟨_,rfl,q,CA,dx,_,_,rfl,C.same _ _ U.ob,T.cl,T.nTally,Ji _ _ _,tq,dt,_,rfl,C.hq,wK (by decide +kernel),?_⟩
 refine⟨M,tq,dt,sa,k,sd,rfl,C,λhk0=>?_,λk' hk' H1 C1=>?_⟩
 ·subst hk0
  exact g
 subst hk'
 replace g:Ux M CT CU CS tq dt Q E (Dv (En B rs m) w ix ss n k' sd):=g
 have f1:=ft.hi
 have f2:=ft.len
 have f3:=ft.lo
 refine⟨_,rfl,l,rfl,⟨_,Aw.of (C1.same _ _ hl)⟩,Fi (K:=K) (a:=l) (xs:=ts.map V.ref) (λi σ H2=>∃(v5:Option V)(n1:Int)(k1:Nat)(sd1:List Int)(sa1:JO),σ=[some (.ref q),some (.ref l),some (.str w),some (.int (ix:Int)),some (.int n1),v5]/\Rg M H2 CT tq dt sa1 k1 sd1/\k1<=k'/\Ab (b+101 * i+3200 * (k'-k1)) n1/\sd1.length<=sd.length+i+31 * (k'-k1)/\Dv (En B rs m) w ix (ss.drop i) n1 k1 sd1=Dv (En B rs m) w ix ss n k' sd)
  ⟨none,n,k',sd,sa,rfl,C1,JM _,ft.ab.mono (by omega),by omega,rfl⟩ (λi σ H2 _ ⟨_,_,_,_,_,_,C2,_⟩=>Aw.of (C2.same _ _ hl)) ?_ ?_⟩
 ·rintro i v σ H2 hi ⟨v5,n1,k1,sd1,sa1,rfl,C2,hk1,hab,hsl,hdr⟩
  obtain⟨t,ht,rfl⟩:=Ea hi
  have hil:i < ss.length:=by
   have:=(JF.mp ht).1
   rw[hst.1,JJ] at this
   exact this
  have es:ss[i]? = some ss[i]:=JK hil
  have ep:(ss.map Stp.pr)[i]? = some (ss[i]).pr:=by rw[KP,es];rfl
  have et:=hst.2 i t _ ht ep
  have ok:=hok _ (OO hil)
  have edr:ss.drop i=ss[i]::ss.drop (i+1):=MP hil
  rw[edr] at hdr
  generalize ss[i]=s at *
  have hsg:=Sb (Rb U.ok m) (w:=w) (ix:=ix) (k:=k1) (sd:=sd1) ok hab (by omega)
  have hdr2:(match Hc (En B rs m) w ix n1 k1 sd1 s with
   | .ok n' k' sd'=>Dv (En B rs m) w ix (ss.drop (i+1)) n' k' sd'
   | .una k' sd'=>.una k' sd'
   | .spent=>.spent)=Dv (En B rs m) w ix ss n k' sd:=hdr
  refine⟨_,rfl,q,dx,_,rfl,C2.same _ _ U.ob,Nb (by decide +kernel),_,rfl,_,rfl,_,rfl,_,rfl,?_⟩
  refine⟨M,q,dx,p,d,ra,tq,dt,sa1,t,L,rs,B,w,ix,n1,k1,sd1,_,s,rfl,U,C2,et,ok,by omega,hix,⟨hab,by omega,by omega,by omega⟩,?_⟩
  cases e:Hc (En B rs m) w ix n1 k1 sd1 s with
  | ok n2 k2 sd2=>
   rw[e] at hsg hdr2
   obtain⟨g1,g2,t2,rfl,g4⟩:=hsg
   intro H3 sa3 C3
   exact⟨_,n2,k2,_,sa3,rfl,C3,by omega,g2.mono (by omega),by rw[JN];omega,hdr2⟩
  | una k2 sd2=>
   rw[e] at hdr2
   rw[<- hdr2] at g
   exact g
  | spent=>
   rw[e] at hdr2
   rw[<- hdr2] at g
   exact g
 ·rintro σ H2 ⟨v5,n1,k1,sd1,sa1,rfl,C2,hk1,hab,hsl,hdr⟩
  have el:(ts.map V.ref).length=ss.length:=by rw[JJ,hst.1,JJ]
  rw[el,List.drop_length] at hdr
  rw[<- hdr] at g
  exact⟨_,rfl,g H2 sa1 C2⟩
theorem Ux.mono{M M2:Hp}{tq dt:JO}{Q:VK}{E:XK}{r:Res}(h:Ux M CT CU CS tq dt Q E r)(s:Am M M2):Ux M2 CT CU CS tq dt Q E r:=by
 have cm:∀ {H':Hp} {sa:JO} {k:Nat} {sd:List Int},Rg M2 H' CT tq dt sa k sd->Rg M H' CT tq dt sa k sd:=λC=>⟨s.trans C.same,s.free C.mq,s.free C.ms,C.hq,C.hs⟩
 cases r with
 | ok n k sd=>exact λH' sa C=>h H' sa (cm C)
 | una k sd=>exact λH' sa C=>h H' sa (cm C)
 | spent=>exact λH' hs=>h H' (s.trans hs)
theorem aG{B:Ci}{w:Str}{i:Nat}{y:Str}{ys:List Str}:findF B w i (y::ys)=match B y w with | some b=>some (i,b) | none=>findF B w (i+1) ys:=rfl
theorem Lx:An ["self","word","place","number","index","body"] ["self","word","place","number"] (Ad Qs):=Ez (by decide +kernel)
theorem zJ{m:Nat}(F:Di K "asked" "Asking.asked" Qs f fd)(T:Xn K mg CA)(TB:Ha K mg CB CH)(Tx:Txt mg)(X:aH K mg CU CS bU bS)(GE:Al P w K mg base (Gk P w) (4 * m+6) fE dE ["self","body","word","index","number"] (xD CA CT CB CH CU CS m))(bE:Binds K dE ["self","body","word","index","number"] [])(mE:Dt K CA "entered" fE)(GB:Al P w K mg base Bi 2 fB dB ["self","name","word"] (Pu CB CH))(bB:Binds K dB ["self","name","word"] [])(mB:Dt K CB "body" fB):Al P w K mg base (Gk P w) (4 * (m+1)+3) f fd ["self","word","place","number"] (Ra CA CT CB CH CU CS (m+1)):=by
 refine F.okX Lx (λvs H Q E h=>?_) (λcdv A outer s H vs Q E hr h=>?_)
 ·obtain⟨M,q,dx,p,d,ra,tq,dt,sa,L,rs,B,w,pl,n,k,sd,b,rfl,_⟩:=h
  rfl
 obtain⟨M,q,dx,p,d,ra,tq,dt,sa,L,rs,B,w,pl,n,k,sd,b,rfl,U,C,hk,hpl,ft,g⟩:=h
 have hr2:=hr.mono (j:=2) (by omega)
 obtain⟨bx,hp⟩:=U.bk.ob
 refine⟨_,Ac (Eh (Wx.passesOwn Kq) rfl (jV rfl Tx.range (Em (pv 2) (Bw Tx.len (Cq (pv 0) rfl)))) (Dg 4 Lx.nd)
  (Ac (Bv 5 Lx.nd (Ee (Cq (pv 0) rfl) TB.clB mB GB hr2 bB .nil Dh (Em (As Bj (Cq (pv 0) rfl) (pv 4) (λ_ _=>rfl)) (pv 1))))
  (Af (Ay (Fu (Tu (pv 5))) (Af (Ao (Eu (pv 0) T.cl mE GE hr bE .nil (rP (pv 5) (pv 1) (pv 4) (pv 3))))) Ap))))
  (Af (Yi rfl X.exU X.baU X.inU rfl X.mgU (Du Ba))),?_⟩
 have hrow:=C.same _ _ U.row
 have hrl:=U.rl
 have hlen:((Az rs).length:Int)=(rs.length:Int):=by rw[Av]
 refine⟨_,rfl,_,rfl,q,CA,dx,_,_,rfl,C.same _ _ U.ob,T.cl,T.nRow,lS _ _ _,ra,_,rfl,.inl (Aw.of hrow),_,_,rfl,⟨by omega,by omega,by omega,by omega⟩,Hv (n:=(((Az rs).length:Int)-(pl:Int)).toNat) (λi σ H2=>∃v4 v5:Option V,σ=[some (.ref q),some (.str w),some (.int (pl:Int)),some (.int n),v4,v5]/\H2=H/\findF B w (pl+i) (rs.drop (pl+i))=findF B w pl (rs.drop pl)) ⟨none,none,rfl,rfl,rfl⟩ ?_ ?_⟩
 ·rintro i σ H2 hi ⟨v4,v5,rfl,rfl,hf⟩
  have hil:pl+i < rs.length:=by omega
  have e0:(pl:Int)+(i:Int)=((pl+i:Nat):Int):=by omega
  rw[e0]
  have edr:rs.drop (pl+i)=rs[pl+i]::rs.drop (pl+i+1):=MP hil
  have hy:=OO hil
  have aty:Jb (Az rs) ((pl+i:Nat):Int)=some (.str rs[pl+i]):=Bc (Ms (JK hil))
  rw[edr,aG] at hf
  generalize rs[pl+i]=y at *
  obtain⟨e,he⟩:=U.hs y hy
  have hpH:=C.same _ _ hp
  refine⟨_,rfl,q,CA,dx,_,_,rfl,C.same _ _ U.ob,T.cl,T.nBook,sG _ _ _,p,bx,_,rfl,hpH,Gs d (by decide +kernel),?_⟩
  refine⟨_,rfl,q,CA,dx,_,_,rfl,C.same _ _ U.ob,T.cl,T.nRow,lS _ _ _,_,rfl,ra,_,_,_,rfl,rfl,Aw.of hrow,aty,_,rfl,?_⟩
  cases hB:B y w with
  | none=>
   rw[hB] at hf
   refine⟨p,d,L,y,w,e,rfl,U.bk.same C.same,he,.inl ⟨U.no y hy e w he hB,?_⟩⟩
   exact⟨_,rfl,_,rfl,Eb ⟨_,_,rfl,rfl,hf⟩⟩
  | some ss=>
   rw[hB] at hf
   obtain⟨la,ts,hv,hla,hst⟩:=U.yes y hy e w ss he hB
   obtain⟨o1,o2⟩:=U.ok y hy w ss hB
   refine⟨p,d,L,y,w,e,rfl,U.bk.same C.same,he,.inr ⟨la,_,hv,C.same _ _ hla,λl hl=>?_⟩⟩
   refine⟨_,rfl,_,rfl,Jn ?_⟩
   have s1:=Ag hl (.lst (ts.map V.ref))
   have C1:Rg M (upd H2 l (.lst (ts.map V.ref))) CT tq dt sa k sd:=⟨C.same.trans s1,C.mq,C.ms,s1 _ _ C.hq,s1 _ _ C.hs⟩
   obtain⟨C2,s2⟩:=C1.masked
   have hlM:mask (upd H2 l (.lst (ts.map V.ref))) tq sa l=some (.lst (ts.map V.ref)):=Og Aa (LL (Ai C.hq hl)) (LL (Ai C.hs hl))
   refine⟨_,rfl,q,dx,_,rfl,C1.same _ _ U.ob,Nb (by decide +kernel),_,rfl,_,rfl,_,rfl,_,rfl,?_⟩
   refine⟨_,q,dx,p,d,ra,tq,dt,sa,l,L,rs,B,w,pl+i,n,k,sd,b,ts,ss,rfl,U.same s2,C2,hlM,hst.same s2,o1,o2,by omega,by omega,ft,?_⟩
   refine Ux.mono ?_ s2
   have hg:En B rs (m+1) w pl n k sd=inS (En B rs m) w n k sd (pl+i) ss:=by
    show (match findF B w pl (rs.drop pl) with
     | none=>Res.una k sd
     | some (ix,body)=>inS (En B rs m) w n k sd ix body)=_
    rw[<- hf]
   rw[hg] at g
   exact g
 ·rintro σ H2 ⟨v4,v5,rfl,rfl,hf⟩
  have hd0:rs.drop (pl+(((Az rs).length:Int)-(pl:Int)).toNat)=[]:=OB (by omega)
  rw[hd0] at hf
  have hg:En B rs (m+1) w pl n k sd=.una k sd:=by
   show (match findF B w pl (rs.drop pl) with
    | none=>Res.una k sd
    | some (ix,body)=>inS (En B rs m) w n k sd ix body)=_
   rw[<- hf]
   rfl
  rw[hg] at g
  exact⟨by show 1<=JQ;decide,g H2 sa C⟩
theorem uD(F:Di K "asked" "Asking.asked" Qs f fd):Al P w K mg base (Gk P w) 3 f fd ["self","word","place","number"] (Ra CA CT CB CH CU CS 0):=by
 refine F.okX (k:=2) Lx (λvs H Q E h=>?_) (λcdv A outer s H vs Q E hr h=>?_)
 ·obtain⟨M,q,dx,p,d,ra,tq,dt,sa,L,rs,B,w,pl,n,k,sd,b,rfl,_⟩:=h
  rfl
 obtain⟨M,q,dx,p,d,ra,tq,dt,sa,L,rs,B,w,pl,n,k,sd,b,rfl,U,C,hk,_⟩:=h
 omega
theorem eX(FQ:Di K "asked" "Asking.asked" Qs fQ dQ)(bQ:Binds K dQ ["self","word","place","number"] [])(mQ:Dt K CA "asked" fQ)(FE:Di K "entered" "Asking.entered" Mb fE dE)(bE:Binds K dE ["self","body","word","index","number"] [])(mE:Dt K CA "entered" fE)(FB:Di K "behind" "Asking.behind" Oe fB dB)(bB:Binds K dB ["self","step","word","index","number"] [])(mB:Dt K CA "behind" fB)(FT:Di K "tried" "Asking.tried" Py fT dT)(bT:Binds K dT ["self","word","other","number"] [])(mT:Dt K CA "tried" fT){fV:JO}{dV:LG}(GN:Su P w K mg base 1 fN dN ["self","length"] (To CT))(bN:Binds K dN ["self","length"] [])(mN:Dt K CT "take_back" fN)(GV:Al P w K mg base (Gk P w) 1 fV dV ["self"] (Oh CT CS))(bV:Binds K dV ["self"] [])(mV:Dt K CT "enter" fV)(T:Xn K mg CA)(TT:Vh K mg CT)(TB:Ha K mg CB CH)(Tx:Txt mg)(X:aH K mg CU CS bU bS)(GR:Al P w K mg base Bi 2 fR dR ["step","number","said"] Tz)(kR:JV K (.ref fR)=true)(bR:Binds K dR ["step","number","said"] [])(mR:mg "reckoned" = some (.ref fR))(GY:Al P w K mg base Bi 2 fC dC ["self","name","word"] (Pu CB CH))(bY:Binds K dC ["self","name","word"] [])(mY:Dt K CB "body" fC):∀m,Al P w K mg base (Gk P w) (4 * m+3) fQ dQ ["self","word","place","number"] (Ra CA CT CB CH CU CS m)
 | 0=>uD FQ
 | m+1=>by
  have GQ:=eX FQ bQ mQ FE bE mE FB bB mB FT bT mT GN bN mN GV bV mV T TT TB Tx X GR kR bR mR GY bY mY m
  have GT:=yE FT T TT Tx X GQ bQ mQ GN bN mN
  have GB:=zH FB T TT GR kR bR mR GQ bQ mQ GT bT mT
  have GE:=yX FE T TT X GB bB mB GV bV mV
  exact zJ FQ T TB Tx X GE bE mE GY bY mY
end
def zR(k:Nat):Res->Prop
 | .ok _ k' _=>k'<=k
 | .una k' _=>k'<=k
 | .spent=>True
theorem zR.mono{k k':Nat}(h:k<=k'):∀ {r:Res},zR k r->zR k' r
 | .ok _ _ _,z=>KZ z h
 | .una _ _,z=>KZ z h
 | .spent,_=>trivial
def Ws(R:Gz):Prop:=∀w pl n k sd,zR k (R w pl n k sd)
theorem xX{R:Gz}(h:Ws R){y z:Str}{n:Int}{k:Nat}{sd:List Int}:zR k (Nq R y z n k sd):=by
 have h1:=h y 0 n k sd
 unfold Nq
 cases e:R y 0 n k sd with
 | ok a b c=>rw[e] at h1;exact h1
 | una k' s'=>rw[e] at h1;exact(h z 0 n k' sd).mono h1
 | spent=>trivial
theorem Vm{R:Gz}(h:Ws R){w:Str}{ix:Nat}{n:Int}{k:Nat}{sd:List Int}:∀s,zR k (Hc R w ix n k sd s)
 | .sm _=>JM _
 | .onw=>h _ _ _ _ _
 | .ask _=>h _ _ _ _ _
 | .tri _ _=>xX h
theorem Wl{R:Gz}(h:Ws R){w:Str}{ix:Nat}:∀ {ss:List Stp} {n:Int} {k:Nat} {sd:List Int},zR k (Dv R w ix ss n k sd)
 | [],_,_,_=>JM _
 | s::ss,n,k,sd=>by
  have h1:=Vm h (w:=w) (ix:=ix) (n:=n) (k:=k) (sd:=sd) s
  unfold Dv
  cases e:Hc R w ix n k sd s with
  | ok a k' c=>rw[e] at h1;exact(Wl h).mono h1
  | una k' c=>rw[e] at h1;exact h1
  | spent=>trivial
theorem Gf(B:Ci)(rs:List Str)(m:Nat)(w:Str)(pl:Nat)(n:Int)(k:Nat)(sd:List Int):En B rs (m+1) w pl n k sd=match findF B w pl (rs.drop pl) with
 | none=>.una k sd
 | some (ix,body)=>inS (En B rs m) w n k sd ix body:=rfl
theorem Us(B:Ci)(rs:List Str):∀m,Ws (En B rs m)
 | 0=>λ_ _ _ _ _=>trivial
 | m+1=>λw pl n k sd=>by
  rw[Gf]
  cases findF B w pl (rs.drop pl) with
  | none=>exact JM _
  | some p=>
   obtain⟨ix,body⟩:=p
   cases k with
   | zero=>trivial
   | succ k=>exact(Wl (Us B rs m)).mono (ON k)
def Agree(k:Nat)(R R':Gz):Prop:=∀w pl n j sd,j<=k->R w pl n j sd=R' w pl n j sd
theorem Agree.le{k k':Nat}{R R':Gz}(h:Agree k R R')(hk:k'<=k):Agree k' R R':=λw pl n j sd hj=>h w pl n j sd (KZ hj hk)
theorem yH{R R':Gz}{k:Nat}(h:Agree k R R')(hl:Ws R){y z:Str}{n:Int}{sd:List Int}:Nq R y z n k sd=Nq R' y z n k sd:=by
 unfold Nq
 rw[<- h y 0 n k sd (JM _)]
 have h1:=hl y 0 n k sd
 cases e:R y 0 n k sd with
 | ok a b c=>rfl
 | una k' s'=>rw[e] at h1;exact h z 0 n k' sd h1
 | spent=>rfl
theorem tJ{R R':Gz}{k:Nat}(h:Agree k R R')(hl:Ws R){w:Str}{ix:Nat}{n:Int}{sd:List Int}:∀s,Hc R w ix n k sd s=Hc R' w ix n k sd s
 | .sm _=>rfl
 | .onw=>h _ _ _ _ _ (JM _)
 | .ask _=>h _ _ _ _ _ (JM _)
 | .tri _ _=>yH h hl
theorem Pw{R R':Gz}(hl:Ws R){w:Str}{ix:Nat}:∀ {ss:List Stp} {n:Int} {k:Nat} {sd:List Int},Agree k R R'->Dv R w ix ss n k sd=Dv R' w ix ss n k sd
 | [],_,_,_,_=>rfl
 | s::ss,n,k,sd,h=>by
  unfold Dv
  rw[<- tJ h hl s]
  have h1:=Vm hl (w:=w) (ix:=ix) (n:=n) (k:=k) (sd:=sd) s
  cases e:Hc R w ix n k sd s with
  | ok a k' c=>rw[e] at h1;exact Pw hl (h.le h1)
  | una k' c=>rfl
  | spent=>rfl
theorem nF(B:Ci)(rs:List Str):∀(k m m':Nat),k < m->k < m'->Agree k (En B rs m) (En B rs m')
 | k,0,_,h,_=>absurd h (Nat.not_lt_zero _)
 | k,_,0,_,h=>absurd h (Nat.not_lt_zero _)
 | k,m+1,m'+1,h,h'=>λw pl n j sd hj=>by
  rw[Gf,Gf]
  cases findF B w pl (rs.drop pl) with
  | none=>rfl
  | some p=>
   obtain⟨ix,body⟩:=p
   cases j with
   | zero=>rfl
   | succ j=>exact Pw (Us B rs m) (nF B rs j m m' (by omega) (by omega))
termination_by k m m'=>m
def rS(B:Ci)(rs:List Str):Gz:=λw pl n k sd=>En B rs (k+1) w pl n k sd
theorem nO(B:Ci)(rs:List Str){m k:Nat}{w:Str}{pl:Nat}{n:Int}{sd:List Int}(h:k < m):En B rs m w pl n k sd=rS B rs w pl n k sd:=nF B rs k m (k+1) h (QG k) w pl n k sd (JM _)
theorem vW{B:Ci}{rs:List Str}{w:Str}{pl:Nat}(h:findF B w pl (rs.drop pl)=none)(n:Int)(k:Nat)(sd:List Int):rS B rs w pl n k sd=.una k sd:=by
 show En B rs (k+1) w pl n k sd=_
 rw[Gf,h]
theorem tV{B:Ci}{rs:List Str}{w:Str}{pl ix:Nat}{body:List Stp}(h:findF B w pl (rs.drop pl)=some (ix,body))(n:Int)(sd:List Int):rS B rs w pl n 0 sd=.spent:=by
 show En B rs 1 w pl n 0 sd=_
 rw[Gf,h]
 rfl
theorem wH{B:Ci}{rs:List Str}{w:Str}{pl ix:Nat}{body:List Stp}(h:findF B w pl (rs.drop pl)=some (ix,body))(n:Int)(k:Nat)(sd:List Int):rS B rs w pl n (k+1) sd=Dv (rS B rs) w ix body n k sd:=by
 show En B rs (k+2) w pl n (k+1) sd=_
 rw[Gf,h]
 show Dv (En B rs (k+1)) w ix body n k sd=_
 exact Pw (Us B rs _) λw pl n j sd hj=>nO B rs (by omega)
section
variable {B:Ci} {rs:List Str} {w:Str} {pl ix:Nat} {body:List Stp} {t:List Tk} {n:Int} {k:Nat} {sd:List Int}
end
end Bk
namespace Mg
section
variable {α:Type} [DecidableEq α]
def after(rs:List (List α))(xs:List α):List (List α):=xs.foldl (λrs x=>rs.map (Cv x)) rs
theorem cA(rs:List (List α))(xs:List α)(x:α):after rs (xs++[x])=(after rs xs).map (Cv x):=by
 unfold after
 rw[List.foldl_append]
 rfl
def Good(rs:List (List α))(xs:List α):Prop:=∀i x,xs[i]? = some x->pick (cnt (after rs (xs.take i))) (after rs (xs.take i))=some x
theorem kZ(rs:List (List α)):Good rs []:=λi x h=>by simp at h
theorem kU{rs:List (List α)}{xs:List α}{x:α}(g:Good rs xs)(h:pick (cnt (after rs xs)) (after rs xs)=some x):Good rs (xs++[x]):=λi y hy=>by
 by_cases hi:i < xs.length
 ·rw[KN hi] at hy
  rw[List.take_append_of_le_length (by omega)]
  exact g i y hy
 ·by_cases he:i=xs.length
  ·subst he
   rw[KH] at hy
   cases hy
   rw[List.take_append_of_le_length (JM _),List.take_length]
   exact h
  ·rw[List.getElem?_eq_none (by rw[JN,JY];omega)] at hy
   cases hy
theorem Mt{f:α->Nat}:∀ {rs:List (List α)},pick f rs=none->∀r∈rs,∀x t,r=x::t->f x≠0
 | [],_,r,hr,_,_,_=>nomatch hr
 | []::rs,h,r,hr,x,t,e=>by
  rcases JT.mp hr with rfl | hr
  ·cases e
  ·exact Mt (rs:=rs) h r hr x t e
 | (y::u)::rs,h,r,hr,x,t,e=>by
  unfold pick at h
  by_cases hy:f y=0
  ·rw[if_pos hy] at h
   cases h
  ·rw[if_neg hy] at h
   rcases JT.mp hr with rfl | hr
   ·cases e
    exact hy
   ·exact Mt (rs:=rs) h r hr x t e
theorem rX{rs:List (List α)}{x:α}:cnt rs x≠0 ↔ ∃r∈rs,x∈r.tail:=by
 constructor
 ·intro h
  by_cases q:∃r∈rs,x∈r.tail
  ·exact q
  ·exact absurd (Jj.mpr λr hr hx=>q ⟨r,hr,hx⟩) h
 ·rintro⟨r,hr,hx⟩ z
  exact Jj.mp z r hr hx
variable {β:Type}
def So(rs:List (List α))(ls:List β)(x:α×α×β):Prop:=∃(i:Nat)(r:List α),rs[i]? = some (x.1::r)/\x.2.1∈r/\ls[i]? = some x.2.2
structure Vl(rs:List (List α))(ls:List β)(ring:List (α×α×β)):Prop where
 lean:∀x∈ring,So rs ls x
 cyc:∃c T,ring.map (·.1)=c::T/\ring.map (·.2.1)=T++[c]/\(c::T).Nodup/\T≠[]
structure Way(rs:List (List α))(ls:List β)(path:List (α×α×β))(ns:List α)(c:α):Prop where
 lean:∀x∈path,So rs ls x
 fst:path.map (·.1)=(ns++[c]).tail
 snd:path.map (·.2.1)=ns
 nd:ns.Nodup
 hd:∀x∈ns++[c],∃r∈rs,∃t,r=x::t
theorem Way.step{rs:List (List α)}{ls:List β}{path:List (α×α×β)}{ns:List α}{c a:α}{l:β}(w:Way rs ls path ns c)(hc:c∉ns)(hl:So rs ls (a,c,l)):Way rs ls (path++[(a,c,l)]) (ns++[c]) a where
 lean:=λx hx=>by
  rcases KO.mp hx with z | z
  ·exact w.lean x z
  ·rw[JP.mp z];exact hl
 fst:=by
  rw[JX,w.fst]
  show (ns++[c]).tail++[a]=_
  cases ns with
  | nil=>rfl
  | cons n ns=>rfl
 snd:=by
  rw[JX,w.snd]
  rfl
 nd:=by
  rw[OE]
  refine⟨w.nd,by simp,λx hx y hy e=>?_⟩
  rw[JP.mp hy] at e
  exact hc (e ▸ hx)
 hd:=λx hx=>by
  rcases KO.mp hx with z | z
  ·exact w.hd x z
  ·rw[JP.mp z]
   obtain⟨i,r,h1,_,_⟩:=hl
   exact⟨a::r,KD h1,r,rfl⟩
theorem Way.ring{rs:List (List α)}{ls:List β}{path:List (α×α×β)}{ns:List α}{c:α}{j:Nat}(w:Way rs ls path ns c)(hnd:∀r∈rs,r.Nodup)(hj:ns[j]? = some c):Vl rs ls (path.drop j).reverse:=by
 obtain⟨hjl,ej⟩:=JF.mp hj
 have hf:((path.drop j).reverse).map (·.1)=c::(ns.drop (j+1)).reverse:=by
  rw[List.map_reverse,RP,w.fst,List.drop_tail,List.drop_append_of_le_length (by omega),List.reverse_append]
  rfl
 have hs:((path.drop j).reverse).map (·.2.1)=(ns.drop (j+1)).reverse++[c]:=by
  rw[List.map_reverse,RP,w.snd,MP hjl,ej,List.reverse_cons]
 have hcn:c∉ns.drop (j+1):=λhm=>by
  have nd:=w.nd
  rw[<- List.take_append_drop j ns,MP hjl,ej,OE] at nd
  exact(LW.mp nd.2.1).1 hm
 refine⟨λx hx=>w.lean x (PX (List.mem_reverse.mp hx)),c,_,hf,hs,LW.mpr ⟨λz=>hcn (List.mem_reverse.mp z),?_⟩,λz=>?_⟩
 ·exact List.pairwise_reverse.mpr ((List.Sublist.nodup (List.drop_sublist _ _) w.nd).imp λh=>LL h)
 ·-- one leaning alone: its first one would stand behind itself
  rw[z] at hf hs
  cases hp:(path.drop j).reverse with
  | nil=>rw[hp] at hf;cases hf
  | cons x r=>
   rw[hp] at hf hs
   have e1:x.1=c:=(List.cons.inj hf).1
   have e2:x.2.1=c:=(List.cons.inj hs).1
   obtain⟨i,t,h1,h2,_⟩:=w.lean x (PX (List.mem_reverse.mp (by rw[hp];exact JW)))
   rw[e1] at h1
   rw[e2] at h2
   exact(LW.mp (hnd _ (KD h1))).1 h2
theorem Jq:∀(xs ys:List α),xs.Nodup->(∀x∈xs,x∈ys)->xs.length<=ys.length
 | [],_,_,_=>LK _
 | x::xs,ys,h,hs=>by
  obtain⟨h1,h2⟩:=LW.mp h
  have hx:=hs x JW
  have ih:=Jq xs (ys.erase x) h2 λy hy=>(List.mem_erase_of_ne (λe=>h1 (by rw[<- e];exact hy))).mpr (hs y (JU _ hy))
  rw[List.length_erase_of_mem hx] at ih
  have:0 < ys.length:=List.length_pos_of_mem hx
  rw[LU]
  omega
theorem Way.le{rs:List (List α)}{ls:List β}{path:List (α×α×β)}{ns:List α}{c:α}(w:Way rs ls path ns c):ns.length<=rs.length:=by
 have h:=Jq ns ((rs.map λr=>r.head?.toList).flatten) w.nd λx hx=>by
  obtain⟨r,hr,t,e⟩:=w.hd x (ML _ hx)
  exact List.mem_flatten.mpr ⟨[x],LR.mpr ⟨r,hr,by rw[e];rfl⟩,by simp⟩
 have le:∀l:List (List α),((l.map λr=>r.head?.toList).flatten).length<=l.length:=λl=>by
  induction l with
  | nil=>exact JM _
  | cons r l ih=>
   rw[LY,List.flatten_cons,JN,LU]
   have:(r.head?.toList).length<=1:=by cases r<;>simp
   omega
 exact KZ h (le rs)
theorem Way.lt{rs:List (List α)}{ls:List β}{path:List (α×α×β)}{ns:List α}{c:α}(w:Way rs ls path ns c)(hc:c∉ns)(hr:∃a l,So rs ls (a,c,l)):ns.length < rs.length:=by
 obtain⟨a,l,hl⟩:=hr
 have:=(w.step hc hl).le
 rw[JN,JY] at this
 omega
end
end Mg
namespace Bk
open PySem L2 Mg
abbrev Ln:=Str×Str×Str
def BK(x:Ln):List V:=[.str x.1,.str x.2.1,.str x.2.2]
structure Fs(H:Hp)(p:JO)(ts:List JO)(ring:List Ln):Prop where
 lst:H p=some (.lst (ts.map V.ref))
 len:ts.length=ring.length
 at_:∀(m:Nat)(t:JO)(x:Ln),ts[m]? = some t->ring[m]? = some x->H t=some (.tup (BK x))
theorem Fs.same{H H':Hp}{p:JO}{ts:List JO}{ring:List Ln}(R:Fs H p ts ring)(h:Am H H'):Fs H' p ts ring:=⟨h _ _ R.lst,R.len,λi a r h1 h2=>h _ _ (R.at_ i a r h1 h2)⟩
def gB:Sp:=λvs H Q _=>∃(ra:JO)(as:List JO)(rs:List (List Str)),vs=[.ref ra]/\Dc H ra as rs/\rs.length<=1000/\(∃r∈rs,r≠[]) /\
 ∀(x:Str)(r t:List Str)(H':Hp),r∈rs->r=x::t->Am H H'->Q (.str x) H'
def nZ:Sp:=λvs H Q _=>∃(x:Str)(ra la:JO)(as:List JO)(rs:List (List Str))(ls:List Str),vs=[.str x,.ref ra,.ref la]/\Dc H ra as rs/\H la=some (.lst (Az ls))/\ls.length=rs.length/\rs.length<=1000/\(∃r∈rs,x∈r.tail) /\
 ∀(t:JO)(a l:Str)(H':Hp),Am H H'->H' t=some (.tup (BK (a,x,l)))->So rs ls (a,x,l)->Q (.ref t) H'
def Yy:Sp:=λvs H Q _=>∃(ra la:JO)(as:List JO)(rs:List (List Str))(ls:List Str),vs=[.ref ra,.ref la]/\Dc H ra as rs/\H la=some (.lst (Az ls))/\ls.length=rs.length/\rs.length<=1000/\(∃r∈rs,r≠[])/\(∀r∈rs,r.Nodup) /\
 (∀r∈rs,∀x t,r=x::t->cnt rs x≠0)/\∀(p:JO)(ts:List JO)(ring:List Ln)(H':Hp),Am H H'->Fs H' p ts ring->Vl rs ls ring->Q (.ref p) H'
section
variable {P:KI} {w:LQ} {K:JG} {mg:Str->Option JH} {base:MV} {f fF fL:JO} {fd dF dL:LG}
theorem HZ:(["rest"]:List Str).Nodup:=by decide +kernel
theorem sP:An ["rests"] ["rests"] (Ad Pk):=Ez (by decide +kernel)
theorem pI(F:Di K "first_name" "first_name" Pk f fd)(T:Txt mg):Al P w K mg base Bi 1 f fd ["rests"] gB:=by
 refine F.ok sP (λvs H Q E h=>?_) (λcdv A outer s H vs Q E hr h=>?_)
 ·obtain⟨ra,as,rs,rfl,_⟩:=h
  rfl
 obtain⟨ra,as,rs,rfl,R,hn,⟨r0,hr0,ne0⟩,q⟩:=h
 refine⟨_,Af (Ao (As (r:=jJ K) Bj (He (Ad Pk) ["rests"] ["rest"] [] rfl (Dk (pv 0)) (Bm (i:=0) (by decide)) (λ_ _ _ _ _ _=>⟨Dg 0 HZ,Uq (lM (K:=K) (pv 0)),As (r:=jJ K) Bj (pv 0) Ae (λ_ _=>rfl)⟩)) Ae (λ_ _=>rfl))),?_⟩
 refine⟨_,rfl,ra,rfl,⟨_,Aw.of R.lst⟩,Qj (K:=K) (a:=ra) (xs:=as.map V.ref) (λi ys H2=>H2=H/\∃zs:List Str,ys=Az zs/\zs.length<=i/\(∀z∈zs,∃r∈rs,∃t,r=z::t)/\((∃r∈rs.take i,r≠[])->zs≠[]))
  ⟨rfl,[],rfl,JM _,(λz hz=>nomatch hz),λ⟨r,hr',_⟩=>by simp at hr'⟩ (λi ys H2 _ h=>by rw[h.1];exact Aw.of R.lst) ?_ ?_⟩
 ·rintro i y ys H2 hi ⟨rfl,zs,rfl,hz,hz2,hz3⟩
  obtain⟨a,ha,rfl⟩:=Ea hi
  obtain⟨r,hr',er⟩:=R.get ha
  have hil:i < rs.length:=(JF.mp hr').1
  have htk:rs.take (i+1)=rs.take i++[r]:=by rw[MI,hr'];rfl
  refine⟨_,rfl,_,.inl ⟨_,Aw.of er,rfl⟩,?_⟩
  cases hrr:r with
  | nil=>
   refine Eb ⟨rfl,zs,rfl,by omega,hz2,?_⟩
   rw[htk]
   rintro⟨r',hr2,ne⟩
   rcases KO.mp hr2 with z | z
   ·exact hz3 ⟨r',z,ne⟩
   ·rw[JP.mp z] at ne
    exact absurd hrr ne
  | cons x t=>
   rw[hrr] at er
   refine Jn ?_
   refine⟨_,rfl,a,_,_,_,rfl,rfl,Aw.of er,Bc (j:=0) rfl,?_⟩
   refine⟨by rw[Av,KS];omega,rfl,zs++[x],by unfold Az;rw[JX];rfl,by rw[JN,JY];omega,λz hz'=>?_,λ_ e=>?_⟩
   ·rcases KO.mp hz' with z1 | z1
    ·exact hz2 z z1
    ·rw[JP.mp z1]
     exact⟨r,KD hr',t,hrr⟩
   ·exact absurd e (by simp)
 ·rintro ys H2 ⟨rfl,zs,rfl,hz,hz2,hz3⟩ p hp
  have hlen:(as.map V.ref).length=rs.length:=by rw[JJ,R.len]
  rw[hlen,LN (JM _)] at hz3
  cases zs with
  | nil=>exact absurd rfl (hz3 ⟨r0,hr0,ne0⟩)
  | cons x zs=>
   obtain⟨r,hr',t,e⟩:=hz2 x JW
   exact⟨p,_,_,_,rfl,rfl,Aw.of Aa,Bc (j:=0) rfl,q x r t _ hr' e (Ag hp _)⟩
theorem IF:(["rest","label","name"]:List Str).Nodup:=by decide +kernel
theorem yK:An ["name","rests","labels"] ["name","rests","labels"] (Ad Xp):=Ez (by decide +kernel)
theorem uX(F:Di K "leaning_against" "leaning_against" Xp f fd)(T:Txt mg):Al P w K mg base Bi 1 f fd ["name","rests","labels"] nZ:=by
 refine F.ok yK (λvs H Q E h=>?_) (λcdv A outer s H vs Q E hr h=>?_)
 ·obtain⟨x,ra,la,as,rs,ls,rfl,_⟩:=h
  rfl
 obtain⟨x,ra,la,as,rs,ls,rfl,R,el,hll,hn,⟨r0,hr0,hx0⟩,q⟩:=h
 refine⟨_,Af (Ao (As (r:=jJ K) Bj (He (Ad Xp) ["name","rests","labels"] ["rest","label"] [("name", 0)] rfl (Vy rfl T.zip (Em (pv 1) (pv 2)))
  (Kc (K:=K) (Cs (Bm (i:=0) (by decide)) (Cs (Bm (i:=1) (by decide)) Hn)))
  (λ_ _ _ _ _ _=>⟨Jm (n:=2) rfl (Ce (Dg 0 IF) (Ce (Dg 1 IF) Hb)),
   Uq (Ar (r:=FX K false) Hq (pv 2) (Cj (r:=pO K) El (pv 0) (Cy Ae) Dw) rfl),
   Ca (Iz (As (r:=jJ K) Bj (pv 0) Ae (λ_ _=>rfl)) (pv 2) (pv 1))⟩)) Ae (λ_ _=>rfl))),?_⟩
 have inC:∀(y:Str)(zs:List Str),kX (.str y) (Az zs)=decide (y∈zs):=λy zs=>by
  unfold kX Az
  rw[List.any_map]
  by_cases hy:y∈zs
  ·rw[decide_eq_true hy,List.any_eq_true]
   exact⟨y,hy,by show (y == y)=true;exact beq_self_eq_true y⟩
  ·rw[decide_eq_false hy,List.any_eq_false]
   intro z hz e
   have e':(z == y)=true:=e
   exact hy (beq_iff_eq.mp e' ▸ hz)
 have flat:∀zs:List Str,(Az zs).all Lv=true:=λzs=>by
  unfold Az
  rw[List.all_map,QI]
  intro z _
  rfl
 refine⟨_,rfl,_,rfl,ra,la,rfl,⟨_,Aw.of R.lst⟩,⟨_,Aw.of el⟩,Sx (K:=K) (a:=ra) (b:=la) (xs:=as.map V.ref) (zs:=Az ls) (by rw[JJ,Av,R.len,hll])
  (λi ys H2=>Am H H2/\∃ts:List JO,ys=ts.map V.ref/\ts.length<=i/\(∀t∈ts,∃a l,So rs ls (a,x,l)/\H2 t=some (.tup (BK (a,x,l))))/\((∃r∈rs.take i,x∈r.tail)->ts≠[]))
  ⟨Am.refl _,[],rfl,JM _,(λz hz=>nomatch hz),λ⟨r,hr',_⟩=>by simp at hr'⟩ (λi ys H2 _ h=>⟨Aw.of (h.1 _ _ R.lst),Aw.of (h.1 _ _ el)⟩) ?_ ?_⟩
 ·rintro i y z ys H2 Tp hi hz ⟨s2,ts,rfl,hts,ht2,ht3⟩ hT
  obtain⟨a,ha,rfl⟩:=Ea hi
  obtain⟨l,hl,rfl⟩:=Ih hz
  obtain⟨r,hr',er⟩:=R.get ha
  have hil:i < rs.length:=(JF.mp hr').1
  have htk:rs.take (i+1)=rs.take i++[r]:=by rw[MI,hr'];rfl
  have s3:Am H2 (upd H2 Tp (.tup [.ref a,.str l])):=Ag hT _
  have er3:=s3 _ _ (s2 _ _ er)
  refine⟨Tp,_,rfl,Ck.of Aa,rfl,_,_,rfl,_,_,rfl,rfl,?_⟩
  refine⟨_,rfl,_,rfl,_,rfl,a,_,rfl,Aw.of er3,λp hp=>?_⟩
  rw[xR]
  have etl:(Az r).tail=Az r.tail:=by unfold Az;rw[List.map_tail]
  rw[etl]
  have s4:=s3.trans (Ag hp (.lst (Az r.tail)))
  refine⟨p,_,rfl,.inl (Aw.of Aa),rfl,flat _,_,rfl,?_⟩
  rw[if_neg JR,inC]
  refine Br (λc=>?_) (λc=>?_)
  ·have c':x∈r.tail:=of_decide_eq_true c
   cases hrr:r with
   | nil=>rw[hrr] at c';cases c'
   | cons b t=>
    rw[hrr] at c' er3
    have er4:=Ag hp (.lst (Az r.tail)) _ _ er3
    rw[<- hrr]
    refine⟨_,rfl,a,_,_,_,rfl,rfl,Aw.of er4,Bc (j:=0) rfl,_,rfl,_,rfl,(by show 3<=JQ;decide),λtp htp=>?_⟩
    have s5:=s4.trans (Ag htp (.tup (BK (b,x,l))))
    refine⟨by rw[JJ,KS];omega,s2.trans s5,ts++[tp],by rw[JX];rfl,by rw[JN,JY];omega,λt' ht'=>?_,λ_ e=>absurd e (by simp)⟩
    rcases KO.mp ht' with z1 | z1
    ·obtain⟨a',l',h1,h2⟩:=ht2 t' z1
     exact⟨a',l',h1,s5 _ _ h2⟩
    ·rw[JP.mp z1]
     exact⟨b,l,⟨i,t,by rw[hr',hrr],c',hl⟩,Aa⟩
  ·have c':¬ x∈r.tail:=of_decide_eq_false (NK.mpr c)
   refine⟨s2.trans s4,ts,rfl,by omega,λt' ht'=>?_,?_⟩
   ·obtain⟨a',l',h1,h2⟩:=ht2 t' ht'
    exact⟨a',l',h1,s4 _ _ h2⟩
   ·rw[htk]
    rintro⟨r',hr2,hx⟩
    rcases KO.mp hr2 with z1 | z1
    ·exact ht3 ⟨r',z1,hx⟩
    ·rw[JP.mp z1] at hx
     exact absurd hx c'
 ·rintro ys H2 ⟨s2,ts,rfl,hts,ht2,ht3⟩ p hp
  have hlen:(as.map V.ref).length=rs.length:=by rw[JJ,R.len]
  rw[hlen,LN (JM _)] at ht3
  cases ts with
  | nil=>exact absurd rfl (ht3 ⟨r0,hr0,hx0⟩)
  | cons t ts=>
   obtain⟨a,l,h1,h2⟩:=ht2 t JW
   have s3:=Ag (H:=H2) hp (.lst ((t::ts).map V.ref))
   exact⟨p,_,_,_,rfl,rfl,Aw.of Aa,Bc (j:=0) rfl,q t a l _ (s2.trans s3) (s3 _ _ h2) h1⟩
end
section
variable {P:KI} {w:LQ} {K:JG} {mg:Str->Option JH} {base:MV} {f fF fL:JO} {fd dF dL:LG}
structure Xt(kvs:List (Key×V))(ns:List Str):Prop where
 at_:∀(i:Nat)(x:Str),ns[i]? = some x->valV kvs (KJ x:Key)=some (.int (i:Nat))
 no:∀x:Str,x∉ns->valV kvs (KJ x:Key)=none
 len:kvs.length<=ns.length
theorem Xt.put{kvs:List (Key×V)}{ns:List Str}{c:Str}(m:Xt kvs ns)(hc:c∉ns):Xt (putK kvs (KJ c:Key) (.int (ns.length:Nat))) (ns++[c]) where
 at_:=λi x hx=>by
  rw[Fp]
  by_cases hi:i < ns.length
  ·rw[KN hi] at hx
   have:x≠c:=λe=>hc (e ▸ KD hx)
   rw[if_neg (λz:(KJ x:Key)=KJ c=>this (KJ.inj z))]
   exact m.at_ i x hx
  ·have hil:i < (ns++[c]).length:=(JF.mp hx).1
   rw[JN,JY] at hil
   obtain rfl:i=ns.length:=by omega
   rw[KH] at hx
   cases hx
   rw[if_pos rfl]
 no:=λx hx=>by
  rw[KO,not_or] at hx
  rw[Fp,if_neg (λz:(KJ x:Key)=KJ c=>hx.2 (by rw[KJ.inj z];simp))]
  exact m.no x hx.1
 len:=by
  have:=Dm kvs (KJ c:Key) (.int (ns.length:Nat))
  have h2:=m.len
  rw[JN,JY]
  omega
theorem Pa:An ["rests","labels","met","path","name"] ["rests","labels"] (Ad mU):=Ez (by decide +kernel)
theorem Fs.snoc{H:Hp}{p t:JO}{ts:List JO}{path:List Ln}{x:Ln}(L:Fs H p ts path)(ht:H t=some (.tup (BK x))):Fs (upd H p (.lst ((ts++[t]).map V.ref))) p (ts++[t]) (path++[x]) where
 lst:=Aa
 len:=by rw[JN,JN,L.len];rfl
 at_:=λm a y ha hy=>by
  have np:∀ {a:JO} {zs:List V},H a=some (.tup zs)->a≠p:=λ{a zs} e z=>by rw[z,L.lst] at e;cases e
  by_cases hm:m < ts.length
  ·rw[KN hm] at ha
   rw[KN (by rw[<- L.len];exact hm)] at hy
   have e:=L.at_ m a y ha hy
   rw[Aj (np e)]
   exact e
  ·have hml:m < (ts++[t]).length:=(JF.mp ha).1
   rw[JN,JY] at hml
   obtain rfl:m=ts.length:=by omega
   rw[KH] at ha
   rw[L.len,KH] at hy
   cases ha
   cases hy
   rw[Aj (np ht)]
   exact ht
theorem tX(F:Di K "ring_of" "ring_of" mU f fd)(T:Txt mg)(FF:Di K "first_name" "first_name" Pk fF dF)(bF:Binds K dF ["rests"] [])(mF:mg "first_name" = some (.ref fF))(FL:Di K "leaning_against" "leaning_against" Xp fL dL)(bL:Binds K dL ["name","rests","labels"] [])(mL:mg "leaning_against" = some (.ref fL)):Al P w K mg base Je 2 f fd ["rests","labels"] Yy:=by
 have GF:Al P w K mg base Bi 1 fF dF ["rests"] gB:=pI FF T
 have GL:Al P w K mg base Bi 1 fL dL ["name","rests","labels"] nZ:=uX FL T
 refine F.ok1 Pa (λvs H Q E h=>?_) (λcdv A outer s H vs Q E hr h=>?_)
 ·obtain⟨ra,la,as,rs,ls,rfl,_⟩:=h
  rfl
 obtain⟨ra,la,as,rs,ls,rfl,R,el,hll,hn,hne,hnd,hcn,q⟩:=h
 have hu:=Fo hr
 refine⟨_,Ac (Bv 2 Pa.nd Ho)
  (Ac (Bv 3 Pa.nd (De Fw))
  (Ac (Bv 4 Pa.nd (Dj GF hr rfl mF FF.kp bF .nil Dh (Du (pv 0))))
  (Ac (Lw MN (Fu (Ka hu (pv 4) (pv 2)))
   (Ac (Gd hu (pv 2) (pv 4) (Bw T.len (pv 3)) rfl)
   (Ac (Bx (Ll MO MS MR Ed (pv 3) (Du (Dj GL hr rfl mL FL.kp bL .nil Dh (Iz (pv 4) (pv 0) (pv 1))))))
   (Af (Bv 4 Pa.nd (As Ax (As Bj (pv 3) (Jy Gx Ae) (λ_ _=>rfl)) Ae (λ_ _=>rfl)))))))
  (Af (Ao (Dl (Rn rfl) rfl T.list NQ (Du (Dl Ri rfl T.rev boot_reversed (Du (Cj El (pv 3) (Cy (Ie hu (pv 2) (pv 4) (λ_ _=>rfl))) Dw)))))))))),?_⟩
 intro d hd
 have s1:Am H (upd H d (.dK [])):=Ag hd _
 refine⟨(by show 0<=JQ;decide),λpa hpa=>?_⟩
 have s2:Am H (upd (upd H d (.dK [])) pa (.lst [])):=s1.trans (Ag hpa _)
 have npd:pa≠d:=λe=>by rw[e,Aa] at hpa;cases hpa
 have hpa0:H pa=none:=s1.free hpa
 refine⟨_,rfl,ra,as,rs,rfl,R.same s2,hn,hne,λc0 r0 t0 H3 hr0 er0 s3=>?_⟩
 refine⟨λm σ H5=>∃(path:List Ln)(ns:List Str)(c:Str)(kvs:List (Key×V))(ts:List JO),σ=[some (.ref ra),some (.ref la),some (.ref d),some (.ref pa),some (.str c)]/\Am H H5/\H5 d=some (.dK kvs)/\Xt kvs ns/\Fs H5 pa ts path/\Way rs ls path ns c/\m=rs.length-ns.length,
  ⟨_,[],[],c0,[],[],rfl,s2.trans s3,s3 _ _ (by rw[Aj (LL npd)];exact Aa),⟨λi x h=>(by simp at h),λx _=>rfl,JM _⟩,⟨s3 _ _ Aa,rfl,λm t x h=>(by simp at h)⟩,
   ⟨(λx hx=>nomatch hx),rfl,rfl,OV,λx hx=>⟨r0,hr0,t0,by rw[JP.mp hx];exact er0⟩⟩,rfl⟩,?_⟩
 rintro m σ H5 ⟨path,ns,c,kvs,ts,rfl,s5,ed,M,L,W,rfl⟩
 have hpl:path.length=ns.length:=by rw[<- W.snd,JJ]
 refine⟨_,rfl,_,rfl,d,_,rfl,Et.k (k:=KJ c) ed,_,rfl,?_⟩
 by_cases hc:c∈ns
 ·obtain⟨j,hj⟩:=MM hc
  have hv:=M.at_ j c hj
  have hjl:j < ns.length:=(JF.mp hj).1
  rw[hv]
  refine Eb ?_
  -- return list(reversed(path[met[name]:]))
  refine⟨_,rfl,_,rfl,_,rfl,d,.int (j:Nat),rfl,hv ▸ Et.k (k:=KJ c) ed,_,rfl,pa,_,rfl,Aw.of L.lst,λp1 hp1=>?_⟩
  have hcut:Fy (ts.map V.ref) (some ((j:Nat):Int)) none=(ts.drop j).map V.ref:=by
   rw[Ot _ _ (by rw[JJ,L.len,hpl];omega),RP]
  rw[hcut]
  have s6:=Ag (H:=H5) hp1 (.lst ((ts.drop j).map V.ref))
  refine⟨p1,_,rfl,Aw.of Aa,λit hit=>?_⟩
  have n1:p1≠it:=λe=>by rw[e,Aa] at hit;cases hit
  refine⟨it,p1,(ts.drop j).map V.ref,rfl,Aa,Aw.of (by rw[Aj n1];exact Aa),λl hl=>?_⟩
  rw[vI hit]
  have hl':(upd H5 p1 (.lst ((ts.drop j).map V.ref))) l=none:=by
   by_cases e:l=it
   ·rw[e];exact hit
   ·rw[Aj e] at hl;exact hl
  have s7:=s6.trans (Ag hl' (.lst ((ts.drop j).map V.ref).reverse))
  refine q l (ts.drop j).reverse (path.drop j).reverse _ (s5.trans s7) ⟨?_,?_,λm t x h1 h2=>?_⟩ (W.ring hnd hj)
  ·rw[Aa,List.map_reverse]
  ·rw[OY,OY,MW,MW,L.len]
  ·have hm:m < (ts.drop j).length:=by
    have:=(JF.mp h1).1
    rwa [OY] at this
   have hm2:m < (path.drop j).length:=by rw[MW,<- L.len,<- MW];exact hm
   rw[List.getElem?_reverse hm,RQ] at h1
   rw[List.getElem?_reverse hm2,RQ,MW,<- L.len,<- MW] at h2
   exact s7 _ _ (L.at_ _ t x h1 h2)
 ·rw[M.no c hc]
  refine Jn ?_
  obtain⟨r1,hr1,t1,e1⟩:=W.hd c (by simp)
  have hbe:∃r∈rs,c∈r.tail:=rX.mp (hcn r1 hr1 c t1 e1)
  refine⟨λσ' H'=>∃m',m' < rs.length-ns.length/\∃(path:List Ln)(ns:List Str)(c:Str)(kvs:List (Key×V))(ts:List JO),σ'=[some (.ref ra),some (.ref la),some (.ref d),some (.ref pa),some (.str c)]/\Am H H'/\H' d=some (.dK kvs)/\Xt kvs ns/\Fs H' pa ts path/\Way rs ls path ns c/\m'=rs.length-ns.length,λσ' H' h=>h,?_⟩
  have hle:=W.le
  have hkl:=M.len
  -- met[name]=len(path)
  refine⟨_,rfl,pa,_,rfl,.inl (Aw.of L.lst),_,rfl,_,rfl,d,_,rfl,Kr.k (k:=KJ c) ed (by rw[KS];omega),?_⟩
  have etl:(((ts.map V.ref).length:Nat):Int)=((ns.length:Nat):Int):=by rw[JJ,L.len,hpl]
  rw[etl]
  have M2:=M.put hc
  have k6:∀b o,b≠d->H5 b=some o->(upd H5 d (.dK (putK kvs (KJ c:Key) (.int (ns.length:Nat))))) b=some o:=λb o hb e=>by rw[Aj hb];exact e
  have s6:Am H (upd H5 d (.dK (putK kvs (KJ c:Key) (.int (ns.length:Nat))))):=λb o e=>k6 b o (Ai e hd) (s5 b o e)
  have L6:Fs (upd H5 d (.dK (putK kvs (KJ c:Key) (.int (ns.length:Nat))))) pa ts path:=⟨k6 _ _ npd L.lst,L.len,λm t x h1 h2=>k6 _ _ (λe=>by have:=L.at_ m t x h1 h2;rw[e,ed] at this;cases this) (L.at_ m t x h1 h2)⟩
  have ed6:=Aa (H:=H5) (a:=d) (o:=.dK (putK kvs (KJ c:Key) (.int (ns.length:Nat))))
  generalize upd H5 d (.dK (putK kvs (KJ c:Key) (.int (ns.length:Nat))))=H6 at *
  -- path.append(leaning_against(name,rests,labels))
  refine⟨_,rfl,.inl ⟨rfl,_,Aw.of L6.lst⟩,_,rfl,_,rfl,_,rfl,c,ra,la,as,rs,ls,rfl,R.same s6,s6 _ _ el,hll,hn,hbe,λt a l H7 s7 et hl=>?_⟩
  have L7:=L6.same s7
  refine⟨pa,_,_,rfl,rfl,L7.lst,by rw[JJ,L.len,hpl,KS];omega,?_⟩
  have em:ts.map V.ref++[V.ref t]=(ts++[t]).map V.ref:=by rw[JX];rfl
  rw[em]
  have L8:=L7.snoc et
  have s8:Am H (upd H7 pa (.lst ((ts++[t]).map V.ref))):=λb o e=>by rw[Aj (Ai e hpa0)];exact s7 _ _ (s6 b o e)
  have ed8:(upd H7 pa (.lst ((ts++[t]).map V.ref))) d=some (.dK (putK kvs (KJ c:Key) (.int (ns.length:Nat)))):=by rw[Aj (LL npd)];exact s7 _ _ ed6
  -- name=path[-1][0]
  have lx:(upd H7 pa (.lst ((ts++[t]).map V.ref))) pa=some (.lst (ts.map V.ref++[V.ref t])):=by rw[L8.lst,<- em]
  have et8:(upd H7 pa (.lst ((ts++[t]).map V.ref))) t=some (.tup (BK (a,c,l))):=L8.at_ ts.length t _ (KH) (by rw[L.len];exact KH)
  refine⟨_,rfl,_,rfl,pa,_,_,_,rfl,rfl,Aw.of lx,Yn _ _,t,_,_,_,rfl,rfl,Ck.of et8,Bc (j:=0) rfl,?_⟩
  have W2:=W.step hc hl
  have hlt:=W.lt hc ⟨a,l,hl⟩
  refine⟨_,?_,path++[(a,c,l)],ns++[c],a,_,ts++[t],rfl,s8,ed8,M2,L8,W2,rfl⟩
  rw[JN,JY]
  omega
end
def rK(K:JG):Sp:=λvs H Q _=>∃(x C:JO)(bm:List JH)(t:JO)(v:V),vs=[.ref x,v]/\H x=some (rN x C none t)/\Kv K C bm/\vD K C "ring" /\
 ∀dx,H dx=none->dx≠x->Q .non (upd (upd H x (rN x C (some dx) t)) dx (.xd [("ring", v)]))
structure Ends(rows rs:List (List Str)):Prop where
 len:rs.length=rows.length
 suf:∀(i:Nat)(r s:List Str),rows[i]? = some r->rs[i]? = some s->∃a,r=a++s
def Mf(C:JO):Sp:=λvs H Q E=>∃(ra la:JO)(as:List JO)(rows:List (List Str))(ls:List Str),vs=[.ref ra,.ref la]/\Dc H ra as rows/\H la=some (.lst (Az ls))/\ls.length=rows.length/\Ff rows<=1000/\rows.length<=1000/\(∀r∈rows,r.Nodup) /\
 (∀(p:JO)(found:List Str)(H':Hp),H p=none->Am H H'->H' p=some (.lst (Az found))->Good rows found->(∀r∈after rows found,r=[])->found.length<=1000->Q (.ref p) H') /\
 ∀(dx p:JO)(ts:List JO)(ring:List Ln)(rs:List (List Str))(joined:List Str)(H':Hp),Am H H'->H' dx=some (.xd [("ring", .ref p)])->Fs H' p ts ring->Ends rows rs->Vl rs ls ring->Good rows joined->pick (cnt (after rows joined)) (after rows joined)=none->(∃r∈after rows joined,r≠[])->E (.ref C) (some dx) H'
theorem iY{K:JG}{H:Hp}{ps:List JO}{rs:List (List Str)}{ra:JO}(R:Dc H ra ps rs):Xk K H (ps.map V.ref) (rs.map λr=>!r.isEmpty):=by
 have go:∀(ps:List JO)(rs:List (List Str)),ps.length=rs.length->(∀(i:Nat)(a:JO)(r:List Str),ps[i]? = some a->rs[i]? = some r->H a=some (.lst (Az r)))->Xk K H (ps.map V.ref) (rs.map λr=>!r.isEmpty):=by
  intro ps
  induction ps with
  | nil=>
   intro rs hl _
   cases rs with
   | nil=>exact .nil
   | cons _ _=>cases hl
  | cons p ps ih=>
   intro rs hl h
   cases rs with
   | nil=>cases hl
   | cons r rs=>
    refine .cons (.inl ⟨_,Aw.of (h 0 p r rfl rfl),?_⟩) (ih rs (by simpa using hl) λi a s h1 h2=>h (i+1) a s h1 h2)
    cases r<;>rfl
 exact go ps rs R.len R.row
section
variable {P:KI} {w:LQ} {K:JG} {mg:Str->Option JH} {base:MV} {f fC fF fT fR fI C:JO} {fd dC dF dT dR dI:LG} {bm:List JH}
theorem yY:An ["self","ring"] ["self","ring"] (Ad Ps):=Ez (by decide +kernel)
theorem tO(F:Di K "__init__" "AtOdds.__init__" Ps f fd):Al P w K mg base Bi 1 f fd ["self","ring"] (rK K):=by
 refine F.ok yY (λvs H Q E h=>?_) (λcdv A outer s H vs Q E hr h=>?_)
 ·obtain⟨x,C,bm,t,v,rfl,_⟩:=h
  rfl
 obtain⟨x,C,bm,t,v,rfl,hx,c,F',q⟩:=h
 exact⟨_,Af (sK (pv 0) (pv 1)),_,rfl,_,rfl,x,C,bm,t,rfl,hx,c,F',q⟩
theorem rR{H:Hp}{x dx:JO}{o o' u:HO}(hx:H x=none)(hd:dx≠x):rem (upd (upd (upd H x o) x o') dx u) x=upd H dx u:=by
 funext b
 by_cases e:b=x
 ·subst e
  rw[Jx,Aj (LL hd),hx]
 ·rw[Ud e]
  by_cases e2:b=dx
  ·subst e2
   rw[Aa,Aa]
  ·rw[Aj e2,Aj e2,Aj e,Aj e]
abbrev Yg:List Str:=["rows","labels","starts","behind","joined","name","rests"]
theorem FH:(["row"]:List Str).Nodup:=by decide +kernel
theorem EH:(["row","start"]:List Str).Nodup:=by decide +kernel
theorem iF(n:Nat):(LF n (V.int 0))=Jd (LF n 0):=by
 unfold Jd
 rw[List.map_replicate]
 rfl
theorem Fe:An ["rows","labels","starts","behind","joined","name","rests"] ["rows","labels"] (Ad Ga):=Ez (by decide +kernel)
theorem Zn(F:Di K "merged" "merged" Ga f fd)(T:Txt mg)(FC:Di K "counts_behind" "counts_behind" Lh fC dC)(bC:Binds K dC ["rows"] [])(mC:mg "counts_behind" = some (.ref fC))(FF:Di K "free_name" "free_name" Xw fF dF)(bF:Binds K dF ["rows","starts","behind"] [])(mF:mg "free_name" = some (.ref fF))(FT:Di K "take_out" "take_out" Yu fT dT)(bT:Binds K dT ["name","rows","starts","behind"] [])(mT:mg "take_out" = some (.ref fT))(GR:Al P w K mg base Je 2 fR dR ["rests","labels"] Yy)(kR:JV K (.ref fR)=true)(bR:Binds K dR ["rests","labels"] [])(mR:mg "ring_of" = some (.ref fR))(FI:Di K "__init__" "AtOdds.__init__" Ps fI dI)(bI:Binds K dI ["self","ring"] [])(mI:mg "AtOdds" = some (.ref C))(hc:Kv K C bm)(hf:vD K C "ring")(hbase:bm.contains (.type "BaseException")=true)(hi:MK K (.ref C) "__init__" = some (some (.ref fI)))(hfn:PySem.W.isFn K (.ref fI)=true):Al P w K mg base (Gk P w) 3 f fd ["rows","labels"] (Mf C):=by
 have GC:Al P w K mg base Bi 1 fC dC ["rows"] Qm:=Tf FC T
 have GF:Al P w K mg base Bi 1 fF dF ["rows","starts","behind"] Za:=gD FF T
 have GT:Al P w K mg base Bi 1 fT dT ["name","rows","starts","behind"] aJ:=gF FT T
 have GI:Al P w K mg base Bi 1 fI dI ["self","ring"] (rK K):=tO FI
 refine F.okX Fe (λvs H Q E h=>?_) (λcdv A outer s H vs Q E hr h=>?_)
 ·obtain⟨ra,la,as,rows,ls,rfl,_⟩:=h
  rfl
 obtain⟨ra,la,as,rows,ls,rfl,R,el,hll,ht,hrl,hnd,q,qE⟩:=h
 have hr1:=hr.mono (j:=1) (by decide)
 refine⟨_,Ac (Dd (i:=2) (Ad Ga) Yg ["row"] [] rfl Fe.nd rfl rfl (Dk (pv 0)) (Bm (i:=0) (by decide)) (λ_ _ _ _ _ _=>⟨Dg 0 FH,Dr,Ae⟩))
  (Ac (Bv 3 Fe.nd (Dj GC hr1 rfl mC FC.kp bC .nil Dh (Du (pv 0))))
  (Ac (Bv 4 Fe.nd (De Fw))
  (Ac (Bv 5 Fe.nd (Dj GF hr1 rfl mF FF.kp bF .nil Dh (Iz (pv 0) (pv 2) (pv 3))))
  (Ac (Lw (Wx.passesOwn Kq) (Fu (Tu (pv 5)))
   (Ac (Bx (Ll MO MS MR Ed (pv 4) (Du (pv 5))))
   (Ac (Bx (Dj GT hr1 rfl mT FT.kp bT .nil Dh (rP (pv 5) (pv 0) (pv 2) (pv 3))))
   (Af (Bv 5 Fe.nd (Dj GF hr1 rfl mF FF.kp bF .nil Dh (Iz (pv 0) (pv 2) (pv 3))))))))
  (Ac (Dd (i:=6) (Ad Ga) Yg ["row","start"] [] rfl Fe.nd rfl rfl (Vy rfl T.zip (Em (pv 0) (pv 2))) (Kc (K:=K) (Cs (Bm (i:=0) (by decide)) (Cs (Bm (i:=1) (by decide)) Hn)))
   (λ_ _ _ _ _ _=>⟨Jm (n:=2) rfl (Ce (Dg 0 EH) (Ce (Dg 1 EH) Hb)),Dr,Cj (r:=pO K) El (pv 0) (Cy (pv 1)) Dw⟩))
  (Ac (Ay (Fv (Bz (Xx rfl) rfl T.any Sk (Du (pv 6))))
   (Af (iV rfl hc hbase hi hfn GI hr bI rfl mI (Du (Dj GR hr rfl mR kR bR .nil Ti (Em (pv 6) (pv 1)))))) Ap)
  (Af (Ao (pv 4))))))))),?_⟩
 -- starts=[0 for row in rows]
 refine⟨_,rfl,ra,rfl,⟨_,Aw.of R.lst⟩,Ec (K:=K) (a:=ra) (xs:=as.map V.ref) (λi ys H2=>H2=H/\ys=LF i (V.int 0)) ⟨rfl,rfl⟩ (λi ys H2 _ h=>by rw[h.1];exact Aw.of R.lst) ?_ ?_⟩
 ·rintro i y ys H2 hi ⟨rfl,rfl⟩
  refine⟨?_,rfl,?_⟩
  ·have hi':=(JF.mp hi).1
   rw[JJ,R.len] at hi'
   rw[NW,KS]
   omega
  ·exact SW.symm
 rintro ys H2 ⟨rfl,rfl⟩ sa hsa
 rw[JJ,R.len,iF]
 have s1:Am H2 (upd H2 sa (.lst (Jd (LF rows.length 0)))):=Ag hsa _
 -- behind=counts_behind(rows)
 refine⟨_,rfl,ra,as,rows,rfl,R.same s1,by omega,λba kvs H3 hba s2 eb B hl=>?_⟩
 -- joined=[]
 refine⟨(by show 0<=JQ;decide),λja hja=>?_⟩
 have s3:Am H3 (upd H3 ja (.lst [])):=Ag hja _
 have hsa3:H3 sa=some (.lst (Jd (LF rows.length 0))):=s2 _ _ Aa
 have n_sj:sa≠ja:=Ai hsa3 hja
 have n_bj:ba≠ja:=Ai eb hja
 have n_sb:sa≠ba:=Cd hsa3 eb (by intro z;cases z)
 have st0:StAt (upd H3 ja (.lst [])) rows sa ba (LF rows.length 0) kvs:=⟨s3 _ _ hsa3,NW,s3 _ _ eb⟩
 have sH:Am H2 (upd H3 ja (.lst [])):=s1.trans (s2.trans s3)
 have hba2:H2 ba=none:=s1.free hba
 have hja2:H2 ja=none:=s1.free (s2.free hja)
 have nsr:sa≠ra:=LL (Ai R.lst hsa)
 have nsa:∀a∈as,a≠sa:=λa ha=>by
  obtain⟨i,hi⟩:=MM ha
  obtain⟨r,_,er⟩:=R.get hi
  exact Ai er hsa
 -- name=free_name(rows,starts,behind)
 refine⟨_,rfl,_,rfl,_,rfl,ra,sa,ba,as,rows,_,kvs,cnt rows,rfl,R.same sH,st0,B,λH4 s4=>?_⟩
 rw[Ct]
 have hb0:∀(i:Nat)(r:List Str)(m:Nat),rows[i]? = some r->(LF rows.length 0)[i]? = some m->m<=r.length:=λi r m _ h2=>by
  rw[QF] at h2
  split at h2
  ·cases h2;exact LK _
  ·cases h2
 -- while name is not None
 refine⟨λm σ H5=>∃(joined:List Str)(st:List Nat)(kvs:List (Key×V))(v6:Option V),σ=[some (.ref ra),some (.ref la),some (.ref sa),some (.ref ba),some (.ref ja),some (Wk (pick (cnt (rests rows st)) (rests rows st))),v6] /\
  Am H2 H5/\H5 ja=some (.lst (Az joined))/\StAt H5 rows sa ba st kvs/\(∀(i:Nat)(r:List Str)(m:Nat),rows[i]? = some r->st[i]? = some m->m<=r.length)/\Yw kvs (cnt (rests rows st))/\kvs.length<=1000 /\
  (rests rows st=after rows joined/\Good rows joined)/\m=Ff (rests rows st)/\joined.length+Ff (rests rows st)<=Ff rows,
  ⟨_,[],LF rows.length 0,kvs,none,by rw[Ct];rfl,sH.trans s4,s4 _ _ Aa,⟨s4 _ _ st0.lst,st0.len,s4 _ _ st0.dic⟩,hb0,by rw[Ct];exact B,by omega,by rw[Ct];exact⟨rfl,kZ _⟩,rfl,by rw[Ct];simp⟩,?_⟩
 rintro m σ H5 ⟨joined,st,kvs,v6,rfl,s5,ej,S,hb,B,hl,⟨e1,e2⟩,rfl,hj⟩
 refine⟨_,rfl,_,rfl,?_⟩
 cases hp:pick (cnt (rests rows st)) (rests rows st) with
 | some x=>
  refine Jn ?_
  obtain⟨hx0,r0,hr0,t0,er0⟩:=Ht hp
  have hlt:Ff ((rests rows st).map (Cv x)) < Ff (rests rows st):=Jt (by rw[<- er0];exact hr0)
  refine⟨λσ' H'=>∃m',m' < Ff (rests rows st)/\∃(joined:List Str)(st:List Nat)(kvs:List (Key×V))(v6:Option V),σ'=[some (.ref ra),some (.ref la),some (.ref sa),some (.ref ba),some (.ref ja),some (Wk (pick (cnt (rests rows st)) (rests rows st))),v6] /\
   Am H2 H'/\H' ja=some (.lst (Az joined))/\StAt H' rows sa ba st kvs/\(∀(i:Nat)(r:List Str)(m:Nat),rows[i]? = some r->st[i]? = some m->m<=r.length)/\Yw kvs (cnt (rests rows st))/\kvs.length<=1000 /\
   (rests rows st=after rows joined/\Good rows joined)/\m'=Ff (rests rows st)/\joined.length+Ff (rests rows st)<=Ff rows,λσ' H' h=>h,?_⟩
  -- joined.append(name)
  refine⟨_,rfl,.inl ⟨rfl,_,Aw.of ej⟩,_,rfl,ja,_,_,rfl,rfl,ej,by rw[Av,KS];omega,?_⟩
  have ejx:Az joined++[V.str x]=Az (joined++[x]):=by unfold Az;rw[JX];rfl
  have hup:∀b o,b≠ja->H5 b=some o->(upd H5 ja (.lst (Az joined++[V.str x]))) b=some o:=λb o hne e=>by rw[Aj hne];exact e
  have s6:Am H2 (upd H5 ja (.lst (Az joined++[V.str x]))):=λb o e=>hup b o (Ai e hja2) (s5 b o e)
  -- take_out(name,rows,starts,behind)
  refine⟨_,rfl,_,rfl,_,rfl,_,rfl,x,ra,sa,ba,as,rows,st,kvs,rfl,R.same s6,⟨hup _ _ n_sj S.lst,S.len,hup _ _ n_bj S.dic⟩,hb,B,by omega,nsr,nsa,λst' kvs' H6 S6 h6 hb6 B6 hl6 k6=>?_⟩
  have s7:Am H2 H6:=λb o e=>k6 b o (s6 b o e) (Ai e hsa) (Ai e hba2)
  -- name=free_name(rows,starts,behind)
  refine⟨_,rfl,_,rfl,_,rfl,ra,sa,ba,as,rows,st',kvs',_,rfl,R.same s7,S6,B6,λH7 s8=>?_⟩
  refine⟨_,?_,joined++[x],st',kvs',v6,rfl,s7.trans s8,s8 _ _ ?_,⟨s8 _ _ S6.lst,S6.len,s8 _ _ S6.dic⟩,hb6,B6,by omega,⟨?_,?_⟩,rfl,?_⟩
  ·rw[h6];exact hlt
  ·rw[<- ejx]
   exact k6 _ _ Aa (LL n_sj) (LL n_bj)
  ·rw[h6,e1,cA]
  ·rw[e1] at hp
   exact kU e2 hp
  ·rw[h6,JN,JY];omega
 | none=>
  refine Eb ?_
  -- rests=[row[start:] for row,start in zip(rows,starts)]
  have R5:=R.same s5
  have hrl2:(rests rows st).length=rows.length:=Im S.len
  refine⟨_,rfl,_,rfl,ra,sa,rfl,⟨_,Aw.of R5.lst⟩,⟨_,Aw.of S.lst⟩,Pg (K:=K) (a:=ra) (b:=sa) (xs:=as.map V.ref) (zs:=Jd st) (by rw[JJ,Hd,S.len,R.len])
   (λi ys H6=>Am H5 H6/\∃ps:List JO,ys=ps.map V.ref/\ps.length=i/\∀(j:Nat)(p:JO)(r:List Str),ps[j]? = some p->(rests rows st)[j]? = some r->H6 p=some (.lst (Az r))) ⟨Am.refl _,[],rfl,rfl,λj p r h=>by simp at h⟩ (λi ys H6 _ h=>⟨Aw.of (h.1 _ _ R5.lst),Aw.of (h.1 _ _ S.lst)⟩) ?_ ?_⟩
  ·rintro i y z ys H6 Tp hy hz ⟨s6,ps,rfl,hps,hpl⟩ hT
   obtain⟨a,ha,rfl⟩:=Ea hy
   obtain⟨j,hj',rfl⟩:=Tt hz
   obtain⟨r,hr',er⟩:=R5.get ha
   have s9:Am H5 (upd H6 Tp (.tup [.ref a,.int j])):=s6.trans (Ag hT _)
   refine⟨Tp,_,rfl,Ck.of Aa,rfl,_,_,rfl,_,_,rfl,rfl,?_⟩
   refine⟨_,rfl,_,rfl,_,rfl,a,_,rfl,Aw.of (s9 _ _ er),λp hp'=>?_⟩
   have hc':Fy (Az r) (some (j:Int)) none=Az (r.drop j):=by
    rw[Ot _ _ (by rw[Av];exact hb i r j hr' hj')]
    unfold Az
    rw[<- RP]
   rw[hc']
   refine⟨?_,s9.trans (Ag hp' _),ps++[p],by rw[JX];rfl,by rw[JN,hps];rfl,λj' p' r' hp2 hr2=>?_⟩
   ·have:=(JF.mp hr').1
    rw[JJ,hps,KS]
    omega
   ·by_cases hj2:j' < ps.length
    ·rw[KN hj2] at hp2
     have e:=Ag hT (.tup [.ref a,.int j]) _ _ (hpl j' p' r' hp2 hr2)
     exact Ag hp' _ _ _ e
    ·have hjl:j' < (ps++[p]).length:=(JF.mp hp2).1
     rw[JN,JY] at hjl
     obtain rfl:j'=ps.length:=by omega
     rw[KH] at hp2
     cases hp2
     rw[hps,Gh hr' hj'] at hr2
     cases hr2
     exact Aa
  ·rintro ys H6 ⟨s6,ps,rfl,hps,hpl⟩ qa hqa
   -- if any(rests)
   have s9:=Ag (H:=H6) hqa (.lst (ps.map V.ref))
   have Rq:Dc (upd H6 qa (.lst (ps.map V.ref))) qa ps (rests rows st):=⟨Aa,by rw[hps,JJ,R.len,hrl2],λi a r h1 h2=>s9 _ _ (hpl i a r h1 h2)⟩
   refine⟨_,rfl,qa,_,_,rfl,Aw.of Aa,iY Rq,_,rfl,?_⟩
   have sAll:Am H2 (upd H6 qa (.lst (ps.map V.ref))):=s5.trans (s6.trans s9)
   refine Br (λc=>?_) (λc=>?_)
   ·-- raise AtOdds(ring_of(rests,labels))
    obtain⟨k,hk,ek⟩:=List.any_eq_true.mp c
    obtain⟨r1,hr1',er1⟩:=LR.mp hk
    have hsuf:Ends rows (rests rows st):=⟨hrl2,λi r s h1 h2=>by
     have hil:i < st.length:=by rw[S.len];exact(JF.mp h1).1
     rw[Gh h1 (JK hil)] at h2
     cases h2
     exact⟨r.take st[i],(List.take_append_drop _ _).symm⟩⟩
    have hne1:r1≠[]:=λe=>by rw[e] at er1;rw[<- er1] at ek;cases ek
    refine⟨_,rfl,_,rfl,qa,la,ps,rests rows st,ls,rfl,Rq,sAll _ _ el,by rw[hll,hrl2],by omega,⟨r1,hr1',hne1⟩,λr hr'=>?_,λr hr' x t e=>Mt hp r hr' x t e,λp ts ring H7 s10 L hring=>?_⟩
    ·obtain⟨i,hi'⟩:=MM hr'
     have hil:i < rows.length:=by rw[<- hrl2];exact(JF.mp hi').1
     obtain⟨a,ea⟩:=hsuf.suf i _ _ (JK hil) hi'
     have:=hnd _ (OO hil)
     rw[ea,OE] at this
     exact this.2.1
    ·refine⟨by show 1<=JQ;decide,λx tt hx=>⟨x,C,bm,tt,.ref p,rfl,Aa,hc,hf,λdx hdx hne=>⟨rfl,some dx,by rw[Aj (LL hne),Aa],?_⟩⟩⟩
     rw[rR hx hne]
     have hdx':H7 dx=none:=by rw[Aj hne] at hdx;exact hdx
     have s11:=Ag hdx' (.xd [("ring", .ref p)])
     exact qE dx p ts ring (rests rows st) joined _ (sAll.trans (s10.trans s11)) Aa (L.same s11) hsuf hring e2 (by rw[<- e1];exact hp) ⟨r1,by rw[<- e1];exact hr1',hne1⟩
   ·-- return joined
    refine⟨_,rfl,q ja joined _ hja2 sAll (s9 _ _ (s6 _ _ ej)) e2 (λr hr'=>?_) (by omega)⟩
    rw[<- e1] at hr'
    cases r with
    | nil=>rfl
    | cons x t=>exact absurd (List.any_eq_true.mpr ⟨true,LR.mpr ⟨_,hr',rfl⟩,rfl⟩) c
end
end Bk
namespace Bk
open PySem L2 Mg Nm
def Um(C:JO):Sp:=λvs H Q E=>∃(x:Str)(ea oa:JO)(as:List JO)(el:List Str)(rows:List (List Str)),vs=[.str x,.ref ea,.ref oa]/\H ea=some (.lst (Az el))/\Dc H oa as rows/\el.length=rows.length/\Ff (rows++[el])<=900/\rows.length<=900/\(∀r∈rows++[el],r.Nodup) /\
 (∀(p:JO)(found:List Str)(H':Hp),H p=none->Am H H'->H' p=some (.lst (Az (x::found)))->Good (rows++[el]) found->(∀r∈after (rows++[el]) found,r=[])->found.length<=1000->Q (.ref p) H') /\
 ∀(dx p:JO)(ts:List JO)(ring:List Ln)(rs:List (List Str))(joined:List Str)(H':Hp),Am H H'->H' dx=some (.xd [("ring", .ref p)])->Fs H' p ts ring->Ends (rows++[el]) rs->Vl rs (el++[x]) ring->Good (rows++[el]) joined->pick (cnt (after (rows++[el]) joined)) (after (rows++[el]) joined)=none->(∃r∈after (rows++[el]) joined,r≠[])->E (.ref C) (some dx) H'
section
variable {P:KI} {w:LQ} {K:JG} {mg:Str->Option JH} {base:MV} {f fM C:JO} {fd dM:LG}
theorem sR:An ["name","elders","orders"] ["name","elders","orders"] (Ad Wg):=Ez (by decide +kernel)
theorem mZ(F:Di K "made_order" "made_order" Wg f fd)(T:Txt mg)(GM:Al P w K mg base (Gk P w) 3 fM dM ["rows","labels"] (Mf C))(kM:JV K (.ref fM)=true)(bM:Binds K dM ["rows","labels"] [])(mM:mg "merged" = some (.ref fM)):
 Al P w K mg base (Gk P w) 4 f fd ["name","elders","orders"] (Um C):=by
 refine F.okX sR (λvs H Q E h=>?_) (λcdv A outer s H vs Q E hr h=>?_)
 ·obtain⟨x,ea,oa,as,el,rows,rfl,_⟩:=h
  rfl
 obtain⟨x,ea,oa,as,el,rows,rfl,eel,R,hle,ht,hrl,hnd,q,qE⟩:=h
 refine⟨_,Af (Ao (Aq Jr (De (Du (pv 0))) (Qg GM hr rfl mM kM bM .nil (Em (Aq Jr (pv 2) (De (Du (pv 1)))) (Aq Jr (pv 1) (De (Du (pv 0)))))))),?_⟩
 have hlR:as.length=rows.length:=R.len
 refine⟨_,rfl,by show 1<=JQ;decide,λl1 hl1=>?_⟩
 have s1:=Ag hl1 (.lst [V.str x])
 refine⟨_,rfl,_,rfl,by show 1<=JQ;decide,λl2 hl2=>?_⟩
 have s2:=Ag hl2 (.lst [V.ref ea])
 refine⟨oa,l2,_,_,rfl,rfl,s2 _ _ (s1 _ _ R.lst),Aa,by rw[JJ,KS,JY];omega,λl3 hl3=>?_⟩
 have s3:=Ag hl3 (.lst (as.map V.ref++[V.ref ea]))
 refine⟨_,rfl,_,rfl,by show 1<=JQ;decide,λl4 hl4=>?_⟩
 have s4:=Ag hl4 (.lst [V.str x])
 have sA:=s1.trans (s2.trans (s3.trans s4))
 refine⟨ea,l4,_,_,rfl,rfl,sA _ _ eel,Aa,by rw[Av,KS,JY];omega,λl5 hl5=>?_⟩
 have s5:=Ag hl5 (.lst (Az el++[V.str x]))
 have sB:=sA.trans s5
 have e3:=s5 _ _ (s4 _ _ (Aa (H:=upd (upd H l1 (.lst [V.str x])) l2 (.lst [V.ref ea])) (a:=l3) (o:=.lst (as.map V.ref++[V.ref ea]))))
 have R5:=R.snoc sB (sB _ _ eel) (q:=l3) (by rw[JX];exact e3)
 have n1:=s5 _ _ (s4 _ _ (s3 _ _ (s2 _ _ (Aa (H:=H) (a:=l1) (o:=.lst [V.str x])))))
 refine⟨l3,l5,as++[ea],rows++[el],el++[x],rfl,R5,?_,by rw[JN,JN,hle];rfl,by omega,by rw[JN,JY];omega,hnd,λp found H6 hp s6 ep g1 g2 g3=>?_,λdx p ts ring rs joined H6 s6=>qE dx p ts ring rs joined H6 (sB.trans s6)⟩
 ·rw[Aa]
  unfold Az
  rw[JX]
  rfl
 refine⟨l1,p,_,_,rfl,rfl,s6 _ _ n1,ep,by rw[Av,KS,JY];omega,λz hz=>?_⟩
 exact q z found _ (sB.free (s6.free hz)) (sB.trans (s6.trans (Ag hz _))) Aa g1 g2 g3
end
def orders(L:List Ent)(el:List Str):List (List Str):=el.map λy=>((Hl L y).map (·.od)).getD []
structure Wo(CB CH:JO)(H:Hp)(p d:JO)(L:List Ent)(el:List Str):Prop where
 bk:Be CB CH H p d L
 ell:el.length<=100
 ll:L.length<=1000
 nd:∀e∈L,e.od.Nodup
 Ff:Ff (orders L el++[el])<=900
structure wX(H:Hp)(x:Str)(el found:List Str)(e:Ent):Prop where
 nm:e.nm=x
 el:e.el=el
 od:e.od=x::found
 bd:e.bd=[]
 f1:H e.at_=none
 f2:H e.ea=none
 f3:H e.oa=none
 f4:H e.ba=none
def Lo(CB CH CO:JO):Sp:=λvs H Q E=>∃(p d a:JO)(L:List Ent)(x:Str)(el:List Str),vs=[.ref p,.str x,.ref a]/\Wo CB CH H p d L el/\H a=some (.lst (Az el))/\Fz x=true/\x.length<=1000/\Hl L x=none/\(∀y∈el,Hl L y≠none)/\el.Nodup /\
 (∀(e:Ent)(found:List Str)(H':Hp),wX H x el found e->Be CB CH H' p d (L++[e])->(∀b o,H b=some o->b≠d->H' b=some o)->Good (orders L el++[el]) found->Q .non H') /\
 ∀(dx:JO)(joined:List Str)(H':Hp),Am H H'->(∃q:JO,H' dx=some (.xd [("ring", .ref q)]))->(∃r∈after (orders L el++[el]) joined,r≠[])->E (.ref CO) (some dx) H'
section
variable {P:KI} {w:LQ} {K:JG} {mg:Str->Option JH} {base:MV} {f fO fN fM fI CB CH CO T0:JO} {fd dO dN dM dI:LG}
theorem Np.okX{x qual:Str}{st:OU}{f T:JO}{fd:LG}{N ps:List Str}{k:Nat}{sp:Sp}(F:Np K x qual st f fd T)(S:An N ps (Ad st))(len:∀vs H Q E,sp vs H Q E->vs.length=ps.length)(hbody:∀(cdv:JH)(A:LM)(outer:List Env)(s:JL)(H:Hp)(vs:List V)(Q:VK)(E:XK),Co k (A.deeper (QE qual (Ad st) s.heap.objs.size f cdv))->sp vs H Q E ->
  ∃t,Hy ((Er (Gk P w) P w K mg base N qual (Ad st) f cdv A outer s H E).thrown λ_=>E) (Bg st) t/\t { nx:=λ_ H'=>Q .non H',rt:=Q } (start N vs) H):
 Al P w K mg base (Gk P w) (k+1) f fd ps sp:=by
 obtain⟨oc,od,kV,doc,pm,an,cdv,ct,osl,rfl,lk,hcd⟩:=F.ex
 refine Yf lk hcd S len λA outer s H vs Q E hr hsp=>?_
 obtain⟨t,h,q⟩:=hbody cdv A outer s H vs Q E hr hsp
 refine⟨t,λpins s' σ' H' D I hw=>?_,q⟩
 exact ND (h pins s' σ' H' D (I.wish _) hw) (λ_ _ z=>z.unwish) λe s2 z=>z.leaves
theorem iX(F:Np K "found" "Book.found" Il f fd T0)(T:Ha K mg CB CH)(Tx:Txt mg)(GO:Al P w K mg base Bi 2 fO dO ["self","name"] (Ia CB CH))(bO:Binds K dO ["self","name"] [])(mO:Dt K CB "order" fO)(GN:Al P w K mg base Bi 1 fN dN ["value"] Gy)(kN:JV K (.ref fN)=true)(bNm:Binds K dN ["value"] [])(mN:mg "is_name" = some (.ref fN))(GM:Al P w K mg base (Gk P w) 4 fM dM ["name","elders","orders"] (Um CO))(kM:JV K (.ref fM)=true)(bM:Binds K dM ["name","elders","orders"] [])(mM:mg "made_order" = some (.ref fM))(GI:Al P w K mg base Bi 1 fI dI ["self","elder_row","order_row"] (La CH))(bI:Binds K dI ["self","elder_row","order_row"] [])(MH:Mk K CH fI):Al P w K mg base (Gk P w) 5 f fd ["self","name","elders"] (Lo CB CH CO):=by
 refine Np.okX F Jz (λvs H Q E h=>?_) (λcdv A outer s H vs Q E hr h=>?_)
 ·obtain⟨p,d,a,L,x,el,rfl,_⟩:=h
  rfl
 obtain⟨p,d,a,L,x,el,rfl,⟨B,hell,hll,hodn,htot⟩,ea0,hok,hxl,hf,hin,hnd,q,qE⟩:=h
 have hu:=Fo hr
 have hr1:=hr.mono (j:=1) (by decide)
 have hr2:=hr.mono (j:=2) (by decide)
 obtain⟨dx,hp⟩:=B.ob
 refine⟨_,Ac (Ay (Hi (Fv (Cf GN hr1 mN kN bNm (Du (pv 1))))) Bs Ap)
  (Ac (Ay (Fu (qI hu (pv 1) (Cq (pv 0) rfl))) Bs Ap)
  (Ac (Bv 3 Jz.nd (Xu (Fu (Zz (pv 2))) (De Fw) (Dl (Pl (K:=K)) rfl Tx.list NQ (Du (pv 2)))))
  (Ac (Dd (i:=4) (Ad Il) pE ["elder"] [("self", 0)] rfl Jz.nd rfl rfl (Dk (pv 3)) (Bm (i:=0) (by decide)) (λ_ _ _ _ _ _=>⟨Dg 0 CM,Dr,Ee (pv 1) T.clB mO GO hr2 bO .nil Dh (Du (pv 0))⟩))
  (Ac (Ay (Ar Oz (Bz Kj rfl Tx.len PySem.boot_len (Du (Dl (Jv rfl) rfl Tx.set Sg (Du (pv 3))))) (Bw Tx.len (pv 3)) (Au _)) Bs Ap)
  (Af (Gd hu (Cq (pv 0) rfl) (pv 1) (Oj MH GI hr2 rfl T.mgH bI .nil Dh (Em (pv 3) (Qg GM hr rfl mM kM bM .nil (Iz (pv 1) (pv 3) (pv 4))))) rfl)))))),?_⟩
 refine⟨_,rfl,.str x,rfl,.inr ⟨x,rfl,by rw[KS];omega⟩,λH1 s1=>?_⟩
 rw[show CD (.str x)=true from hok]
 refine⟨_,rfl,Eb ?_⟩
 have B1:=B.same s1
 refine⟨_,rfl,_,rfl,p,CB,dx,_,_,rfl,s1 _ _ hp,T.clB,T.nBy,Se d,d,_,rfl,B1.no hf,_,rfl,Eb ?_⟩
 -- elder_row
 refine⟨_,rfl,_,rfl,Eb ⟨_,rfl,a,_,rfl,.inl (Aw.of (s1 _ _ ea0)),λla hla=>?_⟩⟩
 have s2:=Ag hla (.lst (Az el))
 have sA:=s1.trans s2
 have hla0:H la=none:=s1.free hla
 have ela:(upd H1 la (.lst (Az el))) la=some (.lst (Az el)):=Aa
 generalize upd H1 la (.lst (Az el))=H2 at *
 -- orders
 refine⟨_,rfl,la,rfl,⟨_,Aw.of ela⟩,Ec (K:=K) (a:=la) (xs:=Az el) (λi ys H3=>Am H2 H3/\∃ps:List JO,ys=ps.map V.ref/\ps.length=i/\∀(j:Nat)(a:JO)(r:List Str),ps[j]? = some a->(orders L el)[j]? = some r->H3 a=some (.lst (Az r)))
  ⟨Am.refl _,[],rfl,rfl,λj a r h=>by simp at h⟩ (λi ys H3 _ h=>Aw.of (h.1 _ _ ela)) ?_ ?_⟩
 ·rintro i y ys H3 hi ⟨s3,ps,rfl,hps,hpl⟩
  obtain⟨z,hz,rfl⟩:=Ih hi
  have sB:=sA.trans s3
  have hil:i < el.length:=(JF.mp hz).1
  have hzm:=KD hz
  obtain⟨e,he⟩:=Option.ne_none_iff_exists'.mp (hin z hzm)
  refine⟨_,rfl,p,dx,_,rfl,sB _ _ hp,Gs d (by decide +kernel),_,rfl,p,d,L,z,e,rfl,B.same sB,he,λl hl=>?_⟩
  have s4:=Ag hl (.lst (Az e.od))
  refine⟨by rw[JJ,hps,KS];omega,s3.trans s4,ps++[l],by rw[JX];rfl,by rw[JN,hps];rfl,λj a r h1 h2=>?_⟩
  by_cases hj:j < ps.length
  ·rw[KN hj] at h1
   exact s4 _ _ (hpl j a r h1 h2)
  ·have hjl:j < (ps++[l]).length:=(JF.mp h1).1
   rw[JN,JY] at hjl
   obtain rfl:j=ps.length:=by omega
   rw[KH] at h1
   cases h1
   unfold orders at h2
   rw[KP,hps,hz] at h2
   have h2':((Hl L z).map (·.od)).getD []=r:=LC h2
   rw[he] at h2'
   have h2'':e.od=r:=h2'
   rw[<- h2'']
   exact Aa
 rintro ys H3 ⟨s3,ps,rfl,hps,hpl⟩ qa hqa
 rw[Av] at hps
 have hol:(orders L el).length=el.length:=JJ _
 have s4:=Ag hqa (.lst (ps.map V.ref))
 have R:Dc (upd H3 qa (.lst (ps.map V.ref))) qa ps (orders L el):=⟨Aa,by rw[hps,hol],λi a r h1 h2=>s4 _ _ (hpl i a r h1 h2)⟩
 have sB:=s3.trans s4
 have sC:=sA.trans sB
 generalize upd H3 qa (.lst (ps.map V.ref))=H4 at *
 -- len(set(elder_row)) < len(elder_row)
 refine⟨_,rfl,la,el,rfl,Aw.of (sB _ _ ela),hnd,by show el.length+1 < 4096;omega,λsa hsa=>?_⟩
 have s5:=Ag hsa (Xd P w sa el.length)
 refine⟨sa,_,rfl,Aa,_,rfl,la,_,rfl,.inl (Aw.of (s5 _ _ (sB _ _ ela))),_,_,rfl,rfl,_,rfl,Br (λc=>?_) (λ_=>?_)⟩
 ·have:=of_decide_eq_true c
  rw[Av] at this
  omega
 have sD:=sC.trans s5
 have R5:=R.same s5
 have ela5:=s5 _ _ (sB _ _ ela)
 have hndr:∀r∈orders L el++[el],r.Nodup:=λr hr'=>by
  rcases KO.mp hr' with h | h
  ·unfold orders at h
   obtain⟨y,hy,rfl⟩:=LR.mp h
   cases e:Hl L y with
   | none=>exact absurd e (hin y hy)
   | some e'=>exact hodn e' (Fx e).1
  ·rw[JP.mp h]
   exact hnd
 -- self.by_name[name]=House(elder_row,made_order(name,elder_row,orders))
 refine⟨_,rfl,_,rfl,_,rfl,_,rfl,x,la,qa,ps,el,orders L el,rfl,ela5,R5,hol.symm,htot,by omega,hndr,λoa found H6 hoa s6 eoa k1 k2 k3=>?_,λdx q ts ring rs joined H6 s6 e6 _ _ _ _ _ ne=>qE dx joined H6 (sD.trans s6) ⟨q,e6⟩ ne⟩
 intro hx' hdx nx ndx nex
 have sE:=sD.trans s6
 have s7:Am H6 (upd (upd H6 hdx (.own hx')) hx' (.ins CH hdx [])):=λb o e=>by
  rw[Aj (Ai e nx),Aj (Ai e ndx)]
  exact e
 refine⟨hx',la,oa,hdx,rfl,Aa,λba H7 hba e1 e2 kp=>⟨rfl,?_⟩⟩
 have s8:Am H6 H7:=λb o e=>kp b o (s7 b o e) (Ai e nx)
 have sF:=sE.trans s8
 have B7:=B.same sF
 refine⟨_,rfl,p,CB,dx,_,_,rfl,sF _ _ hp,T.clB,T.nBy,Se d,_,rfl,d,_,rfl,Kr.k (k:=(KJ x:Key)) B7.dc (by unfold nJ;rw[JJ,KS];omega),?_⟩
 have hla6:H6 la=some (.lst (Az el)):=s6 _ _ ela5
 have hba6:H6 ba=none:=s7.free hba
 have N0:wX H x el found ⟨x,hx',hdx,la,oa,ba,el,x::found,[]⟩:=⟨rfl,rfl,rfl,rfl,sE.free nx,hla0,sD.free hoa,sE.free hba6⟩
 have k8:∀b o,H b=some o->b≠d->(upd H7 d (.dK (putK (nJ L) (KJ x:Key) (.ref hx')))) b=some o:=λb o e hb=>by rw[Aj hb];exact sF _ _ e
 have nd_of:∀b,H b=none->b≠d:=λb hb=>LL (Ai B.dc hb)
 refine q _ found _ N0 (B.add (e:=⟨x,hx',hdx,la,oa,ba,el,x::found,[]⟩) hf N0.f4 ⟨?_,?_,?_,?_⟩ Aa k8) k8 k1
 ·rw[Aj (nd_of _ N0.f1)];exact e1
 ·rw[Aj (nd_of _ N0.f2)];exact s8 _ _ hla6
 ·rw[Aj (nd_of _ N0.f3)];exact s8 _ _ eoa
 ·rw[Aj (nd_of _ N0.f4)];exact e2
end
end Bk
namespace Bk
open PySem L2 Mg Nm Rk
structure QB(CB CH:JO)(M:Hp)(p d:JO)(L:List Ent)(rs:List Str)(B:Ci):Prop where
 bk:Be CB CH M p d L
 rl:rs.length<=1000
 hs:∀y∈rs,∃e,Hl L y=some e
 no:∀y∈rs,∀e w,Hl L y=some e->B y w=none->valV e.bd (KJ w:Key)=none
 yes:∀y∈rs,∀e w ss,Hl L y=some e->B y w=some ss->∃(la:JO)(ts:List JO),valV e.bd (KJ w:Key)=some (.ref la)/\M la=some (.lst (ts.map V.ref))/\Dp M ts (ss.map Stp.pr)
 ok:FZ B rs
def HQ(H:Hp)(CU CS:JO)(Q:VK)(E:XK):Res->Prop
 | .ok _ _ sd=>∀(l:JO)(H':Hp),H l=none->Am H H'->H' l=some (.lst (Wa sd))->Q (.ref l) H'
 | .una _ _=>∀H':Hp,Am H H'->E (.ref CU) none H'
 | .spent=>∀H':Hp,Am H H'->E (.ref CS) none H'
def rL(CB CH CU CS:JO):Sp:=λvs H Q E=>∃(p d:JO)(x y:Str)(n:Int)(c:Nat)(L:List Ent)(e:Ent)(B:Ci),vs=[.ref p,.str x,.str y,.int n,.int (c:Int)]/\Hl L x=some e/\QB CB CH H p d L e.od B /\ -big<=n/\n<=big/\c<=40/\HQ H CU CS Q E (rS B e.od y 0 n c [])
section
variable {P:KI} {w:LQ} {K:JG} {mg:Str->Option JH} {base:MV} {f fO fC fI fN fQ CA CT CB CH CU CS T0:JO} {fd dO dC dI dN dQ:LG}
theorem nP:An ["book","name","word","number","count","row","asking"] ["book","name","word","number","count"] (Ad Gi):=Ez (by decide +kernel)
theorem zE(F:Np K "answered" "answered" Gi f fd T0)(T:Xn K mg CA)(TT:Vh K mg CT)(TB:Ha K mg CB CH)(GO:Al P w K mg base Bi 2 fO dO ["self","name"] (Ia CB CH))(bO:Binds K dO ["self","name"] [])(mO:Dt K CB "order" fO)(GC:Al P w K mg base Bi 3 fC dC ["number","count"] Ul)(kC:JV K (.ref fC)=true)(bC:Binds K dC ["number","count"] [])(mC:mg "check_question" = some (.ref fC))(GI:Al P w K mg base Bi 1 fI dI ["self","book","row","tally"] (Ur CA))(bI:Binds K dI ["self","book","row","tally"] [])(MA:Mk K CA fI)(GN:Al P w K mg base Bi 1 fN dN ["self","left"] (Vs CT))(bN:Binds K dN ["self","left"] [])(MT:Mk K CT fN)(GQ:Al P w K mg base (Gk P w) (4 * 41+3) fQ dQ ["self","word","place","number"] (Ra CA CT CB CH CU CS 41))(bQ:Binds K dQ ["self","word","place","number"] [])(mQ:Dt K CA "asked" fQ):Al P w K mg base (Gk P w) 168 f fd ["book","name","word","number","count"] (rL CB CH CU CS):=by
 refine Np.okX F nP (λvs H Q E h=>?_) (λcdv A outer s H vs Q E hr h=>?_)
 ·obtain⟨p,d,x,y,n,c,L,e,B,rfl,_⟩:=h
  rfl
 obtain⟨p,d,x,y,n,c,L,e,B,rfl,he,U0,n0,n1,hc,g⟩:=h
 have hr2:=hr.mono (j:=2) (by decide)
 have hr3:=hr.mono (j:=3) (by decide)
 have hrQ:=hr.mono (j:=4 * 41+3) (by decide)
 obtain⟨bx,hp⟩:=U0.bk.ob
 refine⟨_,Ac (Bv 5 nP.nd (Ee (pv 0) TB.clB mO GO hr2 bO .nil Dh (Du (pv 1))))
  (Ac (Bx (Cf GC hr3 mC kC bC (Em (pv 3) (pv 4))))
  (Ac (Bv 6 nP.nd (Oj MA GI hr2 rfl T.mgA bI .nil Dh (Iz (pv 0) (pv 5) (Oj MT GN hr2 rfl TT.mgT bN .nil Dh (Du (pv 4))))))
  (Ac (Bx (Eu (pv 6) T.cl mQ GQ hrQ bQ .nil (Iz (pv 2) Ae (pv 3))))
  (Af (Ao (Cq (Cq (pv 6) rfl) rfl)))))),?_⟩
 refine⟨_,rfl,p,bx,_,rfl,hp,Gs d (by decide +kernel),_,rfl,p,d,L,x,e,rfl,U0.bk,he,λra hra=>?_⟩
 obtain⟨H1,zz,s1,era⟩:=lay hra (.lst (Az e.od))
 rw[zz]
 refine⟨_,rfl,_,rfl,n,(c:Int),rfl,n0,n1,by omega,by omega,?_⟩
 refine⟨_,rfl,_,rfl,_,rfl,λtq tx nt ntx net=>?_⟩
 have s2:Am H1 (upd (upd H1 tx (.own tq)) tq (.ins CT tx [])):=λb o e=>by
  rw[Aj (Ai e nt),Aj (Ai e ntx)]
  exact e
 refine⟨tq,tx,(c:Int),rfl,Aa,λsa H2 hsa e1 e2 kp=>⟨rfl,?_⟩⟩
 have s3:Am H1 H2:=λb o e=>kp b o (s2 b o e) (Ai e nt)
 have hsa1:H1 sa=none:=s2.free hsa
 intro q qx nq nqx neq
 have s5:Am H2 (upd (upd H2 qx (.own q)) q (.ins CA qx [])):=λb o e=>by
  rw[Aj (Ai e nq),Aj (Ai e nqx)]
  exact e
 refine⟨q,p,ra,tq,qx,rfl,Aa,λH3 e3 kp3=>⟨rfl,?_⟩⟩
 have s6:Am H2 H3:=λb o e=>kp3 b o (s5 b o e) (Ai e nq)
 have s7:=s3.trans s6
 have SM:Am H1 (mask H3 tq sa):=λb o hb=>Og (s7 _ _ hb) (Ai hb nt) (Ai hb hsa1)
 have nqt:q≠tq:=λz=>by rw[z,e1] at nq;cases nq
 have nqs:q≠sa:=λz=>by rw[z,e2] at nq;cases nq
 have C:Rg (mask H3 tq sa) H3 CT tq tx sa c []:=by
  refine⟨Xi,?_,?_,s6 _ _ e1,s6 _ _ e2⟩
  ·unfold mask
   rw[if_pos (.inl rfl)]
  ·unfold mask
   rw[if_pos (.inr rfl)]
 have sA:=s1.trans SM
 have U:Xs CA CB CH (mask H3 tq sa) q qx tq p d ra L e.od B:=⟨Og e3 nqt nqs,U0.bk.same sA,SM _ _ era,U0.rl,U0.hs,U0.no,λy hy e w ss h1 h2=>let ⟨la,ts,a,b,c⟩:=U0.yes y hy e w ss h1 h2;⟨la,ts,a,sA _ _ b,c.same sA⟩,U0.ok⟩
 generalize mask H3 tq sa=M at *
 refine⟨_,rfl,q,qx,_,rfl,e3,Nb (by decide +kernel),_,rfl,_,rfl,?_⟩
 refine⟨M,q,qx,p,d,ra,tq,tx,sa,L,e.od,B,y,0,n,c,[],100,rfl,U,C,by omega,by omega,⟨rJ n0 n1,JM _,by omega,by rw[List.length_nil];omega⟩,?_⟩
 rw[nO B e.od (show c < 41 by omega)]
 cases hres:rS B e.od y 0 n c [] with
 | ok a k' sd=>
  rw[hres] at g
  intro H' sa' C'
  refine⟨_,rfl,q,CA,qx,_,_,rfl,C'.same _ _ U.ob,T.cl,T.nTally,Ji _ _ _,tq,CT,tx,_,_,rfl,C'.hq,TT.cl,TT.nSaid,Ny _ _,?_⟩
  exact g sa' H' (sA.free C'.ms) (sA.trans C'.same) C'.hs
 | una k' sd=>
  rw[hres] at g
  exact λH' sa' C'=>g H' (sA.trans C'.same)
 | spent=>
  rw[hres] at g
  exact λH' hs=>g H' (sA.trans hs)
end
end Bk
namespace Bk
open PySem L2 Mg Nm
theorem Xj{α:Type}[DecidableEq α]:∀t:List α,t.Nodup->Eg t.length [t,[]]=(t,[[],[]])
 | [],_=>Wy rfl
 | a::t,h=>by
  obtain⟨h1,h2⟩:=LW.mp h
  have hp:pick (cnt [a::t,[]]) [a::t,[]]=some a:=Pj (Jj.mpr λr hr=>by
   rcases JT.mp hr with rfl | hr
   ·exact h1
   ·rw[JP] at hr
    subst hr
    exact KL)
  rw[LU,Qn hp]
  have e:[a::t,[]].map (Cv a)=[t,[]]:=by rw[LY,Iw];rfl
  rw[e,Xj t h2]
theorem vN{α:Type}[DecidableEq α]{a:α}{t:List α}(h:(a::t).Nodup):Eg (t.length+1) [a::t,[a]]=(a::t,[[],[]]):=by
 obtain⟨h1,h2⟩:=LW.mp h
 have hp:pick (cnt [a::t,[a]]) [a::t,[a]]=some a:=Pj (Jj.mpr λr hr=>by
  rcases JT.mp hr with rfl | hr
  ·exact h1
  ·rw[JP] at hr
   subst hr
   exact KL)
 rw[Qn hp]
 have e:[a::t,[a]].map (Cv a)=[t,[]]:=by rw[LY,Iw,LY,Iw];rfl
 rw[e,Xj t h2]
theorem Nn{H:Hp}{a b:JO}{o:HO}(h:upd H a o b=none):H b=none:=by
 by_cases e:b=a
 ·rw[e,Aa] at h
  cases h
 ·rw[Aj e] at h
  exact h
theorem uM{CB CH:JO}{H:Hp}{p d:JO}{L:List Ent}{x:Str}{e:Ent}{t:List Str}(B:Be CB CH H p d L)(hx:iQ x)(hn:Hl L x=none)(hl:L.length<=100)(he:e∈L)(ho:e.od=e.nm::t)(hd:e.od.Nodup)(hle:e.od.length<=100):Wv CB CH H p d L x [e.nm] (t.length+1)/\(Eg (t.length+1) (rowsOf L [e.nm])).1=e.od:=by
 have hf:=Mn B.nd he
 have er:rowsOf L [e.nm]=[e.nm::t,[e.nm]]:=by
  unfold rowsOf
  rw[LY,gK hf,ho]
  rfl
 have hr:Eg (t.length+1) (rowsOf L [e.nm])=(e.nm::t,[[],[]]):=by rw[er];exact vN (by rw[<- ho];exact hd)
 refine⟨⟨B,Up hx,by rw[KS];have:=hx.2.1;omega,hn,λy hy=>?_,by simp,by simp,hl,?_,λr hr'=>?_,?_⟩,by rw[hr,ho]⟩
 ·rw[JP] at hy
  subst hy
  exact⟨e,hf⟩
 ·rw[er]
  rw[ho] at hle
  have:Ff [e.nm::t,[e.nm]]=(e.nm::t).length+(1+0):=rfl
  omega
 ·rw[hr] at hr'
  simpa using hr'
 ·rw[hr]
  rw[ho] at hle
  show (e.nm::t).length<=900
  omega
end Bk
namespace Mg
section
variable {α:Type} [DecidableEq α]
theorem Sr{rs:List (List α)}{x:α}{xs:List α}(h:Good rs (x::xs)):pick (cnt rs) rs=some x/\Good (rs.map (Cv x)) xs:=
 ⟨h 0 x rfl,λi y hy=>h (i+1) y (by rw[List.getElem?_cons_succ];exact hy)⟩
theorem jD{x y:α}{r:List α}(h:y∈Cv x r):y∈r:=by
 cases r with
 | nil=>exact h
 | cons z r=>
  rw[Fd] at h
  by_cases e:z=x
  ·rw[if_pos e] at h;exact JU _ h
  ·rw[if_neg e] at h;exact h
theorem Qy:∀ {xs:List α} {rs:List (List α)},Good rs xs->∀x∈xs,∃r∈rs,x∈r
 | [],_,_,x,hx=>nomatch hx
 | y::xs,rs,h,x,hx=>by
  obtain⟨h1,h2⟩:=Sr h
  rcases JT.mp hx with rfl | hx
  ·obtain⟨_,r,hr,t,rfl⟩:=Ht h1
   exact⟨_,hr,JW⟩
  ·obtain⟨r,hr,hm⟩:=Qy h2 x hx
   obtain⟨r0,hr0,rfl⟩:=LR.mp hr
   exact⟨r0,hr0,jD hm⟩
theorem Oy:∀ {xs:List α} {rs:List (List α)},Good rs xs->xs.Nodup
 | [],_,_=>OV
 | y::xs,rs,h=>by
  obtain⟨h1,h2⟩:=Sr h
  refine LW.mpr ⟨λhy=>?_,Oy h2⟩
  obtain⟨r,hr,hm⟩:=Qy h2 y hy
  obtain⟨r0,hr0,rfl⟩:=LR.mp hr
  have hz:=Jj.mp (Ht h1).1 r0 hr0
  cases r0 with
  | nil=>exact nomatch hm
  | cons z t=>
   rw[Fd] at hm
   by_cases e:z=y
   ·rw[if_pos e] at hm;exact hz hm
   ·rw[if_neg e] at hm
    rcases JT.mp hm with q | q
    ·exact e q.symm
    ·exact hz q
theorem len_sub:∀ {l m:List α},l.Nodup->(∀x∈l,x∈m)->l.length<=m.length
 | [],m,_,_=>LK _
 | x::l,m,nd,h=>by
  obtain⟨n1,n2⟩:=LW.mp nd
  have hx:=h x JW
  have:=len_sub (l:=l) (m:=m.erase x) n2 λy hy=>(List.mem_erase_of_ne (λz=>n1 (by rw[<- z];exact hy))).mpr (h y (JU _ hy))
  rw[List.length_erase_of_mem hx] at this
  have hp:0 < m.length:=List.length_pos_of_mem hx
  rw[LU]
  omega
end
end Mg
namespace L2
open PySem PySem.Spec PyProof.Rows
section
variable {Y:Cx} {pins:List (JO×Obj)} {σ:St} {H:Hp} {s:JL}
open Classical in
theorem Inv.env0W(I:Inv Y pins σ H s){x:JO}{oe:Obj}{vs:Array JH}(hx:(x,oe)∈Y.pn)(d:oe.data=.fields vs):
 ∃base':MV,Vc Y.prog Y.w Y.K Y.mg base' Y.A Y.stack s H/\base'.get? x=some oe:=by
 obtain⟨gx,hx0,_,_,_⟩:=I.pin (x,oe) (ML _ hx)
 let HX:Hp:=λb=>if (Y.base.get? b).isSome=true∨b=x then none else some (.own 0)
 have up:∀b o,Y.base.get? b=some o->(Lm s.heap HX).get? b=some o:=λb o e=>Qd (I.bk b o e) (if_pos (.inl (by rw[e];rfl)))
 have only:∀b o,(Lm s.heap HX).get? b=some o->s.heap.get? b=some o/\((∃u,Y.base.get? b=some u)∨b=x):=λb o e=>by
  obtain⟨e1,e2⟩:=gC e
  refine⟨e1,?_⟩
  by_cases z:(Y.base.get? b).isSome=true∨b=x
  ·rcases z with z | z
   ·exact .inl (RL.mp z)
   ·exact .inr z
  ·have:HX b=some (.own 0):=if_neg z
   rw[this] at e2
   cases e2
 refine⟨Lm s.heap HX,⟨I.ok.frames,⟨I.mod.kin.keeps up,I.mod.glob.keeps up,(let ⟨mb,h1,h2⟩:=I.mod.blt;⟨mb,h1.keeps up,h2⟩),I.mod.nolimit.keeps up⟩,λb o e=>?_,QT (Sz _ _),?_,I.stkFree,I.hok,I.bare⟩,Qd gx (if_pos (.inr rfl))⟩
 ·obtain⟨e1,z⟩:=only b o e
  rcases z with ⟨u,z⟩ | rfl
  ·exact⟨e1,(I.bs b u z).2⟩
  ·exact⟨e1,hx0⟩
 ·have all:∀l:List Env,s.heap.FunFrames Y.base l->s.heap.FunFrames (Lm s.heap HX) l:=by
   intro l
   induction l with
   | nil=>intro _;trivial
   | cons env r ih=>
    intro hl
    obtain⟨hk,⟨L,o,hf,hn,ho,hd⟩,hr⟩:=hl
    refine⟨hk,⟨L,o,hf,?_,ho,hd⟩,ih hr⟩
    cases q:(Lm s.heap HX).get? L with
    | none=>rfl
    | some u=>
     obtain⟨e1,z⟩:=only L u q
     rcases z with ⟨v,z⟩ | rfl
     ·rw[hn] at z
      cases z
     ·rw[gx] at ho
      cases ho
      exact absurd d (hd vs)
  exact all Y.stack I.stack
end
def Wp(P:KI)(w:LQ)(K:JG)(mg:Str->Option JH)(k:Nat)(f:JO)(fd:LG)(ps:List Str)(sp:Sp):Prop:=∀base:MV,K.In base->base.Ns LH mg->Al P w K mg base Bi k f fd ps sp
section
variable {Y:Cx} {k:Nat} {f C x:JO} {oe:Obj} {ws:Array JH} {fd:LG} {ps:List Str} {sp:Sp} {dvs:List V} {ds:List JH} {m:Str} {p pos apos:Pos} {e o:Expr} {es:List Expr} {ta:TE} {t:TA}
theorem vQ{pins:List (JO×Obj)}{σ:St}{H:Hp}{s:JL}{Q:VK}{us:List JH}{vs:List V}(F:Wp Y.prog Y.w Y.K Y.mg k f fd ps sp)(hA:Y.A.handled=some (.ref x))(hx:(x,oe)∈Y.pn)(d:oe.data=.fields ws)(c:ws[2]? = some .none)(hr:Co k Y.A)(hb:Binds Y.K fd ps ds)(hd:Bb dvs ds)(I:Inv Y pins σ H s)(r:Bb vs us)(h:sp (vs++dvs) H Q E0):KY (LB Y.prog Y.w) Y.A (call (.ref f) us) (EP Y pins σ Q) Y.xe s:=by
 obtain⟨base',e0,gx⟩:=I.env0W hx d
 have G:=F base' e0.mod.kin e0.mod.glob
 have r2:Bb (vs++dvs) (us++ds):=r.append hd
 have hl:(us++ds).length=ps.length:=by rw[<- r2.length];exact G.len _ _ _ _ h
 refine SA (PY (G.run Y.A Y.stack s H ⟨us,[]⟩ (us++ds) (vs++dvs) Q E0 ⟨hr,(λz=>nomatch z),.inr ⟨x,oe,ws,hA,gx,d,c⟩⟩ e0 (hb s us I.kIn hl) r2 h) λr s' hq=>?_)
 cases r with
 | error e=>exact MF hq
 | ok fl=>
  cases fl with
  | ret u=>exact I.after hq
  | next=>exact MF hq
  | brk=>exact MF hq
  | cont=>exact MF hq
theorem oJ{pl:Sem Bool}(he:PE Y o ta)(cl:Wb Y.K C)(hm:Dt Y.K C m f)(F:Wp Y.prog Y.w Y.K Y.mg k f fd ps sp)(hA:Y.A.handled=some (.ref x))(hx:(x,oe)∈Y.pn)(d:oe.data=.fields ws)(c:ws[2]? = some .none)(hr:Co k Y.A)(hb:Binds Y.K fd ps ds)(hd:Bb dvs ds)(ha:PA Y (e::es) t)(hst:KW (e::es) Y.env=(false,PD e Y.env)::KW es Y.env:=by rfl)(hpl:(QO pos (KW es Y.env)).any (·.1)=false:=by rfl)(ht:PD (.Call (.Attribute o m apos) (e::es) [] pos) Y.env=(do
  let ov <- PD o Y.env
  standAt apos.atName
  let (f,first) <- holding [ov] (getMethod ov m pl)
  callWith pos f first (QO pos (KW (e::es) Y.env)) (backToKw pos (QY [] Y.env))):=by rfl):
 PE Y (.Call (.Attribute o m apos) (e::es) [] pos) (rF C m sp dvs E0 ta t):=by
 intro pins s σ H Q I h
 refine PN (pl:=pl) (Bu (he pins s σ H _ I h) λu s1 ⟨y,H1,I1,rx,a,dx,fs,ex,ea,l,q⟩=>?_) ht
 subst ex
 obtain rfl:u=JZ a:=rx
 refine Fb I1 ea cl hm l ?_
 refine NX (first:=[.ref a]) (h₀:=Y.base) I.ok.mod.kin hm.kp (Bu (ha pos pins s1 σ H1 _ I1 q) λus s2 ⟨vs,H2,I2,r,q2⟩=>⟨I2.kIn,?_⟩) hst hpl
 exact vQ (us:=.ref a::us) (vs:=.ref a::vs) F hA hx d c hr hb hd I2 (.cons rfl r) q2
end
theorem pZ{X:Cx}{K:JG}{EX:XS}{th:Ends->XS}{hs:List SQ}{C:JO}{c:Str}{np pos:Pos}{b₀:OU}{suite:List OU}{tsu:TS}(hcls:Gl X c)(hm:X.mg c=some (.ref C))(hsu:∀x oe ws,oe.data=.fields ws->ws[2]? = some .none->Hy (Ii X x oe) (b₀::suite) tsu)(hr:PH X hs EX th)(hK:X.K=K:=by rfl)(hdb:(c == ("__debug__" : Str))=false:=by decide):PH X (.ExceptHandler (some (.Name c np)) none (b₀::suite) pos::hs) EX (II K C tsu th):=by
 subst hK
 intro σ H s x cls dx T oe oT vs ts D I fx fT a h
 refine eE (ts':=λ_ ye=>λD σ H=>(∃ws,ye.data=.fields ws/\ws[2]? = some .none)/\tsu D σ H) hcls hm (λy ye pn s' σ' H' D' I' ⟨⟨ws,d,c⟩,h'⟩=>hsu y ye ws d c pn s' σ' H' D' I' h') hr hdb σ H s x cls dx T oe oT vs ts D I fx fT a ?_
 obtain⟨b,hb,h⟩:=h
 refine⟨b,hb,?_⟩
 cases b with
 | true=>rw[if_pos rfl] at h ⊢;exact λ_ _ _ _ _ w=>⟨w,h⟩
 | false=>rw[if_neg JR] at h ⊢;exact h
end L2
namespace Bk
open PySem L2 Mg Nm Rk PySem.SeqAt
def Gv(L:List Ent):Prop:=∀e∈L,e.od.Nodup/\(∃t,e.od=e.nm::t)/\∀y∈e.od,y∈L.map (·.nm)
theorem Oa{L:List Ent}(h:Gv L){e:Ent}(he:e∈L):e.od.length<=L.length:=by
 have:=len_sub (h e he).1 (h e he).2.2
 rwa [JJ] at this
theorem eG{L:List Ent}{e:Ent}{x:Str}{found:List Str}(h:Gv L)(nm:e.nm=x)(od:e.od=x::found)(nd:found.Nodup)(hin:∀y∈found,y∈L.map (·.nm))(hx:x∉L.map (·.nm)):Gv (L++[e]):=by
 intro e' he'
 rcases KO.mp he' with h1 | h1
 ·obtain⟨a,b,c⟩:=h e' h1
  exact⟨a,b,λy hy=>by rw[JX];exact ML _ (c y hy)⟩
 ·rw[JP.mp h1,od,nm]
  refine⟨LW.mpr ⟨λz=>hx (hin x z),nd⟩,⟨found,rfl⟩,λy hy=>?_⟩
  rw[JX]
  rcases JT.mp hy with rfl | hy
  ·exact KC _ (by simp[nm])
  ·exact ML _ (hin y hy)
theorem pG{L:List Ent}{y:Str}(h:y∈L.map (·.nm)):Hl L y≠none:=λz=>by
 obtain⟨e,he,rfl⟩:=LR.mp h
 have:=List.find?_eq_none.mp z e he
 exact this (by simp)
theorem Sh{L:List Ent}(h:Gv L){el:List Str}:∀r∈orders L el,r.length<=L.length/\∀y∈r,y∈L.map (·.nm):=by
 intro r hr
 obtain⟨y,_,rfl⟩:=LR.mp hr
 cases q:Hl L y with
 | none=>exact⟨LK _,λz hz=>nomatch hz⟩
 | some e=>
  have he:=(Fx q).1
  exact⟨Oa h he,(h e he).2.2⟩
theorem pY{n:Nat}:∀ {rs:List (List Str)},(∀r∈rs,r.length<=n)->Ff rs<=n * rs.length:=by
 intro rs
 induction rs with
 | nil=>intro _;exact LK _
 | cons r rs ih=>
  intro h
  have h1:=h r JW
  have h2:=ih λr' hr'=>h r' (JU _ hr')
  have:Ff (r::rs)=r.length+Ff rs:=rfl
  rw[this,LU,Nat.mul_succ]
  omega
theorem rA{rs:List (List Str)}{r:List Str}:Ff (rs++[r])=Ff rs+r.length:=by
 induction rs with
 | nil=>show r.length+0=0+r.length;omega
 | cons q rs ih=>
  have e1:Ff (q::rs++[r])=q.length+Ff (rs++[r]):=rfl
  have e2:Ff (q::rs)=q.length+Ff rs:=rfl
  rw[e1,e2,ih]
  omega
theorem Ta:∀(xs:List Str){rs:List (List Str)},(∀r∈rs,r=[])->∀r∈after rs xs,r=[]
 | [],_,h=>h
 | x::xs,rs,h=>by
  show ∀r∈after (rs.map (Cv x)) xs,r=[]
  refine Ta xs λr hr=>?_
  obtain⟨r',hr',rfl⟩:=LR.mp hr
  rw[h r' hr']
  rfl
theorem Wm(xs:List V)(y:V):Fy (xs++[y]) (some (-1)) none=[y]:=by
 have e:HT.sIx (xs++[y]).length 0 (some (-1))=xs.length:=by
  show (if (-1:Int) < 0 then ((-1:Int)+((xs++[y]).length:Int)).toNat else min (-1:Int).toNat (xs++[y]).length)=xs.length
  rw[if_pos (by decide),JN,JY]
  omega
 unfold Fy
 rw[e,List.drop_left]
 show List.take ((xs++[y]).length-xs.length) [y]=[y]
 rw[JN,JY,Nat.add_sub_cancel_left]
 rfl
def oM(CB CH:JO)(H:Hp)(p d:JO)(L:List Ent)(x:Str)(Q:VK):Prop:=∀(H':Hp)(e:Ent),Be CB CH H' p d (L++[e])->e.nm=x->e.bd=[]->Gv (L++[e])->gE H e->(∀b o,H b=some o->b≠d->H' b=some o)->Q .non H'
abbrev IL:List Str:=["_law_book","_law_names","_law_name","_law_cell","_law_mixed_here","_law_elders"]
section
variable {P:KI} {w:LQ} {K:JG} {mg:Str->Option JH} {base:MV} {f fF CB CH CO:JO} {fd dF:LG}
theorem Yd(T:Ha K mg CB CH)(mO:mg "AtOdds" = some (.ref CO))(eO:QZ K (.ref CO) (.ref CO)=some true)(GX:Al P w K mg base (Gk P w) 5 fF dF ["self","name","elders"] (Lo CB CH CO))(GF:Wp P w K mg 4 fF dF ["self","name","elders"] (Nz CB CH))(bF3:Binds K dF ["self","name","elders"] [])(mF:Dt K CB "found" fF)(cdv:JH)(A:LM)(outer:List Env)(s:JL)(H:Hp)(E:XK)(hr:Co 5 (A.deeper (QE "_law_founded" (Ad Ej) s.heap.objs.size f cdv)))(Q:VK):
 ∃tt,Hy (Er Je P w K mg base IL "_law_founded" (Ad Ej) f cdv A outer s H E).nox ((Bg Ej).drop 5) tt /\
  ∀(H1:Hp)(p d na ea:JO)(L:List Ent)(x:Str)(el:List Str)(c m:V),Be CB CH H1 p d L->H1 na=some (.lst (Az (L.map (·.nm))))->Gv L->L.length<=40->iQ x->Hl L x=none->H1 ea=some (.lst (Az el))->el.Nodup->(∀y∈el,y∈L.map (·.nm))->el.length<=7->oM CB CH H1 p d L x Q ->
   tt { nx:=λ_ H'=>Q .non H',rt:=Q } [some (.ref p),some (.ref na),some (.str x),some c,some m,some (.ref ea)] H1:=by
 have hr4:=hr.mono (j:=4) (by decide)
 refine⟨_,Af (Zl (EX:=zN) Kq (λ_ _ h=>CV h) (λpn EX1=>Af (Bx (Eu (pv 0) T.clB mF GX hr bF3 .nil (Em (pv 2) (pv 5)))))
  (λpn=>pZ (K:=K) rfl mO (λy oe ws hd hc=>Af (Bx (oJ (pv 0) T.clB mF GF rfl (JW) hd hc ⟨hr4.dp,hr4.un⟩ bF3 .nil (Em (pv 2) (Cj pV (pv 1) (Cy (Jy Gx Ae)) Dw))))) (aX ⟨rfl,rfl,rfl⟩))),?_⟩
 intro H1 p d na ea L x el c m B ena O hL hx hn eea nd hin hel q
 obtain⟨dx,hp⟩:=B.ob
 have xin:x∉L.map (·.nm):=λz=>pG z hn
 have M:Wo CB CH H1 p d L el:=⟨B,by omega,by omega,λe he=>(O e he).1,by
  rw[rA]
  have h1:=pY (n:=40) λr hr'=>KZ (Sh O (el:=el) r hr').1 hL
  have h2:(orders L el).length=el.length:=JJ _
  rw[h2] at h1
  omega⟩
 refine⟨_,rfl,p,dx,_,rfl,hp,Gs d (by decide +kernel),_,rfl,_,rfl,p,d,ea,L,x,el,rfl,M,eea,Up hx,(by have:=hx.2.1;omega),hn,(λy hy=>pG (hin y hy)),nd,λe found H2 hnew B2 k2 hg=>?_,λex joined H2 s2 edx hne=>?_⟩
 ·refine q H2 e B2 hnew.nm hnew.bd (eG O hnew.nm hnew.od (Oy hg) (λy hy=>?_) xin) ⟨hnew.f1,hnew.f2,hnew.f3,hnew.f4⟩ k2
  obtain⟨r,hr',hy'⟩:=Qy hg y hy
  rcases KO.mp hr' with z | z
  ·exact(Sh O r z).2 y hy'
  ·rw[JP.mp z] at hy'
   exact hin y hy'
 ·-- the last one alone
  have hLn:L≠[]:=λz=>by
   subst z
   have hel0:el=[]:=List.eq_nil_iff_forall_not_mem.mpr λy hy=>absurd (hin y hy) (by simp)
   subst hel0
   obtain⟨r,hr',hne'⟩:=hne
   exact hne' (Ta joined (by intro r hr;simpa [orders] using hr) r hr')
  obtain⟨L0,eL,rfl⟩:∃L0 eL,L=L0++[eL]:=⟨L.dropLast,L.getLast hLn,(List.dropLast_concat_getLast hLn).symm⟩
  have B2:=B.same s2
  obtain⟨dx2,hp2⟩:=B2.ob
  have ena2:H2 na=some (.lst (Az (L0.map (·.nm))++[V.str eL.nm])):=by
   rw[s2 _ _ ena,JX]
   unfold Az
   rw[JX]
   rfl
  have meL:eL∈L0++[eL]:=KC _ (JP.mpr rfl)
  obtain⟨ndL,⟨tL,odL⟩,inL⟩:=O eL meL
  refine⟨true,eO,Jn ?_⟩
  refine⟨_,rfl,p,dx2,_,rfl,hp2,Gs d (by decide +kernel),_,rfl,_,rfl,_,rfl,_,rfl,na,_,rfl,Aw.of ena2,λc3 hc3=>?_⟩
  rw[Wm]
  obtain⟨H3,zz,s3,e3⟩:=lay hc3 (.lst [V.str eL.nm])
  rw[zz]
  have e3:H3 c3=some (.lst (Az [eL.nm])):=e3
  have can:=uM (B2.same s3) hx hn (by omega) meL odL ndL (by have:=Oa O meL;omega)
  refine⟨p,d,L0++[eL],x,.ref c3,[eL.nm],_,rfl,can.1,.inr ⟨c3,rfl,e3⟩,λe H4 hnew B4 k4=>?_⟩
  obtain⟨nm,_,od,bd,fr⟩:=hnew
  rw[can.2] at od
  have sf:=s2.trans s3
  exact q H4 e B4 nm bd (eG O nm od ndL inL xin) ⟨sf.free fr.at_,sf.free fr.ea,sf.free fr.oa,sf.free fr.ba⟩ λb o hb hne'=>k4 b o ((s2.trans s3) _ _ hb) hne'
end
end Bk
namespace L2
open PySem PySem.Spec PyProof.Rows
theorem cB{lo:Int}{k n:Nat}{fr:List (Str×Nat)}{g:TG}{tc:TT}{te:TE}{σ:St}{H:Hp}{F:List V->Hp->Prop}(Pv:Nat->List V->Hp->Prop)(h0:Pv 0 [] H)(hs:∀i ys H,i < k->Pv i ys H->g (.int (lo-i)) (stC n fr σ) H λσ2 H2=>tc σ2 H2 λb H3=>if b=true then te σ2 H3 λy H4=>ys.length < JQ/\Pv (i+1) (ys++[y]) H4 else Pv (i+1) ys H3)(hd:∀ys H,Pv k ys H->F ys H):Ey n fr g tc te σ (tQ lo k) H F:=by
 refine⟨λi m ys H=>m=k-i/\i<=k/\Pv i ys H,⟨k,by simp,LK _,h0⟩,?_⟩
 rintro i m ys H ⟨rfl,hi,p⟩
 by_cases hlt:i < k
 ·refine .inr ⟨hlt,Pv (i+1),λys' H' p'=>⟨k-(i+1),by omega,rfl,hlt,p'⟩,λx H' y=>?_⟩
  obtain⟨e,y⟩:=y
  subst e y
  exact hs i ys _ hlt p
 ·have e:i=k:=by omega
  subst e
  exact .inl ⟨JM _,hd ys H p⟩
end L2
namespace Bk
open PySem L2 Mg Nm Rk PySem.SeqAt
structure uP(ns el:List Str):Prop where
 nd:el.Nodup
 sub:∀y∈el,y∈ns
theorem oN{ns:List Str}(hn:ns.Nodup):∃el,Fy (Az ns) (some (-1)) none=Az el/\uP ns el/\el.length<=1:=by
 by_cases h:ns=[]
 ·subst h
  exact⟨[],rfl,⟨OV,λy hy=>nomatch hy⟩,LK _⟩
 ·have e:ns=ns.dropLast++[ns.getLast h]:=(List.dropLast_concat_getLast h).symm
  refine⟨[ns.getLast h],?_,⟨by simp,λy hy=>?_⟩,JM _⟩
  ·generalize ns.getLast h=z at e
   generalize ns.dropLast=r at e
   subst e
   unfold Az
   rw[JX]
   exact Wm _ _
  ·rw[JP.mp hy]
   exact List.getLast_mem h
def Kf(CB CH:JO):Sp:=λvs H Q _=>∃(p d na:JO)(L:List Ent)(x:Str)(c:Int),vs=[.ref p,.ref na,.str x,.int c]/\Be CB CH H p d L/\H na=some (.lst (Az (L.map (·.nm))))/\Gv L/\L.length<=40/\iQ x/\Hl L x=none/\oM CB CH H p d L x Q
section
variable {P:KI} {w:LQ} {K:JG} {mg:Str->Option JH} {base:MV} {f fF CB CH CO:JO} {fd dF:LG}
theorem ED:(["_law_k","_law_mixed_here","_law_names"]:List Str).Nodup:=by decide +kernel
theorem Gg:An ["_law_book","_law_names","_law_name","_law_cell","_law_mixed_here","_law_elders"] ["_law_book","_law_names","_law_name","_law_cell"] (Ad Ej):=Ez (by decide +kernel)
theorem oM.same{CB CH:JO}{H H':Hp}{p d:JO}{L:List Ent}{x:Str}{Q:VK}(h:oM CB CH H p d L x Q)(s:Am H H'):oM CB CH H' p d L x Q:=λH2 e a b c o fr k=>h H2 e a b c o ⟨s.free fr.at_,s.free fr.ea,s.free fr.oa,s.free fr.ba⟩ λb' o' hb hne=>k b' o' (s _ _ hb) hne
theorem cI(F:Di K "_law_founded" "_law_founded" Ej f fd)(T:Ha K mg CB CH)(Tx:Txt mg)(mO:mg "AtOdds" = some (.ref CO))(eO:QZ K (.ref CO) (.ref CO)=some true)(GX:Al P w K mg base (Gk P w) 5 fF dF ["self","name","elders"] (Lo CB CH CO))(GF:Wp P w K mg 4 fF dF ["self","name","elders"] (Nz CB CH))(bF3:Binds K dF ["self","name","elders"] [])(mF:Dt K CB "found" fF):
 Al P w K mg base Je 6 f fd ["_law_book","_law_names","_law_name","_law_cell"] (Kf CB CH):=by
 refine F.ok1 Gg (λvs H Q E h=>?_) (λcdv A outer s H vs Q E hr h=>?_)
 ·obtain⟨p,d,na,L,x,c,rfl,_⟩:=h
  rfl
 obtain⟨p,d,na,L,x,c,rfl,B,ena,O,hL,hx,hn,q⟩:=h
 obtain⟨t5,h5,p5⟩:=Yd (f:=f) T mO eO GX GF bF3 mF cdv A outer s H E hr Q
 have nd:(L.map (·.nm)).Nodup:=B.nd
 have ln:(L.map (·.nm)).length=L.length:=JJ _
 -- if len(names) > 6
 refine Ge (tail:=(Bg Ej).drop 4) (λtt=>∀(H1:Hp)(ea:JO)(el:List Str)(m:V),Am H H1->H1 ea=some (.lst (Az el))->uP (L.map (·.nm)) el->el.length<=L.length->tt { nx:=λ_ H'=>Q .non H',rt:=Q } [some (.ref p),some (.ref na),some (.str x),some (.int c),some m,some (.ref ea)] H1) ?_ ?_
 ·refine⟨_,Ac (Ay (Ar Xf (Bw Tx.len (pv 1)) Ae (Au _)) (Af (Bv 5 Gg.nd (Cj El (pv 1) (Cy (Jy Gx Ae)) Dw))) Ap) h5,λH1 ea el m s1 eea hel hl=>?_⟩
  refine⟨_,rfl,na,_,rfl,.inl (Aw.of (s1 _ _ ena)),_,_,rfl,rfl,_,rfl,Br (λc1=>?_) (λc1=>?_)⟩
  ·refine⟨_,rfl,_,rfl,_,rfl,na,_,rfl,Aw.of (s1 _ _ ena),λc2 hc2=>?_⟩
   obtain⟨el2,e2,k2,l2⟩:=oN nd
   rw[e2]
   obtain⟨H2,zz,s2,e3⟩:=lay hc2 (.lst (Az el2))
   rw[zz]
   have sA:=s1.trans s2
   exact p5 H2 p d na c2 L x el2 _ _ (B.same sA) (sA _ _ ena) O hL hx hn e3 k2.nd k2.sub (by omega) (q.same sA)
  ·have c1':¬ (6:Int) < ((Az (L.map (·.nm))).length:Int):=λz=>c1 (decide_eq_true z)
   rw[Av,ln] at c1'
   exact p5 H1 p d na ea L x el _ _ (B.same s1) (s1 _ _ ena) O hL hx hn eea hel.nd hel.sub (by omega) (q.same s1)
 intro t4 h4 p4
 -- two of them the other way round
 refine Ge (tail:=(Bg Ej).drop 3) (λtt=>∀(H1:Hp)(ea:JO)(el:List Str)(m:Int),Am H H1->H1 ea=some (.lst (Az el))->uP (L.map (·.nm)) el->el.length<=L.length->tt { nx:=λ_ H'=>Q .non H',rt:=Q } [some (.ref p),some (.ref na),some (.str x),some (.int c),some (.int m),some (.ref ea)] H1) ?_ ?_
 ·refine⟨_,Ac (Ay (PW.pt (Px (Ar Cc (Aq Cb (pv 4) Ae) Ae (Au _)) (Lu (Ar Xf (Bw Tx.len (pv 5)) Ae (Au _)))))
   (Af (Bv 5 Gg.nd (Aq Jr (De (Em (As Bj (pv 5) Ae (λ_ _=>rfl)) (As Bj (pv 5) Ae (λ_ _=>rfl)))) (Cj El (pv 5) (Cy Ae) Dw)))) Ap) h4,λH1 ea el m s1 eea hel hl=>?_⟩
  refine⟨_,rfl,_,_,rfl,rfl,(by show (0:Int) < 5;decide),rfl,_,rfl,Br (λc1=>?_) (λc1=>p4 H1 ea el _ s1 eea hel hl)⟩
  refine⟨_,rfl,ea,_,rfl,.inl (Aw.of eea),_,_,rfl,rfl,_,rfl,Br (λc2=>?_) (λc2=>p4 H1 ea el _ s1 eea hel hl)⟩
  have c2':(1:Int) < ((Az el).length:Int):=of_decide_eq_true c2
  rw[Av] at c2'
  match el,hel,hl,eea,c2' with
  | a0::a1::r,hel,hl,eea,_=>
   refine⟨_,rfl,ea,_,_,_,rfl,rfl,Aw.of eea,Bc (j:=1) rfl,_,rfl,ea,_,_,_,rfl,rfl,Aw.of eea,Bc (j:=0) rfl,by show 2<=JQ;decide,λl2 hl2=>?_⟩
   obtain⟨H2,zz,s2,e2⟩:=lay hl2 (.lst [V.str a1,V.str a0])
   rw[zz]
   refine⟨_,rfl,_,rfl,ea,_,rfl,Aw.of (s2 _ _ eea),λl3 hl3=>?_⟩
   have ecut:Fy (Az (a0::a1::r)) (some 2) none=Az r:=by
    have e:HT.sIx (Az (a0::a1::r)).length 0 (some ((2:Nat):Int))=2:=by rw[HT.sIx_nat,Av];simp
    unfold Fy
    rw[show HT.sIx (Az (a0::a1::r)).length 0 (some 2)=2 from e]
    show List.take ((Az (a0::a1::r)).length-2) (Az r)=Az r
    refine LN ?_
    rw[Av,Av]
    simp
   rw[ecut]
   obtain⟨H3,zz,s3,e3⟩:=lay hl3 (.lst (Az r))
   rw[zz]
   refine⟨l2,l3,_,_,rfl,rfl,s3 _ _ e2,e3,by rw[Av,KS];simp only[LU,List.length_nil] at *;omega,λl4 hl4=>?_⟩
   have s4:=Ag hl4 (.lst ([V.str a1,V.str a0]++Az r))
   have nd':=hel.nd
   refine p4 _ l4 (a1::a0::r) _ (((s1.trans s2).trans s3).trans s4) Aa ⟨?_,λy hy=>hel.sub y ?_⟩ hl
   ·simp only[LW,JT,not_or] at nd' ⊢
    exact⟨⟨LL nd'.1.1,nd'.2.1⟩,nd'.1.2,nd'.2.2⟩
   ·simp only[JT] at hy ⊢
    rcases hy with h | h | h
    ·exact .inr (.inl h)
    ·exact .inl h
    ·exact .inr (.inr h)
 intro t3 h3 p3
 -- the last one alone
 refine Ge (tail:=(Bg Ej).drop 2) (λtt=>∀(H1:Hp)(ea:JO)(el:List Str)(m:Int),Am H H1->H1 ea=some (.lst (Az el))->uP (L.map (·.nm)) el->el.length<=L.length->tt { nx:=λ_ H'=>Q .non H',rt:=Q } [some (.ref p),some (.ref na),some (.str x),some (.int c),some (.int m),some (.ref ea)] H1) ?_ ?_
 ·refine⟨_,Ac (Ay (Ar Cc (Aq Cb (pv 4) Ae) Ae (Au _)) (Af (Bv 5 Gg.nd (Cj El (pv 1) (Cy (Jy Gx Ae)) Dw))) Ap) h3,λH1 ea el m s1 eea hel hl=>?_⟩
  refine⟨_,rfl,_,_,rfl,rfl,(by show (0:Int) < 5;decide),rfl,_,rfl,Br (λc1=>?_) (λc1=>p3 H1 ea el m s1 eea hel hl)⟩
  refine⟨_,rfl,_,rfl,_,rfl,na,_,rfl,Aw.of (s1 _ _ ena),λc2 hc2=>?_⟩
  obtain⟨el2,e2,k2,l2⟩:=oN nd
  rw[e2]
  have s2:=Ag hc2 (.lst (Az el2))
  refine p3 _ c2 el2 m (s1.trans s2) Aa k2 ?_
  have:=len_sub k2.nd k2.sub
  omega
 intro t2 h2 p2
 refine⟨_,Ac (Mw (i:=4) Gg.nd rfl (Or.inr rfl) (Aq Cb (Aq Ku (pv 3) Ae) Ae))
  (Ac (Dd (i:=5) (Ad Ej) IL ["_law_k"] [("_law_mixed_here", 4),("_law_names", 1)] rfl Gg.nd rfl rfl (uJ rfl Tx.range (Iz (Aq Jo (Bw Tx.len (pv 1)) Ae) (Jy Gx Ae) (Jy Gx Ae))) (Bm (i:=0) (by decide)) (λ_ _ _ _ _ _=>⟨Dg 0 ED,
   Uq (Ar Xf (Aq Cb (Aq Dy (pv 1) (Aq Cm (pv 0) Ae)) Ae) Ae (Au _)),As (Ye (K:=K)) (pv 2) (pv 0) (λ_ _=>rfl)⟩)) h2),?_⟩
 refine⟨_,rfl,_,_,rfl,rfl,.inr ⟨by decide,by decide⟩,_,_,rfl,rfl,(by show (0:Int) < 2147483647;decide),?_⟩
 dsimp only
 generalize c * 48271 % 2147483647=m
 have lsv:(Az (L.map (·.nm))).length=L.length:=by rw[Av,ln]
 refine⟨_,rfl,na,_,rfl,.inl (Aw.of ena),_,_,rfl,rfl,_,rfl,_,rfl,_,_,rfl,⟨by omega,by omega,by decide,by decide⟩,?_⟩
 refine cB (λi ys H1=>H1=H/\∃el,ys=Az el/\el.Nodup/\el.length<=i/\∀y∈el,∃j:Nat,L.length<=j+i/\(L.map (·.nm))[j]? = some y) ⟨rfl,[],rfl,OV,LK _,λy hy=>nomatch hy⟩ ?_ ?_
 ·rintro i ys H1 hi ⟨rfl,el,rfl,nde,hle,hin⟩
  have hi':i < L.length:=by omega
  have hk:(((Az (L.map (·.nm))).length:Int)-1-(i:Int))=((L.length-1-i:Nat):Int):=by omega
  rw[hk]
  have hlt:L.length-1-i < (L.map (·.nm)).length:=by omega
  obtain⟨y,hy⟩:∃y,(L.map (·.nm))[L.length-1-i]? = some y:=⟨_,JK hlt⟩
  refine⟨_,rfl,_,rfl,_,_,rfl,rfl,_,_,rfl,rfl,⟨by omega,by omega⟩,_,_,rfl,rfl,(by show (0:Int) < 3;decide),_,_,rfl,rfl,_,rfl,Br (λc1=>?_) (λc1=>?_)⟩
  ·refine⟨_,rfl,_,rfl,na,_,_,_,rfl,rfl,Aw.of ena,Bc (j:=L.length-1-i) (by unfold Az;rw[KP,hy];rfl),by rw[Av,KS];omega,rfl,el++[y],by unfold Az;rw[JX];rfl,?_,by rw[JN,JY];omega,λz hz=>?_⟩
   ·refine OE.mpr ⟨nde,by simp,λa ha b hb=>?_⟩
    rw[JP.mp hb]
    intro e
    subst e
    obtain⟨j,hj,hjy⟩:=hin a ha
    have:=(List.getElem?_inj (JF.mp hjy).1 nd).mp (hjy.trans hy.symm)
    omega
   ·rcases KO.mp hz with h | h
    ·obtain⟨j,hj,hjy⟩:=hin z h
     exact⟨j,by omega,hjy⟩
    ·rw[JP.mp h]
     exact⟨L.length-1-i,by omega,hy⟩
  ·exact⟨rfl,el,rfl,nde,by omega,λz hz=>let ⟨j,a,b⟩:=hin z hz;⟨j,by omega,b⟩⟩
 ·rintro ys H1 ⟨rfl,el,rfl,nde,hle,hin⟩ ea hea
  refine p2 _ ea el m (Ag hea _) Aa ⟨nde,λy hy=>let ⟨j,_,b⟩:=hin y hy;KD b⟩ ?_
  have:=len_sub nde (m:=L.map (·.nm)) λy hy=>let ⟨j,_,b⟩:=hin y hy;KD b
  omega
end
end Bk
namespace Ah
inductive CR where
 | ans (k:Nat) | una (k:Nat) | spent
abbrev RecC:=Nat->Nat->CR
def cLd(R:RecC)(k:Nat):Ld->CR
 | .none=>.una k
 | .go p=>R p k
def cEi(R:RecC)(a b:Ld)(k:Nat):CR:=match cLd R k a with
 | .una k'=>cLd R k' b
 | .ans k'=>.ans k'
 | .spent=>.spent
def cSt(R:RecC)(k:Nat):Stp->CR
 | .ld l=>cLd R k l
 | .ei a b=>cEi R a b k
 | .oth=>.ans k
def cSts(R:RecC):List Stp->Nat->CR
 | [],k=>.ans k
 | s::t,k=>match cSt R k s with
  | .ans k'=>cSts R t k'
  | .una k'=>.una k'
  | .spent=>.spent
def Ve(row:Nat->List Stp):Nat->RecC
 | 0=>λ_ _=>.spent
 | m+1=>λp k=>match k with
  | 0=>.spent
  | k'+1=>cSts (Ve row m) (row p) k'
def Le(k:Nat):CR->Prop
 | .ans k'=>k'<=k
 | .una k'=>k'<=k
 | .spent=>True
theorem Le.mono{k k':Nat}(h:k<=k'):∀ {r:CR},Le k r->Le k' r
 | .ans _,z=>KZ z h
 | .una _,z=>KZ z h
 | .spent,_=>trivial
def Ws(R:RecC):Prop:=∀p k,Le k (R p k)
theorem Vb{R:RecC}(h:Ws R){k:Nat}:∀l,Le k (cLd R k l)
 | .none=>JM _
 | .go p=>h p k
theorem qP{R:RecC}(h:Ws R){k:Nat}:∀s,Le k (cSt R k s)
 | .ld l=>Vb h l
 | .oth=>JM _
 | .ei a b=>by
  show Le k (cEi R a b k)
  have h1:=Vb h (k:=k) a
  unfold cEi
  cases e:cLd R k a with
  | ans k'=>rw[e] at h1;exact h1
  | una k'=>rw[e] at h1;exact(Vb h b).mono h1
  | spent=>trivial
theorem gL{R:RecC}(h:Ws R):∀ {r:List Stp} {k:Nat},Le k (cSts R r k)
 | [],_=>JM _
 | s::t,k=>by
  have h1:=qP h (k:=k) s
  unfold cSts
  cases e:cSt R k s with
  | ans k'=>rw[e] at h1;exact(gL h).mono h1
  | una k'=>rw[e] at h1;exact h1
  | spent=>trivial
theorem Vt(row:Nat->List Stp):∀m,Ws (Ve row m)
 | 0=>λ_ _=>trivial
 | m+1=>λp k=>by
  cases k with
  | zero=>trivial
  | succ k=>exact(gL (Vt row m)).mono (ON k)
def Agree(k:Nat)(R R':RecC):Prop:=∀p j,j<=k->R p j=R' p j
theorem Agree.le{k k':Nat}{R R':RecC}(h:Agree k R R')(hk:k'<=k):Agree k' R R':=λp j hj=>h p j (KZ hj hk)
theorem cJ{R R':RecC}{k:Nat}(h:Agree k R R'):∀l,cLd R k l=cLd R' k l
 | .none=>rfl
 | .go p=>h p k (JM _)
theorem xP{R R':RecC}{k:Nat}(h:Agree k R R')(hl:Ws R):∀s,cSt R k s=cSt R' k s
 | .ld l=>cJ h l
 | .oth=>rfl
 | .ei a b=>by
  show cEi R a b k=cEi R' a b k
  unfold cEi
  rw[<- cJ h a]
  have h1:=Vb hl (k:=k) a
  cases e:cLd R k a with
  | ans k'=>rfl
  | una k'=>rw[e] at h1;exact cJ (h.le h1) b
  | spent=>rfl
theorem Vx{R R':RecC}(hl:Ws R):∀ {r:List Stp} {k:Nat},Agree k R R'->cSts R r k=cSts R' r k
 | [],_,_=>rfl
 | s::t,k,h=>by
  unfold cSts
  rw[<- xP h hl s]
  have h1:=qP hl (k:=k) s
  cases e:cSt R k s with
  | ans k'=>rw[e] at h1;exact Vx hl (h.le h1)
  | una k'=>rfl
  | spent=>rfl
theorem gW(row:Nat->List Stp):∀(k m m':Nat),k < m->k < m'->Agree k (Ve row m) (Ve row m')
 | k,0,_,h,_=>absurd h (Nat.not_lt_zero _)
 | k,_,0,_,h=>absurd h (Nat.not_lt_zero _)
 | k,m+1,m'+1,h,h'=>λp j hj=>by
  cases j with
  | zero=>rfl
  | succ j=>
   show cSts (Ve row m) (row p) j=cSts (Ve row m') (row p) j
   exact Vx (Vt row m) (gW row j m m' (by omega) (by omega))
termination_by k m m'=>m
def cR(row:Nat->List Stp):RecC:=λp k=>Ve row (k+1) p k
theorem AA(row:Nat->List Stp){m p k:Nat}(h:k < m):Ve row m p k=cR row p k:=gW row k m (k+1) h (QG k) p k (JM _)
theorem uA(row:Nat->List Stp)(p:Nat):cR row p 0=.spent:=rfl
theorem cR_succ(row:Nat->List Stp)(p k:Nat):cR row p (k+1)=cSts (cR row) (row p) k:=by
 show cSts (Ve row (k+1)) (row p) k=_
 exact Vx (Vt row _) λq j hj=>AA row (by omega)
def val:Nd->Nat->CR
 | .ans j,k=>if j<=k then .ans (k-j) else .spent
 | .una j,k=>if j<=k then .una (k-j) else .spent
 | .nev,_=>.spent
 | .need _,_=>.spent
section
variable {row:Nat->List Stp} {n:Nat} {m:Mp}
theorem Zj(hm:∀p,p < n->m p≠none){k:Nat}(ih:∀p e,m p=some e->cR row p k=val e k){l:Ld}(hl:∀p∈ldsL l,p < n):cLd (cR row) k l=val (Hx m l) k:=by
 cases l with
 | none=>
  show CR.una k=if 0<=k then CR.una (k-0) else .spent
  rw[if_pos (LK _),Nat.sub_zero]
 | go p=>
  have hp:=hm p (hl p (JP.mpr rfl))
  cases e:m p with
  | none=>exact absurd e hp
  | some x=>
   show cR row p k=val ((m p).getD (.need p)) k
   rw[e]
   exact ih p x e
theorem yG(hm:∀p,p < n->m p≠none){K:Nat}(ih:∀k,k<=K->∀p e,m p=some e->cR row p k=val e k){k:Nat}(hk:k<=K){s:Stp}(hl:∀p∈Qo s,p < n):cSt (cR row) k s=val (Rf m s) k:=by
 cases s with
 | ld l=>exact Zj hm (ih k hk) hl
 | oth=>
  show CR.ans k=if 0<=k then CR.ans (k-0) else .spent
  rw[if_pos (LK _),Nat.sub_zero]
 | ei a b=>
  have ha:=Zj hm (ih k hk) (l:=a) λp hp=>hl p (ML _ hp)
  show cEi (cR row) a b k=val (rO (Hx m a) (Hx m b)) k
  unfold cEi
  rw[ha]
  cases x:Hx m a with
  | ans j=>
   show (match (if j<=k then CR.ans (k-j) else .spent) with | .una k'=>cLd (cR row) k' b | .ans k'=>.ans k' | .spent=>.spent)=if j<=k then CR.ans (k-j) else .spent
   by_cases c:j<=k
   ·rw[if_pos c]
   ·rw[if_neg c]
  | nev=>rfl
  | need p=>rfl
  | una j=>
   show (match (if j<=k then CR.una (k-j) else .spent) with | .una k'=>cLd (cR row) k' b | .ans k'=>.ans k' | .spent=>.spent)=val (Nt j (Hx m b)) k
   by_cases c:j<=k
   ·rw[if_pos c]
    show cLd (cR row) (k-j) b=_
    rw[Zj hm (ih (k-j) (by omega)) (l:=b) λp hp=>hl p (KC _ hp)]
    cases y:Hx m b with
    | ans i=>
     show (if i<=k-j then CR.ans (k-j-i) else .spent)=if j+i<=k then CR.ans (k-(j+i)) else .spent
     by_cases c2:i<=k-j
     ·rw[if_pos c2,if_pos (by omega),Nat.sub_sub]
     ·rw[if_neg c2,if_neg (by omega)]
    | una i=>
     show (if i<=k-j then CR.una (k-j-i) else .spent)=if j+i<=k then CR.una (k-(j+i)) else .spent
     by_cases c2:i<=k-j
     ·rw[if_pos c2,if_pos (by omega),Nat.sub_sub]
     ·rw[if_neg c2,if_neg (by omega)]
    | nev=>rfl
    | need p=>rfl
   ·rw[if_neg c]
    cases y:Hx m b with
    | ans i=>
     show CR.spent=if j+i<=k then CR.ans (k-(j+i)) else .spent
     rw[if_neg (by omega)]
    | una i=>
     show CR.spent=if j+i<=k then CR.una (k-(j+i)) else .spent
     rw[if_neg (by omega)]
    | nev=>rfl
    | need p=>rfl
def EC(c:Nat):Nd->Nat->CR
 | .ans j,k=>if j<=c+k then .ans (c+k-j) else .spent
 | .una j,k=>if j<=c+k then .una (c+k-j) else .spent
 | .nev,_=>.spent
 | .need _,_=>.spent
theorem fJ(hm:∀p,p < n->m p≠none){K:Nat}(ih:∀k,k<=K->∀p e,m p=some e->cR row p k=val e k):∀ {r:List Stp} {k c:Nat},k<=K->(∀s∈r,∀p∈Qo s,p < n)->cSts (cR row) r k=EC c (rowE m c r) k
 | [],k,c,_,_=>by
  show CR.ans k=if c<=c+k then CR.ans (c+k-c) else .spent
  rw[if_pos (QH _ _),Nat.add_sub_cancel_left]
 | s::t,k,c,hk,hl=>by
  have hs:=yG hm ih hk (s:=s) (hl s (JW ..))
  unfold cSts rowE
  rw[hs]
  cases x:Rf m s with
  | ans j=>
   show (match (if j<=k then CR.ans (k-j) else .spent) with | .ans k'=>cSts (cR row) t k' | .una k'=>.una k' | .spent=>.spent)=EC c (rowE m (c+j) t) k
   by_cases h:j<=k
   ·rw[if_pos h]
    show cSts (cR row) t (k-j)=_
    rw[fJ hm ih (r:=t) (k:=k-j) (c:=c+j) (by omega) λs' hs'=>hl s' (JU _ hs')]
    cases rowE m (c+j) t with
    | ans i=>
     show (if i<=c+j+(k-j) then CR.ans (c+j+(k-j)-i) else .spent)=if i<=c+k then CR.ans (c+k-i) else .spent
     rw[show c+j+(k-j)=c+k by omega]
    | una i=>
     show (if i<=c+j+(k-j) then CR.una (c+j+(k-j)-i) else .spent)=if i<=c+k then CR.una (c+k-i) else .spent
     rw[show c+j+(k-j)=c+k by omega]
    | nev=>rfl
    | need p=>rfl
   ·rw[if_neg h]
    obtain⟨p1,p2⟩:=Vk (m:=m) (r:=t) (c:=c+j)
    cases e:rowE m (c+j) t with
    | ans i=>
     have:=p1 i e
     show CR.spent=if i<=c+k then CR.ans (c+k-i) else .spent
     rw[if_neg (by omega)]
    | una i=>
     have:=p2 i e
     show CR.spent=if i<=c+k then CR.una (c+k-i) else .spent
     rw[if_neg (by omega)]
    | nev=>rfl
    | need p=>rfl
  | una j=>
   show (match (if j<=k then CR.una (k-j) else .spent) with | .ans k'=>cSts (cR row) t k' | .una k'=>.una k' | .spent=>.spent)=if c+j<=c+k then CR.una (c+k-(c+j)) else .spent
   by_cases h:j<=k
   ·rw[if_pos h,if_pos (by omega),show c+k-(c+j)=k-j by omega]
   ·rw[if_neg h,if_neg (by omega)]
  | nev=>rfl
  | need p=>rfl
theorem told_val(T:Told row n m)(hm:∀p,p < n->m p≠none)(hl:∀p,p < n->∀s∈row p,∀q∈Qo s,q < n):∀K k,k<=K->∀p e,m p=some e->cR row p k=val e k
 | 0,k,hk,p,e,he=>by
  obtain rfl:k=0:=by omega
  have hf:=T.fo p e he
  obtain⟨p1,p2⟩:=Vk (m:=m) (r:=row p) (c:=1)
  rw[uA]
  cases e with
  | ans j=>
   have:=p1 j hf
   show CR.spent=if j<=0 then _ else _
   rw[if_neg (by omega)]
  | una j=>
   have:=p2 j hf
   show CR.spent=if j<=0 then _ else _
   rw[if_neg (by omega)]
  | nev=>rfl
  | need q=>rfl
 | K+1,k,hk,p,e,he=>by
  have ih:=told_val T hm hl K
  by_cases h:k<=K
  ·exact ih k h p e he
  ·obtain rfl:k=K+1:=by omega
   have hf:=T.fo p e he
   rw[cR_succ,fJ (c:=1) hm ih (JM K) (hl p (T.ky p e he)),hf]
   cases e with
   | ans j=>
    show (if j<=1+K then CR.ans (1+K-j) else .spent)=if j<=K+1 then CR.ans (K+1-j) else .spent
    rw[Nat.add_comm]
   | una j=>
    show (if j<=1+K then CR.una (1+K-j) else .spent)=if j<=K+1 then CR.una (K+1-j) else .spent
    rw[Nat.add_comm]
   | nev=>rfl
   | need q=>rfl
end
end Ah
namespace Bk
open PySem L2 Mg Nm Rk
def AN:Res->Ah.CR
 | .ok _ k _=>.ans k
 | .una k _=>.una k
 | .spent=>.spent
def EZ(ld:Str->Nat->Ah.Ld)(w:Str)(ix:Nat):Stp->Ah.Stp
 | .sm _=>.oth
 | .onw=>.ld (ld w (ix+1))
 | .ask y=>.ld (ld y 0)
 | .tri y z=>.ei (ld y 0) (ld z 0)
structure hU(B:Ci)(rs:List Str)(ld:Str->Nat->Ah.Ld)(row:Nat->List Ah.Stp):Prop where
 non:∀w pl,findF B w pl (rs.drop pl)=none->ld w pl=.none
 som:∀w pl ix body,findF B w pl (rs.drop pl)=some (ix,body)->∃p,ld w pl=.go p/\row p=body.map (EZ ld w ix)
section
variable {R:Gz} {C:Ah.RecC} {ld:Str->Nat->Ah.Ld} {k:Nat}
theorem mJ(h:∀w pl n j sd,j<=k->AN (R w pl n j sd)=Ah.cLd C j (ld w pl))(hl:Ws R){w:Str}{ix:Nat}{n:Int}{j:Nat}{sd:List Int}(hj:j<=k):∀s:Stp,AN (Hc R w ix n j sd s)=Ah.cSt C j (EZ ld w ix s)
 | .sm _=>rfl
 | .onw=>h _ _ _ _ _ hj
 | .ask _=>h _ _ _ _ _ hj
 | .tri y z=>by
  show AN (Nq R y z n j sd)=Ah.cEi C (ld y 0) (ld z 0) j
  unfold Nq Ah.cEi
  rw[<- h y 0 n j sd hj]
  have h1:=hl y 0 n j sd
  cases e:R y 0 n j sd with
  | ok a b c=>rfl
  | una k' s'=>
   rw[e] at h1
   exact h z 0 n k' sd (KZ h1 hj)
  | spent=>rfl
theorem Sj(h:∀w pl n j sd,j<=k->AN (R w pl n j sd)=Ah.cLd C j (ld w pl))(hl:Ws R){w:Str}{ix:Nat}:∀ {ss:List Stp} {n:Int} {j:Nat} {sd:List Int},j<=k->AN (Dv R w ix ss n j sd)=Ah.cSts C (ss.map (EZ ld w ix)) j
 | [],_,_,_,_=>rfl
 | s::ss,n,j,sd,hj=>by
  rw[LY]
  unfold Dv Ah.cSts
  rw[<- mJ h hl hj s (n:=n) (sd:=sd)]
  have h1:=Vm hl (w:=w) (ix:=ix) (n:=n) (k:=j) (sd:=sd) s
  cases e:Hc R w ix n j sd s with
  | ok a k' c=>rw[e] at h1;exact Sj h hl (KZ h1 hj)
  | una k' c=>rfl
  | spent=>rfl
end
theorem BZ(B:Ci)(rs:List Str):Ws (rS B rs):=λw pl n k sd=>Us B rs (k+1) w pl n k sd
theorem Wf{B:Ci}{rs:List Str}{ld:Str->Nat->Ah.Ld}{row:Nat->List Ah.Stp}(h:hU B rs ld row):∀(K k:Nat),k<=K->∀w pl n sd,AN (rS B rs w pl n k sd)=Ah.cLd (Ah.cR row) k (ld w pl)
 | K,k,hk,w,pl,n,sd=>by
  cases e:findF B w pl (rs.drop pl) with
  | none=>
   rw[vW e,h.non w pl e]
   rfl
  | some q=>
   obtain⟨ix,body⟩:=q
   obtain⟨p,e1,e2⟩:=h.som w pl ix body e
   rw[e1]
   show _=Ah.cR row p k
   cases k with
   | zero=>
    rw[tV e]
    rfl
   | succ k=>
    cases K with
    | zero=>omega
    | succ K=>
     rw[wH e,Ah.cR_succ,e2]
     exact Sj (k:=K) (λw pl n j sd hj=>Wf h K j hj w pl n sd) (BZ B rs) (by omega)
def kn(B:Ci)(rs:List Str)(w:Str)(pl:Nat):Nat:=((rs.take pl).filter λy=>(B y w).isSome).length
theorem eV(B:Ci)(rs:List Str)(w:Str):kn B rs w 0=0:=rfl
theorem pB{B:Ci}{rs:List Str}{w y:Str}{j:Nat}{b:List Stp}(h:rs[j]? = some y)(hb:B y w=some b):kn B rs w (j+1)=kn B rs w j+1:=by
 unfold kn
 rw[MI,h,List.filter_append,JN]
 show _+([y].filter λy=>(B y w).isSome).length=_
 rw[List.filter_cons_of_pos (by rw[hb];rfl)]
 rfl
theorem wJ{B:Ci}{rs:List Str}{w y:Str}{j:Nat}(h:rs[j]? = some y)(hb:B y w=none):kn B rs w (j+1)=kn B rs w j:=by
 unfold kn
 rw[MI,h,List.filter_append,JN]
 show _+([y].filter λy=>(B y w).isSome).length=_
 rw[List.filter_cons_of_neg (by rw[hb];exact JR)]
 rfl
theorem Uc{B:Ci}{rs:List Str}{w:Str}{pl:Nat}:∀(d:Nat),(∀t y,pl<=t->t < pl+d->rs[t]? = some y->B y w=none)->kn B rs w (pl+d)=kn B rs w pl
 | 0,_=>rfl
 | d+1,h=>by
  have ih:=Uc d λt y h1 h2=>h t y h1 (by omega)
  show kn B rs w ((pl+d)+1)=_
  cases e:rs[pl+d]? with
  | none=>
   rw[<- ih]
   have hl:rs.length<=pl+d:=List.getElem?_eq_none_iff.mp e
   unfold kn
   rw[LN hl,LN (by omega)]
  | some y=>rw[wJ e (h (pl+d) y (by omega) (by omega) e),ih]
theorem gT{B:Ci}{w:Str}:∀ {ys:List Str} {i ix:Nat} {body:List Stp},findF B w i ys=some (ix,body)->∃j y,ix=i+j/\ys[j]? = some y/\B y w=some body/\∀t z,t < j->ys[t]? = some z->B z w=none
 | [],_,_,_,h=>nomatch h
 | y::ys,i,ix,body,h=>by
  unfold findF at h
  cases e:B y w with
  | some b=>
   rw[e] at h
   cases h
   exact⟨0,y,rfl,rfl,e,λt z ht=>absurd ht (Nat.not_lt_zero _)⟩
  | none=>
   rw[e] at h
   obtain⟨j,z,h1,h2,h3,h4⟩:=gT h
   refine⟨j+1,z,by omega,h2,h3,λt u ht hu=>?_⟩
   cases t with
   | zero=>cases hu;exact e
   | succ t=>exact h4 t u (by omega) hu
theorem gH{B:Ci}{w:Str}:∀ {ys:List Str} {i:Nat},findF B w i ys=none->∀(t:Nat)(z:Str),ys[t]? = some z->B z w=none
 | [],_,_,t,z,h=>by simp at h
 | y::ys,i,h,t,z,hz=>by
  unfold findF at h
  cases e:B y w with
  | some b=>rw[e] at h;cases h
  | none=>
   rw[e] at h
   cases t with
   | zero=>cases hz;exact e
   | succ t=>exact gH h t z hz
structure Kh(B:Ci)(rs:List Str)(j:Nat)(ds:List Str)(lad:Str->List Nat)(es:List (Str×Nat×List Stp)):Prop where
 len:∀w,(lad w).length=kn B rs w j+if w∈ds then 1 else 0
 old:∀ix y w body,ix < j->rs[ix]? = some y->B y w=some body->∃p,(lad w)[kn B rs w ix]? = some p/\es[p]? = some (w,kn B rs w ix+1,body)
 cur:∀y w body,rs[j]? = some y->w∈ds->B y w=some body->∃p,(lad w)[kn B rs w j]? = some p/\es[p]? = some (w,kn B rs w j+1,body)
 lt:∀w,∀p∈lad w,p < es.length
theorem Kh.nil(B:Ci)(rs:List Str):Kh B rs 0 [] (λ_=>[]) []:=⟨λw=>by rw[eV];rfl,λix y w body h=>absurd h (Nat.not_lt_zero _),(λy w body _ h=>nomatch h),(λw p h=>nomatch h)⟩
def Kn(lad:Str->List Nat)(v:Str)(n:Nat):Str->List Nat:=λw=>if w=v then lad w++[n] else lad w
theorem Kh.add{B:Ci}{rs:List Str}{j:Nat}{ds:List Str}{lad:Str->List Nat}{es:List (Str×Nat×List Stp)}(h:Kh B rs j ds lad es){y v:Str}{b:List Stp}(hy:rs[j]? = some y)(hv:v∉ds)(hb:B y v=some b):Kh B rs j (ds++[v]) (Kn lad v es.length) (es++[(v,(lad v).length+1,b)]):=by
 have hl:(lad v).length=kn B rs v j:=by rw[h.len v,if_neg hv];rfl
 have keep:∀ {w:Str} {i p:Nat},(lad w)[i]? = some p->(Kn lad v es.length w)[i]? = some p:=λ{w i p} hp=>by
  unfold Kn
  by_cases hw:w=v
  ·rw[if_pos hw,KN (JF.mp hp).1]
   exact hp
  ·rw[if_neg hw]
   exact hp
 have keepE:∀ {p:Nat} {x:Str×Nat×List Stp},es[p]? = some x->(es++[(v,(lad v).length+1,b)])[p]? = some x:=λ{p x} hp=>by
  rw[KN (JF.mp hp).1]
  exact hp
 refine⟨λw=>?_,λix z w body h1 h2 h3=>?_,λz w body h1 h2 h3=>?_,λw p hp=>?_⟩
 ·unfold Kn
  by_cases hw:w=v
  ·rw[if_pos hw,hw,if_pos (KC _ (JP.mpr rfl)),JN,hl]
   rfl
  ·rw[if_neg hw,h.len w]
   by_cases hd:w∈ds
   ·rw[if_pos hd,if_pos (ML _ hd)]
   ·rw[if_neg hd,if_neg (λz=>(KO.mp z).elim hd λq=>hw (JP.mp q))]
 ·obtain⟨p,p1,p2⟩:=h.old ix z w body h1 h2 h3
  exact⟨p,keep p1,keepE p2⟩
 ·rcases KO.mp h2 with q | q
  ·obtain⟨p,p1,p2⟩:=h.cur z w body h1 q h3
   exact⟨p,keep p1,keepE p2⟩
  ·obtain rfl:=JP.mp q
   rw[hy] at h1
   cases h1
   rw[hb] at h3
   cases h3
   refine⟨es.length,?_,?_⟩
   ·unfold Kn
    rw[if_pos rfl,<- hl,KH]
   ·rw[KH,hl]
 ·rw[JN,JY]
  unfold Kn at hp
  by_cases hw:w=v
  ·rw[if_pos hw] at hp
   rcases KO.mp hp with q | q
   ·have:=h.lt w p q;omega
   ·have:=JP.mp q;omega
  ·rw[if_neg hw] at hp
   have:=h.lt w p hp;omega
theorem Kh.next{B:Ci}{rs:List Str}{j:Nat}{ds:List Str}{lad:Str->List Nat}{es:List (Str×Nat×List Stp)}(h:Kh B rs j ds lad es){y:Str}(hy:rs[j]? = some y)(hd:∀w,w∈ds ↔ (B y w).isSome=true):Kh B rs (j+1) [] lad es:=by
 refine⟨λw=>?_,λix z w body h1 h2 h3=>?_,(λz w body _ q=>nomatch q),h.lt⟩
 ·rw[h.len w]
  cases e:B y w with
  | some b=>rw[pB hy e,if_pos ((hd w).mpr (by rw[e];rfl))];rfl
  | none=>rw[wJ hy e,if_neg (λz=>by have:=(hd w).mp z;rw[e] at this;cases this)];rfl
 ·by_cases hx:ix < j
  ·exact h.old ix z w body hx h2 h3
  ·obtain rfl:ix=j:=by omega
   rw[hy] at h2
   cases h2
   exact h.cur y w body hy ((hd w).mpr (by rw[h3];rfl)) h3
def Fl(lad:Str->List Nat)(w:Str)(r:Nat):Ah.Ld:=match (lad w)[r]? with
 | some p=>.go p
 | none=>.none
def BU(lad:Str->List Nat)(w:Str)(r:Nat):Stp->Ah.Stp
 | .sm _=>.oth
 | .onw=>.ld (Fl lad w r)
 | .ask y=>.ld (Fl lad y 0)
 | .tri y z=>.ei (Fl lad y 0) (Fl lad z 0)
def Hg(lad:Str->List Nat)(es:List (Str×Nat×List Stp)):List (List Ah.Stp):=es.map λe=>e.2.2.map (BU lad e.1 e.2.1)
theorem Kh.left{B:Ci}{rs:List Str}{lad:Str->List Nat}{es:List (Str×Nat×List Stp)}(h:Kh B rs rs.length [] lad es):hU B rs (λw pl=>Fl lad w (kn B rs w pl)) (λp=>(Hg lad es).getD p []):=by
 have hlen:∀w,(lad w).length=kn B rs w rs.length:=λw=>by rw[h.len w,if_neg (λz=>nomatch z)];rfl
 refine⟨λw pl e=>?_,λw pl ix body e=>?_⟩
 ·have hs:kn B rs w rs.length=kn B rs w pl∨rs.length<=pl:=by
   by_cases hp:rs.length<=pl
   ·exact .inr hp
   ·left
    obtain⟨d,hd⟩:∃d,rs.length=pl+d:=⟨rs.length-pl,by omega⟩
    rw[hd]
    refine Uc d λt y h1 _ ht=>gH e (t-pl) y ?_
    rw[RQ,Nat.add_sub_cancel' h1]
    exact ht
  have hk:kn B rs w pl=kn B rs w rs.length:=by
   rcases hs with hs | hs
   ·exact hs.symm
   ·unfold kn
    rw[LN hs,LN (JM _)]
  show Fl lad w (kn B rs w pl)=.none
  unfold Fl
  rw[hk,<- hlen w,List.getElem?_eq_none (JM _)]
 ·obtain⟨j,y,h1,h2,h3,h4⟩:=gT e
  rw[RQ,<- h1] at h2
  have hk:kn B rs w ix=kn B rs w pl:=by
   rw[h1]
   refine Uc j λt z t1 t2 ht=>h4 (t-pl) z (by omega) ?_
   rw[RQ,Nat.add_sub_cancel' t1]
   exact ht
  have hix:ix < rs.length:=(JF.mp h2).1
  obtain⟨p,p1,p2⟩:=h.old ix y w body hix h2 h3
  refine⟨p,?_,?_⟩
  ·show Fl lad w (kn B rs w pl)=.go p
   unfold Fl
   rw[<- hk,p1]
  ·show (Hg lad es).getD p []=_
   unfold Hg
   rw[LJ,KP,p2]
   show body.map (BU lad w (kn B rs w ix+1))=body.map (EZ _ w ix)
   refine List.map_congr_left λs _=>?_
   cases s with
   | sm s=>rfl
   | onw=>
    show Ah.Stp.ld (Fl lad w (kn B rs w ix+1))=Ah.Stp.ld (Fl lad w (kn B rs w (ix+1)))
    rw[pB h2 h3]
   | ask z=>rfl
   | tri a b=>rfl
end Bk
namespace Bk
open PySem L2 Mg Nm
section
variable {P:KI} {w:LQ} {K:JG} {mg:Str->Option JH} {base:MV} {f fH fN fB CB CH:JO} {fd dH dN dB:LG} {ks:List (Str×JO×List Str)}
theorem CK:An ["self","name"] ["self","name"] (Ad yN):=Ez (by decide +kernel)
theorem AH(F:Di K "own_words" "Book.own_words" yN f fd)(T:Ha K mg CB CH)(Tx:Txt mg)(GH:Al P w K mg base Bi 1 fH dH ["self","name"] (Ib CB CH))(bH:Binds K dH ["self","name"] [])(mH:Dt K CB "house" fH):Al P w K mg base Je 2 f fd ["self","name"] (rB CB CH):=by
 refine F.ok1 CK (λvs H Q E h=>?_) (λcdv A outer s H vs Q E hr h=>?_)
 ·obtain⟨p,d,L,x,e,W,rfl,_⟩:=h
  rfl
 obtain⟨p,d,L,x,e,W,rfl,B,he,hb,q⟩:=h
 obtain⟨dx,hp⟩:=B.ob
 have E:=B.en e (Fx he).1
 refine⟨_,Af (Ao (Dl (Pf rfl) rfl Tx.list NQ (Du (Cq (Ee (pv 0) T.clB mH GH hr bH .nil Dh (Du (pv 1))) rfl)))),?_⟩
 refine⟨_,rfl,p,dx,_,rfl,hp,Gs d (by decide +kernel),_,rfl,p,d,L,x,e,rfl,B,he,e.at_,CH,e.dx,_,_,rfl,E.ob,T.clH,T.nBd,qL _ _ _,e.ba,_,rfl,Rd.of E.bd,λl hl=>?_⟩
 rw[hb,lQ]
 exact q l hl
end
end Bk
namespace L2
def gO(H H':Hp):Prop:=∀b xs,H b=some (.tup xs)->H' b=some (.tup xs)
theorem Am.keepT{H H':Hp}(h:Am H H'):gO H H':=λb xs e=>h _ _ e
end L2
namespace Ak
open PySem L2 Ah
open Bk (Nj Qr Iv Iy Fj Ik Ql)
structure Txt(mg:Str->Option JH):Prop where
 len:mg "len" = none
 range:mg "range" = none
 isi:mg "isinstance" = none
 list:mg "list" = none
 str:mg "str" = none
 all:mg "all" = none
 tup:mg "tuple" = none
 int:mg "int" = none
 bool:mg "bool" = none
theorem Ag{H:Hp}{p:JO}(h:H p=none)(o:HO):Am H (upd H p o):=λb u q=>by rw[Aj (Ai q h)];exact q
theorem Uh{kvs:List (Key×V)}{k:Key}{u v:V}(h:valV kvs k=some u):(putK kvs k v).length=kvs.length:=by
 unfold putK
 rw[Es,h,if_pos (show (some u).isSome=true from rfl),JJ]
theorem lW{kvs:List (Key×V)}{k:Key}{v:V}(h:valV kvs k=none):(putK kvs k v).length=kvs.length+1:=by
 unfold putK
 rw[Es,h,if_neg (show ¬ (none:Option V).isSome=true from JR),JN]
 rfl
theorem Bq{a b:Str}(h:decide (V.str a=V.str b)=true):a=b:=V.str.inj (of_decide_eq_true h)
theorem Cz{a b:Str}(h:¬ decide (V.str a=V.str b)=true):¬ a=b:=λe=>h (by rw[e];exact decide_eq_true rfl)
theorem IH{kd p q:Str}:kX (V.str kd) [V.str p,V.str q]=true ↔ kd=p∨kd=q:=by
 show ((p == kd) || ((q == kd) || false))=true ↔ _
 rw[Bool.or_false,Bool.or_eq_true,beq_iff_eq,beq_iff_eq]
 exact⟨λh=>h.imp Eq.symm Eq.symm,λh=>h.imp Eq.symm Eq.symm⟩
theorem sqt_same{K:JG}{H H':Hp}{a:JO}{xs:List V}(h:Am H H')(q:Ck K H a xs):Ck K H' a xs:=by
 rcases q with (q | ⟨o,q⟩) | q
 ·exact .inl (.inl (h _ _ q))
 ·exact .inl (.inr ⟨o,h _ _ q⟩)
 ·exact .inr q
def Fr(d:JO)(H H':Hp):Prop:=∀b o,H b=some o->b≠d->H' b=some o
theorem Fr.refl(d:JO)(H:Hp):Fr d H H:=λ_ _ h _=>h
theorem Fr.same{d:JO}{H H' H2:Hp}(f:Fr d H H')(s:Am H' H2):Fr d H H2:=λb o h n=>s _ _ (f b o h n)
theorem Fr.upd{d:JO}{H H':Hp}{o:HO}(f:Fr d H H'):Fr d H (upd H' d o):=λb u h n=>by rw[Aj n];exact f b u h n
theorem yS{K:JG}{H H':Hp}{a d:JO}{xs:List V}{kvs:List (Key×V)}(hd:H d=some (.dK kvs))(h:Fr d H H')(q:Ck K H a xs):Ck K H' a xs:=by
 rcases q with (q | ⟨o,q⟩) | q
 ·exact .inl (.inl (h _ _ q (Cd q hd (by intro z;cases z))))
 ·exact .inl (.inr ⟨o,h _ _ q (Cd q hd (by intro z;cases z))⟩)
 ·exact .inr q
def LdAt(H:Hp)(v:V):Ld->Prop
 | .none=>∃a,v=.ref a/\H a=some (.tup [.str "none"])
 | .go p=>∃a,v=.ref a/\H a=some (.tup [.str "go", .int (p:Nat)])
def StAt(H:Hp)(v:V):Stp->Prop
 | .ld l=>LdAt H v l
 | .ei x y=>∃a b c,v=.ref a/\H a=some (.tup [.str "either", b,c])/\LdAt H b x/\LdAt H c y
 | .oth=>∃(a:JO)(k:Str)(r:List V),v=.ref a/\H a=some (.tup (.str k::r))/\¬ k = "go" /\ ¬ k = "none" /\ ¬ k = "either" /\ (r=[] ∨ ∃n,r=[.int n])/\True/\True
theorem LdAt.keep{H H':Hp}(k:gO H H'){v:V}:∀ {l:Ld},LdAt H v l->LdAt H' v l
 | .none,⟨a,e,h⟩=>⟨a,e,k _ _ h⟩
 | .go _,⟨a,e,h⟩=>⟨a,e,k _ _ h⟩
theorem StAt.keep{H H':Hp}(k:gO H H'){v:V}:∀ {s:Stp},StAt H v s->StAt H' v s
 | .ld _,h=>LdAt.keep k h
 | .ei _ _,⟨a,b,c,e,h,h1,h2⟩=>⟨a,b,c,e,k _ _ h,h1.keep k,h2.keep k⟩
 | .oth,⟨a,x,r,e,h,z⟩=>⟨a,x,r,e,k _ _ h,z⟩
def StsAt(H:Hp):List V->List Stp->Prop:=RO (StAt H)
structure RwsAt(H:Hp)(ra:JO)(as:List JO)(vss:List (List V))(rows:List (List Stp)):Prop where
 lst:H ra=some (.lst (as.map V.ref))
 len:as.length=rows.length
 lev:vss.length=rows.length
 row:∀(i:Nat)(a:JO)(vs:List V),as[i]? = some a->vss[i]? = some vs->H a=some (.lst vs)
 sts:∀(i:Nat)(vs:List V)(r:List Stp),vss[i]? = some vs->rows[i]? = some r->StsAt H vs r
def wd:Nd->Str
 | .ans _ => "answers"
 | .una _ => "unanswered"
 | .nev => "never"
 | .need _ => "needs"
def ct:Nd->Int
 | .ans n=>(n:Nat)
 | .una n=>(n:Nat)
 | .nev=>0
 | .need p=>(p:Nat)
def EndV(K:JG)(H:Hp)(v:V)(e:Nd):Prop:=∃a,v=.ref a/\Ck K H a [.str (wd e),.int (ct e)]
theorem EndV.same{K:JG}{H H':Hp}{v:V}{e:Nd}(h:EndV K H v e)(s:Am H H'):EndV K H' v e:=let ⟨a,z,q⟩:=h;⟨a,z,sqt_same s q⟩
theorem EndV.fr{K:JG}{H H':Hp}{d:JO}{kvs:List (Key×V)}{v:V}{e:Nd}(h:EndV K H v e)(hd:H d=some (.dK kvs))(f:Fr d H H'):EndV K H' v e:=let ⟨a,z,q⟩:=h;⟨a,z,yS hd f q⟩
theorem EndV.new{K:JG}{H:Hp}{a:JO}{e:Nd}(h:H a=some (.tup [.str (wd e),.int (ct e)])):EndV K H (.ref a) e:=⟨a,rfl,Ck.of h⟩
theorem at0(x:V)(r:List V):Jb (x::r) 0=some x:=Bc (j:=0) rfl
theorem at1(x y:V)(r:List V):Jb (x::y::r) 1=some y:=Bc (j:=1) rfl
theorem at2(x y z:V)(r:List V):Jb (x::y::z::r) 2=some z:=Bc (j:=2) rfl
structure Dq(K:JG)(H:Hp)(d:JO)(kvs:List (Key×V))(n:Nat)(m:Mp):Prop where
 dic:H d=some (.dK kvs)
 len:kvs.length=cnt m n
 val:∀p:Nat,(m p=none/\valV kvs (NI (p:Int):Key)=none) ∨ ∃e v,m p=some e/\valV kvs (NI (p:Int):Key)=some v/\EndV K H v e
theorem Dq.same{K:JG}{H H':Hp}{d:JO}{kvs:List (Key×V)}{n:Nat}{m:Mp}(E:Dq K H d kvs n m)(s:Am H H'):Dq K H' d kvs n m:=
 ⟨s _ _ E.dic,E.len,λp=>(E.val p).imp id λ⟨e,v,h1,h2,h3⟩=>⟨e,v,h1,h2,h3.same s⟩⟩
theorem Dq.put{K:JG}{H:Hp}{d:JO}{kvs:List (Key×V)}{n q:Nat}{m:Mp}{v:V}{e:Nd}(E:Dq K H d kvs n m)(hq:q < n)(hv:EndV K H v e):Dq K (upd H d (.dK (putK kvs (NI (q:Int)) v))) d (putK kvs (NI (q:Int)) v) n (setM m q e):=by
 have f:Fr d H (upd H d (.dK (putK kvs (NI (q:Int)) v))):=(Fr.refl d H).upd
 refine⟨Aa,?_,λp=>?_⟩
 ·rcases E.val q with ⟨h1,h2⟩ | ⟨e',v',h1,h2,_⟩
  ·rw[lW h2,Tn h1 hq,E.len]
  ·rw[Uh h2,gQ (by rw[h1];rfl),E.len]
 ·rw[Fp]
  by_cases c:p=q
  ·subst c
   rw[if_pos rfl,Cp]
   exact .inr ⟨e,v,rfl,rfl,hv.fr E.dic f⟩
  ·rw[if_neg (λz:(NI (p:Int):Key)=NI (q:Int)=>c (Int.ofNat.inj (NI.inj z))),Bh c]
   exact(E.val p).imp id λ⟨e',v',h1,h2,h3⟩=>⟨e',v',h1,h2,h3.fr E.dic f⟩
theorem eU{K:JG}{H:Hp}{a l:JO}{xs ys zs:List V}(hl:H l=some (.lst ys))(q:Ck K H a xs):Ck K (upd H l (.lst zs)) a xs:=by
 rcases q with (q | ⟨o,q⟩) | q
 ·exact .inl (.inl (by rw[Aj (Cd q hl (by intro z;cases z))];exact q))
 ·exact .inl (.inr ⟨o,by rw[Aj (Cd q hl (by intro z;cases z))];exact q⟩)
 ·exact .inr q
theorem Dq.other{K:JG}{H:Hp}{d l:JO}{kvs:List (Key×V)}{n:Nat}{m:Mp}{ys zs:List V}(E:Dq K H d kvs n m)(hl:H l=some (.lst ys))(hd:l≠d):Dq K (upd H l (.lst zs)) d kvs n m:=
 ⟨by rw[Aj (LL hd)];exact E.dic,E.len,λp=>(E.val p).imp id λ⟨e,v,h1,h2,a,z,h3⟩=>⟨e,v,h1,h2,a,z,eU hl h3⟩⟩
theorem jP{m:Mp}{q:Nat}{e e':Nd}:setM (setM m q e) q e'=setM m q e':=by
 funext x
 by_cases h:x=q
 ·subst h;rw[Cp,Cp]
 ·rw[Bh h,Bh h,Bh h]
theorem Jq:∀ {n:Nat} {ps:List Nat},ps.Nodup->(∀p∈ps,p < n)->ps.length<=n
 | 0,ps,_,h=>by
  cases ps with
  | nil=>exact JM _
  | cons p _=>exact absurd (h p (JW ..)) (Nat.not_lt_zero _)
 | n+1,ps,nd,h=>by
  have h1:(ps.erase n).Nodup:=nd.erase n
  have h2:∀p∈ps.erase n,p < n:=λp hp=>by
   have a1:=h p (List.mem_of_mem_erase hp)
   have a2:p≠n:=λz=>by rw[z] at hp;exact nd.not_mem_erase hp
   omega
  have h3:=Jq h1 h2
  rw[List.length_erase] at h3
  split at h3<;>omega
theorem iS{row:Nat->List Stp}{n:Nat}{m:Mp}{ps:List Nat}(h:Ue row n m ps):ps.length<=n:=Jq h.nd h.lt
section
variable {P:KI} {w:LQ} {K:JG} {mg:Str->Option JH} {base:MV} {f:JO} {fd:LG}
end
end Ak
namespace Ak
open PySem L2 Ah
open Bk (Nj Qr Iv Iy Fj Ik Ql)
def spEB(K:JG):Sp:=λvs H Q _=>∃(c:Nat)(v:V)(e:Nd),vs=[.int (c:Int),v]/\EndV K H v e/\∀v' H',Am H H'->EndV K H' v' (Nt c e)->Q v' H'
def spLd(K:JG):Sp:=λvs H Q _=>∃(v:V)(d:JO)(kvs:List (Key×V))(n:Nat)(m:Mp)(l:Ld),vs=[v,.ref d]/\LdAt H v l/\Dq K H d kvs n m/\∀v' H',Am H H'->EndV K H' v' (Hx m l)->Q v' H'
def spEi(K:JG):Sp:=λvs H Q _=>∃(v u:V)(d:JO)(kvs:List (Key×V))(n:Nat)(m:Mp)(l r:Ld),vs=[v,u,.ref d]/\LdAt H v l/\LdAt H u r/\Dq K H d kvs n m/\∀v' H',Am H H'->EndV K H' v' (rO (Hx m l) (Hx m r))->Q v' H'
def spSE(K:JG):Sp:=λvs H Q _=>∃(v:V)(d:JO)(kvs:List (Key×V))(n:Nat)(m:Mp)(st:Stp),vs=[v,.ref d]/\StAt H v st/\Dq K H d kvs n m/\∀v' H',Am H H'->EndV K H' v' (Rf m st)->Q v' H'
def spRE(K:JG):Sp:=λvs H Q _=>∃(a d:JO)(us:List V)(kvs:List (Key×V))(n:Nat)(m:Mp)(r:List Stp),vs=[.ref a,.ref d]/\H a=some (.lst us)/\StsAt H us r/\Dq K H d kvs n m/\∀v' H',Am H H'->EndV K H' v' (rowE m 1 r)->Q v' H'
theorem CN(e:Nd):(wd e = "needs" ∨ wd e = "never")->∀c,Nt c e=e:=by
 intro h c
 cases e with
 | ans n=>exact absurd h (by show ¬ (("answers" : Str) = "needs" ∨ ("answers" : Str) = "never");decide +kernel)
 | una n=>exact absurd h (by show ¬ (("unanswered" : Str) = "needs" ∨ ("unanswered" : Str) = "never");decide +kernel)
 | nev=>rfl
 | need p=>rfl
theorem zX(e:Nd)(c:Nat):¬ (wd e = "needs" ∨ wd e = "never")->wd (Nt c e)=wd e/\ct (Nt c e)=c+ct e:=by
 intro h
 cases e with
 | ans n=>exact⟨rfl,by show ((c+n:Nat):Int)=c+(n:Int);omega⟩
 | una n=>exact⟨rfl,by show ((c+n:Nat):Int)=c+(n:Int);omega⟩
 | nev=>exact absurd (.inr rfl) h
 | need p=>exact absurd (.inl rfl) h
theorem zB{e:Nd}(h:wd e = "unanswered"):∃n,e=.una n:=by
 cases e with
 | ans n=>exact absurd h (by show ¬ ("answers" : Str) = "unanswered"; decide +kernel)
 | una n=>exact⟨n,rfl⟩
 | nev=>exact absurd h (by show ¬ ("never" : Str) = "unanswered"; decide +kernel)
 | need p=>exact absurd h (by show ¬ ("needs" : Str) = "unanswered"; decide +kernel)
theorem yZ{e:Nd}(h:wd e = "answers"):∃n,e=.ans n:=by
 cases e with
 | ans n=>exact⟨n,rfl⟩
 | una n=>exact absurd h (by show ¬ ("unanswered" : Str) = "answers"; decide +kernel)
 | nev=>exact absurd h (by show ¬ ("never" : Str) = "answers"; decide +kernel)
 | need p=>exact absurd h (by show ¬ ("needs" : Str) = "answers"; decide +kernel)
theorem tT{e:Nd}(h:wd e = "needs"):∃p,e=.need p:=by
 cases e with
 | ans n=>exact absurd h (by show ¬ ("answers" : Str) = "needs"; decide +kernel)
 | una n=>exact absurd h (by show ¬ ("unanswered" : Str) = "needs"; decide +kernel)
 | nev=>exact absurd h (by show ¬ ("never" : Str) = "needs"; decide +kernel)
 | need p=>exact⟨p,rfl⟩
theorem vM{x y:Nd}(h:¬ wd x = "unanswered"):rO x y=x:=by
 cases x with
 | ans n=>rfl
 | una n=>exact absurd rfl h
 | nev=>rfl
 | need p=>rfl
section
variable {P:KI} {w:LQ} {K:JG} {mg:Str->Option JH} {base:MV} {f fB fS fE fR fT aN:JO} {fd dB dS dE dR dT:LG}
theorem FV:An ["count","last"] ["count","last"] (Ad Iy):=Ez (by decide +kernel)
theorem ok_eb(F:Di K "end_behind" "end_behind" Iy f fd):Al P w K mg base Bi 1 f fd ["count","last"] (spEB K):=by
 refine F.ok FV (λvs H Q E h=>?_) (λcdv A outer s H vs Q E hr h=>?_)
 ·obtain⟨c,v,e,rfl,_⟩:=h
  rfl
 obtain⟨c,v,e,rfl,⟨a,rfl,hq⟩,q⟩:=h
 refine⟨_,Ac (Ay (Ar Hq (As Ax (pv 1) Ae (λ_ _=>rfl)) (Ca (Ic (xs:=["needs","never"]) (by rfl))) rfl) (Af (Ao (pv 1))) Ap)
  (Af (Ao (Ca (Em (As Ax (pv 1) Ae (λ_ _=>rfl)) (Aq Cm (pv 0) (As Ax (pv 1) Ae (λ_ _=>rfl))))))),?_⟩
 refine⟨_,rfl,a,_,_,_,rfl,rfl,hq,at0 _ _,by show 2<=JQ;decide,λtp htp=>⟨tp,_,rfl,.inr (Ck.of Aa),rfl,rfl,_,rfl,Br (λc1=>?_) (λc1=>?_)⟩⟩
 ·have c2:=IH.mp (show kX (V.str (wd e)) [V.str "needs", V.str "never"]=true from c1)
  have s1:=Ag htp (.tup [V.str "needs", V.str "never"])
  refine⟨_,rfl,q _ _ s1 ?_⟩
  rw[CN e c2]
  exact⟨a,rfl,sqt_same s1 hq⟩
 ·have c2:¬ (wd e = "needs" ∨ wd e = "never"):=λz=>c1 (IH.mpr z)
  have s1:=Ag htp (.tup [V.str "needs", V.str "never"])
  refine⟨_,rfl,a,_,_,_,rfl,rfl,sqt_same s1 hq,at0 _ _,_,rfl,_,rfl,a,_,_,_,rfl,rfl,sqt_same s1 hq,at1 _ _ _,_,_,rfl,rfl,by show 2<=JQ;decide,λt ht=>?_⟩
  refine q _ _ (s1.trans (Ag ht _)) (EndV.new ?_)
  obtain⟨e1,e2⟩:=zX e c c2
  rw[e1,e2]
  exact Aa
theorem EK:An ["step","ends"] ["step","ends"] (Ad Fj):=Ez (by decide +kernel)
theorem ok_ld(F:Di K "end_of_step" "end_of_step" Fj f fd):Al P w K mg base Bi 1 f fd ["step","ends"] (spLd K):=by
 refine F.ok EK (λvs H Q E h=>?_) (λcdv A outer s H vs Q E hr h=>?_)
 ·obtain⟨v,d,kvs,n,m,l,rfl,_⟩:=h
  rfl
 obtain⟨v,d,kvs,n,m,l,rfl,hl,hE,q⟩:=h
 have hu:=Fo hr
 refine⟨_,Ac (Ay (Ar Cc (As Ax (pv 0) Ae (λ_ _=>rfl)) Ba (Au _)) (Af (Ao (Jh hu (pv 1) (As Ax (pv 0) Ae (λ_ _=>rfl)) (Ca (Em Ba (As Ax (pv 0) Ae (λ_ _=>rfl)))) ⟨rfl,rfl,rfl,rfl⟩))) Ap)
  (Ac (Ay (Ar Cc (As Ax (pv 0) Ae (λ_ _=>rfl)) Ba (Au _)) (Af (Ao (Ca (Em Ba Ae)))) Ap) Bs),?_⟩
 cases l with
 | none=>
  obtain⟨a,rfl,ha⟩:=hl
  refine⟨_,rfl,a,_,_,_,rfl,rfl,Ck.of ha,at0 _ _,rfl,_,rfl,Br (λc=>?_) (λc=>?_)⟩
  ·exact absurd (Bq c) (by decide +kernel)
  refine⟨_,rfl,a,_,_,_,rfl,rfl,Ck.of ha,at0 _ _,rfl,_,rfl,Br (λc=>?_) (λc=>absurd rfl (Cz c))⟩
  refine⟨by show 2<=JQ;decide,λt ht=>?_⟩
  exact q _ _ (Ag ht _) (EndV.new (e:=.una 0) Aa)
 | go p=>
  obtain⟨a,rfl,ha⟩:=hl
  refine⟨_,rfl,a,_,_,_,rfl,rfl,Ck.of ha,at0 _ _,rfl,_,rfl,Br (λc=>?_) (λc=>absurd rfl (Cz c))⟩
  refine⟨_,rfl,d,rfl,.inl ⟨kvs,.inl hE.dic⟩,_,rfl,a,_,_,_,rfl,rfl,Ck.of ha,at1 _ _ _,_,rfl,a,_,_,_,rfl,rfl,Ck.of ha,at1 _ _ _,by show 2<=JQ;decide,λt ht=>?_⟩
  have s1:=Ag ht (.tup [.str "needs", .int (p:Nat)])
  refine⟨_,Et.k (k:=NI (p:Int)) (s1 _ _ hE.dic),?_⟩
  rcases hE.val p with ⟨h1,h2⟩ | ⟨e,v,h1,h2,h3⟩
  ·rw[h2]
   refine q _ _ s1 ?_
   have e1:Hx m (.go p)=.need p:=by show (m p).getD _=_;rw[h1];rfl
   rw[e1]
   exact EndV.new Aa
  ·rw[h2]
   refine q _ _ s1 ?_
   have e1:Hx m (.go p)=e:=by show (m p).getD _=_;rw[h1];rfl
   rw[e1]
   exact h3.same s1
theorem DK:An ["one","other","ends","first"] ["one","other","ends"] (Ad Ik):=Ez (by decide +kernel)
theorem ok_ei(F:Di K "end_of_either" "end_of_either" Ik f fd)(GS:Al P w K mg base Bi 1 fS dS ["step","ends"] (spLd K))(kS:JV K (.ref fS)=true)(bS:Binds K dS ["step","ends"] [])(mS:mg "end_of_step" = some (.ref fS))(GB:Al P w K mg base Bi 1 fB dB ["count","last"] (spEB K))(kB:JV K (.ref fB)=true)(bB:Binds K dB ["count","last"] [])(mB:mg "end_behind" = some (.ref fB)):Al P w K mg base Bi 2 f fd ["one","other","ends"] (spEi K):=by
 refine F.ok DK (λvs H Q E h=>?_) (λcdv A outer s H vs Q E hr h=>?_)
 ·obtain⟨v,u,d,kvs,n,m,l,r,rfl,_⟩:=h
  rfl
 obtain⟨v,u,d,kvs,n,m,l,r,rfl,hl,hrr,hE,q⟩:=h
 refine⟨_,Ac (Bv 3 DK.nd (Cf GS hr mS kS bS (Em (pv 0) (pv 2))))
  (Ac (Ay (Ar Rr (As Ax (pv 3) Ae (λ_ _=>rfl)) Ba (Au _)) (Af (Ao (pv 3))) Ap)
  (Af (Ao (Cf GB hr mB kB bB (Em (As Ax (pv 3) Ae (λ_ _=>rfl)) (Cf GS hr mS kS bS (Em (pv 1) (pv 2)))))))),?_⟩
 refine⟨_,rfl,_,rfl,v,d,kvs,n,m,l,rfl,hl,hE,λv1 H1 s1 h1=>?_⟩
 obtain⟨a1,rfl,q1⟩:=h1
 refine⟨_,rfl,a1,_,_,_,rfl,rfl,q1,at0 _ _,rfl,_,rfl,Br (λc=>?_) (λc=>?_)⟩
 ·have c2:¬ wd (Hx m l) = "unanswered" := λz=>by rw[z] at c;exact absurd c (by decide +kernel)
  refine⟨_,rfl,q _ _ s1 ?_⟩
  rw[vM c2]
  exact⟨a1,rfl,q1⟩
 ·have c2:wd (Hx m l) = "unanswered" := by
   refine Classical.byContradiction λz=>c ?_
   rw[decide_eq_false (λy=>z (V.str.inj y))]
   rfl
  obtain⟨k,hk⟩:=zB c2
  rw[hk] at q1 q
  refine⟨_,rfl,a1,_,_,_,rfl,rfl,q1,at1 _ _ _,_,rfl,_,rfl,u,d,kvs,n,m,r,rfl,hrr.keep s1.keepT,hE.same s1,λv2 H2 s2 h2=>?_⟩
  exact⟨k,v2,_,rfl,h2,λv3 H3 s3 h3=>q _ _ ((s1.trans s2).trans s3) h3⟩
theorem ok_se(F:Di K "end_of_step" "end_of_step" Fj f fd)(GL:Al P w K mg base Bi 1 f fd ["step","ends"] (spLd K))(GE:Al P w K mg base Bi 2 fE dE ["one","other","ends"] (spEi K))(kE:JV K (.ref fE)=true)(bE:Binds K dE ["one","other","ends"] [])(mE:mg "end_of_either" = some (.ref fE)):Al P w K mg base Bi 3 f fd ["step","ends"] (spSE K):=by
 refine F.ok EK (λvs H Q E h=>?_) (λcdv A outer s H vs Q E hr h=>?_)
 ·obtain⟨v,d,kvs,n,m,st,rfl,_⟩:=h
  rfl
 obtain⟨v,d,kvs,n,m,st,rfl,hs,hE,q⟩:=h
 have hu:=Fo hr
 refine⟨_,Ac (Ay (Ar Cc (As Ax (pv 0) Ae (λ_ _=>rfl)) Ba (Au _)) (Af (Ao (Jh hu (pv 1) (As Ax (pv 0) Ae (λ_ _=>rfl)) (Ca (Em Ba (As Ax (pv 0) Ae (λ_ _=>rfl)))) ⟨rfl,rfl,rfl,rfl⟩))) Ap)
  (Ac (Ay (Ar Cc (As Ax (pv 0) Ae (λ_ _=>rfl)) Ba (Au _)) (Af (Ao (Ca (Em Ba Ae)))) Ap)
  (Ac (Ay (Ar Cc (As Ax (pv 0) Ae (λ_ _=>rfl)) Ba (Au _)) (Af (Ao (Cf GE hr mE kE bE (Iz (As Ax (pv 0) Ae (λ_ _=>rfl)) (As Ax (pv 0) Ae (λ_ _=>rfl)) (pv 1))))) Ap)
  (Af (Ao (Ca (Em Ba Ae)))))),?_⟩
 have skip:∀ {x y:Str} {A B:Prop},¬ x=y->B->if decide (V.str x=V.str y)=true then A else B:=λhn hB=>by
  rw[if_neg (λz=>hn (Bq z))]
  exact hB
 have take:∀ {x:Str} {A B:Prop},A->if decide (V.str x=V.str x)=true then A else B:=λhA=>by
  rw[if_pos (decide_eq_true rfl)]
  exact hA
 cases st with
 | ld l=>
  cases l with
  | none=>
   obtain⟨a,rfl,ha⟩:=hs
   refine⟨_,rfl,a,_,_,_,rfl,rfl,Ck.of ha,at0 _ _,rfl,_,rfl,skip (by decide +kernel) ?_⟩
   refine⟨_,rfl,a,_,_,_,rfl,rfl,Ck.of ha,at0 _ _,rfl,_,rfl,take ?_⟩
   refine⟨by show 2<=JQ;decide,λt ht=>?_⟩
   exact q _ _ (Ag ht _) (EndV.new (e:=.una 0) Aa)
  | go p=>
   obtain⟨a,rfl,ha⟩:=hs
   refine⟨_,rfl,a,_,_,_,rfl,rfl,Ck.of ha,at0 _ _,rfl,_,rfl,take ?_⟩
   refine⟨_,rfl,d,rfl,.inl ⟨kvs,.inl hE.dic⟩,_,rfl,a,_,_,_,rfl,rfl,Ck.of ha,at1 _ _ _,_,rfl,a,_,_,_,rfl,rfl,Ck.of ha,at1 _ _ _,by show 2<=JQ;decide,λt ht=>?_⟩
   have s1:=Ag ht (.tup [.str "needs", .int (p:Nat)])
   refine⟨_,Et.k (k:=NI (p:Int)) (s1 _ _ hE.dic),?_⟩
   rcases hE.val p with ⟨h1,h2⟩ | ⟨e,v,h1,h2,h3⟩
   ·rw[h2]
    refine q _ _ s1 ?_
    have e1:Rf m (.ld (.go p))=.need p:=by show (m p).getD _=_;rw[h1];rfl
    rw[e1]
    exact EndV.new Aa
   ·rw[h2]
    refine q _ _ s1 ?_
    have e1:Rf m (.ld (.go p))=e:=by show (m p).getD _=_;rw[h1];rfl
    rw[e1]
    exact h3.same s1
 | ei x y=>
  obtain⟨a,b,c,rfl,ha,hx,hy⟩:=hs
  refine⟨_,rfl,a,_,_,_,rfl,rfl,Ck.of ha,at0 _ _,rfl,_,rfl,skip (by decide +kernel) ?_⟩
  refine⟨_,rfl,a,_,_,_,rfl,rfl,Ck.of ha,at0 _ _,rfl,_,rfl,skip (by decide +kernel) ?_⟩
  refine⟨_,rfl,a,_,_,_,rfl,rfl,Ck.of ha,at0 _ _,rfl,_,rfl,take ?_⟩
  exact⟨_,rfl,a,_,_,_,rfl,rfl,Ck.of ha,at1 _ _ _,_,rfl,a,_,_,_,rfl,rfl,Ck.of ha,at2 _ _ _ _,_,rfl,b,c,d,kvs,n,m,x,y,rfl,hx,hy,hE,λv' H' s' h'=>q _ _ s' h'⟩
 | oth=>
  obtain⟨a,k,r,rfl,ha,k1,k2,k3,_⟩:=hs
  refine⟨_,rfl,a,_,_,_,rfl,rfl,Ck.of ha,at0 _ _,rfl,_,rfl,skip k1 ?_⟩
  refine⟨_,rfl,a,_,_,_,rfl,rfl,Ck.of ha,at0 _ _,rfl,_,rfl,skip k2 ?_⟩
  refine⟨_,rfl,a,_,_,_,rfl,rfl,Ck.of ha,at0 _ _,rfl,_,rfl,skip k3 ?_⟩
  refine⟨by show 2<=JQ;decide,λt ht=>?_⟩
  exact q _ _ (Ag ht _) (EndV.new (e:=.ans 0) Aa)
end
end Ak
namespace Ak
open PySem L2 Ah
open Bk (Nj Qr Iv Iy Fj Ik Ql)
theorem jA{α:Type}{l:List α}{i:Nat}{x:α}(h:l[i]? = some x):l.drop i=x::l.drop (i+1):=by
 obtain⟨hi,rfl⟩:=JF.mp h
 exact MP hi
theorem vF{m:Mp}{c k:Nat}{s:Stp}{t:List Stp}(h:Rf m s=.ans k):rowE m c (s::t)=rowE m (c+k) t:=by
 show (match Rf m s with | .ans n=>rowE m (c+n) t | .una n=>.una (c+n) | .nev=>.nev | .need p=>.need p)=_
 rw[h]
theorem uT{m:Mp}{c:Nat}{s:Stp}{t:List Stp}(h:¬ wd (Rf m s) = "answers"):rowE m c (s::t)=Nt c (Rf m s):=by
 show (match Rf m s with | .ans n=>rowE m (c+n) t | .una n=>.una (c+n) | .nev=>.nev | .need p=>.need p)=_
 cases e:Rf m s with
 | ans n=>rw[e] at h;exact absurd rfl h
 | una n=>rfl
 | nev=>rfl
 | need p=>rfl
theorem StsAt.keep{H H':Hp}(k:gO H H'){us:List V}{r:List Stp}(h:StsAt H us r):StsAt H' us r:=Paired.mapP h λ_ _ z=>z.keep k
theorem RwsAt.fr{H H':Hp}{ra d:JO}{as:List JO}{vss:List (List V)}{rows:List (List Stp)}{kvs:List (Key×V)}(R:RwsAt H ra as vss rows)(hd:H d=some (.dK kvs))(f:Fr d H H'):RwsAt H' ra as vss rows:=
 ⟨f _ _ R.lst (Cd R.lst hd (by intro z;cases z)),R.len,R.lev,λi a vs h1 h2=>f _ _ (R.row i a vs h1 h2) (Cd (R.row i a vs h1 h2) hd (by intro z;cases z)),λi vs r h1 h2=>(R.sts i vs r h1 h2).keep λb xs e=>f _ _ e (Cd e hd (by intro z;cases z))⟩
theorem RwsAt.same{H H':Hp}{ra:JO}{as:List JO}{vss:List (List V)}{rows:List (List Stp)}(R:RwsAt H ra as vss rows)(s:Am H H'):RwsAt H' ra as vss rows:=
 ⟨s _ _ R.lst,R.len,R.lev,λi a vs h1 h2=>s _ _ (R.row i a vs h1 h2),λi vs r h1 h2=>(R.sts i vs r h1 h2).keep s.keepT⟩
theorem RwsAt.get{H:Hp}{ra:JO}{as:List JO}{vss:List (List V)}{rows:List (List Stp)}(R:RwsAt H ra as vss rows){p:Nat}(h:p < rows.length):∃a us r,as[p]? = some a/\vss[p]? = some us/\rows[p]? = some r/\rows.getD p []=r/\H a=some (.lst us)/\StsAt H us r:=by
 have h1:p < as.length:=by rw[R.len];exact h
 have h2:p < vss.length:=by rw[R.lev];exact h
 refine⟨as[p],vss[p],rows[p],JK h1,JK h2,JK h,?_,R.row p _ _ (JK h1) (JK h2),R.sts p _ _ (JK h2) (JK h)⟩
 rw[LJ,JK h]
 rfl
def rowF(rows:List (List Stp)):Nat->List Stp:=λi=>rows.getD i []
def LeadsOk(rows:List (List Stp)):Prop:=∀r∈rows,∀s∈r,∀p∈Qo s,p < rows.length
theorem LeadsOk.at{rows:List (List Stp)}(h:LeadsOk rows){q p:Nat}{s:Stp}(hs:s∈rowF rows q)(hp:p∈Qo s):p < rows.length:=by
 unfold rowF at hs
 rw[LJ] at hs
 cases e:rows[q]? with
 | none=>rw[e] at hs;exact nomatch hs
 | some r=>
  rw[e] at hs
  exact h r (KD e) s hs p hp
def hJ(ps:List Nat):List V:=ps.reverse.map λp:Nat=>V.int (p:Int)
theorem Lf(q:Nat)(ps:List Nat):hJ (q::ps)=hJ ps++[.int (q:Int)]:=by
 unfold hJ
 rw[List.reverse_cons,JX]
 rfl
theorem uB(ps:List Nat):(hJ ps).length=ps.length:=by
 unfold hJ
 rw[JJ,OY]
theorem Yq(q:Nat)(ps:List Nat):Jb (hJ (q::ps)) (-1)=some (.int (q:Int)):=by
 rw[Lf]
 exact Yn _ _
theorem wF(q:Nat)(ps:List Nat):(hJ (q::ps))[(hJ (q::ps)).length-1]? = some (.int (q:Int))/\(hJ (q::ps)).dropLast=hJ ps:=by
 rw[Lf]
 refine⟨?_,List.dropLast_concat⟩
 rw[JN,JY,Nat.add_sub_cancel]
 exact KH
def spTell(K:JG):Sp:=λvs H Q _=>∃(p:Nat)(ra d:JO)(as:List JO)(vss:List (List V))(rows:List (List Stp))(kvs:List (Key×V))(m:Mp),vs=[.int (p:Int),.ref ra,.ref d]/\RwsAt H ra as vss rows/\Dq K H d kvs rows.length m/\Told (rowF rows) rows.length m/\m p=none/\p < rows.length/\LeadsOk rows/\rows.length<=100000 /\
 ∀(H':Hp)(kvs':List (Key×V))(m':Mp),Fr d H H'->Dq K H' d kvs' rows.length m'->Told (rowF rows) rows.length m'->(∀x,m x≠none∨x=p->m' x≠none)->Q .non H'
def DA(n:Nat)(m:Mp):List Nat->Nat
 | []=>cnt m n
 | q::_=>cnt (setM m q .nev) n
section
variable {P:KI} {w:LQ} {K:JG} {mg:Str->Option JH} {base:MV} {f fB fS fE fR fT aN:JO} {fd dB dS dE dR dT:LG}
theorem nL:An ["row","ends","count","step","end"] ["row","ends"] (Ad Iv):=Ez (by decide +kernel)
theorem ok_re(F:Di K "end_of_row" "end_of_row" Iv f fd)(GS:Al P w K mg base Bi 3 fS dS ["step","ends"] (spSE K))(kS:JV K (.ref fS)=true)(bS:Binds K dS ["step","ends"] [])(mS:mg "end_of_step" = some (.ref fS))(GB:Al P w K mg base Bi 1 fB dB ["count","last"] (spEB K))(kB:JV K (.ref fB)=true)(bB:Binds K dB ["count","last"] [])(mB:mg "end_behind" = some (.ref fB)):Al P w K mg base Bi 4 f fd ["row","ends"] (spRE K):=by
 refine F.ok nL (λvs H Q E h=>?_) (λcdv A outer s H vs Q E hr h=>?_)
 ·obtain⟨a,d,us,kvs,n,m,r,rfl,_⟩:=h
  rfl
 obtain⟨a,d,us,kvs,n,m,r,rfl,ha,hs,hE,q⟩:=h
 have hr1:Co 1 _:=hr.mono (by decide)
 refine⟨_,Ac (Bv 2 nL.nd Ae)
  (Ac (Eh MN rfl (Dk (pv 0)) (Dg 3 nL.nd)
   (Ac (Bv 4 nL.nd (Cf GS hr mS kS bS (Em (pv 3) (pv 1))))
   (Af (Ay (Ar Cc (As Ax (pv 4) Ae (λ_ _=>rfl)) Ba (Au _)) (Af (Bv 2 nL.nd (Aq Cm (pv 2) (As Ax (pv 4) Ae (λ_ _=>rfl)))))
    (Af (Ao (Cf GB hr1 mB kB bB (Em (pv 2) (pv 4)))))))))
  (Af (Ao (Ca (Em Ba (pv 2)))))),?_⟩
 refine⟨_,rfl,a,rfl,⟨_,Aw.of ha⟩,Fi (K:=K) (a:=a) (xs:=us) (λi σ H2=>∃(v3 v4:Option V)(c:Nat),σ=[some (.ref a),some (.ref d),some (.int (c:Int)),v3,v4]/\Am H H2/\rowE m 1 r=rowE m c (r.drop i))
  ⟨none,none,1,rfl,Am.refl _,rfl⟩ (λi σ H2 _ ⟨_,_,_,_,s2,_⟩=>Aw.of (s2 _ _ ha)) ?_ ?_⟩
 ·rintro i x σ H2 hx ⟨v3,v4,c,rfl,s2,hp⟩
  obtain⟨st,hst,hsa⟩:=Fa hs hx
  rw[jA hst] at hp
  refine⟨_,rfl,_,rfl,x,d,kvs,n,m,st,rfl,hsa.keep s2.keepT,hE.same s2,λv1 H3 s3 h3=>?_⟩
  obtain⟨a1,rfl,q1⟩:=h3
  refine⟨_,rfl,a1,_,_,_,rfl,rfl,q1,at0 _ _,rfl,_,rfl,Br (λc1=>?_) (λc1=>?_)⟩
  ·obtain⟨k,hk⟩:=yZ (Bq c1)
   refine⟨_,rfl,_,rfl,a1,_,_,_,rfl,rfl,q1,at1 _ _ _,_,_,rfl,rfl,?_⟩
   rw[vF hk] at hp
   refine⟨some x,some (.ref a1),c+k,?_,s2.trans s3,hp⟩
   rw[hk]
   show [some (V.ref a),some (V.ref d),some (V.int ((c:Int)+(k:Int))),some x,some (V.ref a1)]=_
   rw[Int.natCast_add]
  ·have c2:=Cz c1
   rw[uT c2] at hp
   refine⟨_,rfl,_,rfl,c,_,_,rfl,⟨a1,rfl,q1⟩,λv' H' s' h'=>?_⟩
   rw[hp] at q
   exact q _ _ ((s2.trans s3).trans s') h'
 ·rintro σ H2 ⟨v3,v4,c,rfl,s2,hp⟩
  have hl:r.drop us.length=[]:=OB (by rw[NP hs];exact JM _)
  rw[hl] at hp
  refine⟨_,rfl,by show 2<=JQ;decide,λt ht=>?_⟩
  rw[hp] at q
  exact q _ _ (s2.trans (Ag ht _)) (EndV.new (e:=.ans c) Aa)
theorem xW:An ["place","rows","ends","pile","end"] ["place","rows","ends"] (Ad Qr):=Ez (by decide +kernel)
theorem ok_te(F:Di K "tell_end" "tell_end" Qr f fd)(GR:Al P w K mg base Bi 4 fR dR ["row","ends"] (spRE K))(kR:JV K (.ref fR)=true)(bR:Binds K dR ["row","ends"] [])(mR:mg "end_of_row" = some (.ref fR))(mN:mg "NEVER" = some (.ref aN))(hN:∀H,Ck K H aN [.str "never", .int 0]):Al P w K mg base Bi 5 f fd ["place","rows","ends"] (spTell K):=by
 refine F.ok xW (λvs H Q E h=>?_) (λcdv A outer s H vs Q E hr h=>?_)
 ·obtain⟨p,ra,d,as,vss,rows,kvs,m,rfl,_⟩:=h
  rfl
 obtain⟨p,ra,d,as,vss,rows,kvs,m,rfl,R,hE,hT,hp,hpl,hL,hn,q⟩:=h
 have hu:=Fo hr
 refine⟨_,Ac (Bv 3 xW.nd (De (Du (pv 0))))
  (Af (Lw MN (lM (K:=K) (pv 3)) (Ac (Gd hu (pv 2) (As Bj (pv 3) (Jy Gx Ae) (λ_ _=>rfl)) (eC (v:=.ref aN) rfl mN rfl) rfl) (Ac (Bv 4 xW.nd (Cf GR hr mR kR bR (Em (As Bj (pv 1) (As Bj (pv 3) (Jy Gx Ae) (λ_ _=>rfl)) (λ_ _=>rfl)) (pv 2))))
   (Af (Ay (Ar Cc (As Ax (pv 4) Ae (λ_ _=>rfl)) Ba (Au _))
    (Af (Bx (Ll MO MS MR Ed (pv 3) (Du (As Ax (pv 4) Ae (λ_ _=>rfl))))))
    (Af (Gd hu (pv 2) (AS MO PySem.F.slot_list_pop PySem.F.type_list_pop xY (pv 3)) (pv 4) rfl)))))))),?_⟩
 refine⟨_,rfl,by show 1<=JQ;decide,λl hl=>?_⟩
 have hdl:l≠d:=λz=>by rw[z,hE.dic] at hl;cases hl
 have s0:=Ag hl (.lst [.int (p:Int)])
 refine⟨λμ σ H2=>∃(ps:List Nat)(kv:List (Key×V))(m2:Mp)(v4:Option V),σ=[some (.int (p:Int)),some (.ref ra),some (.ref d),some (.ref l),v4]/\H2 l=some (.lst (hJ ps))/\Dq K H2 d kv rows.length m2/\Ue (rowF rows) rows.length m2 ps/\Fr d H H2/\(∀x,m x≠none∨x=p->x∈ps∨m2 x≠none)/\μ=2 * (rows.length-DA rows.length m2 ps)+ps.length,
  ⟨_,[p],kvs,m,none,rfl,Aa,hE.same s0,hT.start hp hpl,(Fr.refl d H).same s0,λx hx=>hx.elim .inr λz=>.inl (JP.mpr z),rfl⟩,?_⟩
 rintro μ σ H2 ⟨ps,kv,m2,v4,rfl,el,E2,PL,fr,dom,rfl⟩
 refine⟨_,rfl,!(hJ ps).isEmpty,.inl ⟨_,Aw.of el,rfl⟩,Br (λc=>?_) (λc=>?_)⟩
 ·cases ps with
  | nil=>exact absurd c (by decide)
  | cons t ps=>
  have htn:t < rows.length:=PL.lt t (JW ..)
  have hkl:kv.length < JQ:=by
   rw[E2.len,KS]
   have:=Zx m2 rows.length
   omega
  refine⟨λσ' H'=>∃μ',μ' < _/\_,λσ' H' h=>h,?_⟩
  refine⟨_,rfl,_,rfl,_,rfl,l,_,_,_,rfl,rfl,Aw.of el,Yq t ps,d,_,rfl,Kr.k (k:=NI (t:Int)) E2.dic hkl,?_⟩
  have E3:=E2.put (v:=.ref aN) (e:=.nev) htn ⟨aN,rfl,hN _⟩
  have f3:Fr d H2 (upd H2 d (.dK (putK kv (NI (t:Int)) (.ref aN)))):=(Fr.refl d H2).upd
  have el3:=f3 _ _ el hdl
  have R3:=(R.fr hE.dic (fr.upd (o:=.dK (putK kv (NI (t:Int)) (.ref aN)))))
  generalize upd H2 d (.dK (putK kv (NI (t:Int)) (.ref aN)))=H3 at *
  obtain⟨a,us,r,ha,hus,hr',hgr,har,hsr⟩:=R3.get htn
  refine⟨_,rfl,_,rfl,_,rfl,l,_,_,_,rfl,rfl,Aw.of el3,Yq t ps,ra,_,_,_,rfl,rfl,Aw.of R3.lst,Bc (v:=.ref a) (by rw[KP,ha];rfl),_,rfl,a,d,us,_,_,_,r,rfl,har,hsr,E3,λv1 H4 s4 h4=>?_⟩
  obtain⟨a1,rfl,q1⟩:=h4
  have hrow:rowF rows t=r:=hgr
  have E4:=E3.same s4
  have el4:=s4 _ _ el3
  have fr4:Fr d H H4:=λb o hb hn=>s4 _ _ (f3 _ _ (fr b o hb hn) hn)
  refine⟨_,rfl,a1,_,_,_,rfl,rfl,q1,at0 _ _,rfl,_,rfl,Br (λc1=>?_) (λc1=>?_)⟩
  ·obtain⟨pp,hpp⟩:=tT (Bq c1)
   have hneed:rowE (setM m2 t .nev) 1 (rowF rows t)=.need pp:=by rw[hrow];exact hpp
   have hppl:pp < rows.length:=by
    obtain⟨_,s',hs',hp'⟩:=Pc PL.nnN hneed
    exact hL.at hs' hp'
   obtain⟨hno,PL2⟩:=PL.push hneed hppl
   have hct:ct (rowE (setM m2 t .nev) 1 r)=(pp:Int):=by rw[hpp];rfl
   rw[hct] at q1
   refine⟨_,rfl,.inl ⟨rfl,_,Aw.of el4⟩,_,rfl,a1,_,_,_,rfl,rfl,q1,at1 _ _ _,l,_,_,rfl,rfl,el4,?_,?_⟩
   ·rw[uB,KS]
    have:(t::ps).length<=rows.length:=iS PL
    omega
   refine⟨_,?_,pp::t::ps,putK kv (NI (t:Int)) (.ref aN),setM m2 t .nev,some (.ref a1),rfl,?_,?_,PL2,?_,?_,rfl⟩
   ·show 2 * (rows.length-cnt (setM (setM m2 t .nev) pp .nev) rows.length)+(pp::t::ps).length < 2 * (rows.length-cnt (setM m2 t .nev) rows.length)+(t::ps).length
    have h1:=Tn (e:=.nev) hno hppl
    have h2:=Zx (setM (setM m2 t .nev) pp .nev) rows.length
    rw[LU (a:=pp)]
    omega
   ·rw[Aa,<- Lf]
   ·exact E4.other el4 hdl
   ·exact λb o hb hn=>by rw[Aj (Ai hb hl)];exact fr4 b o hb hn
   ·intro x hx
    rcases dom x hx with z | z
    ·exact .inl (JU _ z)
    ·by_cases c2:x=t
     ·exact .inl (by rw[c2];exact JU _ (JW ..))
     ·exact .inr (by rw[Bh c2];exact z)
  ·have c2:=Cz c1
   have hne:∀pp,rowE (setM m2 t .nev) 1 r ≠ .need pp:=λpp z=>c2 (by rw[z];rfl)
   have PL2:=PL.pop (e:=rowE (setM m2 t .nev) 1 r) (by rw[hrow]) hne
   obtain⟨hlast,hdrop⟩:=wF t ps
   refine⟨_,rfl,_,rfl,_,rfl,.inl ⟨rfl,_,Aw.of el4⟩,l,_,_,rfl,rfl,el4,hlast,?_⟩
   rw[hdrop]
   have E5:Dq K (upd H4 l (.lst (hJ ps))) d _ rows.length (setM m2 t .nev):=E4.other el4 hdl
   have hkl5:(putK kv (NI (t:Int)) (V.ref aN)).length < JQ:=by
    rw[E5.len,KS]
    have:=Zx (setM m2 t .nev) rows.length
    omega
   have hv5:EndV K (upd H4 l (.lst (hJ ps))) (.ref a1) (rowE (setM m2 t .nev) 1 r):=⟨a1,rfl,eU el4 q1⟩
   refine⟨d,_,rfl,Kr.k (k:=NI (t:Int)) E5.dic hkl5,?_⟩
   have E6:=E5.put htn hv5
   rw[jP] at E6
   refine⟨_,?_,ps,_,_,_,rfl,?_,E6,PL2,?_,?_,rfl⟩
   ·have h1:DA rows.length (setM m2 t (rowE (setM m2 t .nev) 1 r)) ps=cnt (setM m2 t .nev) rows.length:=by
     have h2:cnt (setM m2 t (rowE (setM m2 t .nev) 1 r)) rows.length=cnt (setM m2 t .nev) rows.length:=Ol λx _=>by
      by_cases z:x=t
      ·subst z;rw[Cp,Cp];rfl
      ·rw[Bh z,Bh z]
     cases ps with
     | nil=>exact h2
     | cons y ps2=>
      show cnt (setM (setM m2 t _) y .nev) rows.length=_
      rw[gQ]
      ·exact h2
      ·have hyt:y≠t:=λz=>(LW.mp PL.nd).1 (by rw[<- z];exact JW ..)
       rw[Bh hyt,PL.tl y (JW ..)]
       rfl
    rw[h1]
    show _ < 2 * (rows.length-cnt (setM m2 t .nev) rows.length)+(t::ps).length
    rw[LU]
    omega
   ·rw[Aj hdl,Aa]
   ·exact λb o hb hn=>by rw[Aj hn,Aj (Ai hb hl)];exact fr4 b o hb hn
   ·intro x hx
    by_cases c3:x=t
    ·exact .inr (by rw[c3,Cp];exact nofun)
    ·rcases dom x hx with z | z
     ·exact .inl ((JT.mp z).resolve_left c3)
     ·exact .inr (by rw[Bh c3];exact z)
 ·cases ps with
  | cons t ps=>exact absurd (by rw[Lf];simp) c
  | nil=>
   refine q H2 kv m2 fr E2 PL.done λx hx=>?_
   rcases dom x hx with z | z
   ·exact nomatch z
   ·exact z
end
end Ak
namespace Ak
open PySem L2 Ah
open Bk (Nj Qr Iv Iy Fj Ik Ql)
def spTold(K:JG):Sp:=λvs H Q _=>∃(ra:JO)(as:List JO)(vss:List (List V))(rows:List (List Stp)),vs=[.ref ra]/\RwsAt H ra as vss rows/\LeadsOk rows/\rows.length<=100000 /\
 ∀(l:JO)(us:List V)(H':Hp)(m:Mp),H l=none->Am H H'->H' l=some (.lst us)->us.length=rows.length->Told (rowF rows) rows.length m->(∀p,p < rows.length->∃v e,us[p]? = some v/\m p=some e/\EndV K H' v e)->Q (.ref l) H'
section
variable {P:KI} {w:LQ} {K:JG} {mg:Str->Option JH} {base:MV} {f fT:JO} {fd dT:LG}
abbrev IQ:List Str:=["rows","ends","place"]
theorem FW:(["place","ends"]:List Str).Nodup:=by decide +kernel
theorem AJ:An ["rows","ends","place"] ["rows"] (Ad Nj):=Ez (by decide +kernel)
theorem ok_ta(F:Di K "told_ahead" "told_ahead" Nj f fd)(T:Txt mg)(GT:Al P w K mg base Bi 5 fT dT ["place","rows","ends"] (spTell K))(kT:JV K (.ref fT)=true)(bT:Binds K dT ["place","rows","ends"] [])(mT:mg "tell_end" = some (.ref fT)):Al P w K mg base Bi 6 f fd ["rows"] (spTold K):=by
 refine F.ok AJ (λvs H Q E h=>?_) (λcdv A outer s H vs Q E hr h=>?_)
 ·obtain⟨ra,as,vss,rows,rfl,_⟩:=h
  rfl
 obtain⟨ra,as,vss,rows,rfl,R,hL,hn,q⟩:=h
 have hu:=Fo hr
 refine⟨_,Ac (Mw (i:=1) AJ.nd rfl (Or.inr rfl) Ho)
  (Ac (Eh MN rfl (Fc rfl T.range (Du (Bw T.len (pv 0)))) (Dg 2 AJ.nd)
   (Af (Ay (Fu (Ka hu (pv 2) (pv 1))) (Af (Bx (Cf GT hr mT kT bT (Iz (pv 2) (pv 0) (pv 1))))) Ap)))
  (Af (Ao (He (Ad Nj) IQ ["place"] [("ends", 1)] rfl (Fc rfl T.range (Du (Bw T.len (pv 0)))) (Bm (i:=0) (by decide))
   (λ_ _ _ _ _ _=>⟨Dg 0 FW,Dr,Ie hu (pv 1) (pv 0) (λ_ _=>rfl)⟩))))),?_⟩
 intro d hd
 have s0:=Ag hd (.dK [])
 have R0:=R.same s0
 have ed:(upd H d (.dK [])) d=some (.dK []):=Aa
 have frH:∀b o,H b=some o->b≠d:=λb o hb=>Ai hb hd
 generalize upd H d (.dK [])=H0 at *
 have hln:(as.map V.ref).length=rows.length:=by rw[JJ,R.len]
 have E0:Dq K H0 d [] rows.length (λ_=>none):=⟨ed,by
  have:cnt (λ_=>none) rows.length=0:=by unfold cnt;rw[List.countP_eq_zero];exact λ_ _=>JR
  rw[this];rfl,λp=>.inl ⟨rfl,rfl⟩⟩
 refine⟨_,rfl,ra,_,rfl,.inl (Aw.of R0.lst),_,rfl,by rw[hln];omega,by rw[hln];omega,Hv (n:=((as.map V.ref).length:Int).toNat) (λi σ H2=>∃(v2:Option V)(kv:List (Key×V))(m:Mp),σ=[some (.ref ra),some (.ref d),v2]/\Fr d H0 H2/\Dq K H2 d kv rows.length m/\Told (rowF rows) rows.length m/\∀p,p < i->m p≠none)
  ⟨none,[],λ_=>none,rfl,Fr.refl _ _,E0,Told.nil _ _,λp hp=>absurd hp (Nat.not_lt_zero _)⟩ ?_ ?_⟩
 ·rintro i σ H2 hi ⟨v2,kv,m,rfl,fr,E2,T2,hm⟩
  rw[LX,hln] at hi
  have e0:(0:Int)+(i:Int)=(i:Int):=by omega
  rw[e0]
  refine⟨_,rfl,_,rfl,d,_,rfl,Et.k (k:=NI (i:Int)) E2.dic,_,rfl,?_⟩
  rcases E2.val i with ⟨h1,h2⟩ | ⟨e,v,h1,h2,h3⟩
  ·rw[h2]
   refine Jn ?_
   refine⟨_,rfl,_,rfl,_,rfl,i,ra,d,as,vss,rows,kv,m,rfl,R0.fr ed fr,E2,T2,h1,hi,hL,hn,λH3 kv3 m3 f3 E3 T3 d3=>?_⟩
   refine⟨_,kv3,m3,rfl,λb o hb hn=>f3 _ _ (fr _ _ hb hn) hn,E3,T3,λp hp=>?_⟩
   by_cases c:p=i
   ·exact d3 p (.inr c)
   ·exact d3 p (.inl (hm p (by omega)))
  ·rw[h2]
   refine Eb ?_
   refine⟨_,kv,m,rfl,fr,E2,T2,λp hp=>?_⟩
   by_cases c:p=i
   ·rw[c,h1];exact nofun
   ·exact hm p (by omega)
 ·rintro σ H2 ⟨v2,kv,m,rfl,fr,E2,T2,hm⟩
  rw[LX,hln] at hm
  have R2:=R0.fr ed fr
  refine⟨_,rfl,ra,_,rfl,.inl (Aw.of R2.lst),_,rfl,by rw[hln];omega,by rw[hln];omega,Ir (k:=((as.map V.ref).length:Int).toNat) (λi ys H3=>H3=H2/\ys.length=i/\∀p,p < i->∃v e,ys[p]? = some v/\m p=some e/\EndV K H2 v e)
   ⟨rfl,rfl,λp hp=>absurd hp (Nat.not_lt_zero _)⟩ ?_ ?_⟩
  ·rintro i ys H3 hi ⟨rfl,hy,hall⟩
   rw[LX,hln] at hi
   have e0:(0:Int)+(i:Int)=(i:Int):=by omega
   rw[e0]
   rcases E2.val i with ⟨h1,h2⟩ | ⟨e,v,h1,h2,h3⟩
   ·exact absurd h1 (hm i hi)
   refine⟨_,rfl,_,rfl,d,v,rfl,by rw[<- h2];exact Et.k (k:=NI (i:Int)) E2.dic,by rw[hy,KS];omega,rfl,by rw[JN,hy];rfl,λp hp=>?_⟩
   by_cases c:p < i
   ·obtain⟨v',e',a1,a2,a3⟩:=hall p c
    exact⟨v',e',by rw[KN (by omega)];exact a1,a2,a3⟩
   ·obtain rfl:p=i:=by omega
    refine⟨v,e,?_,h1,h3⟩
    rw[<- hy]
    exact KH
  ·rintro ys H3 ⟨rfl,hy,hall⟩
   rw[LX,hln] at hy hall
   intro l hl
   have hl0:H l=none:=by
    cases e:H l with
    | none=>rfl
    | some o=>rw[fr _ _ (s0 _ _ e) (frH _ _ e)] at hl;cases hl
   have s3:=Ag hl (.lst ys)
   refine q l ys _ m hl0 (λb o hb=>s3 _ _ (fr _ _ (s0 _ _ hb) (frH _ _ hb))) Aa hy T2 λp hp=>?_
   obtain⟨v,e,a1,a2,a3⟩:=hall p hp
   exact⟨v,e,a1,a2,a3.same s3⟩
end
end Ak
namespace L2
open PySem PySem.Spec PyProof.Rows
section
variable {prog:KI} {w:LQ} {A:LM} {s:JL} {E:JH->JL->Prop}
end
section
variable {X:Cx} {pos:Pos}
end
section
variable {κ:Type} [DecidableEq κ]
end
section
variable {prog:KI} {w:LQ} {κ:Type} [DecidableEq κ] {knd:HeapKind prog w κ} {A:LM} {E:JH->JL->Prop} {s:JL}
end
section
variable {X:Cx} {pins:List (JO×Obj)} {σ:St} {H:Hp} {s:JL} {a b:JO} {kvs:List (List Key×V)} {k:List Key} {r:JH} {A:LM} {E:JH->JL->Prop}
end
section
variable {X:Cx} {o e f:Expr} {apos cpos:Pos} {td ty tx:TE}
end
section
variable {X:Cx} {pins:List (JO×Obj)} {σ:St} {H:Hp} {s:JL} {a:JO} {kvs:List (Key×V)} {k:Key} {u r:JH} {v:V} {A:LM} {E:JH->JL->Prop}
theorem yD{Q:JH->JL->Prop}(I:Inv X pins σ H s)(e:H a=some (.dK kvs))(ry:RelV (kV k) u)(rv:RelV v r)(hz:kvs.length < JQ)(h1:∀x,valV kvs k=some x->∀w' s',Inv X pins σ H s'->RelV x w'->Q w' s')(h2:valV kvs k=none->∀s',Inv X pins σ (upd H a (.dK (putK kvs k v))) s'->Q r s'):
 KY (LB X.prog X.w) A (call (.builtin "dict.setdefault") [.ref a,u,r]) Q E s:=by
 obtain⟨z,hd,vs,rel,dd⟩:=xA I.hok e
 have rl:=rel.val k
 have hl:(putK kvs k v).length<=JQ:=by have:=Dm kvs k v;omega
 refine call_meetsIn PySem.F.slot_dict_setdefault dd.typeIs PySem.F.entry_dict_setdefault (PySem.F.args_dict_setdefault_3 _ _ _) (kt_meets_setdefault (Bo X.prog X.w) a (Kx ry) hd r) ⟨vs,dd,by rw[<- rel.length];exact z,λx hx=>?_,λhn h' dd' hs=>?_⟩
 ·cases q:valV kvs k with
  | none=>rw[q,hx] at rl;exact rl.elim
  | some y=>rw[q,hx] at rl;exact h1 y q _ _ (I.tok _) rl
 ·cases q:valV kvs k with
  | none=>
   have he:∃q,h'.get? a=some q:=let ⟨q,_,_,hq,_⟩:=dd';⟨q,hq⟩
   exact h2 q _ (Vg I (by rw[e];exact PK) hs he (lK hl hd (rel.put k rv) dd'))
  | some y=>rw[q,hn] at rl;exact rl.elim
end
def xV(td ty tx:TE):TE:=λσ H Q=>td σ H λx H1=>∃a,x=.ref a/\GG H1 a/\ty σ H1 λy H2=>tx σ H2 λz H3=>∃kvs k,H3 a=some (.dK kvs)/\y=kV k/\kvs.length < JQ /\
 (∀v,valV kvs k=some v->Q v H3)/\(valV kvs k=none->Q z (upd H3 a (.dK (putK kvs k z))))
section
variable {X:Cx} {o e f:Expr} {apos cpos:Pos} {td ty tx:TE}
theorem qY(ho:PE X o td)(he:PE X e ty)(hf:PE X f tx)(m:M2 X o "setdefault" apos e f cpos):PE X (.Call (.Attribute o "setdefault" apos) [e,f] [] cpos) (xV td ty tx):=by
 intro pins s σ H Q I h
 refine wpAny_Call_method m.base m.few m.line RN PySem.F.slot_dict_setdefault PySem.F.type_dict_setdefault (Bu (ho pins s σ H _ I h) λu s1 ⟨x,H1,I1,rx,a,ex,d,q1⟩=>?_)
 subst ex
 obtain rfl:u=JZ a:=rx
 obtain⟨t1,t2,_⟩:=aQ I1 d
 refine⟨t1,t2,?_⟩
 rw[m.trees]
 refine PU rfl (Calls.evalArgs_plain (QW (Bu (he pins s1 σ H1 _ I1 q1) λiv s2 ⟨y,H2,I2,ry,q2⟩=>
  QW (Bu (hf pins s2 σ H2 _ I2 q2) λfv s3 ⟨z,H3,I3,rz,kvs,k,ea,ey,hz,q3,q4⟩=>Calls.spliced_nil ?_))))
 subst ey
 exact yD I3 ea ry rz hz (λv l w' s4 I4 rw'=>⟨v,_,I4,rw',q3 v l⟩) (λl s4 I4=>⟨z,_,I4,rz,q4 l⟩)
end
section
variable {prog:KI} {w:LQ} {KK:Type} [DecidableEq KK] {knd:KeyKind prog w KK} {A:LM} {E:JH->JL->Prop} {s:JL}
theorem lA{it d:JO}{i ep:Nat}{kvs:List (KK×JH)}{ok ov:JH}{Q:Option JH->JL->Prop}(hh:Bp A s.heap)(hit:IsItemIter s.heap it d i kvs.length ep ok ov)(hm:s.heap.DictAt knd d kvs ep)(hx:kvs[i]? = none)(hQ:∀h',OJ it s.heap h'->Q none { s with heap:=h' }):KY (LB prog w) A (PB (.ref it)) Q E s:=by
 obtain⟨od,es,hod,hcd,hdd,hk,hpr,hn⟩:=id hm
 have ht:s.TypeIs (.ref it) "dict_itemiterator" := ⟨_,hit,rfl⟩
 have sz:es.size=kvs.length:=by rw[<- hpr.length];simp
 have ge:es.size<=i:=by rw[sz];simpa using hx
 unfold PB
 refine JE (OZ (LP (name:=NL "__next__") ht F.slot_dict_itemiterator_next (MG F.slot_dict_itemiterator_next ht F.entry_dict_itemiterator_next ?_ (F.args_dict_itemiterator_next_1 _))))
 refine JE (JS (JE (JE ?_)))
 first | refine JE (wpAny_typeNameOfWhole_itemiter ht (JS (JE (wpAny_fieldsOf hit rfl ?_)))) | refine JE (wpAny_typeNameOf_itemiter ht (JS (JE (wpAny_fieldsOf hit rfl ?_))))
 simp only[show Builtin.Dict_items.ownsTuple "dict_itemiterator" = true by decide,if_true]
 show KY _ _ (if (JZ d == .none)=true then _ else _) _ _ s
 rw[if_neg (show ¬ ((JZ d == .none)=true) from JR)]
 refine JE (JS (JE (wpAny_dictEntries hod hdd ?_)))
 rw[if_neg (by rw[sz];simp)]
 refine JE (JS (JE (wpAny_dictEpoch hod hdd ?_)))
 rw[if_neg (by simp)]
 refine JS ?_
 simp only[show ¬ ((i:Int) < 0) from by omega,if_false,LX,Array.getElem?_eq_none ge]
 refine JE ?_
 first | refine JE (wpAny_typeNameOfWhole_itemiter ht (JS (JE (m:=setField (.ref it) 2 .none) (MQ hit rfl (by simp) ?_)))) | refine JE (wpAny_typeNameOf_itemiter ht (JS (JE (m:=setField (.ref it) 2 .none) (MQ hit rfl (by simp) ?_))))
 exact Ds (hh.in1.upd λo vs g dt c=>by
  obtain rfl:=LC (hit.symm.trans g)
  cases dt
  simp at c) λh' e kp ty=>Hs hQ kp ty
end
theorem nG:entryFor table "dict_itemiterator.__iter__" = some Builtin.«dict_keyiterator.__iter__» := entryFor_alias (id' := "dict_keyiterator.__iter__") (by kernel_rfl) rfl (by decide +kernel) (by kernel_rfl)
def FR(d:JO)(o:Obj)(kvs:List (Key×V)):It:=
 ⟨λi H=>H d=some (.frz o (.dK kvs))/\i < kvs.length,λi H v H'=>∃T kv,H T=none/\v=.ref T/\kvs[i]? = some kv/\H'=upd H T (.tup [kV kv.1,kv.2]),λi H=>H d=some (.frz o (.dK kvs))/\kvs.length<=i⟩
theorem Zr{P:KI}{w:LQ}{K:JG}{elts:List Expr}{kk:Nat}{tpos:Pos}{es:Array RT}{ep:Nat}(d it:JO)(o:Obj)(kvs:List (Key×V))(hd:o.data=.dict es ep):
 Turn P w K (.Tuple elts kk tpos) (FR d o kvs) [it] it (λi h=>∃ok ov,IsItemIter h it d i kvs.length ep ok ov) where
 mem:=by simp
 obj:=λi h st b hb=>by
  have e:b=it:=by simpa using hb
  subst e
  obtain⟨ok,ov,e⟩:=st
  exact⟨_,e,λv z=>nomatch z⟩
 keep:=λi h h' st k=>by
  obtain⟨ok,ov,e⟩:=st
  exact⟨ok,ov,k it (by simp) _ e⟩
 item:=by
  intro X hP hw hK hc i pins s σ H E I hf st hg
  subst hP hw hK
  obtain⟨e,hlt⟩:=hg
  obtain⟨_,vs,r,dd⟩:=I.dictAt e hd
  have hl:kvs.length=vs.length:=NP r
  have hk:kvs[i]? = some kvs[i]:=JK hlt
  obtain⟨⟨k,x⟩,hx,e1,e2⟩:=Fa r hk
  have e1':kvs[i].1=k:=e1
  have e2':RelV kvs[i].2 x:=e2
  obtain⟨ok,ov,st'⟩:=st
  rw[hl] at st'
  refine wpAny_pyNext_items_item st' dd hx λkey h' hkey a1 a2 a3 kp=>?_
  refine⟨_,rfl,wpAny_letOwnedTupleGo_items a1 λh2' he2 sb=>?_⟩
  have lt:it≠s.heap.objs.size:=KQ (KA st')
  have I1:Inv X pins σ H { s with heap:=h2' }:=I.turns (t':=s.toks) (ch:=[it]) (λc o hc e=>by
   have hc':c≠it:=by simpa using hc
   exact(sb.2 c hc').trans (kp c o hc' e)) hf
  have fT:Df X pins H s.heap.objs.size:=I.fpOk (JM _) (I.hok.fresh (JM _))
  have eT:h2'.get? s.heap.objs.size=some { cls:=.type "tuple", data:=.seq #[key,x] }:=(sb.2 _ (LL lt)).trans a2
  have rk:RelV (kV kvs[i].1) key:=by rw[e1'];exact zW hkey
  refine⟨.ref s.heap.objs.size,_,I1.adopt (o:=.tup [kV kvs[i].1,kvs[i].2]) fT.1 fT.2.1 I.sz fT.2.2.2.2.1 fT.2.2.2.2.2 ⟨by show 2<=JQ;decide,[key,x],.cons rk (.cons e2' .nil),⟨_,eT,rfl,0,rfl⟩⟩,rfl,⟨_,_,fT.1,rfl,hk,rfl⟩,?_,λc hc=>?_⟩
  ·exact⟨_,_,by rw[hl];exact he2⟩
  ·have hc':c=it:=by simpa using hc
   rw[Aj (by rw[hc'];exact lt)]
   exact(hf c hc).1
 done:=by
  intro X hP hw hK hc i pins s σ H E I hf st hg
  subst hP hw hK
  obtain⟨f0,f1,f2,f3,f4,f5⟩:=hf it (by simp)
  obtain⟨e,hle⟩:=hg
  obtain⟨_,vs,r,dd⟩:=I.dictAt e hd
  have hl:kvs.length=vs.length:=NP r
  obtain⟨ok,ov,st'⟩:=st
  rw[hl] at st'
  exact lA (I.calmS hc) st' dd (List.getElem?_eq_none_iff.mpr (by omega)) λh' eb=>⟨rfl,I.turned (t':=s.toks) (λb o hb e=>eb b o hb e) f0 f1 f3 f4 f5⟩
 self:=λA i s Q E st h=>by
  obtain⟨ok,ov,st'⟩:=st
  have hT:s.TypeIs (.ref it) "dict_itemiterator" := ⟨_,st',rfl⟩
  refine wpAny_pyIter_slot hT F.slot_dict_itemiterator_iter (MG F.slot_dict_itemiterator_iter hT nG ?_ (F.args_dict_itemiterator_iter_1 _))
  show KY _ _ (ret (.ref it)) _ _ s
  exact JS ⟨_,rfl,"dict_itemiterator", _,hT,F.slot_dict_itemiterator_next.lookup,h⟩
def zP(H₀:Hp)(td:TE):TI:=λσ H R=>td σ H λx H1=>∃d kvs,x=.ref d/\H1 d=some (.dK kvs)/\∀o,fX H₀ d->R (FR d o kvs) (upd H1 d (.frz o (.dK kvs)))
theorem lT{X:Cx}{elts:List Expr}{kk:Nat}{tpos apos cpos:Pos}{o:Expr}{td:TE}(ho:PE X o td)(hbase:RH o "items" X.env (PD o X.env)=PD o X.env:=by rfl)(hline:(apos.endLine == cpos.line)=true:=by rfl):
 PI X (.Tuple elts kk tpos) (.Call (.Attribute o "items" apos) [] [] cpos) (zP X.H₀ td):=by
 intro pins s σ H R I h
 refine wpAny_Call_method0_late hbase hline (Bu (ho pins s σ H _ I h) λv s1 ⟨x,H1,I1,r1,d,kvs,ex,hd,q⟩=>?_)
 subst ex
 cases r1
 obtain⟨t1,t2,hno⟩:=aQ I1 (.inl ⟨kvs,.inl hd⟩)
 refine⟨"dict","dict.items", RN,PySem.F.slot_dict_items,PySem.F.type_dict_items,t1,t2,PU rfl (PySem.evalArgs_none ?_)⟩
 obtain⟨nf,ob,g,⟨es,ep,dt⟩,I2⟩:=I1.freeze hd
 obtain⟨lo,vs,r,dd⟩:=I2.dictAt Aa dt
 obtain⟨o',es',ho',hc',hdat',hk',hp',hn'⟩:=id dd
 refine call_meetsIn PySem.F.slot_dict_items t1 PySem.F.entry_dict_items (PySem.F.args_dict_items_1 _) (meets_dict_items (Bo X.prog X.w) d lo) ⟨⟨vs,_,es',ep,ho',hc',hdat',hk',hp',hn'⟩,?_⟩
 have hl:kvs.length=vs.length:=NP r
 have hv:(s1.heap.push { cls:=.type "dict_items", data:=.fields #[.ref d] }).IsItemsView s1.heap.objs.size d:=⟨_,KG _ rfl,rfl,rfl⟩
 have I3:Inv X pins σ (upd H1 d (.frz ob (.dK kvs))) { s1 with heap:=s1.heap.push { cls:=.type "dict_items", data:=.fields #[.ref d] } }:=I2.kept (t':=s1.toks) λb o e=>JI _ e
 obtain⟨_,vs3,r3,dd3⟩:=I3.dictAt Aa dt
 have hl3:kvs.length=vs3.length:=NP r3
 refine wpAny_pyIter_items hv dd3 ?_
 refine⟨_,[_],_,_,_,rfl,I3.kept (t':=s1.toks) λb o e=>JI _ e,Zr d _ ob kvs dt,⟨.none,.none,?_⟩,λb hb=>?_,q ob nf⟩
 ·rw[hl3]
  exact KG _ rfl
 ·have e:b=(s1.heap.push { cls:=.type "dict_items", data:=.fields #[.ref d] }).objs.size:=by simpa using hb
  subst e
  exact I3.fpOk (JM _) (I3.hok.fresh (JM _))
theorem Vu{d:JO}{o:Obj}{kvs:List (Key×V)}{n:Nat}{fr:List (Str×Nat)}{g:TG}{te:TE}{σ:St}{H:Hp}{F:List V->Hp->Prop}(Pv:Nat->List V->Hp->Prop)(h0:Pv 0 [] H)(hl:∀i ys H,i<=kvs.length->Pv i ys H->H d=some (.frz o (.dK kvs)))(hs:∀i kv ys H T,kvs[i]? = some kv->Pv i ys H->H T=none->g (.ref T) (stC n fr σ) (upd H T (.tup [kV kv.1,kv.2])) λσ2 H2=>te σ2 H2 λy H4=>ys.length < JQ/\Pv (i+1) (ys++[y]) H4)(hd:∀ys H,Pv kvs.length ys H->F ys H):Ey n fr g Qp te σ (FR d o kvs) H F:=by
 refine⟨λi m ys H=>m=kvs.length-i/\i<=kvs.length/\Pv i ys H,⟨kvs.length,by simp,LK _,h0⟩,?_⟩
 rintro i m ys H ⟨rfl,hi,p⟩
 have q:=hl i ys H hi p
 by_cases hlt:i < kvs.length
 ·refine .inr ⟨⟨q,hlt⟩,Pv (i+1),λys' H' p'=>⟨kvs.length-(i+1),by omega,rfl,hlt,p'⟩,λy H' z=>?_⟩
  obtain⟨T,kv,hT,rfl,hc,rfl⟩:=z
  exact hs i kv ys _ T hc p hT
 ·have e:i=kvs.length:=by omega
  subst e
  exact .inl ⟨⟨q,JM _⟩,hd ys H p⟩
theorem Si:entryFor table "dict.update.loop" = some Builtin.«dict.update.loop» := entryFor_of_tree (by kernel_rfl)
theorem Ke:plainId "dict.update.loop" = true:=by decide +kernel
theorem iK:typeLookup (.type "list") "keys" = pure none:=am_miss_of_fast (by decide +kernel)
section
variable {prog:KI} {w:LQ} {A:LM} {E:JH->JL->Prop} {s:JL}
theorem iW{a:JO}{xs:Array JH}{k:Nat}{Q:Option JH->JL->Prop}(hx:s.heap.get? a=some { cls:=.type "list", data:=.seq xs k })(hA:A.handled=none)(h:∀h' tk,(∀b o,s.heap.get? b=some o->h'.get? b=some o)->Q none { s with heap:=h',toks:=tk }):KY (LB prog w) A (getAttr? (.ref a) "keys") Q E s:=by
 obtain⟨hp,g,d,tk,os⟩:=s
 have hT:∀tk',(⟨hp,g,d,tk',os⟩:JL).TypeIs (.ref a) "list" := λ_=>⟨_,hx,rfl⟩
 have f1:=sub_AttributeError
 have f3:=F.slot_list_getattribute.lookup
 have f4:=F.slot_list_getattribute.bind (.ref a)
 have f5:=am_list_getattr_none
 unfold getAttr? getAttrBy? getAttrBy
 repeat (any_goals (first | assumption | exact hT _ | ((with_reducible show KY _ _ (call (Value.builtin "list.__getattribute__") _ _) _ _ _);refine call_meets F.slot_list_getattribute (hT _) am_entry_list_getattribute (F.args_list_getattribute_2 _ _) (meets_getattribute_miss_list a xs k #[] "keys" _ iK (by decide +kernel) (by size_fits)) ⟨hx,hA,λh' tk' e hx'=>?_⟩) | wp_step))
 obtain⟨t',u',he⟩:=hx'.there
 show KY _ _ (getattributeRaised _ _ _ _ _ _ _) _ _ _
 unfold getattributeRaised
 repeat (any_goals (first | assumption | wp_step))
 exact h _ _ hx'.keeps
end
section
variable {KK:Type} [DecidableEq KK]
def Pz(ps:List (KK×JH)):List (KK×JH):=ps.foldl (λa p=>stored a p.1 p.2) []
theorem iU{ps:List (KK×JH)}{i:Nat}{p:KK×JH}(h:ps[i]? = some p):Pz (ps.take (i+1))=stored (Pz (ps.take i)) p.1 p.2:=by
 unfold Pz
 rw[MI,h,List.foldl_append]
 rfl
theorem iA(a:List (KK×JH))(k:KK)(v:JH):(stored a k v).length<=a.length+1:=by
 unfold stored
 split
 ·rw[JJ];omega
 ·rw[JN];exact JM _
theorem eP:∀(ps:List (KK×JH))(a:List (KK×JH)),(ps.foldl (λa p=>stored a p.1 p.2) a).length<=a.length+ps.length
 | [],a=>JM _
 | p::ps,a=>by
  rw[List.foldl_cons,LU]
  have h1:=eP ps (stored a p.1 p.2)
  have h2:=iA a p.1 p.2
  omega
variable {prog:KI} {w:LQ} {A:LM} {R:Result->JL->Prop} {I:JO} {fp wr:List JO} {G:Array GenState->Array GenState->Prop} {n:Nat} {P:Nat->JH->Prop} {St:Nat->JL->Prop}
theorem qU{D:JO}{t:JO}{o:Obj}{k v:JH}{m:Nat}{i:Int}{Q:Unit->JL->Prop}{E:JH->JL->Prop}{s:JL}(ho:s.heap.get? t=some o)(hc:o.cls=.type "tuple")(hd:o.data=.seq #[k,v] m)(h:KY (LB prog w) A (dictSet D k v) Q E s):
 KY (LB prog w) A (do
  let pair <- (Builtin.Dict.pairItems (.ref t)).tryCatch λe=>do
   if !(<- isInstance e (.type "TypeError")) then throw e
   rule "dict.update.element-no-sequence"
   raiseError "TypeError" s!"cannot convert dictionary update sequence element #{i} to a sequence"
  match pair with
  | [k,v]=>holding [k,v] (dictSet D k v)
  | l=>
   rule "dict.update.element-length"
   raiseError "ValueError" s!"dictionary update sequence element #{i} has length {l.length}; 2 is required") Q E s:=by
 have hT:s.TypeIs (.ref t) "tuple" := ⟨_,ho,hc⟩
 have e1:KY (LB prog w) A (Builtin.Dict.pairItems (.ref t)) (λl s'=>l=[k,v]/\s'=s) (λ_ _=>False) s:=by
  unfold Builtin.Dict.pairItems
  refine JE (wpAny_typeOf hT ?_)
  rw[if_pos (by decide)]
  refine JE (NC ho hd (JS ⟨rfl,rfl⟩))
 refine JE (wpAny_tryCatch (ND e1 (λl s' h1=>?_) (λe s' z=>z.elim)))
 obtain⟨rfl,rfl⟩:=h1
 exact NG h
variable {knd:KeyKind prog w KK}
theorem jF(W:WalksS prog w A.in1 I fp wr G n P St)(D:JO)(hD:D∉fp)(ps:List (KK×JH))(hn:ps.length=n)(tu:Nat->JO)(key:Nat->JH)(hval:∀i v,P i v->v=.ref (tu i))(hne:∀i,i < n->tu i≠D/\tu i∉wr)(hkey:∀(i:Nat)(p:KK×JH),ps[i]? = some p->knd.is p.1 (key i)=true)(hb:n<=JQ)(res:JH):
 ∀(k i:Nat)(j:Int)(tk:Tok)(s:JL),n-i=k->i<=n->St i s->(∀(i:Nat)(p:KK×JH),ps[i]? = some p->IsTup s.heap (tu i) #[key i,p.2])->s.heap.DictOf knd D (Pz (ps.take i)) ->
  (∀s',Moved (D::wr) G s s'->s'.heap.DictOf knd D (Pz ps)->R (.ok (.ret res)) s') ->
  RZ (LB prog w) A (.builtin "dict.update.loop" ⟨[.ref D,.ref I,.int j tk,res],[]⟩) R s:=by
 have hw:D∉wr:=λh=>hD (W.sub _ h)
 have up:∀b∈wr,b∈D::wr:=λb hb=>JU _ hb
 intro k
 induction k with
 | zero=>
  intro i j tk s hk hi st htu hd hR
  obtain rfl:i=n:=by omega
  rw[<- hn,List.take_length] at hd
  refine OR Si ?_
  rw[OC Ke _]
  refine JE (m:=PB (.ref I)) (W.done s _ _ st λs' hm=>?_)
  refine JE (m:=Builtin.Dict.addKeywords D []) (JS (JS (hR s' (hm.mono up) ?_)))
  obtain⟨o,es,ep,ho,r⟩:=hd
  exact⟨o,es,ep,hm.heap D o hw ho,r⟩
 | succ k ih=>
  intro i j tk s hk hi st htu hd hR
  have hlt:i < n:=by omega
  obtain⟨p,hp⟩:∃p,ps[i]? = some p:=⟨_,JK (by rw[hn];exact hlt)⟩
  refine OR Si ?_
  rw[OC Ke _]
  refine JE (m:=PB (.ref I)) (W.item i s _ _ hlt st λv s' hP st' hm=>?_)
  obtain rfl:=hval i v hP
  have hd':s'.heap.DictOf knd D (Pz (ps.take i)):=let ⟨o,es,ep,ho,r⟩:=hd;⟨o,es,ep,hm.heap D o hw ho,r⟩
  obtain⟨o,ho,hc,m,hdt⟩:=htu i p hp
  have ho':=hm.heap _ o (hne i hlt).2 ho
  have hz:(Pz (ps.take i)).length<=JQ:=by
   have h1:=eP (ps.take i) []
   rw[NT] at h1
   unfold Pz
   simp only[List.length_nil] at h1
   omega
  refine JE (NG (qU ho' hc hdt (wpAny_dictSet_pairs (hsz:=hz) (hkey i p hp) hd' λh' hd2 hs=>?_)))
  rw[<- iU hp] at hd2
  have kp:∀b o,b∉D::wr->s.heap.get? b=some o->h'.get? b=some o:=λb o hb e=>(hs.2 b (λz=>hb (by rw[z];exact JW))).trans (hm.heap b o (λz=>hb (JU _ z)) e)
  refine JS ⟨RG Ke _,ih (i+1) (j+1) _ _ (by omega) hlt (W.frame _ s' _ _ st' (ON _) λb hb o e=>(hs.2 b (λz=>hD (z ▸ hb))).trans e) (λi2 p2 h2=>?_) hd2 λs2 m2 f2=>hR s2 (Moved.trans W.gtrans ((hm.mono up).then_heap (ON _) λb o hb e=>(hs.2 b (λz=>hb (by rw[z];exact JW))).trans e) m2) f2⟩
  obtain⟨o2,g1,g2⟩:=htu i2 p2 h2
  have hi2:i2 < n:=by rw[<- hn];exact(JF.mp h2).1
  exact⟨o2,kp _ _ (λz=>(JT.mp z).elim (hne i2 hi2).1 (hne i2 hi2).2) g1,g2⟩
theorem Rp{E:JH->JL->Prop}{s:JL}{l:JO}{items:Array JH}{k0:Nat}{ps:List (KK×JH)}{tu:Nat->JO}{key:Nat->JH}{Q:JH->JL->Prop}(hA:A.handled=none)(hl:s.heap.get? l=some { cls:=.type "list", data:=.seq items k0 })(hn:ps.length=items.size)(hi:∀(i:Nat)(v:JH),items[i]? = some v->v=.ref (tu i))(hkey:∀(i:Nat)(p:KK×JH),ps[i]? = some p->knd.is p.1 (key i)=true)(htu:∀(i:Nat)(p:KK×JH),ps[i]? = some p->IsTup s.heap (tu i) #[key i,p.2])(hb:items.size<=JQ)(h:∀h' tk,h'.DictOf knd s.heap.objs.size (Pz ps)->(∀b o,s.heap.get? b=some o->h'.get? b=some o)->Q (.ref s.heap.objs.size) { s with heap:=h',toks:=tk }):
 KY (LB prog w) A (call (.type "dict") [.ref l]) Q E s:=by
 refine callType_codes (Q₁:=λobj s₁=>obj=.ref s.heap.objs.size/\s₁={ s with heap:=s.heap.push { cls:=.type "dict", data:=.dict #[] } }) F.kt_called_dict (F.kt_typeCall_dict_1 _) F.entry_dict_init (kt_code_dict_new _ ⟨rfl,rfl⟩) ?_
 rintro obj s₁ ⟨rfl,rfl⟩
 have hnew:(s.heap.push { cls:=.type "dict", data:=.dict #[] }).DictOf knd s.heap.objs.size []:=Heap.DictOf.new s.heap
 have hl1:(s.heap.push { cls:=.type "dict", data:=.dict #[] }).get? l=some { cls:=.type "list", data:=.seq items k0 }:=JI _ hl
 have hlS:l < s.heap.objs.size:=KA hl
 refine⟨hnew.typeIs,F.args_dict_init_2 _ _,?_⟩
 unfold Builtin.«dict.__init__»
 refine JE ?_
 unfold Builtin.Dict.selfAndRest
 refine JE (wpAny_notOrdered_dict hnew.typeIs ?_)
 show KY _ _ (pure (s.heap.objs.size,[JZ l])) _ _ _
 refine JS ?_
 show KY _ _ (Builtin.Dict.updateFrom "dict.__init__" s.heap.objs.size (.ref l) [] .none) _ _ _
 unfold Builtin.Dict.updateFrom
 refine JE (wpAny_typeOf (T := "list") ⟨_,hl1,rfl⟩ ?_)
 rw[if_pos (by decide)]
 refine JE (iW hl1 hA λh1 tk1 kp=>?_)
 rw[if_pos (show (none:Option JH).isNone=true from rfl)]
 have hl2:h1.IsList l items:=⟨_,kp _ _ hl1,rfl,k0,rfl⟩
 have hnew2:h1.DictOf knd s.heap.objs.size (Pz (ps.take 0)):=let ⟨o,es,ep,ho,r⟩:=hnew;⟨o,es,ep,kp _ _ ho,r⟩
 refine JE (PF (JE (wpAny_pyIter_list hl2 (JS ⟨RG Ke _,?_⟩))))
 have hS1:s.heap.objs.size < h1.objs.size:=let ⟨o,es,ep,ho,r⟩:=hnew2;KA ho
 have hneI:l≠h1.objs.size:=KQ (Nat.lt_trans hlS hS1)
 refine jF (knd:=knd) ((Ou (A:=A.in1.in1) _ l hneI items).toS) s.heap.objs.size ?_ ps hn tu key hi (λi hi'=>?_) hkey hb .none (items.size-0) 0 0 _ _ (by omega) (LK _) ⟨⟨_,KG _ rfl,rfl,rfl⟩,hl2.push _,.inl hA⟩ (λi p hp=>?_) (hnew2.push _) ?_
 ·simp only[JT,KL,or_false,not_or]
  refine⟨KQ hS1,OG hlS,λz=>?_⟩
  unfold Mr at z
  rw[show A.in1.in1.handled=none from hA] at z
  cases z
 ·obtain⟨p,hp⟩:∃p,ps[i]? = some p:=⟨_,JK (by rw[hn];exact hi')⟩
  obtain⟨o,g1,_⟩:=htu i p hp
  have hlt:=KA g1
  refine⟨KQ hlt,λz=>?_⟩
  rw[JP.mp z] at hlt
  exact absurd (Nat.lt_trans hlt hS1) (PQ _)
 ·obtain⟨o,g1,g2⟩:=htu i p hp
  exact⟨o,JI _ (kp _ _ (JI _ g1)),g2⟩
 ·rintro⟨h',g',d',tk',os'⟩ hm hd
  obtain rfl:g'=s.gens:=hm.gens
  obtain rfl:d'=s.drawn:=hm.drawn
  obtain rfl:os'=s.os:=hm.os
  refine⟨rfl,h h' tk' hd λb o e=>hm.heap b o ?_ (JI _ (kp _ _ (JI _ e)))⟩
  simp only[JT,KL,or_false,not_or]
  exact⟨KQ (KA e),KQ (Nat.lt_trans (KA e) hS1)⟩
end
section
variable {X:Cx}
theorem EL{α:Type}(d:α){n:Nat}{Pr:Nat->α->Prop}(h:∀i:Nat,i < n->∃a,Pr i a):∃g:Nat->α,∀i,i < n->Pr i (g i):=
 ⟨λi=>if hi:i < n then Classical.choose (h i hi) else d,λi hi=>by
  dsimp only
  rw[dif_pos hi]
  exact Classical.choose_spec (h i hi)⟩
theorem KV.sto{kvs:List (Key×V)}{vs:List (Key×JH)}(r:KV kvs vs)(nd:(kvs.map (·.1)).Nodup):KV kvs (Pz vs):=by
 have key:∀(kvs:List (Key×V))(vs:List (Key×JH)),KV kvs vs->∀(as:List (Key×V))(bs:List (Key×JH)),KV as bs->((as++kvs).map (·.1)).Nodup->KV (as++kvs) (vs.foldl (λa p=>stored a p.1 p.2) bs):=by
  intro kvs vs r
  induction r with
  | nil=>intro as bs ab _;rw[MD];exact ab
  | @cons p q ps qs h t ih=>
   intro as bs ab nd
   obtain⟨h1,h2⟩:=h
   rw[List.foldl_cons]
   have e:putK as p.1 p.2=as++[p]:=Pt _ (by
    cases z:valV as p.1 with
    | none=>rfl
    | some v=>
     obtain⟨a,ha,e⟩:∃a∈as,a.1=p.1:=by
      unfold valV at z
      cases f:as.find? (λkv=>decide (kv.1=p.1)) with
      | none=>rw[f] at z;cases z
      | some a=>exact⟨a,List.mem_of_find?_eq_some f,by simpa using List.find?_some f⟩
     rw[JX,OE] at nd
     exact absurd e (nd.2.2 _ (LR.mpr ⟨a,ha,rfl⟩) _ (LR.mpr ⟨p,JW,rfl⟩)))
   have n:=ab.put p.1 h2
   rw[e,h1] at n
   have:=ih (as++[p]) _ n (by rw[OF];exact nd)
   rw[OF] at this
   exact this
 exact key kvs vs r [] [] .nil nd
theorem Nu(hc:X.sx=true):Fk X (.type "dict") (λys H Q=>∃(a:JO)(ts:List JO)(kvs:List (Key×V)),ys=[.ref a]/\H a=some (.lst (ts.map V.ref))/\ts.length=kvs.length/\(∀(i:Nat)(t:JO)(kv:Key×V),ts[i]? = some t->kvs[i]? = some kv->H t=some (.tup [kV kv.1,kv.2]))/\(kvs.map (·.1)).Nodup/\∀p,H p=none->Q (.ref p) (upd H p (.dK kvs))):=by
 intro pins s σ H ys us Q I r h
 obtain⟨a,ts,kvs,rfl,ha,hl,htk,nd,q⟩:=h
 obtain⟨u,rfl,ru⟩:=vals1 r
 cases ru
 obtain⟨z,its,n,rv,e⟩:=(Rd.of ha).ok I.hok
 have hlen:=rv.length
 rw[JJ] at hlen z
 -- the pairs' values
 have hp:∀i:Nat,i < kvs.length->∃kx:JH×JH,IsTup s.heap (ts.getD i 0) #[kx.1,kx.2]/\RelV (kV (kvs.getD i (NI 0,.non)).1) kx.1/\RelV (kvs.getD i (NI 0,.non)).2 kx.2:=by
  intro i hi
  have h1:ts[i]? = some ts[i]:=JK (by omega)
  have h2:kvs[i]? = some kvs[i]:=JK hi
  obtain⟨its',rv',ht,_⟩:=I.tuple (Ck.of (htk i _ _ h1 h2))
  obtain⟨x,y,rfl,r1,r2⟩:=vals2 rv'
  have e1:ts.getD i 0=ts[i]:=by rw[LJ,h1];rfl
  have e2:kvs.getD i (NI 0,.non)=kvs[i]:=by rw[LJ,h2];rfl
  rw[e1,e2]
  exact⟨(x,y),ht,r1,r2⟩
 obtain⟨kx,hkx⟩:=EL (.none,.none) hp
 obtain⟨ps,eps⟩:∃ps:List (Key×JH),ps=(SI kvs.length).map λi=>((kvs.getD i (NI 0,.non)).1,(kx i).2):=⟨_,rfl⟩
 have hps:ps.length=kvs.length:=by rw[eps,JJ,List.length_range]
 have hpi:∀(i:Nat)(p:Key×JH),ps[i]? = some p->i < kvs.length/\p=((kvs.getD i (NI 0,.non)).1,(kx i).2):=λi p h=>by
  have hi:i < kvs.length:=by rw[<- hps];exact(JF.mp h).1
  have:ps[i]? = some ((kvs.getD i (NI 0,.non)).1,(kx i).2):=by rw[eps,KP,List.getElem?_range hi];rfl
  rw[this] at h
  exact⟨hi,(LC h).symm⟩
 have hKV:KV kvs ps:=by
  have g:∀(m:Nat),m<=kvs.length->KV (kvs.take m) (((SI m).map λi=>((kvs.getD i (NI 0,.non)).1,(kx i).2))):=by
   intro m
   induction m with
   | zero=>intro _;exact .nil
   | succ m ih=>
    intro hm
    have h2:kvs[m]? = some kvs[m]:=JK (by omega)
    rw[MI,h2,List.range_succ,JX]
    refine Paired.snoc (ih (by omega)) ?_
    have e2:kvs.getD m (NI 0,.non)=kvs[m]:=by rw[LJ,h2];rfl
    have:=(hkx m (by omega)).2.2
    rw[e2] at this
    refine⟨?_,this⟩
    show kvs[m].1=(kvs.getD m (NI 0,.non)).1
    rw[e2]
  have:=g kvs.length (JM _)
  rw[List.take_length,<- eps] at this
  exact this
 refine Rp (knd:=Bo X.prog X.w) (ps:=ps) (tu:=λi=>ts.getD i 0) (key:=λi=>(kx i).1) (I.ok.st hc) e (by rw[hps,KU];omega) (λi v hv=>?_) (λi p hp'=>?_) (λi p hp'=>?_) (by rw[KU];omega) λh' tk hd k=>?_
 ·have hv':its[i]? = some v:=by simpa using hv
  have hil:i < ts.length:=by rw[hlen];exact(JF.mp hv').1
  obtain⟨v2,e2,r2⟩:=rv.get (i:=i) (x:=.ref ts[i]) (by rw[KP,JK hil]<;>rfl)
  rw[hv'] at e2
  cases e2
  cases r2
  rw[LJ,JK hil]
  rfl
 ·obtain⟨hi,rfl⟩:=hpi i p hp'
  exact Kx (hkx i hi).2.1
 ·obtain⟨hi,rfl⟩:=hpi i p hp'
  exact(hkx i hi).1
 ·have hsz:kvs.length<=JQ:=by omega
  exact⟨.ref s.heap.objs.size,_,I.laid (t':=tk) (o:=.dK kvs) k (JM _) ⟨hsz,beq_false_of_ne (OG I.big),_,hKV.sto nd,hd⟩,rfl,q _ (I.hok.fresh (JM _))⟩
end
end L2
namespace Bk
open PySem L2 Mg Nm Rk
structure bD(H:Hp)(da:JO)(ws:List (Str×JO))(lad:Str->List Nat):Prop where
 dic:Rd H da (.dK (Mc ws))
 nd:(ws.map (·.1)).Nodup
 lst:∀q∈ws,H q.2=some (.lst (Jd (lad q.1)))
 no:∀w,w∉ws.map (·.1)->lad w=[]
theorem bD.same{H H':Hp}{da:JO}{ws:List (Str×JO)}{lad:Str->List Nat}(A:bD H da ws lad)(s:Am H H'):bD H' da ws lad:=⟨A.dic.imp (s _ _) λ⟨o,z⟩=>⟨o,s _ _ z⟩,A.nd,λq hq=>s _ _ (A.lst q hq),A.no⟩
theorem Mx{W:List (Str×JO)}{q:Str×JO}(nd:(W.map (·.1)).Nodup)(h:q∈W):valV (Mc W) (KJ q.1:Key)=some (.ref q.2):=by
 rw[Vn]
 induction W with
 | nil=>cases h
 | cons e L ih=>
  rw[LY,LW] at nd
  rcases JT.mp h with rfl | h
  ·rw[QL (by simp)]
   rfl
  ·rw[QM (by
    have:e.1≠q.1:=λz=>nd.1 (by rw[z];exact LR.mpr ⟨q,h,rfl⟩)
    rw[decide_eq_false this]
    exact JR)]
   exact ih nd.2 h
theorem gM{W:List (Str×JO)}{w:Str}(h:w∉W.map (·.1)):valV (Mc W) (KJ w:Key)=none:=by
 rw[Vn,List.find?_eq_none.mpr]
 ·rfl
 ·intro q hq
  have:¬ q.1=w:=λz=>h (by rw[<- z];exact LR.mpr ⟨q,hq,rfl⟩)
  simp[this]
theorem Yb{W:List (Str×JO)}{w:Str}{v:V}(h:valV (Mc W) (KJ w:Key)=some v):∃q∈W,q.1=w/\v=.ref q.2:=by
 rw[Vn] at h
 cases e:W.find? λp=>decide (p.1=w) with
 | none=>rw[e] at h;cases h
 | some q=>
  rw[e] at h
  cases h
  exact⟨q,List.mem_of_find?_eq_some e,by simpa using List.find?_some e,rfl⟩
theorem eA{W:List (Str×JO)}{w:Str}{a:JO}(h:w∉W.map (·.1)):putK (Mc W) (KJ w:Key) (.ref a)=Mc (W++[(w,a)]):=by
 rw[Pt _ (gM h)]
 unfold Mc
 rw[JX]
 rfl
def gA:Sp:=λvs H Q _=>∃(da:JO)(ws:List (Str×JO))(lad:Str->List Nat)(w:Str)(r:Nat),vs=[.ref da,.str w,.int (r:Int)]/\bD H da ws lad/\∀v H',Am H H'->Ak.LdAt H' v (Fl lad w r)->Q v H'
def DU(lad:Str->List Nat)(l:Ah.Ld):Stp->Ah.Stp
 | .sm _=>.oth
 | .onw=>.ld l
 | .ask y=>.ld (Fl lad y 0)
 | .tri y z=>.ei (Fl lad y 0) (Fl lad z 0)
theorem yT(lad:Str->List Nat)(w:Str)(r:Nat):∀s:Stp,BU lad w r s=DU lad (Fl lad w r) s
 | .sm _=>rfl
 | .onw=>rfl
 | .ask _=>rfl
 | .tri _ _=>rfl
def cZ:Sp:=λvs H Q _=>∃(t da:JO)(ov:V)(ws:List (Str×JO))(lad:Str->List Nat)(l:Ah.Ld)(s:Stp),vs=[.ref t,ov,.ref da]/\H t=some (.tup (.str s.pr.1::s.pr.2))/\nV s/\bD H da ws lad/\Ak.LdAt H ov l/\∀v H',Am H H'->Ak.StAt H' v (DU lad l s)->Q v H'
def Ua:Sp:=λvs H Q _=>∃(ba da:JO)(ov:V)(ts:List JO)(ss:List Stp)(ws:List (Str×JO))(lad:Str->List Nat)(l:Ah.Ld),vs=[.ref ba,ov,.ref da]/\H ba=some (.lst (ts.map V.ref))/\Dp H ts (ss.map Stp.pr)/\(∀s∈ss,nV s)/\ss.length<=30/\bD H da ws lad/\Ak.LdAt H ov l /\
 ∀(r:JO)(us:List V)(H':Hp),H r=none->Am H H'->H' r=some (.lst us)->Ak.StsAt H' us (ss.map (DU lad l))->Q (.ref r) H'
section
variable {P:KI} {w:LQ} {K:JG} {mg:Str->Option JH} {base:MV} {f fW fO:JO} {fd dW dO:LG}
theorem xI:An ["ladders","word","rung","ladder"] ["ladders","word","rung"] (Ad yL):=Ez (by decide +kernel)
theorem AQ(F:Di K "way" "way" yL f fd)(T:Txt mg):Al P w K mg base Bi 1 f fd ["ladders","word","rung"] gA:=by
 refine F.ok xI (λvs H Q E h=>?_) (λcdv A outer s H vs Q E hr h=>?_)
 ·obtain⟨da,ws,lad,w,r,rfl,_⟩:=h
  rfl
 obtain⟨da,ws,lad,w,r,rfl,L,q⟩:=h
 have hu:=Fo hr
 refine⟨_,Ac (Bv 3 xI.nd (Jh hu (pv 0) (pv 1) (De Fw) ⟨rfl,rfl,rfl,rfl⟩))
  (Ac (Ay (Ar Oz (pv 2) (Bw T.len (pv 3)) (Au _)) (Af (Ao (Ca (Em Ba (As Bj (pv 3) (pv 2) (λ_ _=>rfl)))))) Ap)
  (Af (Ao (Ca (Du Ba))))),?_⟩
 refine⟨_,rfl,da,rfl,.inl ⟨_,L.dic⟩,_,rfl,(by show 0<=JQ;decide),λl0 hl0=>?_⟩
 obtain⟨H1,zz,s1,e1⟩:=lay hl0 (.lst [])
 rw[zz]
 have L1:=L.same s1
 refine⟨_,.inl ⟨_,KJ w,L1.dic,rfl,rfl⟩,?_⟩
 obtain⟨a,ea,ha⟩:∃a,((valV (Mc ws) (KJ w:Key)).getD (V.ref l0))=.ref a/\H1 a=some (.lst (Jd (lad w))):=by
  by_cases hw:w∈ws.map (·.1)
  ·obtain⟨q0,hq,rfl⟩:=LR.mp hw
   rw[Mx L.nd hq]
   exact⟨q0.2,rfl,L1.lst q0 hq⟩
  ·rw[gM hw,L.no w hw]
   exact⟨l0,rfl,e1⟩
 rw[ea]
 have z2:2<=JQ:=by rw[KS];decide
 refine⟨_,rfl,_,rfl,a,_,rfl,.inl (Aw.of ha),_,_,rfl,rfl,_,rfl,Br (λc=>?_) (λc=>?_)⟩
 ·have c':(r:Int) < ((Jd (lad w)).length:Int):=of_decide_eq_true c
  rw[Hd] at c'
  have hr':r < (lad w).length:=by omega
  have hp:=JK hr'
  have hway:Fl lad w r=.go (lad w)[r]:=by unfold Fl;rw[hp]
  rw[hway] at q
  refine⟨_,rfl,_,rfl,a,_,_,_,rfl,rfl,Aw.of ha,Bc (rD hp),by show 2<=JQ;exact z2,λt ht=>?_⟩
  exact q _ _ (s1.trans (Ag ht _)) ⟨t,rfl,Aa⟩
 ·have c':¬ (r:Int) < ((Jd (lad w)).length:Int):=of_decide_eq_false (NK.mpr c)
  rw[Hd] at c'
  have hway:Fl lad w r=.none:=by unfold Fl;rw[List.getElem?_eq_none (by omega)]
  rw[hway] at q
  refine⟨by show 1<=JQ;exact KZ (by decide) z2,λt ht=>?_⟩
  exact q _ _ (s1.trans (Ag ht _)) ⟨t,rfl,Aa⟩
theorem yR:An ["step","onwards","ladders"] ["step","onwards","ladders"] (Ad lZ):=Ez (by decide +kernel)
theorem tZ(F:Di K "without_elders" "without_elders" lZ f fd)(GW:Al P w K mg base Bi 1 fW dW ["ladders","word","rung"] gA)(kW:JV K (.ref fW)=true)(bW:Binds K dW ["ladders","word","rung"] [])(mW:mg "way" = some (.ref fW)):Al P w K mg base Bi 2 f fd ["step","onwards","ladders"] cZ:=by
 refine F.ok yR (λvs H Q E h=>?_) (λcdv A outer s H vs Q E hr h=>?_)
 ·obtain⟨t,da,ov,ws,lad,l,s,rfl,_⟩:=h
  rfl
 obtain⟨t,da,ov,ws,lad,l,s,rfl,ht,ok,L,ho,q⟩:=h
 refine⟨_,Ac (Ay (Ar Cc (As Ax (pv 0) Ae (λ_ _=>rfl)) Ba (Au _)) (Af (Ao (pv 1))) Ap)
  (Ac (Ay (Ar Cc (As Ax (pv 0) Ae (λ_ _=>rfl)) Ba (Au _)) (Af (Ao (Cf GW hr mW kW bW (Iz (pv 2) (As Ax (pv 0) Ae (λ_ _=>rfl)) Ae)))) Ap)
  (Ac (Ay (Ar Cc (As Ax (pv 0) Ae (λ_ _=>rfl)) Ba (Au _)) (Af (Ao (Ca (Iz Ba (Cf GW hr mW kW bW (Iz (pv 2) (As Ax (pv 0) Ae (λ_ _=>rfl)) Ae)) (Cf GW hr mW kW bW (Iz (pv 2) (As Ax (pv 0) Ae (λ_ _=>rfl)) Ae)))))) Ap)
  (Af (Ao (pv 0))))),?_⟩
 have at0:Jb (V.str s.pr.1::s.pr.2) 0=some (.str s.pr.1):=Bc (j:=0) rfl
 refine⟨_,rfl,t,_,_,_,rfl,rfl,Ck.of ht,at0,rfl,_,rfl,Br (λc=>?_) (λc1=>?_)⟩
 ·have hs:s=.onw:=by
   cases s with
   | sm s=>exact absurd (Bq c) (Lj ok (by decide +kernel))
   | onw=>rfl
   | ask w=>exact absurd (Bq c) (show ¬ ("ask" : Str) = "onwards" by decide +kernel)
   | tri w o=>exact absurd (Bq c) (show ¬ ("try" : Str) = "onwards" by decide +kernel)
  subst hs
  exact⟨_,rfl,q _ _ (Am.refl _) ho⟩
 refine⟨_,rfl,t,_,_,_,rfl,rfl,Ck.of ht,at0,rfl,_,rfl,Br (λc=>?_) (λc2=>?_)⟩
 ·obtain⟨y,rfl⟩:∃y,s=.ask y:=by
   cases s with
   | sm s=>exact absurd (Bq c) (Lj ok (by decide +kernel))
   | onw=>exact absurd (Bq c) (by decide +kernel)
   | ask w=>exact⟨w,rfl⟩
   | tri w o=>exact absurd (Bq c) (show ¬ ("try" : Str) = "ask" by decide +kernel)
  have at1:Jb [V.str "ask", V.str y] 1=some (.str y):=Bc (j:=1) rfl
  refine⟨_,rfl,_,rfl,t,_,_,_,rfl,rfl,Ck.of ht,at1,?_⟩
  exact⟨da,ws,lad,y,0,rfl,L,λv H' s1 h1=>q v H' s1 h1⟩
 refine⟨_,rfl,t,_,_,_,rfl,rfl,Ck.of ht,at0,rfl,_,rfl,Br (λc=>?_) (λc3=>?_)⟩
 ·obtain⟨y,z,rfl⟩:∃y z,s=.tri y z:=by
   cases s with
   | sm s=>exact absurd (Bq c) (Lj ok (by decide +kernel))
   | onw=>exact absurd (Bq c) (by decide +kernel)
   | ask w=>exact absurd (Bq c) (show ¬ ("ask" : Str) = "try" by decide +kernel)
   | tri w o=>exact⟨w,o,rfl⟩
  have at1:Jb [V.str "try", V.str y,V.str z] 1=some (.str y):=Bc (j:=1) rfl
  have at2:Jb [V.str "try", V.str y,V.str z] 2=some (.str z):=Bc (j:=2) rfl
  refine⟨_,rfl,_,rfl,t,_,_,_,rfl,rfl,Ck.of ht,at1,da,ws,lad,y,0,rfl,L,λv1 H1 s1 h1=>?_⟩
  refine⟨_,rfl,_,rfl,t,_,_,_,rfl,rfl,Ck.of (s1 _ _ ht),at2,da,ws,lad,z,0,rfl,L.same s1,λv2 H2 s2 h2=>?_⟩
  refine⟨by show 3<=JQ;decide,λr hr'=>?_⟩
  have s3:=Ag hr' (.tup [.str "either", v1,v2])
  exact q _ _ ((s1.trans s2).trans s3) ⟨r,v1,v2,rfl,Aa,h1.keep (s2.trans s3).keepT,h2.keep s3.keepT⟩
 obtain⟨s',rfl⟩:∃s',s=.sm s':=by
  cases s with
  | sm s=>exact⟨s,rfl⟩
  | onw=>exact absurd rfl (Cz c1)
  | ask w=>exact absurd rfl (Cz c2)
  | tri w o=>exact absurd rfl (Cz c3)
 refine⟨_,rfl,q _ _ (Am.refl _) ⟨t,_,_,rfl,ht,Lj ok (by decide +kernel),Lj ok (by decide +kernel),Lj ok (by decide +kernel),?_,trivial,trivial⟩⟩
 cases s' with
 | say=>exact .inl rfl
 | op kd a=>exact .inr ⟨a,rfl⟩
theorem DW:(["step","ladders","onwards"]:List Str).Nodup:=by decide +kernel
theorem uU:An ["body","onwards","ladders"] ["body","onwards","ladders"] (Ad Vw):=Ez (by decide +kernel)
theorem qR(F:Di K "row_of" "row_of" Vw f fd)(GO:Al P w K mg base Bi 2 fO dO ["step","onwards","ladders"] cZ)(kO:JV K (.ref fO)=true)(bO:Binds K dO ["step","onwards","ladders"] [])(mO:mg "without_elders" = some (.ref fO)):Al P w K mg base Bi 3 f fd ["body","onwards","ladders"] Ua:=by
 refine F.ok uU (λvs H Q E h=>?_) (λcdv A outer s H vs Q E hr h=>?_)
 ·obtain⟨ba,da,ov,ts,ss,ws,lad,l,rfl,_⟩:=h
  rfl
 obtain⟨ba,da,ov,ts,ss,ws,lad,l,rfl,hb,hst,hok,hsl,L,ho,q⟩:=h
 refine⟨_,Af (Ao (He (Ad Vw) ["body","onwards","ladders"] ["step"] [("ladders", 2),("onwards", 1)] rfl (Dk (pv 0)) (Bm (i:=0) (by decide))
  (λ_ _ _ _ _ _=>⟨Dg 0 DW,Dr,Cf GO hr mO kO bO (Iz (pv 0) (pv 2) (pv 1))⟩))),?_⟩
 refine⟨_,rfl,ba,rfl,⟨_,Aw.of hb⟩,Ec (K:=K) (a:=ba) (xs:=ts.map V.ref) (λi ys H2=>Am H H2/\Ak.StsAt H2 ys ((ss.take i).map (DU lad l))/\ys.length=i) ⟨Am.refl _,.nil,rfl⟩ (λi ys H2 _ h=>Aw.of (h.1 _ _ hb)) ?_ ?_⟩
 ·rintro i v ys H2 hi ⟨s2,hp,hl⟩
  obtain⟨t,ht,rfl⟩:=Ea hi
  have hil:i < ss.length:=by
   have h1:=hst.1
   rw[JJ] at h1
   rw[<- h1]
   exact(JF.mp ht).1
  have hsi:=JK hil
  have hH:=hst.2 i t (Stp.pr ss[i]) ht (by rw[KP,hsi];rfl)
  refine⟨_,rfl,_,rfl,_,rfl,t,da,ov,ws,lad,l,ss[i],rfl,s2 _ _ hH,hok _ (OO hil),L.same s2,ho.keep s2.keepT,λv' H3 s3 h3=>?_⟩
  refine⟨by rw[hl,KS];omega,s2.trans s3,?_,by rw[JN,hl];rfl⟩
  rw[MI,hsi,JX]
  exact Paired.snoc (Paired.mapP hp λ_ _ z=>z.keep s3.keepT) h3
 ·rintro ys H2 ⟨s2,hp,hl⟩ r hr'
  have h1:=hst.1
  rw[JJ] at h1
  rw[JJ,h1,List.take_length] at hp
  have s3:=Ag hr' (.lst ys)
  exact q r ys _ (s2.free hr') (s2.trans s3) Aa (Paired.mapP hp λ_ _ z=>z.keep s3.keepT)
end
theorem zU{xs:List Str}(h:xs.Nodup):(xs.map λw:Str=>(KJ w:Key)).Nodup:=by
 induction xs with
 | nil=>exact OV
 | cons x xs ih=>
  rw[LW] at h
  rw[LY,LW]
  refine⟨λz=>?_,ih h.2⟩
  obtain⟨y,hy,e⟩:=LR.mp z
  exact h.1 (KJ.inj e ▸ hy)
def DH(H:Hp)(l:JO)(ss:List Stp):Prop:=∃ts:List JO,H l=some (.lst (ts.map V.ref))/\Dp H ts (ss.map Stp.pr)/\(∀s∈ss,nV s)/\ss.length<=30
theorem DH.same{H H':Hp}{l:JO}{ss:List Stp}(h:DH H l ss)(s:Am H H'):DH H' l ss:=let ⟨ts,a,b,c,d⟩:=h;⟨ts,s _ _ a,⟨b.1,λi t p h1 h2=>s _ _ (b.2 i t p h1 h2)⟩,c,d⟩
theorem Qx{H H':Hp}{ts:List JO}{ps:List (Str×List V)}(h:Dp H ts ps)(s:Am H H'):Dp H' ts ps:=⟨h.1,λi t p h1 h2=>s _ _ (h.2 i t p h1 h2)⟩
structure Qi(M H:Hp)(da ea:JO)(ws:List (Str×JO))(lad:Str->List Nat)(ts:List JO)(es:List (Str×Nat×List Stp)):Prop where
 same:Am M H
 md:M da=none
 me:M ea=none
 ml:∀q∈ws,M q.2=none
 dk:H da=some (.dK (Mc ws))
 nd:(ws.map (·.1)).Nodup
 lst:∀q∈ws,H q.2=some (.lst (Jd (lad q.1)))
 no:∀w,w∉ws.map (·.1)->lad w=[]
 na:∀q∈ws,∀r∈ws,q.2=r.2->q.1=r.1
 ne:∀q∈ws,q.2≠ea
 ent:H ea=some (.lst (ts.map V.ref))
 len:ts.length=es.length
 row:∀(i:Nat)(t:JO)(e:Str×Nat×List Stp),ts[i]? = some t->es[i]? = some e->∃l,M t=some (.tup [.str e.1,.int ((e.2.1:Nat):Int),.ref l])/\DH M l e.2.2
section
variable {M H:Hp} {da ea:JO} {ws:List (Str×JO)} {lad:Str->List Nat} {ts:List JO} {es:List (Str×Nat×List Stp)}
theorem Qi.init(H:Hp)(da ea:JO)(h1:H da=none)(h2:upd H da (.dK []) ea=none):Qi H (upd (upd H da (.dK [])) ea (.lst [])) da ea [] (λ_=>[]) [] []:=by
 have s1:=Ag h1 (.dK [])
 have s2:=Ag h2 (.lst [])
 exact⟨s1.trans s2,h1,s1.free h2,(λq hq=>nomatch hq),s2 _ _ Aa,OV,(λq hq=>nomatch hq),λ_ _=>rfl,(λq hq=>nomatch hq),(λq hq=>nomatch hq),Aa,rfl,λi t e h=>by simp at h⟩
theorem Qi.lay(I:Qi M H da ea ws lad ts es){l:JO}(h:H l=none)(o:HO):Qi (upd M l o) (upd H l o) da ea ws lad ts es:=by
 have hM:M l=none:=I.same.free h
 have s:=Ag h o
 have sM:=Ag hM o
 refine⟨λb u e=>?_,?_,?_,λq hq=>?_,s _ _ I.dk,I.nd,λq hq=>s _ _ (I.lst q hq),I.no,I.na,I.ne,s _ _ I.ent,I.len,λi t e h1 h2=>?_⟩
 ·by_cases hb:b=l
  ·subst hb
   rw[Aa] at e ⊢
   exact e
  ·rw[Aj hb] at e ⊢
   exact I.same b u e
 ·rw[Aj (Ai I.dk h)];exact I.md
 ·rw[Aj (Ai I.ent h)];exact I.me
 ·rw[Aj (Ai (I.lst q hq) h)];exact I.ml q hq
 ·obtain⟨x,a,b⟩:=I.row i t e h1 h2
  exact⟨x,sM _ _ a,b.same sM⟩
theorem Qi.add(I:Qi M H da ea ws lad ts es){v:Str}{l:JO}(h:H l=none)(hv:v∉ws.map (·.1)):Qi M (upd (upd H l (.lst [])) da (.dK (Mc (ws++[(v,l)])))) da ea (ws++[(v,l)]) lad ts es:=by
 have s:=Ag h (.lst [])
 have nd:l≠da:=LL (Ai I.dk h)
 have k:∀b o,upd H l (.lst []) b=some o->(∀z,o ≠ .dK z)->(upd (upd H l (.lst [])) da (.dK (Mc (ws++[(v,l)])))) b=some o:=λb o e n=>by
  rw[Aj (Cd e (s _ _ I.dk) (n _))]
  exact e
 refine⟨λb u e=>?_,I.md,I.me,λq hq=>?_,Aa,?_,λq hq=>?_,λw hw=>I.no w λz=>hw (by rw[JX];exact ML _ z),λq hq r hr e=>?_,λq hq=>?_,k _ _ (s _ _ I.ent) (by intro z y;cases y),I.len,I.row⟩
 ·rw[Aj (Ai e I.md)]
  exact s _ _ (I.same b u e)
 ·rcases KO.mp hq with h1 | h1
  ·exact I.ml q h1
  ·rw[JP.mp h1]
   exact I.same.free h
 ·rw[JX,OE]
  exact⟨I.nd,by simp,λa ha b hb=>by rw[show b=v by simpa using hb];exact λz=>hv (z ▸ ha)⟩
 ·rcases KO.mp hq with h1 | h1
  ·exact k _ _ (s _ _ (I.lst q h1)) (by intro z y;cases y)
  ·rw[JP.mp h1]
   show _=some (HO.lst (Jd (lad v)))
   rw[I.no v hv]
   exact k _ _ Aa (by intro z y;cases y)
 ·rcases KO.mp hq with h1 | h1<;>rcases KO.mp hr with h2 | h2
  ·exact I.na q h1 r h2 e
  ·rw[JP.mp h2] at e
   exact absurd e (Ai (I.lst q h1) h)
  ·rw[JP.mp h1] at e
   exact absurd e.symm (Ai (I.lst r h2) h)
  ·rw[JP.mp h1,JP.mp h2]
 ·rcases KO.mp hq with h1 | h1
  ·exact I.ne q h1
  ·rw[JP.mp h1]
   exact LL (Ai I.ent h)
theorem tD{q r:Str×JO}(nd:(ws.map (·.1)).Nodup)(hq:q∈ws)(hr:r∈ws)(e:q.1=r.1):q.2=r.2:=by
 have h1:=Mx nd hq
 have h2:=Mx nd hr
 rw[e,h2] at h1
 injection h1 with h1
 injection h1 with h1
 exact h1.symm
theorem Qi.push(I:Qi M H da ea ws lad ts es){v:Str}{a:JO}(hq:(v,a)∈ws)(n:Nat):Qi M (upd H a (.lst (Jd (lad v)++[.int (n:Int)]))) da ea ws (Kn lad v n) ts es:=by
 have ha:=I.lst _ hq
 have k:∀b o,H b=some o->b≠a->(upd H a (.lst (Jd (lad v)++[.int (n:Int)]))) b=some o:=λb o e n=>by rw[Aj n];exact e
 refine⟨λb u e=>?_,I.md,I.me,I.ml,k _ _ I.dk (Cd I.dk ha (by intro z;cases z)),I.nd,λr hr=>?_,λw hw=>?_,I.na,I.ne,k _ _ I.ent (LL (I.ne _ hq)),I.len,I.row⟩
 ·exact k _ _ (I.same b u e) (Ai e (I.ml _ hq))
 ·by_cases hv:r.1=v
  ·have e2:r.2=a:=tD I.nd hr hq hv
   rw[e2,Aa]
   unfold Kn
   rw[if_pos hv,hv]
   unfold Jd
   rw[JX]
   rfl
  ·have e2:r.2≠a:=λz=>hv (I.na r hr _ hq z)
   rw[k _ _ (I.lst r hr) e2]
   unfold Kn
   rw[if_neg hv]
 ·unfold Kn
  rw[if_neg (λz=>hw (by rw[z];exact LR.mpr ⟨_,hq,rfl⟩))]
  exact I.no w hw
theorem Qi.put(I:Qi M H da ea ws lad ts es){v:Str}{n:Nat}{b:List Stp}{t l:JO}(ht:M t=some (.tup [.str v,.int ((n:Nat):Int),.ref l]))(hb:DH M l b):Qi M (upd H ea (.lst (ts.map V.ref++[.ref t]))) da ea ws lad (ts++[t]) (es++[(v,n,b)]):=by
 have k:∀b o,H b=some o->b≠ea->(upd H ea (.lst (ts.map V.ref++[.ref t]))) b=some o:=λb o e n=>by rw[Aj n];exact e
 refine⟨λb u e=>k _ _ (I.same b u e) (Ai e I.me),I.md,I.me,I.ml,k _ _ I.dk (Cd I.dk I.ent (by intro z;cases z)),I.nd,λr hr=>k _ _ (I.lst r hr) (I.ne r hr),I.no,I.na,I.ne,by rw[Aa,JX];rfl,by rw[JN,JN,I.len];rfl,λi t' e h1 h2=>?_⟩
 by_cases hi:i < ts.length
 ·rw[KN hi] at h1
  rw[KN (by rw[<- I.len];exact hi)] at h2
  exact I.row i t' e h1 h2
 ·have hi':i=ts.length:=by
   have:=(JF.mp h1).1
   rw[JN,JY] at this
   omega
  subst hi'
  rw[KH] at h1
  rw[I.len,KH] at h2
  cases h1
  cases h2
  exact⟨l,ht,hb⟩
end
def Ma(ws:List Str)(lad:Str->List Nat):List (Key×V):=ws.map λw=>((KJ w:Key),V.int (((lad w).getD 0 0:Nat):Int))
def Uk(CB CH:JO):Sp:=λvs H Q _=>∃(p d:JO)(L:List Ent)(x:Str)(e:Ent)(B:Ci),vs=[.ref p,.str x]/\Hl L x=some e/\QB CB CH H p d L e.od B/\(∀y∈e.od,∀e',Hl L y=some e'->∃W:List (Str×JO),e'.bd=Mc W/\(W.map (·.1)).Nodup/\W.length<=500)/\e.od.length<=40 /\
 ∀(pr dd ra:JO)(H':Hp)(ws:List Str)(lad:Str->List Nat)(es:List (Str×Nat×List Stp))(as:List JO)(vss:List (List V)),Am H H'->H dd=none->H' pr=some (.tup [.ref dd,.ref ra])->H' dd=some (.dK (Ma ws lad))->ws.Nodup->(∀w∈ws,lad w≠[])->Ak.RwsAt H' ra as vss (Hg lad es)->Kh B e.od e.od.length [] lad es->es.length<=20000->Q (.ref pr) H'
section
variable {P:KI} {w:LQ} {K:JG} {mg:Str->Option JH} {base:MV} {f fO fW fY fA fR CB CH:JO} {fd dO dW dY dA dR:LG}
abbrev HC:List Str:=["book","name","ladders","entries","house","word","ladder","starts","rows"]
theorem Jl:An HC ["book","name"] (Ad Ph):=Ez (by decide +kernel)
theorem EE:(["word","ladder"]:List Str).Nodup:=by decide +kernel
theorem BD:(["word","rung","body","ladders"]:List Str).Nodup:=by decide +kernel
theorem uR(F:Di K "left_out" "left_out" Ph f fd)(T:Ha K mg CB CH)(Tx:Txt mg)(md:mg "dict" = none)(GO:Al P w K mg base Bi 2 fO dO ["self","name"] (Ia CB CH))(bO:Binds K dO ["self","name"] [])(mO:Dt K CB "order" fO)(GW:Al P w K mg base Je 2 fW dW ["self","name"] (rB CB CH))(bW:Binds K dW ["self","name"] [])(mW:Dt K CB "own_words" fW)(GY:Al P w K mg base Bi 2 fY dY ["self","name","word"] (Pu CB CH))(bY:Binds K dY ["self","name","word"] [])(mY:Dt K CB "body" fY)(GA:Al P w K mg base Bi 1 fA dA ["ladders","word","rung"] gA)(kA:JV K (.ref fA)=true)(bA:Binds K dA ["ladders","word","rung"] [])(mA:mg "way" = some (.ref fA))(GR:Al P w K mg base Bi 3 fR dR ["body","onwards","ladders"] Ua)(kR:JV K (.ref fR)=true)(bR:Binds K dR ["body","onwards","ladders"] [])(mR:mg "row_of" = some (.ref fR)):Al P w K mg base Je 4 f fd ["book","name"] (Uk CB CH):=by
 refine F.ok1 Jl (λvs H Q E h=>?_) (λcdv A outer s H vs Q E hr h=>?_)
 ·obtain⟨p,d,L,x,e,B,rfl,_⟩:=h
  rfl
 obtain⟨p,d,L,x,e,B,rfl,he,U,hW,hod,q⟩:=h
 have hr1:=hr.mono (j:=1) (by decide)
 have hr2:=hr.mono (j:=2) (by decide)
 have hu:=Fo hr
 -- starts,rows,the pair
 refine Ge (tail:=(Bg Ph).drop 3) (λtt=>∀(M H1:Hp)(da ea:JO)(ws:List (Str×JO))(lad:Str->List Nat)(ts:List JO)(es:List (Str×Nat×List Stp))(v4 v5 v6:Option V),Qi M H1 da ea ws lad ts es->Am H M->(∀q∈ws,lad q.1≠[])->Kh B e.od e.od.length [] lad es->es.length<=20000->ws.length<=es.length->tt { nx:=λ_ H'=>Q .non H',rt:=Q } [some (.ref p),some (.str x),some (.ref da),some (.ref ea),v4,v5,v6,none,none] H1) ?_ ?_
 ·refine⟨_,Ac (Dd (i:=7) (Ad Ph) HC ["word","ladder"] [] rfl Jl.nd rfl rfl (lT (pv 2)) (Kc (K:=K) (Cs (Bm (i:=0) (by decide)) (Cs (Bm (i:=1) (by decide)) Hn)))
   (λ_ _ _ _ _ _=>⟨Jm (n:=2) rfl (Ce (Dg 0 EE) (Ce (Dg 1 EE) Hb)),Dr,Ca (Em (pv 0) (As (Ye (K:=K)) (pv 1) Ae (λ_ _=>rfl)))⟩))
   (Ac (Dd (i:=8) (Ad Ph) HC ["word","rung","body"] [("ladders", 2)] rfl Jl.nd rfl rfl (Dk (pv 3)) (Kc (K:=K) (Cs (Bm (i:=0) (by decide)) (Cs (Bm (i:=1) (by decide)) (Cs (Bm (i:=2) (by decide)) Hn))))
    (λ_ _ _ _ _ _=>⟨Jm (n:=3) rfl (Ce (Dg 0 BD) (Ce (Dg 1 BD) (Ce (Dg 2 BD) Hb))),Dr,
     Cf GR hr mR kR bR (Iz (pv 2) (Cf GA hr1 mA kA bA (Iz (pv 3) (pv 0) (pv 1))) (pv 3))⟩))
   (Af (Ao (Ca (Em (Dl (Nu rfl) rfl md PyProof.Rows.boot_dict (Du (pv 7))) (pv 8)))))),?_⟩
  intro M H1 da ea ws lad ts es v4 v5 v6 I sM pos LS hes hwl
  refine⟨_,rfl,da,_,rfl,I.dk,λo nf=>?_⟩
  have ez:(upd H1 da (.frz o (.dK (Mc ws)))) da=some (.frz o (.dK (Mc ws))):=Aa
  have kz:∀b u,H1 b=some u->b≠da->(upd H1 da (.frz o (.dK (Mc ws)))) b=some u:=λb u z n=>by rw[Aj n];exact z
  generalize upd H1 da (.frz o (.dK (Mc ws)))=Hz at *
  have mz:Am M Hz:=λb u z=>kz b u (I.same b u z) (Ai z I.md)
  have lz:∀q∈ws,Hz q.2=some (.lst (Jd (lad q.1))):=λq hq=>kz _ _ (I.lst q hq) (Cd (I.lst q hq) I.dk (by intro z;cases z))
  have LA:bD Hz da ws lad:=⟨.inr ⟨o,ez⟩,I.nd,lz,I.no⟩
  have entz:Hz ea=some (.lst (ts.map V.ref)):=kz _ _ I.ent (Cd I.ent I.dk (by intro z;cases z))
  have hwl':ws.length<=20000:=by omega
  refine Vu (λi ys H2=>Am Hz H2/\∃us:List JO,ys=us.map V.ref/\us.length=i/\∀(j:Nat)(u:JO)(q:Str×JO),us[j]? = some u->ws[j]? = some q->H2 u=some (.tup [.str q.1,.int (((lad q.1).getD 0 0:Nat):Int)])) ⟨Am.refl _,[],rfl,rfl,λj u q h=>by simp at h⟩ (λi ys H2 _ h=>h.1 _ _ ez) ?_ ?_
  ·rintro i kv ys H2 Tp hkv ⟨s2,us,rfl,hul,hus⟩ hT
   obtain⟨q,hq,rfl⟩:∃q,ws[i]? = some q/\kv=((KJ q.1:Key),V.ref q.2):=by
    unfold Mc at hkv
    rw[KP] at hkv
    cases hq:ws[i]? with
    | none=>rw[hq] at hkv;cases hkv
    | some q=>rw[hq] at hkv;cases hkv;exact⟨q,rfl,rfl⟩
   have hqm:=KD hq
   have hil:i < ws.length:=(JF.mp hq).1
   have s3:=Ag hT (.tup [kV (KJ q.1:Key),V.ref q.2])
   obtain⟨a0,r0,e0⟩:∃a0 r0,lad q.1=a0::r0:=by
    cases z:lad q.1 with
    | nil=>exact absurd z (pos q hqm)
    | cons a0 r0=>exact⟨a0,r0,rfl⟩
   refine⟨Tp,_,rfl,Ck.of Aa,rfl,_,_,rfl,_,_,rfl,rfl,?_⟩
   refine⟨_,rfl,_,rfl,q.2,_,_,_,rfl,rfl,Aw.of (s3 _ _ (s2 _ _ (lz q hqm))),Bc (j:=0) (v:=.int ((a0:Nat):Int)) (by rw[e0];rfl),by show 2<=JQ;decide,λu hu'=>?_⟩
   have s4:=Ag hu' (.tup [V.str q.1,V.int ((a0:Nat):Int)])
   refine⟨by rw[JJ,hul,KS];omega,(s2.trans s3).trans s4,us++[u],by rw[JX];rfl,by rw[JN,hul];rfl,λj u' q' h1 h2=>?_⟩
   by_cases hj:j < us.length
   ·rw[KN hj] at h1
    exact s4 _ _ (s3 _ _ (hus j u' q' h1 h2))
   ·have hjl:j < (us++[u]).length:=(JF.mp h1).1
    rw[JN,JY] at hjl
    obtain rfl:j=us.length:=by omega
    rw[KH] at h1
    cases h1
    rw[hul,hq] at h2
    cases h2
    rw[e0]
    exact Aa
  rintro ys H2 ⟨s2,us,rfl,hul,hus⟩ st hst
  rw[Vj] at hul
  have s3:=Ag hst (.lst (us.map V.ref))
  have est:(upd H2 st (.lst (us.map V.ref))) st=some (.lst (us.map V.ref)):=Aa
  have hus3:∀(j:Nat)(u:JO)(q:Str×JO),us[j]? = some u->ws[j]? = some q->(upd H2 st (.lst (us.map V.ref))) u=some (.tup [.str q.1,.int (((lad q.1).getD 0 0:Nat):Int)]):=λj u q h1 h2=>s3 _ _ (hus j u q h1 h2)
  generalize upd H2 st (.lst (us.map V.ref))=H3 at *
  have s13:=s2.trans s3
  have LA3:=LA.same s13
  refine⟨_,rfl,ea,rfl,⟨_,Aw.of (s13 _ _ entz)⟩,Ec (K:=K) (a:=ea) (xs:=ts.map V.ref) (λi ys H4=>Am H3 H4/\∃(rs:List JO)(vss:List (List V)),ys=rs.map V.ref/\rs.length=i/\vss.length=i/\∀(j:Nat)(r:JO)(uv:List V)(en:Str×Nat×List Stp),rs[j]? = some r->vss[j]? = some uv->es[j]? = some en->H4 r=some (.lst uv)/\Ak.StsAt H4 uv (en.2.2.map (BU lad en.1 en.2.1))) ⟨Am.refl _,[],[],rfl,rfl,rfl,λj r uv en h=>by simp at h⟩ (λi ys H4 _ h=>Aw.of (h.1 _ _ (s13 _ _ entz))) ?_ ?_⟩
  ·rintro i v ys H4 hi ⟨s4,rs,vss,rfl,hrl,hvl,hrs⟩
   obtain⟨t,ht,rfl⟩:=Ea hi
   have hil:i < es.length:=by rw[<- I.len];exact(JF.mp ht).1
   obtain⟨en,hen⟩:∃en,es[i]? = some en:=⟨_,JK hil⟩
   obtain⟨l,hMt,hMb⟩:=I.row i t en ht hen
   have sm4:Am M H4:=mz.trans (s13.trans s4)
   obtain⟨tsb,b1,b2,b3,b4⟩:=hMb.same sm4
   refine⟨t,_,rfl,Ck.of (sm4 _ _ hMt),rfl,_,_,rfl,_,_,rfl,_,_,rfl,rfl,?_⟩
   refine⟨_,rfl,_,rfl,_,rfl,_,rfl,da,ws,lad,en.1,en.2.1,rfl,LA3.same s4,λv1 H5 s5 h5=>?_⟩
   refine⟨_,rfl,l,da,v1,tsb,en.2.2,ws,lad,_,rfl,s5 _ _ b1,Qx b2 s5,b3,b4,LA3.same (s4.trans s5),h5,λr uv H6 hr6 s6 e6 st6=>?_⟩
   refine⟨by rw[JJ,hrl,KS];omega,(s4.trans s5).trans s6,rs++[r],vss++[uv],by rw[JX];rfl,by rw[JN,hrl];rfl,by rw[JN,hvl];rfl,λj r' uv' en' h1 h2 h3=>?_⟩
   by_cases hj:j < rs.length
   ·rw[KN hj] at h1
    rw[KN (by omega)] at h2
    obtain⟨c1,c2⟩:=hrs j r' uv' en' h1 h2 h3
    exact⟨(s5.trans s6) _ _ c1,Paired.mapP c2 λ_ _ z=>z.keep (s5.trans s6).keepT⟩
   ·have hjl:j < (rs++[r]).length:=(JF.mp h1).1
    rw[JN,JY] at hjl
    obtain rfl:j=rs.length:=by omega
    rw[KH] at h1
    rw[hrl,<- hvl,KH] at h2
    cases h1
    cases h2
    rw[hrl,hen] at h3
    cases h3
    refine⟨e6,?_⟩
    rw[List.map_congr_left (g:=DU lad (Fl lad en.1 en.2.1)) λs _=>yT lad en.1 en.2.1 s]
    exact st6
  rintro ys H4 ⟨s4,rs,vss,rfl,hrl,hvl,hrs⟩ ra hra
  rw[JJ,I.len] at hrl hvl
  have s5:=Ag hra (.lst (rs.map V.ref))
  have era:(upd H4 ra (.lst (rs.map V.ref))) ra=some (.lst (rs.map V.ref)):=Aa
  have rows_:∀(j:Nat)(r:JO)(uv:List V)(en:Str×Nat×List Stp),rs[j]? = some r->vss[j]? = some uv->es[j]? = some en->(upd H4 ra (.lst (rs.map V.ref))) r=some (.lst uv)/\Ak.StsAt (upd H4 ra (.lst (rs.map V.ref))) uv (en.2.2.map (BU lad en.1 en.2.1)):=λj r uv en h1 h2 h3=>by
   obtain⟨c1,c2⟩:=hrs j r uv en h1 h2 h3
   exact⟨s5 _ _ c1,Paired.mapP c2 λ_ _ z=>z.keep s5.keepT⟩
  generalize upd H4 ra (.lst (rs.map V.ref))=H5 at *
  have s35:=s4.trans s5
  refine⟨_,rfl,st,us,Ma (ws.map (·.1)) lad,rfl,s35 _ _ est,?_,λi u kv h1 h2=>?_,?_,λdd hdd=>?_⟩
  ·unfold Ma
   rw[JJ,JJ,hul]
  ·unfold Ma at h2
   rw[List.map_map,KP] at h2
   cases hq:ws[i]? with
   | none=>rw[hq] at h2;cases h2
   | some q=>
    rw[hq] at h2
    cases h2
    exact s35 _ _ (hus3 i u q h1 hq)
  ·unfold Ma
   rw[List.map_map]
   have:((λx:Key×V=>x.1) ∘ λw:Str=>((KJ w:Key),V.int (((lad w).getD 0 0:Nat):Int)))=λw:Str=>(KJ w:Key):=rfl
   rw[this]
   exact zU I.nd
  obtain⟨H6,zz,s6,edd⟩:=lay hdd (.dK (Ma (ws.map (·.1)) lad))
  rw[zz]
  refine⟨_,rfl,by show 2<=JQ;decide,λpr hpr=>?_⟩
  have s7:=Ag hpr (.tup [V.ref dd,V.ref ra])
  have s57:=s6.trans s7
  refine q pr dd ra _ (ws.map (·.1)) lad es rs vss (sM.trans (mz.trans (s13.trans (s35.trans s57)))) ((sM.trans (mz.trans (s13.trans s35))).free hdd) Aa (s7 _ _ edd) I.nd (λw hw=>?_) ⟨s57 _ _ era,?_,?_,λi r uv h1 h2=>?_,λi uv rr h1 h2=>?_⟩ LS hes
  ·obtain⟨q',hq',rfl⟩:=LR.mp hw
   exact pos q' hq'
  ·unfold Hg
   rw[JJ,hrl]
  ·unfold Hg
   rw[JJ,hvl]
  ·have hi:i < es.length:=by rw[<- hrl];exact(JF.mp h1).1
   exact s57 _ _ (rows_ i r uv es[i] h1 h2 (JK hi)).1
  ·unfold Hg at h2
   rw[KP] at h2
   cases hen:es[i]? with
   | none=>rw[hen] at h2;cases h2
   | some en=>
    rw[hen] at h2
    cases h2
    have hi:i < rs.length:=by rw[hrl];exact(JF.mp hen).1
    exact Paired.mapP (rows_ i rs[i] uv en (JK hi) h1 hen).2 λ_ _ z=>z.keep s57.keepT
 intro t3 h3 p3
 -- an entry more
 refine Ge (tail:=(fBody ((fBody ((Bg Ph).getD 2 (.Pass ⟨0,0,0,0⟩))).getD 0 (.Pass ⟨0,0,0,0⟩))).drop 1) (λtt=>∀(D:L2.Ends)(M H1:Hp)(da ea a:JO)(ws:List (Str×JO))(lad:Str->List Nat)(ts:List JO)(es:List (Str×Nat×List Stp))(y v:Str)(e':Ent)(b:List Stp),Qi M H1 da ea ws lad ts es->Am H M->(v,a)∈ws->Hl L y=some e'->y∈e.od->B y v=some b->es.length<=20000->(lad v).length<=20000 ->
  (∀(M2 H2:Hp)(t:JO),Qi M2 H2 da ea ws (Kn lad v es.length) (ts++[t]) (es++[(v,(lad v).length+1,b)])->Am M M2->D.nx [some (.ref p),some (.str x),some (.ref da),some (.ref ea),some (.str y),some (.str v),some (.ref a),none,none] H2) ->
  tt D [some (.ref p),some (.str x),some (.ref da),some (.ref ea),some (.str y),some (.str v),some (.ref a),none,none] H1) ?_ ?_
 ·refine⟨_,Ac (Bx (Ll MO MS MR Ed (pv 6) (Du (Bw Tx.len (pv 3)))))
   (Af (Bx (Ll MO MS MR Ed (pv 3) (Du (Ca (Iz (pv 5) (Bw Tx.len (pv 6)) (Ee (pv 0) T.clB mY GY hr2 bY .nil Dh (Em (pv 4) (pv 5))))))))),?_⟩
  intro D M H1 da ea a ws lad ts es y v e' b I sM hq he' hy hb hes hlv k
  have z0:(Jd (lad v)).length < JQ:=by rw[Hd,KS];omega
  have z1:(ts.map V.ref).length < JQ:=by rw[JJ,I.len,KS];omega
  refine⟨_,rfl,.inl ⟨rfl,_,Aw.of (I.lst _ hq)⟩,_,rfl,ea,_,rfl,.inl (Aw.of I.ent),a,_,_,rfl,rfl,I.lst _ hq,z0,?_⟩
  rw[JJ,I.len]
  have I1:=I.push hq es.length
  generalize upd H1 a (.lst (Jd (lad v)++[V.int (es.length:Int)]))=H2 at *
  have sH2:=sM.trans I1.same
  have B2:=U.bk.same sH2
  obtain⟨dx,hp⟩:=B2.ob
  obtain⟨la,tsb,hv,hla,hst⟩:=U.yes y hy e' v b he' hb
  have ha2:=I1.lst _ hq
  have hlen2:((Jd (Kn lad v es.length v)).length:Int)=(((lad v).length+1:Nat):Int):=by
   rw[Hd]
   unfold Kn
   rw[if_pos rfl,JN]
   rfl
  refine⟨_,rfl,.inl ⟨rfl,_,Aw.of I1.ent⟩,_,rfl,_,rfl,a,_,rfl,.inl (Aw.of ha2),_,rfl,p,dx,_,rfl,hp,Gs d (by decide +kernel),_,rfl,_,rfl,p,d,L,y,v,e',rfl,B2,he',.inr ⟨la,_,hv,sH2 _ _ hla,λl hl=>?_⟩⟩
  dsimp only
  rw[hlen2]
  have I2:=I1.lay hl (.lst (tsb.map V.ref))
  have sM2:Am M (upd M l (.lst (tsb.map V.ref))):=Ag (I1.same.free hl) _
  have eM2:(upd M l (.lst (tsb.map V.ref))) l=some (.lst (tsb.map V.ref)):=Aa
  generalize upd M l (.lst (tsb.map V.ref))=M2 at *
  generalize upd H2 l (.lst (tsb.map V.ref))=H3 at *
  refine⟨by show 3<=JQ;decide,λt ht=>?_⟩
  have I3:=I2.lay ht (.tup [V.str v,V.int (((lad v).length+1:Nat):Int),V.ref l])
  have sM3:=Ag (I2.same.free ht) (.tup [V.str v,V.int (((lad v).length+1:Nat):Int),V.ref l])
  have eM3:(upd M2 t (.tup [V.str v,V.int (((lad v).length+1:Nat):Int),V.ref l])) t=some (.tup [V.str v,V.int (((lad v).length+1:Nat):Int),V.ref l]):=Aa
  generalize upd M2 t (.tup [V.str v,V.int (((lad v).length+1:Nat):Int),V.ref l])=M3 at *
  generalize upd H3 t (.tup [V.str v,V.int (((lad v).length+1:Nat):Int),V.ref l])=H4 at *
  refine⟨ea,_,_,rfl,rfl,I3.ent,z1,?_⟩
  have sMM:=sM2.trans sM3
  exact k M3 _ t (I3.put eM3 ⟨tsb,sM3 _ _ eM2,Qx hst (sM.trans sMM),U.ok y hy v b hb⟩) sMM
 intro t2 h2 p2
 refine⟨_,Ac (Mw (i:=2) Jl.nd rfl (Or.inr rfl) Ho)
  (Ac (Bv 3 Jl.nd (De Fw))
  (Ac (Eh MN rfl (Dk (Ee (pv 0) T.clB mO GO hr2 bO .nil Dh (Du (pv 1)))) (Dg 4 Jl.nd)
   (Af (Eh MN rfl (Dk (Ee (pv 0) T.clB mW GW hr2 bW .nil Ti (Du (pv 4)))) (Dg 5 Jl.nd)
    (Ac (Bv 6 Jl.nd (qY (pv 2) (pv 5) (De Fw) ⟨rfl,rfl,rfl,rfl⟩)) h2)))) h3)),?_⟩
 intro da hda
 refine⟨by show 0<=JQ;decide,λea hea=>?_⟩
 have I0:=Qi.init H da ea hda hea
 generalize upd (upd H da (.dK [])) ea (.lst [])=H1 at *
 have B1:=U.bk.same I0.same
 obtain⟨dx,hp⟩:=B1.ob
 refine⟨_,rfl,p,dx,_,rfl,hp,Gs d (by decide +kernel),_,rfl,p,d,L,x,e,rfl,B1,he,λoa hoa=>?_⟩
 have I1:=I0.lay hoa (.lst (Az e.od))
 have sM1:=Ag (I0.same.free hoa) (.lst (Az e.od))
 have eM1:(upd H oa (.lst (Az e.od))) oa=some (.lst (Az e.od)):=Aa
 generalize upd H oa (.lst (Az e.od))=M1 at *
 generalize upd H1 oa (.lst (Az e.od))=H2 at *
 refine⟨oa,rfl,⟨_,Aw.of (I1.same _ _ eM1)⟩,Fi (K:=K) (a:=oa) (xs:=Az e.od) (λi σ H3=>∃(v4 v5 v6:Option V)(M:Hp)(ws:List (Str×JO))(lad:Str->List Nat)(ts:List JO)(es:List (Str×Nat×List Stp)),σ=[some (.ref p),some (.str x),some (.ref da),some (.ref ea),v4,v5,v6,none,none]/\Qi M H3 da ea ws lad ts es/\Am M1 M/\Kh B e.od i [] lad es/\(∀q∈ws,lad q.1≠[])/\es.length<=500 * i/\ws.length<=es.length)
  ⟨none,none,none,M1,[],_,[],[],rfl,I1,Am.refl _,Kh.nil B e.od,(λq hq=>nomatch hq),LK _,JM _⟩ (λi σ H3 _ ⟨_,_,_,_,_,_,_,_,_,I,s,_⟩=>Aw.of (I.same _ _ (s _ _ eM1))) ?_ ?_⟩
 ·rintro i v σ H3 hi ⟨v4,v5,v6,M,ws,lad,ts,es,rfl,I,sM,LS,pos,hel,hwl⟩
  obtain⟨y,hy,rfl⟩:=Ih hi
  have hym:=KD hy
  have hil:i < e.od.length:=(JF.mp hy).1
  obtain⟨e',he'⟩:=U.hs y hym
  obtain⟨W,eW,ndW,hWl⟩:=hW y hym e' he'
  have B3:=U.bk.same ((sM1.trans sM).trans I.same)
  obtain⟨dx3,hp3⟩:=B3.ob
  refine⟨_,rfl,p,dx3,_,rfl,hp3,Gs d (by decide +kernel),_,rfl,p,d,L,y,e',W,rfl,B3,he',eW,λwl hwl'=>?_⟩
  have I4:=I.lay hwl' (.lst (Az (W.map (·.1))))
  have sM4:=Ag (I.same.free hwl') (.lst (Az (W.map (·.1))))
  have eM4:(upd M wl (.lst (Az (W.map (·.1))))) wl=some (.lst (Az (W.map (·.1)))):=Aa
  generalize upd M wl (.lst (Az (W.map (·.1))))=M4 at *
  generalize upd H3 wl (.lst (Az (W.map (·.1))))=H4 at *
  have sB4:=sM.trans sM4
  have inB:∀v,v∈W.map (·.1) ↔ (B y v).isSome=true:=λv=>by
   constructor
   ·intro hv
    obtain⟨q,hq,rfl⟩:=LR.mp hv
    cases z:B y q.1 with
    | some b=>rfl
    | none=>
     have:=U.no y hym e' q.1 he' z
     rw[eW,Mx ndW hq] at this
     cases this
   ·intro hv
    cases z:B y v with
    | none=>rw[z] at hv;cases hv
    | some b=>
     obtain⟨la,tsb,h1,_⟩:=U.yes y hym e' v b he' z
     rw[eW] at h1
     obtain⟨q,hq,rfl,_⟩:=Yb h1
     exact LR.mpr ⟨q,hq,rfl⟩
  refine⟨wl,rfl,⟨_,Aw.of (I4.same _ _ eM4)⟩,Fi (K:=K) (a:=wl) (xs:=Az (W.map (·.1))) (λj σ H5=>∃(v5 v6:Option V)(M:Hp)(ws:List (Str×JO))(lad:Str->List Nat)(ts:List JO)(es:List (Str×Nat×List Stp)),σ=[some (.ref p),some (.str x),some (.ref da),some (.ref ea),some (.str y),v5,v6,none,none]/\Qi M H5 da ea ws lad ts es/\Am M4 M/\Kh B e.od i ((W.map (·.1)).take j) lad es/\(∀q∈ws,lad q.1≠[])/\es.length<=500 * i+j/\ws.length<=es.length)
   ⟨_,_,M4,ws,lad,ts,es,rfl,I4,Am.refl _,LS,pos,hel,hwl⟩ (λi σ H3 _ ⟨_,_,_,_,_,_,_,_,I,s,_⟩=>Aw.of (I.same _ _ (s _ _ eM4))) ?_ ?_⟩
  ·rintro j v σ H5 hj ⟨v5,v6,M5,ws5,lad5,ts5,es5,rfl,I5,s5,LS5,pos5,hel5,hwl5⟩
   obtain⟨v,hv,rfl⟩:=Ih hj
   have hvm:=KD hv
   have hjl:j < W.length:=by have:=(JF.mp hv).1;rwa [JJ] at this
   obtain⟨b,hb⟩:∃b,B y v=some b:=RL.mp ((inB v).mp hvm)
   have hvt:v∉(W.map (·.1)).take j:=λz=>by
    obtain⟨m,hm⟩:=MM z
    have hmj:m < j:=by have:=(JF.mp hm).1;rw[NT] at this;omega
    rw[List.getElem?_take_of_lt hmj] at hm
    have:=(List.getElem?_inj (JF.mp hm).1 ndW).mp (hm.trans hv.symm)
    omega
   have hll:(lad5 v).length<=20000:=by
    rw[LS5.len v,if_neg hvt]
    unfold kn
    have h1:=List.length_filter_le (λy=>(B y v).isSome) (e.od.take i)
    rw[NT] at h1
    omega
   have hes5:es5.length<=20000:=by omega
   have sH5:Am H M5:=(sM1.trans sB4).trans s5
   have fin:∀(M6 H6:Hp)(a:JO)(ws6:List (Str×JO)),Qi M6 H6 da ea ws6 lad5 ts5 es5->Am M5 M6->(v,a)∈ws6->(∀q∈ws6,q.1≠v->lad5 q.1≠[])->ws6.length<=ws5.length+1->∀(M2 H2:Hp)(t:JO),Qi M2 H2 da ea ws6 (Kn lad5 v es5.length) (ts5++[t]) (es5++[(v,(lad5 v).length+1,b)])->Am M6 M2->(∃(v5 v6:Option V)(M:Hp)(ws:List (Str×JO))(lad:Str->List Nat)(ts:List JO)(es:List (Str×Nat×List Stp)),[some (.ref p),some (.str x),some (.ref da),some (.ref ea),some (.str y),some (.str v),some (.ref a),none,none]=[some (.ref p),some (.str x),some (.ref da),some (.ref ea),some (.str y),v5,v6,none,none]/\Qi M H2 da ea ws lad ts es/\Am M4 M/\Kh B e.od i ((W.map (·.1)).take (j+1)) lad es/\(∀q∈ws,lad q.1≠[])/\es.length<=500 * i+(j+1)/\ws.length<=es.length):=by
    intro M6 H6 a ws6 I6 s6 hin pos6 hwl6 M2 H2 t I2 s2
    refine⟨_,_,M2,ws6,_,_,_,rfl,I2,(s5.trans s6).trans s2,?_,λq hq=>?_,?_,?_⟩
    ·rw[MI,hv]
     exact LS5.add hy hvt hb
    ·unfold Kn
     by_cases hqv:q.1=v
     ·rw[if_pos hqv]
      simp
     ·rw[if_neg hqv]
      exact pos6 q hq hqv
    ·rw[JN,JY]
     omega
    ·rw[JN,JY]
     omega
   refine⟨_,rfl,da,rfl,.inl ⟨_,.inl I5.dk⟩,_,rfl,by show 0<=JQ;decide,λl0 hl0=>?_⟩
   have I6:=I5.lay hl0 (.lst [])
   have sM6:=Ag (I5.same.free hl0) (.lst [])
   refine⟨_,KJ v,I6.dk,rfl,by rw[Vj,KS];omega,λu hu'=>?_,λhn=>?_⟩
   ·obtain⟨q,hq,rfl,rfl⟩:=Yb hu'
    exact p2 _ _ _ da ea q.2 ws5 lad5 ts5 es5 y q.1 e' b I6 (sH5.trans sM6) hq he' hym hb hes5 hll (fin _ _ q.2 ws5 I6 sM6 hq (λq hq _=>pos5 q hq) (by omega))
   ·have hv5:v∉ws5.map (·.1):=λz=>by
     obtain⟨q,hq,rfl⟩:=LR.mp z
     rw[Mx I5.nd hq] at hn
     cases hn
    have I7:=I5.add hl0 hv5
    rw[eA hv5]
    have hin:(v,l0)∈ws5++[(v,l0)]:=KC _ (JP.mpr rfl)
    exact p2 _ _ _ da ea l0 _ lad5 ts5 es5 y v e' b I7 sH5 hin he' hym hb hes5 hll (fin _ _ l0 _ I7 (Am.refl _) hin (λq hq hqv=>by
     rcases KO.mp hq with z | z
     ·exact pos5 q z
     ·exact absurd (by rw[JP.mp z]) hqv) (by rw[JN];exact JM _))
  ·rintro σ H5 ⟨v5,v6,M5,ws5,lad5,ts5,es5,rfl,I5,s5,LS5,pos5,hel5,hwl5⟩
   rw[Av,List.take_length] at LS5
   refine⟨_,_,_,M5,ws5,lad5,ts5,es5,rfl,I5,sB4.trans s5,LS5.next hy inB,pos5,?_,hwl5⟩
   rw[Av,JJ] at hel5
   omega
 ·rintro σ H3 ⟨v4,v5,v6,M,ws,lad,ts,es,rfl,I,sM,LS,pos,hel,hwl⟩
  rw[Av] at LS hel
  exact p3 M H3 da ea ws lad ts es v4 v5 v6 I (sM1.trans sM) pos LS (by omega) hwl
end
end Bk
namespace Bk
open PySem L2 Mg Nm Rk PySem.SeqAt
def Hm(H:Hp)(la:JO)(ss:List Stp):Prop:=∃ts:List JO,H la=some (.lst (ts.map V.ref))/\Dp H ts (ss.map Stp.pr)
def wZ(H H':Hp)(ba:JO):Prop:=∀b o,H b=some o->b≠ba->H' b=some o
theorem Hm.keep{H H':Hp}{la:JO}{ss:List Stp}(h:Hm H la ss)(k:∀b o,H b=some o->((∃xs,o=.lst xs) ∨ ∃xs,o=.tup xs)->H' b=some o):Hm H' la ss:=by
 obtain⟨ts,e,c1,c2⟩:=h
 exact⟨ts,k _ _ e (.inl ⟨_,rfl⟩),c1,λi t pr h1 h2=>k _ _ (c2 i t pr h1 h2) (.inr ⟨_,rfl⟩)⟩
theorem Ef{α β:Type}{f:α->β}{L:List α}{a:Nat}{e e':α}(h:L[a]? = some e)(he:f e'=f e):(L.set a e').map f=L.map f:=by
 refine List.ext_getElem? λj=>?_
 rw[KP,KP]
 by_cases hj:a=j
 ·subst hj
  rw[OA (JF.mp h).1,h]
  show some (f e')=some (f e)
  rw[he]
 ·rw[NN hj]
theorem Lr{α:Type}{L:List α}{a j:Nat}{e b:α}(ha:a < L.length)(h:(L.set a e)[j]? = some b):(j=a/\b=e)∨(j≠a/\L[j]? = some b):=by
 by_cases hj:a=j
 ·subst hj
  rw[OA ha] at h
  exact .inl ⟨rfl,(LC h).symm⟩
 ·rw[NN hj] at h
  exact .inr ⟨LL hj,h⟩
theorem Be.putBd{CB CH:JO}{H H':Hp}{p d:JO}{L:List Ent}{a:Nat}{e:Ent}{bd:List (Key×V)}(B:Be CB CH H p d L)(he:L[a]? = some e)(k:wZ H H' e.ba)(hb:H' e.ba=some (.dK bd)):Be CB CH H' p d (L.set a { e with bd:=bd }):=by
 have hem:=KD he
 have hal:a < L.length:=(JF.mp he).1
 have E:=B.en e hem
 obtain⟨dx,hp⟩:=B.ob
 have kd:∀b o,H b=some o->(∀z,o ≠ .dK z)->H' b=some o:=λb o h hn=>k b o h (Cd h E.bd (hn _))
 have ed:nJ (L.set a { e with bd:=bd })=nJ L:=Ef he rfl
 refine⟨⟨dx,kd _ _ hp (by intro _ z;cases z)⟩,?_,λx hx=>?_,λx hx=>?_,?_,?_⟩
 ·rw[ed]
  exact k _ _ B.dc (LL (B.nb e hem))
 ·obtain⟨j,hj⟩:=MM hx
  rcases Lr hal hj with ⟨rfl,rfl⟩ | ⟨hne,hj'⟩
  ·exact⟨kd _ _ E.ob (by intro _ z;cases z),kd _ _ E.el (by intro _ z;cases z),kd _ _ E.od (by intro _ z;cases z),hb⟩
  ·have hx':=KD hj'
   have A:=B.en x hx'
   have nb:x.ba≠e.ba:=λz=>by
    have hx1:(L.map (·.ba))[j]? = some x.ba:=by rw[KP,hj'];rfl
    have hx2:(L.map (·.ba))[a]? = some e.ba:=by rw[KP,he];rfl
    rw[z] at hx1
    have l1:j < (L.map (·.ba)).length:=(JF.mp hx1).1
    exact hne ((List.getElem?_inj l1 B.nn).mp (hx1.trans hx2.symm))
   exact⟨kd _ _ A.ob (by intro _ z;cases z),kd _ _ A.el (by intro _ z;cases z),kd _ _ A.od (by intro _ z;cases z),k _ _ A.bd nb⟩
 ·obtain⟨j,hj⟩:=MM hx
  rcases Lr hal hj with ⟨rfl,rfl⟩ | ⟨hne,hj'⟩
  ·exact B.nb e hem
  ·exact B.nb x (KD hj')
 ·rw[Ef (f:=λx:Ent=>x.nm) (e':={ e with bd:=bd }) he rfl]
  exact B.nd
 ·rw[Ef (f:=λx:Ent=>x.ba) (e':={ e with bd:=bd }) he rfl]
  exact B.nn
def nN(B:Ci)(x w:Str)(o:Option (List Stp)):Ci:=λy v=>if y=x/\v=w then o else B y v
theorem Be.keepT{CB CH:JO}{H H':Hp}{p d:JO}{L:List Ent}(B:Be CB CH H p d L)(k:∀b o,H b=some o->(∀z,o ≠ .dT z)->H' b=some o):Be CB CH H' p d L:=
 ⟨let ⟨dx,e⟩:=B.ob;⟨dx,k _ _ e (by intro z y;cases y)⟩,k _ _ B.dc (by intro z y;cases y),λe he=>let E:=B.en e he;⟨k _ _ E.ob (by intro z y;cases y),k _ _ E.el (by intro z y;cases y),k _ _ E.od (by intro z y;cases y),k _ _ E.bd (by intro z y;cases y)⟩,B.nb,B.nd,B.nn⟩
theorem Gv.set{L:List Ent}(h:Gv L){i:Nat}{e:Ent}(he:L[i]? = some e)(bd:List (Key×V)):Gv (L.set i { e with bd:=bd }):=by
 intro e' he'
 rw[Ef (f:=λx:Ent=>x.nm) (e':={ e with bd:=bd }) he rfl]
 rcases RC he' with z | z
 ·exact h e' z
 ·rw[z]
  exact h e (KD he)
theorem CP{L:List Ent}(nd:(L.map (·.nm)).Nodup){i j:Nat}{e e':Ent}(h:L[i]? = some e)(h':L[j]? = some e')(hne:j≠i):e'.nm≠e.nm:=λz=>by
 have a1:(L.map (·.nm))[j]? = some e'.nm:=by rw[KP,h'];rfl
 have a2:(L.map (·.nm))[i]? = some e.nm:=by rw[KP,h];rfl
 rw[z] at a1
 exact hne ((List.getElem?_inj (JF.mp a1).1 nd).mp (a1.trans a2.symm))
structure cO(CB CH:JO)(H:Hp)(p d:JO)(L:List Ent)(B:Ci):Prop where
 bk:Be CB CH H p d L
 od:Gv L
 no:∀e∈L,∀w,B e.nm w=none->valV e.bd (KJ w:Key)=none
 yes:∀e∈L,∀w ss,B e.nm w=some ss->∃la:JO,valV e.bd (KJ w:Key)=some (.ref la)/\Hm H la ss
 ok:∀y w ss,B y w=some ss->(∀s∈ss,nV s)/\ss.length<=30
 tx:∀e∈L,∃W:List (Str×JO),e.bd=Mc W/\(W.map (·.1)).Nodup
theorem tE{W:List (Str×JO)}(nd:(W.map (·.1)).Nodup)(w:Str)(a:JO):∃W':List (Str×JO),putK (Mc W) (KJ w:Key) (.ref a)=Mc W'/\(W'.map (·.1)).Nodup:=by
 by_cases h:w∈W.map (·.1)
 ·refine⟨W.map λq=>if q.1=w then (w,a) else q,?_,?_⟩
  ·obtain⟨q,hq,rfl⟩:=LR.mp h
   unfold putK
   rw[Es,Mx nd hq,if_pos (show (some (V.ref q.2)).isSome=true from rfl)]
   unfold Mc
   rw[List.map_map,List.map_map]
   refine List.map_congr_left λr _=>?_
   show (if (KJ r.1:Key)=KJ q.1 then ((KJ r.1:Key),V.ref a) else ((KJ r.1:Key),V.ref r.2))=((KJ (if r.1=q.1 then (q.1,a) else r).1:Key),V.ref (if r.1=q.1 then (q.1,a) else r).2)
   by_cases e:r.1=q.1
   ·rw[if_pos (by rw[e]),if_pos e,e]
   ·rw[if_neg (λz=>e (KJ.inj z)),if_neg e]
  ·rw[List.map_map,List.map_congr_left (g:=(·.1))]
   ·exact nd
   ·intro r _
    show (if r.1=w then (w,a) else r).1=r.1
    by_cases e:r.1=w
    ·rw[if_pos e,e]
    ·rw[if_neg e]
 ·refine⟨W++[(w,a)],eA h,?_⟩
  rw[JX,OE]
  exact⟨nd,by simp,λx hx y hy=>by rw[show y=w by simpa using hy];exact λz=>h (z ▸ hx)⟩
section
variable {CB CH:JO} {H H':Hp} {p d:JO} {L:List Ent} {B:Ci}
theorem cO.qb(S:cO CB CH H p d L B)(hl:L.length<=1000){e:Ent}(he:e∈L):QB CB CH H p d L e.od B:=by
 have inn:=(S.od e he).2.2
 have fn:∀y∈e.od,∃e',Hl L y=some e':=λy hy=>by
  obtain⟨e',he',rfl⟩:=LR.mp (inn y hy)
  exact⟨e',Mn S.bk.nd he'⟩
 refine⟨S.bk,KZ (Oa S.od he) hl,fn,λy _ e' w h1 h2=>?_,λy _ e' w ss h1 h2=>?_,λy _ w ss h=>S.ok y w ss h⟩
 ·obtain⟨m,rfl⟩:=Fx h1
  exact S.no e' m w h2
 ·obtain⟨m,rfl⟩:=Fx h1
  obtain⟨la,a,ts,b,c⟩:=S.yes e' m w ss h2
  exact⟨la,ts,a,b,c⟩
theorem cO.keepT(S:cO CB CH H p d L B)(k:∀b o,H b=some o->(∀z,o ≠ .dT z)->H' b=some o):cO CB CH H' p d L B:=
 ⟨S.bk.keepT k,S.od,S.no,λe he w ss h=>let ⟨la,a,b⟩:=S.yes e he w ss h;⟨la,a,b.keep λx o hx z=>k x o hx (by rcases z with ⟨xs,rfl⟩ | ⟨xs,rfl⟩<;>intro y e<;>cases e)⟩,S.ok,S.tx⟩
theorem cO.same(S:cO CB CH H p d L B)(s:Am H H'):cO CB CH H' p d L B:=S.keepT λb o h _=>s b o h
theorem cO.put(S:cO CB CH H p d L B){i:Nat}{e:Ent}(he:L[i]? = some e){w:Str}{ss:List Stp}{la:JO}(hok:(∀s∈ss,nV s)/\ss.length<=30)(k2:wZ H H' e.ba)(hba:H' e.ba=some (.dK (putK e.bd (KJ w:Key) (.ref la))))(hla:Hm H' la ss):
 cO CB CH H' p d (L.set i { e with bd:=putK e.bd (KJ w:Key) (.ref la) }) (nN B e.nm w (some ss)):=by
 have hem:=KD he
 have hal:i < L.length:=(JF.mp he).1
 have E1:=(S.bk.en e hem).bd
 have lt1:∀b o,H b=some o->((∃xs,o=.lst xs) ∨ ∃xs,o=.tup xs)->H' b=some o:=λb o e1 z=>k2 b o e1 (Cd e1 E1 (by rcases z with ⟨xs,rfl⟩ | ⟨xs,rfl⟩<;>intro y<;>cases y))
 have hpos:nN B e.nm w (some ss) e.nm w=some ss:=if_pos ⟨rfl,rfl⟩
 refine⟨S.bk.putBd he k2 hba,S.od.set he _,λe1 he1 v h=>?_,λe1 he1 v ss1 h=>?_,λy v ss1 h=>?_,λe1 he1=>?_⟩
 ·obtain⟨j,hj⟩:=MM he1
  have hno:¬ (e1.nm=e.nm/\v=w):=λz=>by
   rw[z.1,z.2,hpos] at h
   cases h
  have hB:B e1.nm v=none:=by
   have:=h
   unfold nN at this
   rwa [if_neg hno] at this
  rcases Lr hal hj with ⟨rfl,rfl⟩ | ⟨hne,hj'⟩
  ·have hv:¬ v=w:=λz=>hno ⟨rfl,z⟩
   show valV (putK e.bd (KJ w:Key) (.ref la)) (KJ v:Key)=none
   rw[Fp,if_neg (λy=>hv (KJ.inj y))]
   exact S.no e hem v hB
  ·exact S.no e1 (KD hj') v hB
 ·obtain⟨j,hj⟩:=MM he1
  by_cases hyes:e1.nm=e.nm/\v=w
  ·obtain⟨z1,z2⟩:=hyes
   subst z2
   rw[z1,hpos] at h
   cases h
   rcases Lr hal hj with ⟨rfl,rfl⟩ | ⟨hne,hj'⟩
   ·refine⟨la,?_,hla⟩
    show valV (putK e.bd (KJ v:Key) (.ref la)) (KJ v:Key)=_
    rw[Fp,if_pos rfl]
   ·exact absurd z1 (CP S.bk.nd he hj' hne)
  ·have hB:B e1.nm v=some ss1:=by
    have:=h
    unfold nN at this
    rwa [if_neg hyes] at this
   rcases Lr hal hj with ⟨rfl,rfl⟩ | ⟨hne,hj'⟩
   ·have hv:¬ v=w:=λz=>hyes ⟨rfl,z⟩
    obtain⟨a,c1,c2⟩:=S.yes e hem v ss1 hB
    refine⟨a,?_,c2.keep lt1⟩
    show valV (putK e.bd (KJ w:Key) (.ref la)) (KJ v:Key)=_
    rw[Fp,if_neg (λy=>hv (KJ.inj y))]
    exact c1
   ·obtain⟨a,c1,c2⟩:=S.yes e1 (KD hj') v ss1 hB
    exact⟨a,c1,c2.keep lt1⟩
 ·by_cases hyes:y=e.nm/\v=w
  ·rw[hyes.1,hyes.2,hpos] at h
   cases h
   exact hok
  ·unfold nN at h
   rw[if_neg hyes] at h
   exact S.ok y v ss1 h
 ·rcases RC he1 with z | z
  ·exact S.tx e1 z
  ·rw[z]
   obtain⟨W,e2,nd⟩:=S.tx e hem
   show ∃W:List (Str×JO),putK e.bd (KJ w:Key) (.ref la)=Mc W/\_
   rw[e2]
   exact tE nd w la
end
end Bk
namespace Bk
open PySem L2 Mg Nm Rk
def AG(ws:List Str):Stp->Prop
 | .sm s=>CY s
 | .onw=>True
 | .ask y=>y∈ws
 | .tri y z=>y∈ws/\z∈ws
theorem AG.ok{ws:List Str}:∀ {s:Stp},AG ws s->nV s
 | .sm _,h=>h
 | .onw,_=>trivial
 | .ask _,_=>trivial
 | .tri _ _,_=>trivial
def Oi:Sp:=λvs H Q _=>∃c k:Int,vs=[.int c,.int k]/\∀m:Int,0<=m->Q (.int m) H
def Ox:Sp:=λvs H Q _=>∃(wa:JO)(ws:List Str)(a:Nat)(m:Int),vs=[.ref wa,.int (a:Int),.int m]/\H wa=some (.lst (Az ws))/\a < ws.length/\ws.length<=1000/\∀(t:JO)(H':Hp)(s:Stp),Am H H'->H' t=some (.tup (.str s.pr.1::s.pr.2))->AG ws s->Q (.ref t) H'
def Jk:Sp:=λvs H Q _=>∃(wa:JO)(ws:List Str)(a:Nat)(c:Int),vs=[.ref wa,.int (a:Int),.int c]/\H wa=some (.lst (Az ws))/\a < ws.length/\ws.length<=1000/\∀(l:JO)(ts:List JO)(ss:List Stp)(H':Hp),H l=none->Am H H'->H' l=some (.lst (ts.map V.ref))->Dp H' ts (ss.map Stp.pr)->(∀s∈ss,AG ws s)->ss.length<=4->Q (.ref l) H'
def Rh:List Str:=["say","say","say","plus","times","odd","part","onwards","onwards","ask","ask","ask"]
def Ro:List Str:=["try","try","try","try","try","put","both","any","over","up","down"]
def kdAt(c:Int):Str:=(Rh++Ro).getD (c % 23).toNat "say"
theorem uK(c:Int):Jb (Rh.map V.str++Ro.map V.str) (c % 23)=some (.str (kdAt c)):=by
 have h:(c % 23).toNat < (Rh++Ro).length:=by
  show (c % 23).toNat < 23
  omega
 obtain⟨n,hn⟩:=NJ (ME c (show (23:Int)≠0 by decide))
 unfold kdAt
 rw[hn] at h ⊢
 rw[show ((n:Int)).toNat=n from LX n] at h ⊢
 refine Bc ?_
 rw[<- JX,KP,JK h,LJ,JK h]
 rfl
theorem qM(c:Int):kdAt c∈Rh++Ro:=by
 unfold kdAt
 have h:(c % 23).toNat < (Rh++Ro).length:=by
  show (c % 23).toNat < 23
  omega
 rw[LJ,JK h]
 exact OO h
theorem AR:∀x∈Rh++Ro,¬ x = "say" -> ¬ x = "onwards" -> ¬ x = "ask" -> ¬ x = "try" -> x∈Qw:=by decide +kernel
theorem We{kd p q:Str}:kX (V.str kd) [V.str p,V.str q]=true ↔ kd=p∨kd=q:=by
 show ((p == kd) || ((q == kd) || false))=true ↔ _
 rw[Bool.or_false,Bool.or_eq_true,beq_iff_eq,beq_iff_eq]
 exact⟨λh=>h.imp Eq.symm Eq.symm,λh=>h.imp Eq.symm Eq.symm⟩
abbrev IU:List Str:=["_law_words","_law_first","_law_mixed_here","_law_sorts","_law_sort","_law_amount","_law_some","_law_word"]
def sA:OU:=(Bg Hh).getD 0 (.Pass ⟨0,0,0,0⟩)
def sB:OU:=(Bg Hh).getD 1 (.Pass ⟨0,0,0,0⟩)
theorem vJ{X:Cx}{i:Nat}{x y:Str}{es:List Expr}{t:TA}{tn:TE}{pos pos' p1 p2 p3:Pos}(hN:X.N.Nodup)(hi:X.N[i]? = some x)(hx:Loc X.env.scope x)(hv:PE X (.Name y p1) tn)(h:IC X es t)(hf:X.fn x=true∨X.env.scope.names.lookup x=some .local)(hs:swapsWith (.BinOp (.Name y p1) .Add (.List es p2) p3) (some (.Name x pos')) pos.line X.env=pure false):CW X (.Assign [.Name x pos'] (.BinOp (.Name y p1) .Add (.List es p2) p3) pos) (Wz (BG xL tn (oP t)) (Kk i)):=⟨Mw hN hi hx (Aq Jr hv (De h.ok)) hs hf⟩
theorem DY{X:Cx}{tail:List OU}{t:TS}(_:Hy X tail t)(hN:X.N=(["_law_words","_law_first","_law_mixed_here","_law_sorts","_law_sort","_law_amount","_law_some","_law_word"]:List Str))(hs:X.env.scope=Ad Hh):CW X sA (Wz (oP (eB (Rh.map V.str))) (Kk 3)):=by
 refine uW (x := "_law_sorts") ?_ ?_ ?_ (Yk (xs:=Rh) (by rfl)) ?_
 ·rw[hN];decide +kernel
 ·rw[hN];rfl
 ·rw[hs];exact Or.inl rfl
 ·rw[hs];exact Or.inr rfl
theorem BW{X:Cx}{tail:List OU}{t:TS}{tn:TE}(_:Hy X tail t)(hN:X.N=(["_law_words","_law_first","_law_mixed_here","_law_sorts","_law_sort","_law_amount","_law_some","_law_word"]:List Str))(hs:X.env.scope=Ad Hh)(hv:∀p1,PE X (.Name "_law_sorts" p1) tn):CW X sB (Wz (BG xL tn (oP (eB (Ro.map V.str)))) (Kk 3)):=by
 refine vJ (x := "_law_sorts") (y := "_law_sorts") ?_ ?_ ?_ (hv _) (Yk (xs:=Ro) (by rfl)) ?_ ?_
 ·rw[hN];decide +kernel
 ·rw[hN];rfl
 ·rw[hs];exact Or.inl rfl
 ·rw[hs];exact Or.inr rfl
 ·rfl
theorem Vv{x:Int}{n:Nat}(h:0 < n):∃k:Nat,x % (n:Int)=(k:Int)/\k < n:=by
 have b0:0<=x % (n:Int):=ME _ (by omega)
 have b1:x % (n:Int) < (n:Int):=LZ _ (by omega)
 obtain⟨k,hk⟩:=NJ b0
 exact⟨k,hk,by omega⟩
section
variable {P:KI} {w:LQ} {K:JG} {mg:Str->Option JH} {base:MV} {f fM fS:JO} {fd dM dS:LG}
theorem dU:An ["_law_cell","_law_k","_law_found"] ["_law_cell","_law_k"] (Ad Zs):=Ez (by decide +kernel)
theorem pK(F:Di K "_law_mixed" "_law_mixed" Zs f fd):Al P w K mg base Bi 1 f fd ["_law_cell","_law_k"] Oi:=by
 refine F.ok dU (λvs H Q E h=>?_) (λcdv A outer s H vs Q E hr h=>?_)
 ·obtain⟨c,k,rfl,_⟩:=h
  rfl
 obtain⟨c,k,rfl,q⟩:=h
 refine⟨_,Ac (Bv 2 dU.nd (Aq Cb (Aq Ku (Aq Cm (Aq Cm (pv 0) (Aq Ku Ae (pv 1))) Ae) Ae) Ae))
  (Af (Ao (Aq Cb (Aq Ku (pv 2) (pv 2)) Ae))),?_⟩
 refine⟨_,rfl,_,rfl,_,_,rfl,rfl,.inl ⟨by decide,by decide⟩,_,_,rfl,rfl,_,_,rfl,rfl,_,_,rfl,rfl,.inr ⟨by decide,by decide⟩,_,_,rfl,rfl,(by show (0:Int) < 2147483647;decide),?_⟩
 have b0:0<=(c+977 * k+31) * 48271 % 2147483647:=ME _ (by decide)
 have b1:(c+977 * k+31) * 48271 % 2147483647 < 2147483647:=LZ _ (by decide)
 generalize (c+977 * k+31) * 48271 % 2147483647=y at *
 refine⟨_,rfl,_,rfl,_,_,rfl,rfl,.inl ⟨by omega,by omega⟩,_,_,rfl,rfl,(by show (0:Int) < 2147483629;decide),?_⟩
 exact q _ (ME _ (by decide))
theorem oA:An IU ["_law_words","_law_first","_law_mixed_here"] (Ad Hh):=Ez (by decide +kernel)
theorem EN(F:Di K "_law_step_by" "_law_step_by" Hh f fd)(T:Txt mg)(mAbs:mg "abs" = none):Al P w K mg base Bi 1 f fd ["_law_words","_law_first","_law_mixed_here"] Ox:=by
 refine F.ok oA (λvs H Q E h=>?_) (λcdv A outer s H vs Q E hr h=>?_)
 ·obtain⟨wa,ws,a,m,rfl,_⟩:=h
  rfl
 obtain⟨wa,ws,a,m,rfl,hwa,ha,hwl,q⟩:=h
 -- what stands behind the two rows of texts
 refine Ge (tail:=(Bg Hh).drop 2) (λtt=>∀(D:L2.Ends)(H1:Hp)(l:JO),D.rt=Q->Am H H1->H1 l=some (.lst (Rh.map V.str++Ro.map V.str))->tt D [some (.ref wa),some (.int (a:Int)),some (.int m),some (.ref l),none,none,none,none] H1) ?_ ?_
 ·refine⟨_,Ac (Bv 4 oA.nd (As Bj (pv 3) (Aq Cb (pv 2) Ae) (λ_ _=>rfl)))
   (Ac (Bv 5 oA.nd (Aq Jo (Aq Cb (Aq Dy (pv 2) Ae) Ae) Ae))
   (Ac (Bv 6 oA.nd (Cj El (pv 0) (Cy (pv 1)) Dw))
   (Ac (Bv 7 oA.nd (As Bj (pv 6) (Aq Cb (Aq Dy (pv 2) Ae) (Bw T.len (pv 6))) (λ_ _=>rfl)))
   (Ac (Ay (Ar Hq (pv 4) (Ca (Ic (xs:=["say","onwards"]) (by rfl))) rfl) (Af (Ao (Ca (Du (pv 4))))) Ap)
   (Ac (Ay (Ar Cc (pv 4) Ba (Au _)) (Af (Ao (Ca (Em (pv 4) (pv 7))))) Ap)
   (Ac (Ay (Ar Cc (pv 4) Ba (Au _)) (Af (Ao (Ca (Iz (pv 4) (pv 7) (As Bj (pv 6) (Aq Cb (Aq Dy (pv 2) Ae) (Bw T.len (pv 6))) (λ_ _=>rfl)))))) Ap)
   (Ac (Ay (PW.pt (Px (Ar Hq (pv 4) (Ca (Ic (xs:=["part","over"]) (by rfl))) rfl) (Lu (Ar Cc (pv 5) Ae (Au _))))) (Af (Ao (Ca (Em (pv 4) (Jy Gx Ae))))) Ap)
   (Ac (Ay (Ar Hq (pv 4) (Ca (Ic (xs:=["down","up"]) (by rfl))) rfl) (Af (Ao (Ca (Em (pv 4) (Bz lU rfl mAbs PyProof.Rows.boot_abs (Du (pv 5))))))) Ap)
   (Af (Ao (Ca (Em (pv 4) (pv 5))))))))))))),λD H1 l hD s1 el=>?_⟩
  refine⟨_,rfl,_,rfl,_,_,rfl,rfl,(by show (0:Int) < 23;decide),l,_,_,_,rfl,rfl,Aw.of el,uK m,?_⟩
  have kop:=AR _ (qM m)
  generalize kdAt m=kd at *
  refine⟨_,rfl,_,_,rfl,rfl,⟨by decide,by decide⟩,_,_,rfl,rfl,(by show (0:Int) < 15;decide),_,_,rfl,rfl,?_⟩
  have a0:0<=m / 23 % 15:=ME _ (by decide)
  have a1:m / 23 % 15 < 15:=LZ _ (by decide)
  generalize m / 23 % 15=am at *
  refine⟨_,rfl,_,rfl,_,rfl,wa,_,rfl,Aw.of (s1 _ _ hwa),λsm hsm=>?_⟩
  rw[Ot _ _ (by rw[Av];omega)]
  have e2:(Az ws).drop a=Az (ws.drop a):=by unfold Az;rw[RP]
  rw[e2]
  obtain⟨H2,zz,s2,esm⟩:=lay hsm (.lst (Az (ws.drop a)))
  rw[zz]
  have hdl:0 < (ws.drop a).length:=by rw[MW];omega
  have sA':=s1.trans s2
  have pick:∀x:Int,∃y,Jb (Az (ws.drop a)) (x % ((Az (ws.drop a)).length:Int))=some (.str y)/\y∈ws:=λx=>by
   rw[Av]
   obtain⟨k,hk,hk2⟩:=Vv (x:=x) hdl
   rw[hk]
   exact⟨(ws.drop a)[k],Bc (Ms (JK hk2)),PX (OO hk2)⟩
  obtain⟨y1,hy1,hy1m⟩:=pick (m / 345)
  obtain⟨y2,hy2,hy2m⟩:=pick (m / 2415)
  have hln:(0:Int) < ((Az (ws.drop a)).length:Int):=by rw[Av];omega
  refine⟨_,rfl,_,rfl,_,_,rfl,rfl,⟨by decide,by decide⟩,_,rfl,sm,_,rfl,.inl (Aw.of esm),_,_,rfl,rfl,hln,sm,_,_,_,rfl,rfl,Aw.of esm,hy1,?_⟩
  have z2:2<=JQ:=by rw[KS];decide
  have z1:1<=JQ:=by rw[KS];decide
  refine⟨_,rfl,by show 2<=JQ;exact z2,λtp htp=>⟨tp,_,rfl,.inr (Ck.of Aa),rfl,rfl,_,rfl,?_⟩⟩
  have s3:=Ag htp (.tup ((["say","onwards"]:List Str).map V.str))
  have sB':=sA'.trans s3
  have esm3:=s3 _ _ esm
  generalize upd H2 tp (.tup ((["say","onwards"]:List Str).map V.str))=H3 at *
  refine Br (λc=>?_) (λc=>?_)
  ·refine⟨_,rfl,by show 1<=JQ;exact z1,λt ht=>?_⟩
   rw[hD]
   rcases We.mp c with e | e
   ·subst e
    exact q t _ (.sm .say) (sB'.trans (Ag ht _)) Aa trivial
   ·subst e
    exact q t _ .onw (sB'.trans (Ag ht _)) Aa trivial
  have c1:¬ kd = "say" := λz=>c (We.mpr (.inl z))
  have c2:¬ kd = "onwards" := λz=>c (We.mpr (.inr z))
  refine⟨_,rfl,rfl,_,rfl,Br (λc3=>?_) (λc3=>?_)⟩
  ·refine⟨_,rfl,_,rfl,by show 2<=JQ;exact z2,λt ht=>?_⟩
   rw[hD]
   obtain rfl:=Bq c3
   exact q t _ (.ask y1) (sB'.trans (Ag ht _)) Aa hy1m
  refine⟨_,rfl,rfl,_,rfl,Br (λc4=>?_) (λc4=>?_)⟩
  ·refine⟨_,rfl,_,rfl,_,rfl,_,rfl,_,_,rfl,rfl,⟨by decide,by decide⟩,_,rfl,sm,_,rfl,.inl (Aw.of esm3),_,_,rfl,rfl,hln,sm,_,_,_,rfl,rfl,Aw.of esm3,hy2,by rw[KS];show 3<=_;decide,λt ht=>?_⟩
   rw[hD]
   obtain rfl:=Bq c4
   exact q t _ (.tri y1 y2) (sB'.trans (Ag ht _)) Aa ⟨hy1m,hy2m⟩
  have hm:=kop c1 c2 (Cz c3) (Cz c4)
  have eb:big=1000000000000000000000000000000:=by decide
  have fin:∀(b:Int)(t:JO)(H4:Hp),Am H3 H4->H4 t=none -> -big<=b->b<=big->(kd = "over" ∨ kd = "part" -> b≠0)->(kd = "up" ∨ kd = "down" -> 0<=b/\b<=64)->Q (.ref t) (upd H4 t (.tup [.str kd,.int b])):=λb t H4 s4 ht b0 b1 b2 b3=>
   q t _ (.sm (.op kd b)) (sB'.trans (s4.trans (Ag ht _))) Aa ⟨hm,b0,b1,b2,b3⟩
  refine⟨_,rfl,by show 2<=JQ;exact z2,λtp2 htp2=>⟨tp2,_,rfl,.inr (Ck.of Aa),rfl,rfl,_,rfl,?_⟩⟩
  have s4:=Ag htp2 (.tup ((["part","over"]:List Str).map V.str))
  generalize upd H3 tp2 (.tup ((["part","over"]:List Str).map V.str))=H4 at *
  have z7:∀ {p q:Str},kd=p->kd=q->p≠q->False:=λh1 h2 h3=>h3 (h1.symm.trans h2)
  refine Br (λc5=>?_) (λc5=>Eb ?_)
  ·have k5:=We.mp c5
   refine⟨_,rfl,rfl,_,rfl,Br (λc6=>?_) (λc6=>?_)⟩
   ·refine⟨_,rfl,_,rfl,by show 2<=JQ;exact z2,λt ht=>?_⟩
    rw[hD]
    refine fin (-5) t H4 s4 ht (by rw[eb];decide) (by rw[eb];decide) (λ_=>by decide) (λz=>?_)
    rcases k5 with h | h<;>rcases z with z | z<;>rw[h] at z<;>revert z<;>decide +kernel
   ·have c7:am-7≠0:=λh=>c6 (decide_eq_true (congrArg V.int h))
    refine⟨_,rfl,by show 2<=JQ;exact z2,λtp3 htp3=>⟨tp3,_,rfl,.inr (Ck.of Aa),rfl,rfl,_,rfl,?_⟩⟩
    have s5:=s4.trans (Ag htp3 (.tup ((["down","up"]:List Str).map V.str)))
    refine Br (λc8=>?_) (λc8=>?_)
    ·exfalso
     rcases We.mp c8 with z | z<;>rcases k5 with h | h<;>rw[h] at z<;>revert z<;>decide +kernel
    ·refine⟨_,rfl,_,rfl,by show 2<=JQ;exact z2,λt ht=>?_⟩
     rw[hD]
     exact fin _ t _ s5 ht (by rw[eb];omega) (by rw[eb];omega) (λ_=>c7) (λz=>absurd (We.mpr z.symm) c8)
  ·have k5:¬ (kd = "part" ∨ kd = "over"):=λz=>c5 (We.mpr z)
   refine⟨_,rfl,by show 2<=JQ;exact z2,λtp3 htp3=>⟨tp3,_,rfl,.inr (Ck.of Aa),rfl,rfl,_,rfl,?_⟩⟩
   have s5:=s4.trans (Ag htp3 (.tup ((["down","up"]:List Str).map V.str)))
   refine Br (λc8=>?_) (λc8=>?_)
   ·refine⟨_,rfl,_,rfl,_,rfl,by show 2<=JQ;exact z2,λt ht=>?_⟩
    rw[hD]
    exact fin _ t _ s5 ht (by rw[eb];split<;>omega) (by rw[eb];split<;>omega) (λz=>absurd z.symm k5) (λ_=>by split<;>omega)
   ·refine⟨_,rfl,_,rfl,by show 2<=JQ;exact z2,λt ht=>?_⟩
    rw[hD]
    exact fin _ t _ s5 ht (by rw[eb];omega) (by rw[eb];omega) (λz=>absurd z.symm k5) (λz=>absurd (We.mpr z.symm) c8)
 intro t4 h4 p4
 have hA:=DY h4 rfl rfl
 have hB:=BW h4 rfl rfl (λ_=>pv 3)
 refine eK hA ?_
 refine eK hB ?_
 refine⟨_,h4,?_⟩
 refine⟨by show 12<=JQ;decide,λl1 hl1=>?_⟩
 refine⟨_,rfl,by show 11<=JQ;decide,λl2 hl2=>?_⟩
 have n12:l1≠l2:=λz=>by rw[<- z,Aa] at hl2;cases hl2
 have s1:=Ag hl1 (.lst (Rh.map V.str))
 have s2:=Ag hl2 (.lst (Ro.map V.str))
 refine⟨l1,l2,_,_,rfl,rfl,by rw[Aj n12];exact Aa,Aa,by show 23<=JQ;decide,λl3 hl3=>?_⟩
 exact p4 _ _ l3 rfl ((s1.trans s2).trans (Ag hl3 _)) Aa
abbrev IK:List Str:=["_law_words","_law_first","_law_cell"]
theorem FG:An IK ["_law_words","_law_first","_law_cell"] (Ad Ob):=Ez (by decide +kernel)
theorem FY:(["_law_k","_law_cell","_law_first","_law_words"]:List Str).Nodup:=by decide +kernel
theorem BO(F:Di K "_law_body_by" "_law_body_by" Ob f fd)(T:Txt mg)(GM:Al P w K mg base Bi 1 fM dM ["_law_cell","_law_k"] Oi)(kM:JV K (.ref fM)=true)(bM:Binds K dM ["_law_cell","_law_k"] [])(mM:mg "_law_mixed" = some (.ref fM))(GS:Al P w K mg base Bi 1 fS dS ["_law_words","_law_first","_law_mixed_here"] Ox)(kS:JV K (.ref fS)=true)(bS:Binds K dS ["_law_words","_law_first","_law_mixed_here"] [])(mS:mg "_law_step_by" = some (.ref fS)):Al P w K mg base Bi 2 f fd ["_law_words","_law_first","_law_cell"] Jk:=by
 refine F.ok FG (λvs H Q E h=>?_) (λcdv A outer s H vs Q E hr h=>?_)
 ·obtain⟨wa,ws,a,c,rfl,_⟩:=h
  rfl
 obtain⟨wa,ws,a,c,rfl,hwa,ha,hwl,q⟩:=h
 refine⟨_,Af (Ao (He (Ad Ob) IK ["_law_k"] [("_law_cell", 2),("_law_first", 1),("_law_words", 0)] rfl (Fc rfl T.range (Du (Aq Cb (pv 2) Ae))) (Bm (i:=0) (by decide))
  (λ_ _ _ _ _ _=>⟨Dg 0 FY,Dr,Cf GS hr mS kS bS (Iz (pv 3) (pv 2) (Cf GM hr mM kM bM (Em (Aq Dy (pv 1) Ae) (pv 0))))⟩))),?_⟩
 have b0:0<=c % 5:=ME _ (by decide)
 have b1:c % 5 < 5:=LZ _ (by decide)
 refine⟨_,rfl,_,_,rfl,rfl,(by show (0:Int) < 5;decide),_,rfl,by omega,by omega,Ir (k:=(c % 5).toNat) (λi ys H2=>Am H H2/\∃(ts:List JO)(ss:List Stp),ys=ts.map V.ref/\ts.length=i/\Dp H2 ts (ss.map Stp.pr)/\∀s∈ss,AG ws s) ⟨Am.refl _,[],[],rfl,rfl,⟨rfl,λi t p h=>by simp at h⟩,λs hs=>nomatch hs⟩ ?_ ?_⟩
 ·rintro i ys H2 hi ⟨s2,ts,ss,rfl,htl,hst,hok⟩
  refine⟨_,rfl,_,rfl,_,rfl,_,_,rfl,rfl,⟨by decide,by decide⟩,_,rfl,_,_,rfl,λm hm=>?_⟩
  refine⟨wa,ws,a,m,rfl,s2 _ _ hwa,ha,hwl,λt H3 s' s3 et hw=>?_⟩
  have hsl:ss.length=ts.length:=by rw[hst.1,JJ]
  refine⟨by rw[JJ,htl,KS];omega,s2.trans s3,ts++[t],ss++[s'],by rw[JX];rfl,by rw[JN,htl];rfl,⟨by rw[JN,JX,JN,hst.1];rfl,λj t' p h1 h2=>?_⟩,λz hz=>?_⟩
  ·by_cases hj:j < ts.length
   ·rw[KN hj] at h1
    rw[JX,KN (by rw[JJ,hsl];exact hj)] at h2
    exact s3 _ _ (hst.2 j t' p h1 h2)
   ·have hjl:j < (ts++[t]).length:=(JF.mp h1).1
    rw[JN,JY] at hjl
    obtain rfl:j=ts.length:=by omega
    rw[KH] at h1
    cases h1
    rw[JX,<- hsl,<- JJ (f:=Stp.pr),List.map_singleton,KH] at h2
    cases h2
    exact et
  ·rcases KO.mp hz with h | h
   ·exact hok z h
   ·rw[JP.mp h]
    exact hw
 ·rintro ys H2 ⟨s2,ts,ss,rfl,htl,hst,hok⟩ l hl
  have s3:=Ag hl (.lst (ts.map V.ref))
  refine q l ts ss _ (s2.free hl) (s2.trans s3) Aa (hst.same s3) hok ?_
  have:ss.length=ts.length:=by rw[hst.1,JJ]
  omega
end
end Bk
namespace Bk
open PySem L2 Mg Nm Rk PySem.SeqAt
structure cU(ks:List (Str×JO×List Str)):Prop where
 non:∀kd∈(["say","onwards"]:List Str),∃a,kindsOf ks kd=some (a,[])
 amt:∀kd∈(["put","plus","times","both","any","odd"]:List Str),∃a,kindsOf ks kd=some (a,([("amount" : Str)]:List Str))
 dv:∀kd∈(["over","part"]:List Str),∃a,kindsOf ks kd=some (a,([("divisor" : Str)]:List Str))
 sh:∀kd∈(["up","down"]:List Str),∃a,kindsOf ks kd=some (a,([("shift" : Str)]:List Str))
 ask:∃a,kindsOf ks "ask" = some (a,([("word" : Str)]:List Str))
 try_:∃a,kindsOf ks "try" = some (a,([("word" : Str),("word" : Str)]:List Str))
theorem Uy{y:Str}(h:Fz y=true):Ew "word" (.str y)=true:=by
 unfold Ew
 rw[if_pos rfl]
 exact h
theorem Qb{lo hi a:Int}(h0:lo<=a)(h1:a<=hi):sL lo hi (.int a)=true:=by
 show (decide (lo<=a) && decide (a<=hi))=true
 rw[decide_eq_true h0,decide_eq_true h1]
 rfl
theorem oF{a:Int}(h0 : -big<=a)(h1:a<=big):Ew "amount" (.int a)=true:=by
 unfold Ew
 rw[if_neg (by decide +kernel),if_neg (by decide +kernel),if_neg (by decide +kernel)]
 exact Qb h0 h1
theorem sX{a:Int}(h0 : -big<=a)(h1:a<=big)(hz:a≠0):Ew "divisor" (.int a)=true:=by
 unfold Ew
 rw[if_neg (by decide +kernel),if_neg (by decide +kernel),if_pos rfl,Qb h0 h1,decide_eq_false (λz=>hz (V.int.inj z))]
 rfl
theorem vL{a:Int}(h0:0<=a)(h1:a<=64):Ew "shift" (.int a)=true:=by
 unfold Ew
 rw[if_neg (by decide +kernel),if_pos rfl]
 exact Qb h0 h1
theorem Rw{ks:List (Str×JO×List Str)}{kd:Str}{ad:JO}(hk:kindsOf ks kd=some (ad,[])):Hu ks kd []:=⟨ad,[],hk,rfl,λi v k hv _=>by simp at hv⟩
theorem Kz{ks:List (Str×JO×List Str)}{kd k:Str}{u:V}{ad:JO}(hk:kindsOf ks kd=some (ad,[k]))(hp:Ew k u=true):Hu ks kd [u]:=⟨ad,[k],hk,rfl,λi v k' hv hk'=>by
 have hi:i < 1:=(JF.mp hv).1
 obtain rfl:i=0:=by omega
 cases hv
 cases hk'
 exact hp⟩
theorem nS{ks:List (Str×JO×List Str)}{kd k k2:Str}{u u2:V}{ad:JO}(hk:kindsOf ks kd=some (ad,[k,k2]))(hp:Ew k u=true)(hp2:Ew k2 u2=true):Hu ks kd [u,u2]:=⟨ad,[k,k2],hk,rfl,λi v k' hv hk'=>by
 have hi:i < 2:=(JF.mp hv).1
 match i,hi with
 | 0,_=>cases hv;cases hk';exact hp
 | 1,_=>cases hv;cases hk';exact hp2⟩
theorem rE{ks:List (Str×JO×List Str)}(T:cU ks){ws:List Str}(hw:∀y∈ws,Fz y=true){s:Stp}(h:AG ws s):Hu ks s.pr.1 s.pr.2/\(∀v∈s.pr.2,PV v)/\s.pr.2.length<=100:=by
 have pvs:∀ {y:Str},y∈ws->PV (.str y):=λ{y} hy=>.inr ⟨y,rfl,by
  have:=hw y hy
  unfold Fz at this
  rw[MJ,MJ] at this
  have:=of_decide_eq_true this.1.2
  rw[KS]
  omega⟩
 cases s with
 | onw=>
  obtain⟨a,ha⟩:=T.non "onwards" (by decide +kernel)
  exact⟨Rw ha,(λv hv=>nomatch hv),by show 0<=100;decide⟩
 | ask y=>
  obtain⟨a,ha⟩:=T.ask
  have hy:y∈ws:=h
  refine⟨Kz ha (Uy (hw y hy)),λv hv=>?_,by show 1<=100;decide⟩
  rw[JP.mp hv]
  exact pvs hy
 | tri y z=>
  obtain⟨a,ha⟩:=T.try_
  have hh:y∈ws/\z∈ws:=h
  refine⟨nS ha (Uy (hw y hh.1)) (Uy (hw z hh.2)),λv hv=>?_,by show 2<=100;decide⟩
  rcases JT.mp hv with rfl | hv
  ·exact pvs hh.1
  ·rw[JP.mp hv]
   exact pvs hh.2
 | sm s=>
  cases s with
  | say=>
   obtain⟨a,ha⟩:=T.non "say" (by decide +kernel)
   exact⟨Rw ha,(λv hv=>nomatch hv),by show 0<=100;decide⟩
  | op kd a=>
   have h':xH kd a:=h
   refine⟨?_,λv hv=>.inl ⟨a,JP.mp hv⟩,by show 1<=100;decide⟩
   have m:=h'.mem
   unfold Qw at m
   simp only[JT,KL,or_false] at m
   by_cases hd:kd = "over" ∨ kd = "part"
   ·obtain⟨ad,e⟩:=T.dv kd (by rcases hd with rfl | rfl<;>decide +kernel)
    exact Kz e (sX h'.lo h'.hi (h'.dv hd))
   by_cases hs:kd = "up" ∨ kd = "down"
   ·obtain⟨ad,e⟩:=T.sh kd (by rcases hs with rfl | rfl<;>decide +kernel)
    exact Kz e (vL (h'.sh hs).1 (h'.sh hs).2)
   ·obtain⟨ad,e⟩:=T.amt kd (by
     rcases m with rfl | rfl | rfl | rfl | rfl | rfl | rfl | rfl | rfl | rfl
     ·decide +kernel
     ·decide +kernel
     ·decide +kernel
     ·exact absurd (.inl rfl) hd
     ·decide +kernel
     ·decide +kernel
     ·decide +kernel
     ·exact absurd (.inl rfl) hs
     ·exact absurd (.inr rfl) hs
     ·exact absurd (.inr rfl) hd)
    exact Kz e (oF h'.lo h'.hi)
theorem Rz{ks:List (Str×JO×List Str)}(T:cU ks){ws:List Str}(hw:∀y∈ws,Fz y=true){ss:List Stp}(h:∀s∈ss,AG ws s)(hl:ss.length<=30):Mu ks (ss.map Stp.pr):=by
 refine⟨by rw[JJ];exact hl,λp hp=>?_⟩
 obtain⟨s,hs,rfl⟩:=LR.mp hp
 exact rE T hw (h s hs)
def Md(H H':Hp):Prop:=∀b o,H b=some o->(∀z,o ≠ .dK z)->(∀z,o ≠ .dT z)->H' b=some o
theorem Md.of_same{H H':Hp}(s:Am H H'):Md H H':=λb o h _ _=>s b o h
theorem Md.trans{H H' H'':Hp}(a:Md H H')(b:Md H' H''):Md H H'':=λc o h n m=>b c o (a c o h n m) n m
theorem Md.lst{H H':Hp}(k:Md H H'){b:JO}{xs:List V}(h:H b=some (.lst xs)):H' b=some (.lst xs):=k b _ h (by intro z e;cases e) (by intro z e;cases e)
theorem Hm.kp{H H':Hp}{la:JO}{ss:List Stp}(h:Hm H la ss)(k:Md H H'):Hm H' la ss:=h.keep λb o e z=>k b o e (by rcases z with ⟨xs,rfl⟩ | ⟨xs,rfl⟩<;>intro y e<;>cases e) (by rcases z with ⟨xs,rfl⟩ | ⟨xs,rfl⟩<;>intro y e<;>cases e)
def gR(CB CH:JO)(H0 H:Hp)(p d ka:JO)(ns:List Str)(m:Nat):Prop:=∃(L:List Ent)(kvs:List (List Key×V))(B:Ci),cO CB CH H p d L B/\H ka=some (.dT kvs)/\L.map (·.nm)=ns/\kvs.length<=m/\(∀e∈L,e.bd.length<=m)/\Md H0 H
theorem gR.same{CB CH:JO}{H0 H H':Hp}{p d ka:JO}{ns:List Str}{m:Nat}(h:gR CB CH H0 H p d ka ns m)(s:Am H H'):gR CB CH H0 H' p d ka ns m:=
 let ⟨L,kvs,B,a,z,b,c,e,k⟩:=h;⟨L,kvs,B,a.same s,s _ _ z,b,c,e,k.trans (Md.of_same s)⟩
theorem gR.mono{CB CH:JO}{H0 H:Hp}{p d ka:JO}{ns:List Str}{m m':Nat}(h:gR CB CH H0 H p d ka ns m)(hm:m<=m'):gR CB CH H0 H p d ka ns m':=
 let ⟨L,kvs,B,a,z,b,c,e,k⟩:=h;⟨L,kvs,B,a,z,b,KZ c hm,λx hx=>KZ (e x hx) hm,k⟩
def Kb(CB CH:JO):Sp:=λvs H Q _=>∃(p d na wa:JO)(L:List Ent)(ws:List Str)(sd:Int),vs=[.ref p,.ref na,.ref wa,.int sd]/\Be CB CH H p d L/\Gv L/\L.length<=40/\(∀e∈L,e.bd=[])/\H na=some (.lst (Az (L.map (·.nm))))/\H wa=some (.lst (Az ws))/\ws.length<=7/\(∀y∈ws,Fz y=true) /\
 ∀ka H',gR CB CH H H' p d ka (L.map (·.nm)) 300->Q (.ref ka) H'
section
variable {P:KI} {w:LQ} {K:JG} {mg:Str->Option JH} {base:MV} {f fM fB fE CB CH:JO} {fd dM dB dE:LG} {ks:List (Str×JO×List Str)}
theorem Fh:An ["_law_book","_law_names","_law_words","_law_seed","_law_known","_law_at","_law_k","_law_mixed_here","_law_first"] ["_law_book","_law_names","_law_words","_law_seed"] (Ad Uv):=Ez (by decide +kernel)
theorem cF(F:Di K "_law_taught" "_law_taught" Uv f fd)(T:Ha K mg CB CH)(Tx:Txt mg)(Tp:cU ks)(GM:Al P w K mg base Bi 1 fM dM ["_law_cell","_law_k"] Oi)(kM:JV K (.ref fM)=true)(bM:Binds K dM ["_law_cell","_law_k"] [])(mM:mg "_law_mixed" = some (.ref fM))(GB:Al P w K mg base Bi 3 fB dB ["_law_words","_law_first","_law_cell"] Jk)(kB:JV K (.ref fB)=true)(bB:Binds K dB ["_law_words","_law_first","_law_cell"] [])(mB:mg "_law_body_by" = some (.ref fB))(GE:Al P w K mg base Bi 6 fE dE ["self","name","word","body"] (Ky CB CH ks))(bE:Binds K dE ["self","name","word","body"] [])(mE:Dt K CB "teach" fE):Al P w K mg base Bi 7 f fd ["_law_book","_law_names","_law_words","_law_seed"] (Kb CB CH):=by
 refine F.ok Fh (λvs H Q E h=>?_) (λcdv A outer s H vs Q E hr h=>?_)
 ·obtain⟨p,d,na,wa,L,ws,sd,rfl,_⟩:=h
  rfl
 obtain⟨p,d,na,wa,L,ws,sd,rfl,B,O,hL,hbd,ena,ewa,hws,hok,q⟩:=h
 have hr1:=hr.mono (j:=1) (by decide)
 have hr3:=hr.mono (j:=3) (by decide)
 have hu:=Fo hr
 refine⟨_,Ac (Bv 4 Fh.nd pU)
  (Ac (Eh MN rfl (Fc rfl Tx.range (Du (Bw Tx.len (pv 1)))) (Dg 5 Fh.nd)
   (Af (Eh MN rfl (Fc rfl Tx.range (Du (Aq Jo (Bw Tx.len (pv 2)) Ae))) (Dg 6 Fh.nd)
    (Ac (Bv 7 Fh.nd (Cf GM hr1 mM kM bM (Em (pv 3) (Aq Cm (Aq Ku Ae (pv 5)) (pv 6)))))
    (Af (Ay (Ar Xf (Aq Cb (pv 7) Ae) Ae (Au _))
     (Ac (Bv 8 Fh.nd Ae)
     (Ac (Ay (Ar Xf (Aq Cb (pv 3) Ae) Ae (Au _)) (Af (Bv 8 Fh.nd (Aq Cm (pv 6) Ae))) Ap)
     (Ac (Gd hu (pv 4) (Ca (Em (As Bj (pv 1) (pv 5) (λ_ _=>rfl)) (As Bj (pv 2) (pv 6) (λ_ _=>rfl)))) (Cf GB hr3 mB kB bB (Iz (pv 2) (pv 8) (Aq Dy (pv 7) Ae))) rfl)
     (Af (Bx (Ee (pv 0) T.clB mE GE hr bE .nil Dh (Iz (As Bj (pv 1) (pv 5) (λ_ _=>rfl)) (As Bj (pv 2) (pv 6) (λ_ _=>rfl)) (Ie hu (pv 4) (Ca (Em (As Bj (pv 1) (pv 5) (λ_ _=>rfl)) (As Bj (pv 2) (pv 6) (λ_ _=>rfl)))) (λ_ _=>rfl))))))))) Ap))))))
  (Af (Ao (pv 4)))),?_⟩
 intro ka hka
 obtain⟨H1,zz,s1,e1⟩:=lay hka (.dT [])
 rw[zz]
 have S1:gR CB CH H H1 p d ka (L.map (·.nm)) 0:=⟨L,[],λ_ _=>none,⟨B.same s1,O,λe he w _=>by rw[hbd e he];rfl,(λe he w ss h=>nomatch h),(λy w ss h=>nomatch h),λe he=>⟨[],hbd e he,OV⟩⟩,e1,rfl,JM _,λe he=>by rw[hbd e he];exact JM _,Md.of_same s1⟩
 have ln:(Az (L.map (·.nm))).length=L.length:=by rw[Av,JJ]
 have lw:(Az ws).length=ws.length:=Av ws
 refine⟨_,rfl,na,_,rfl,.inl (Aw.of (s1 _ _ ena)),_,rfl,by rw[ln];omega,by rw[ln];omega,Hv (n:=((Az (L.map (·.nm))).length:Int).toNat) (λi σ H2=>∃v5 v6 v7 v8,σ=[some (.ref p),some (.ref na),some (.ref wa),some (.int sd),some (.ref ka),v5,v6,v7,v8]/\gR CB CH H H2 p d ka (L.map (·.nm)) (i * 7)) ⟨_,_,_,_,rfl,S1⟩ ?_ ?_⟩
 ·rintro i σ H2 hi ⟨v5,v6,v7,v8,rfl,S2⟩
  rw[Int.zero_add]
  have hi':i < L.length:=by omega
  have ena2:H2 na=some (.lst (Az (L.map (·.nm)))):=let ⟨_,_,_,_,_,_,_,_,kx⟩:=S2;kx.lst ena
  have ewa2:H2 wa=some (.lst (Az ws)):=let ⟨_,_,_,_,_,_,_,_,kx⟩:=S2;kx.lst ewa
  obtain⟨x,hx⟩:∃x,(L.map (·.nm))[i]? = some x:=⟨_,JK (by rw[JJ];exact hi')⟩
  have atx:Jb (Az (L.map (·.nm))) (i:Int)=some (.str x):=Bc (by unfold Az;rw[KP,hx];rfl)
  refine⟨_,rfl,wa,_,rfl,.inl (Aw.of ewa2),_,_,rfl,rfl,_,rfl,by rw[lw];omega,by rw[lw];omega,Hv (n:=(((Az ws).length:Int)-1).toNat) (λj σ H3=>∃v6 v7 v8,σ=[some (.ref p),some (.ref na),some (.ref wa),some (.int sd),some (.ref ka),some (.int (i:Int)),v6,v7,v8]/\gR CB CH H H3 p d ka (L.map (·.nm)) (i * 7+j)) ⟨_,_,_,rfl,S2⟩ ?_ ?_⟩
  ·rintro j σ H3 hj ⟨v6,v7,v8,rfl,hS⟩
   rw[Int.zero_add]
   have hj':j+1 < ws.length:=by omega
   have ena3:H3 na=some (.lst (Az (L.map (·.nm)))):=let ⟨_,_,_,_,_,_,_,_,kx⟩:=hS;kx.lst ena
   have ewa3:H3 wa=some (.lst (Az ws)):=let ⟨_,_,_,_,_,_,_,_,kx⟩:=hS;kx.lst ewa
   obtain⟨y,hy⟩:∃y,ws[j]? = some y:=⟨_,JK (by omega)⟩
   have aty:Jb (Az ws) (j:Int)=some (.str y):=Bc (by unfold Az;rw[KP,hy];rfl)
   refine⟨_,rfl,_,rfl,_,_,rfl,rfl,.inl ⟨by decide,by decide⟩,_,rfl,_,_,rfl,rfl,sd,_,rfl,λm hm=>?_⟩
   refine⟨_,rfl,_,_,rfl,rfl,(by show (0:Int) < 4;decide),_,_,rfl,rfl,_,rfl,Br (λc1=>?_) (λc1=>⟨_,_,_,rfl,hS.mono (by omega)⟩)⟩
   refine⟨_,rfl,_,_,rfl,rfl,(by show (0:Int) < 3;decide),_,_,rfl,rfl,_,rfl,Br (λc2=>⟨_,rfl,_,_,rfl,rfl,?_⟩) (λc2=>?_)⟩
   all_goals
    first
     | refine⟨_,rfl,_,rfl,_,rfl,_,_,rfl,rfl,⟨by decide,by decide⟩,wa,ws,j+1,_,rfl,ewa3,by omega,by omega,λlb ts ss H4 hlb s4 elb hst hss hsl=>?_⟩
     | refine⟨_,rfl,_,rfl,_,rfl,_,_,rfl,rfl,⟨by decide,by decide⟩,wa,ws,0,_,rfl,ewa3,by omega,by omega,λlb ts ss H4 hlb s4 elb hst hss hsl=>?_⟩
    obtain⟨L',kvs,Bd,S,hdc,hns,hkl,hbl,kx⟩:=(hS.same s4)
    have ena4:=s4 _ _ ena3
    have ewa4:=s4 _ _ ewa3
    obtain⟨e,he,hnm⟩:∃e,L'[i]? = some e/\e.nm=x:=by
     rw[<- hns,KP] at hx
     cases z:L'[i]? with
     | none=>rw[z] at hx;cases hx
     | some e=>rw[z] at hx;exact⟨e,rfl,LC hx⟩
    subst hnm
    refine⟨_,rfl,_,rfl,_,rfl,na,_,_,_,rfl,rfl,Aw.of ena4,atx,_,rfl,_,rfl,wa,_,_,_,rfl,rfl,Aw.of ewa4,aty,by show 2<=JQ;decide,λtk htk=>?_⟩
    obtain⟨H5,zz,s5,e5⟩:=lay htk (.tup [V.str e.nm,V.str y])
    rw[zz]
    have S5:=S.same s5
    have dc5:=s5 _ _ hdc
    refine⟨ka,_,rfl,Kr.t (k:=[(KJ e.nm:Key),KJ y]) dc5 e5 (by rw[KS];omega),?_⟩
    have k6:∀b o,H5 b=some o->b≠ka->(upd H5 ka (.dT (putK kvs [(KJ e.nm:Key),KJ y] (.ref lb)))) b=some o:=λb o h n=>by rw[Aj n];exact h
    have d6:(upd H5 ka (.dT (putK kvs [(KJ e.nm:Key),KJ y] (.ref lb)))) ka=some (.dT (putK kvs [(KJ e.nm:Key),KJ y] (.ref lb))):=Aa
    generalize upd H5 ka (.dT (putK kvs [(KJ e.nm:Key),KJ y] (.ref lb)))=H6 at *
    have kx6:Md H5 H6:=λb o h _ n=>k6 b o h (Cd h dc5 (n _))
    have ena6:=kx6.lst (s5 _ _ ena4)
    have ewa6:=kx6.lst (s5 _ _ ewa4)
    have S6:cO CB CH H6 p d L' Bd:=S5.keepT λb o h n=>k6 b o h (Cd h dc5 (n _))
    have B6:=S6.bk
    obtain⟨dx6,hp6⟩:=B6.ob
    refine⟨_,rfl,p,dx6,_,rfl,hp6,Gs d (by decide +kernel),_,rfl,_,rfl,na,_,_,_,rfl,rfl,Aw.of ena6,atx,_,rfl,_,rfl,wa,_,_,_,rfl,rfl,Aw.of ewa6,aty,_,rfl,_,rfl,_,rfl,na,_,_,_,rfl,rfl,Aw.of ena6,atx,_,rfl,_,rfl,wa,_,_,_,rfl,rfl,Aw.of ewa6,aty,by show 2<=JQ;decide,λtk2 htk2=>?_⟩
    obtain⟨H7,zz,s7,e7⟩:=lay htk2 (.tup [V.str e.nm,V.str y])
    rw[zz]
    have d7:=s7 _ _ d6
    have g7:=Et.t (k:=[(KJ e.nm:Key),KJ y]) d7 e7
    rw[Fp,if_pos rfl] at g7
    have hb5:Hm H5 lb ss:=Hm.kp ⟨ts,elb,hst⟩ (Md.of_same s5)
    have hb7:Hm H7 lb ss:=(hb5.kp kx6).kp (Md.of_same s7)
    obtain⟨ts',elb7,hst7⟩:=hb7
    have B7:=B6.same s7
    have hem:=KD he
    have hyk:=hok y (KD hy)
    have hyl:y.length<=20:=by
     unfold Fz at hyk
     rw[MJ,MJ] at hyk
     exact of_decide_eq_true hyk.1.2
    refine⟨ka,.ref lb,rfl,g7,p,d,lb,L',e.nm,y,e,ts',ss.map Stp.pr,rfl,B7,Mn B7.nd hem,hyk,by rw[KS];omega,elb7,hst7,Rz Tp hok hss (by omega),by have:=hbl e hem;omega,λla H8 hla ela eba k8=>?_⟩
    have E7:=(B7.en e hem).bd
    have kx8:Md H7 H8:=λb o h n _=>k8 b o h (Cd h E7 (n _))
    have hla8:Hm H8 la ss:=⟨ts',ela,hst7.1,λa t pr h1 h2=>kx8 _ _ (hst7.2 a t pr h1 h2) (by intro z e;cases e) (by intro z e;cases e)⟩
    have S8:=(S6.same s7).put he (w:=y) (ss:=ss) ⟨λs hs=>(hss s hs).ok,by omega⟩ k8 eba hla8
    have d8:=k8 _ _ d7 (Cd d7 E7 (by intro z;cases z))
    refine⟨_,_,_,rfl,_,_,_,S8,d8,(Ef (f:=λx:Ent=>x.nm) (e':={ e with bd:=putK e.bd (KJ y:Key) (.ref la) }) he rfl).trans hns,?_,λe1 he1=>?_,(((kx.trans (Md.of_same s5)).trans kx6).trans (Md.of_same s7)).trans kx8⟩
    ·have:=Dm kvs [(KJ e.nm:Key),KJ y] (.ref lb)
     omega
    ·rcases RC he1 with z | z
     ·have:=hbl e1 z
      omega
     ·rw[z]
      have h1:=Dm e.bd (KJ y:Key) (.ref la)
      have h2:=hbl e hem
      show (putK e.bd (KJ y:Key) (.ref la)).length<=_
      omega
  ·rintro σ H3 ⟨v6,v7,v8,rfl,hS⟩
   exact⟨_,_,_,_,rfl,hS.mono (by omega)⟩
 ·rintro σ H2 ⟨v5,v6,v7,v8,rfl,S2⟩
  exact⟨_,rfl,q ka H2 (S2.mono (by omega))⟩
end
end Bk
namespace L2
open PySem PySem.Spec PyProof.Rows
def ES(K:JG):List V->Hp->VK->Prop:=λxs H Q=>∃p ys T b,xs=[.ref p,.ty T]/\Ck K H p ys/\QK K (.type "tuple") (.type T)=some b/\Q (.bl b) H
theorem iT{X:Cx}:Fk X (.builtin "isinstance") (ES X.K):=by
 intro pins s σ H xs us Q I r h
 obtain⟨p,ys,T,b,rfl,hq,e,q⟩:=h
 obtain⟨u,w',rfl,ru,rw'⟩:=vals2 r
 cases ru
 cases rw'
 obtain⟨its,rv,⟨o,h1,h2,_⟩,_⟩:=I.tuple hq
 exact NR PySem.W.kitx_tuple I.kIn ⟨o,h1,h2⟩ e (λz=>nomatch z) λtk=>⟨.bl b,H,I.tok _,rfl,q⟩
end L2
namespace Bk
open PySem L2 Mg Nm Rk PySem.SeqAt
def EY:Res->Str
 | .ok _ _ _ => "answers"
 | .una _ _ => "unanswered"
 | .spent => "spent"
def BI:Ah.CR->Str
 | .ans _ => "answers"
 | .una _ => "unanswered"
 | .spent => "spent"
theorem BP:∀r:Res,EY r=BI (AN r)
 | .ok _ _ _=>rfl
 | .una _ _=>rfl
 | .spent=>rfl
theorem IM{kd a b c:Str}(h:kd=a∨kd=b∨kd=c):kX (V.str kd) [V.str a,V.str b,V.str c]=true:=by
 show ((a == kd) || ((b == kd) || ((c == kd) || false)))=true
 rcases h with rfl | rfl | rfl<;>simp
def hV(e:Ah.Nd)(k:Nat):Str:=if ¬ Ak.wd e = "never" /\ Ak.ct e<=(k:Int) then Ak.wd e else "spent"
theorem AO{e:Ah.Nd}(hn:∀p,e ≠ .need p)(k:Nat):BI (Ah.val e k)=hV e k:=by
 cases e with
 | ans j=>
  show BI (if j<=k then Ah.CR.ans (k-j) else .spent)=if ¬ ("answers" : Str) = "never" /\ (j:Int)<=(k:Int) then ("answers" : Str) else "spent"
  by_cases c:j<=k
  ·rw[if_pos c,if_pos ⟨by decide +kernel,by omega⟩];rfl
  ·rw[if_neg c,if_neg (λz=>c (by omega))];rfl
 | una j=>
  show BI (if j<=k then Ah.CR.una (k-j) else .spent)=if ¬ ("unanswered" : Str) = "never" /\ (j:Int)<=(k:Int) then ("unanswered" : Str) else "spent"
  by_cases c:j<=k
  ·rw[if_pos c,if_pos ⟨by decide +kernel,by omega⟩];rfl
  ·rw[if_neg c,if_neg (λz=>c (by omega))];rfl
 | nev=>
  show ("spent" : Str)=if ¬ ("never" : Str) = "never" /\ (0:Int)<=(k:Int) then ("never" : Str) else "spent"
  rw[if_neg (λz=>z.1 rfl)]
 | need p=>exact absurd rfl (hn p)
theorem QB.same{CB CH:JO}{M M':Hp}{p d:JO}{L:List Ent}{rs:List Str}{B:Ci}(U:QB CB CH M p d L rs B)(s:Am M M'):QB CB CH M' p d L rs B:=
 ⟨U.bk.same s,U.rl,U.hs,U.no,λy hy e w ss h1 h2=>let ⟨la,ts,a,b,c⟩:=U.yes y hy e w ss h1 h2;⟨la,ts,a,s _ _ b,Qx c s⟩,U.ok⟩
def Ts(CB CH:JO):Sp:=λvs H Q _=>∃(p d:JO)(x y:Str)(n:Int)(c:Nat)(L:List Ent)(e:Ent)(B:Ci),vs=[.ref p,.str x,.str y,.int n,.int (c:Int)]/\Hl L x=some e/\QB CB CH H p d L e.od B /\ -big<=n/\n<=big/\c<=40/\∀H':Hp,Am H H'->Q (.str (EY (rS B e.od y 0 n c []))) H'
def Nw(K:JG)(CB CH:JO):Sp:=λvs H Q _=>∃(p d:JO)(x y:Str)(n:Int)(ev:V)(nd:Ah.Nd)(L:List Ent)(e:Ent)(B:Ci),vs=[.ref p,.str x,.str y,.int n,ev]/\Hl L x=some e/\QB CB CH H p d L e.od B /\ -big<=n/\n<=big/\Ak.EndV K H ev nd/\(∀q,nd ≠ .need q)/\(∀k,EY (rS B e.od y 0 n k [])=hV nd k)/\∀H':Hp,Am H H'->Q (.bl true) H'
section
variable {P:KI} {w:LQ} {K:JG} {mg:Str->Option JH} {base:MV} {f fQ fM CB CH CU CS:JO} {fd dQ dM:LG} {bU bS:List JH}
abbrev CQ:List Str:=["_law_book","_law_name","_law_word","_law_number","_law_count"]
theorem tP:An CQ CQ (Ad cT):=Ez (by decide +kernel)
theorem qW(F:Di K "_law_comes" "_law_comes" cT f fd)(X:aH K mg CU CS bU bS)(ss:QZ K (.ref CS) (.ref CS)=some true)(GQ:Al P w K mg base (Gk P w) 168 fQ dQ ["book","name","word","number","count"] (rL CB CH CU CS))(kQ:JV K (.ref fQ)=true)(bQ5:Binds K dQ ["book","name","word","number","count"] [])(mQ:mg "answered" = some (.ref fQ)):
 Al P w K mg base Je 169 f fd CQ (Ts CB CH):=by
 refine F.ok1 tP (λvs H Q E h=>?_) (λcdv A outer s H vs Q E hr h=>?_)
 ·obtain⟨p,d,x,y,n,c,L,e,B,rfl,_⟩:=h
  rfl
 obtain⟨p,d,x,y,n,c,L,e,B,rfl,he,U,n0,n1,hc,g⟩:=h
 refine⟨_,Ac (Zl (EX:=zN) Kq (λ_ _ h=>CV h) (λpn EX1=>Af (Bx (Qg GQ hr rfl mQ kQ bQ5 .nil (Gc (pv 0) (rP (pv 1) (pv 2) (pv 3) (pv 4))))))
  (λpn=>Qz (K:=K) rfl X.mgU (λx oe=>Af (Ao Ba)) (Qz (K:=K) rfl X.mgS (λx oe=>Af (Ao Ba)) (aX ⟨rfl,rfl,rfl⟩))))
  (Af (Ao Ba)),?_⟩
 refine⟨_,rfl,_,rfl,_,rfl,_,rfl,_,rfl,p,d,x,y,n,c,L,e,B,rfl,he,U,n0,n1,hc,?_⟩
 cases hres:rS B e.od y 0 n c [] with
 | ok a k sd=>
  rw[hres] at g
  intro l5 H5 hl5 s5 e5
  exact g H5 s5
 | una k sd=>
  rw[hres] at g
  intro H5 s5
  exact⟨true,X.uu,Jn (g H5 s5)⟩
 | spent=>
  rw[hres] at g
  intro H5 s5
  exact⟨false,X.su,Eb ⟨true,ss,Jn (g H5 s5)⟩⟩
abbrev IV:List Str:=["_law_book","_law_name","_law_word","_law_number","_law_end","_law_count","_law_due"]
theorem uE:An IV ["_law_book","_law_name","_law_word","_law_number","_law_end"] (Ad aC):=Ez (by decide +kernel)
theorem oO(F:Di K "_law_right" "_law_right" aC f fd)(Tx:Txt mg)(GM:Al P w K mg base Je 169 fM dM CQ (Ts CB CH))(kM:JV K (.ref fM)=true)(bM:Binds K dM CQ [])(mM:mg "_law_comes" = some (.ref fM)):
 Al P w K mg base Je 170 f fd ["_law_book","_law_name","_law_word","_law_number","_law_end"] (Nw K CB CH):=by
 refine F.ok1 uE (λvs H Q E h=>?_) (λcdv A outer s H vs Q E hr h=>?_)
 ·obtain⟨p,d,x,y,n,ev,nd,L,e,B,rfl,_⟩:=h
  rfl
 obtain⟨p,d,x,y,n,ev,nd,L,e,B,rfl,he,U,n0,n1,⟨ae,rfl,qe⟩,hne,hdue,q⟩:=h
 refine⟨_,Ac (Ay (PW.pt (Xm (Hi (Fv (Bz iT rfl Tx.isi NA (Em (pv 4) (Ij (v:=.ty "tuple") rfl Tx.tup PyProof.Rows.boot_tuple rfl)))))
  (Xm (Ar Rr (Bw Tx.len (pv 4)) Ae (Au _))
  (aT (Ar Tr (As Ax (pv 4) Ae (λ_ _=>rfl)) (Ca (Ic (xs:=["answers","unanswered","never"]) (by rfl))) rfl))))) Bs Ap)
  (Ac (Eh MN rfl (Dk (De (Gc Ae (rP Ae (As Ax (pv 4) Ae (λ_ _=>rfl)) (Aq Jo (As Ax (pv 4) Ae (λ_ _=>rfl)) Ae) (Aq Cm (As Ax (pv 4) Ae (λ_ _=>rfl)) Ae))))) (Dg 5 uE.nd)
   (Af (Ay (nR Qe Qe Ae (pv 5) Ae)
    (Ac (Bv 6 uE.nd Ba)
    (Ac (Ay (PW.pt (Px (Ar Rr (As Ax (pv 4) Ae (λ_ _=>rfl)) Ba (Au _)) (Lu (Ar EG (pv 5) (As Ax (pv 4) Ae (λ_ _=>rfl)) (Au _))))) (Af (Bv 6 uE.nd (As Ax (pv 4) Ae (λ_ _=>rfl)))) Ap)
    (Af (Ay (Ar Rr (Dj GM hr rfl mM kM bM .nil Ti (Gc (pv 0) (rP (pv 1) (pv 2) (pv 3) (pv 5)))) (pv 6) (Au _)) Bs Ap)))) Ap)))
  (Af (Ao wV))),?_⟩
 have hwd:Ak.wd nd = "answers" ∨ Ak.wd nd = "unanswered" ∨ Ak.wd nd = "never" := by
  cases nd with
  | ans j=>exact .inl rfl
  | una j=>exact .inr (.inl rfl)
  | nev=>exact .inr (.inr rfl)
  | need x=>exact absurd rfl (hne x)
 refine⟨_,rfl,ae,_,_,_,rfl,qe,Hr K "tuple", _,rfl,Eb ?_⟩
 refine⟨_,rfl,ae,_,rfl,.inr qe,rfl,_,rfl,Eb ?_⟩
 refine⟨_,rfl,ae,_,_,_,rfl,rfl,qe,Ak.at0 _ _,by show 3<=JQ;decide,λtp htp=>⟨tp,_,rfl,.inr (Ck.of Aa),rfl,rfl,_,rfl,?_⟩⟩
 have hin:=IM hwd
 have hin2:(if true=true then !kX (V.str (Ak.wd nd)) [V.str "answers", V.str "unanswered", V.str "never"] else kX (V.str (Ak.wd nd)) [V.str "answers", V.str "unanswered", V.str "never"])=false:=by rw[if_pos rfl,hin];rfl
 refine Br (λc=>?_) (λc=>?_)
 ·exact absurd (show (if true=true then !kX (V.str (Ak.wd nd)) [V.str "answers", V.str "unanswered", V.str "never"] else kX (V.str (Ak.wd nd)) [V.str "answers", V.str "unanswered", V.str "never"])=true from c) (by rw[hin2];exact JR)
 have s5:=Ag htp (.tup (List.map V.str (["answers","unanswered","never"]:List Str)))
 generalize upd H tp (.tup (List.map V.str (["answers","unanswered","never"]:List Str)))=H1 at *
 have q1:=Ak.sqt_same s5 qe
 refine⟨_,rfl,ae,_,_,_,rfl,rfl,q1,Ak.at1 _ _ _,_,rfl,ae,_,_,_,rfl,rfl,q1,Ak.at1 _ _ _,_,_,rfl,rfl,_,rfl,ae,_,_,_,rfl,rfl,q1,Ak.at1 _ _ _,_,_,rfl,rfl,by show 5<=JQ;decide,λlc hlc=>?_⟩
 have hints:∀(i:Nat)(x:V),([V.int 0,V.int 40,V.int (Ak.ct nd),V.int (Ak.ct nd-1),V.int (Ak.ct nd+1)]:List V)[i]? = some x->∃z,x=.int z:=by
  intro i x hx
  have:=KD hx
  simp only[JT,KL,or_false] at this
  rcases this with h | h | h | h | h<;>exact⟨_,h⟩
 obtain⟨H2,zz,slc,elc⟩:=lay hlc (.lst [V.int 0,V.int 40,V.int (Ak.ct nd),V.int (Ak.ct nd-1),V.int (Ak.ct nd+1)])
 rw[zz]
 have s2:=s5.trans slc
 refine⟨lc,rfl,⟨_,Aw.of elc⟩,Fi (K:=K) (a:=lc) (xs:=[V.int 0,V.int 40,V.int (Ak.ct nd),V.int (Ak.ct nd-1),V.int (Ak.ct nd+1)]) (H:=H2) (λi σ H3=>∃(v5 v6:Option V),σ=[some (.ref p),some (.str x),some (.str y),some (.int n),some (.ref ae),v5,v6]/\Am H2 H3) ⟨none,none,rfl,Am.refl _⟩ (λi σ H3 _ ⟨_,_,_,s3⟩=>Aw.of (s3 _ _ elc)) ?_ ?_⟩
 ·rintro i x' σ H3 hx ⟨v5,v6,rfl,s3⟩
  obtain⟨z,rfl⟩:=hints i x' hx
  have sA:=s2.trans s3
  have q3:=Ak.sqt_same sA qe
  refine⟨_,rfl,_,_,rfl,rfl,_,rfl,Br (λc1=>?_) (λc1=>⟨_,rfl,Eb ⟨_,_,rfl,s3⟩⟩)⟩
  refine⟨_,_,rfl,rfl,_,rfl,Br (λc2=>?_) (λc2=>⟨_,_,rfl,s3⟩)⟩
  have c1:(0:Int)<=z:=of_decide_eq_true c1
  have c2:z<=40:=of_decide_eq_true c2
  obtain⟨k,rfl⟩:=NJ c1
  have U3:QB CB CH H3 p d L e.od B:=U.same sA
  refine⟨_,rfl,ae,_,_,_,rfl,rfl,q3,Ak.at0 _ _,rfl,_,rfl,Br (λc3=>?_) (λc3=>?_)⟩
  ·have c3:¬ Ak.wd nd = "never" := λz=>by rw[z] at c3;exact absurd c3 (by decide +kernel)
   refine⟨_,rfl,_,rfl,ae,_,_,_,rfl,rfl,q3,Ak.at1 _ _ _,_,_,rfl,rfl,_,rfl,Br (λc4=>?_) (λc4=>?_)⟩
   ·have c4:Ak.ct nd<=(k:Int):=of_decide_eq_true c4
    have hdk:hV nd k=Ak.wd nd:=if_pos ⟨c3,c4⟩
    refine⟨_,rfl,ae,_,_,_,rfl,rfl,q3,Ak.at0 _ _,?_⟩
    refine⟨_,rfl,_,rfl,_,rfl,_,rfl,_,rfl,p,d,x,y,n,k,L,e,B,rfl,he,U3,n0,n1,by omega,λH4 s4=>?_⟩
    exact⟨_,rfl,rfl,_,rfl,dX (by rw[hdue k,hdk]) ⟨_,_,rfl,s3.trans s4⟩⟩
   ·have c4:¬ Ak.ct nd<=(k:Int):=λz=>c4 (decide_eq_true z)
    have hdk:hV nd k = "spent" := if_neg (λz=>c4 z.2)
    refine⟨_,rfl,_,rfl,_,rfl,_,rfl,_,rfl,p,d,x,y,n,k,L,e,B,rfl,he,U3,n0,n1,by omega,λH4 s4=>?_⟩
    exact⟨_,rfl,rfl,_,rfl,dX (by rw[hdue k,hdk]) ⟨_,_,rfl,s3.trans s4⟩⟩
  ·have c3:Ak.wd nd = "never" := by
    refine Classical.byContradiction λz=>c3 ?_
    rw[decide_eq_false (λy=>z (V.str.inj y))]
    rfl
   have hdk:hV nd k = "spent" := if_neg (λz=>z.1 c3)
   refine⟨_,rfl,_,rfl,_,rfl,_,rfl,_,rfl,p,d,x,y,n,k,L,e,B,rfl,he,U3,n0,n1,by omega,λH4 s4=>?_⟩
   exact⟨_,rfl,rfl,_,rfl,dX (by rw[hdue k,hdk]) ⟨_,_,rfl,s3.trans s4⟩⟩
 ·rintro σ H3 ⟨v5,v6,rfl,s3⟩
  exact q _ (s2.trans s3)
end
end Bk
namespace Bk
open PySem L2 Mg Nm
section
variable {P:KI} {w:LQ} {K:JG} {mg:Str->Option JH} {base:MV} {f:JO} {fd:LG}
theorem Vr:An ["_law_k","_law_cell","_law_letters","_law_fill","_law_place"] ["_law_k","_law_cell"] (Ad qK):=Ez (by decide +kernel)
theorem sU(F:Di K "_law_name_by" "_law_name_by" qK f fd)(T:Txt mg):Al P w K mg base Bi 1 f fd ["_law_k","_law_cell"] Qa:=by
 refine F.ok Vr (λvs H Q E h=>?_) (λcdv A outer s H vs Q E hr h=>?_)
 ·obtain⟨k,c,rfl,_⟩:=h
  rfl
 obtain⟨k,c,rfl,q⟩:=h
 refine⟨_,Ac (Bv 2 Vr.nd Ba)
  (Ac (Bv 3 Vr.nd (Cj cQ (Aq Iq (pv 2) (pv 2)) (Cy (Aq Cb (pv 1) Ae)) (Cy (Aq Cm (Aq Cb (pv 1) Ae) (Aq Cb (Aq Dy (pv 1) Ae) Ae)))))
  (Ac (Bv 4 Vr.nd (Aq Cb (Aq Dy (pv 1) Ae) (Aq Cm (Bz Lp rfl T.len PySem.boot_len (Du (pv 3))) Ae)))
  (Af (Ao (Aq Iq (Aq Iq (Aq Iq (Cj cQ (pv 3) Dw (Cy (pv 4))) (As lO (pv 2) (Aq Cb (Aq Dy (pv 0) Ae) Ae) (λ_ _=>rfl))) (As lO (pv 2) (Aq Cb (pv 0) Ae) (λ_ _=>rfl))) (Cj cQ (pv 3) (Cy (pv 4)) Dw)))))),?_⟩
 have ll:=Ng
 have l52:=sl52
 have fl:(fill c).length<=52:=KZ (Wn c) (by decide)
 have lz:Ek.length<=JQ:=by omega
 refine⟨_,rfl,_,rfl,Ek,Ek,rfl,rfl,by omega,?_⟩
 refine⟨_,rfl,_,_,rfl,rfl,(by show (0:Int) < 26;decide),_,rfl,?_⟩
 refine⟨_,rfl,_,_,rfl,rfl,(by show (0:Int) < 26;decide),_,rfl,_,_,rfl,rfl,⟨by decide,by decide⟩,_,_,rfl,rfl,(by show (0:Int) < 19;decide),_,_,rfl,rfl,_,rfl,?_⟩
 refine⟨_,rfl,by rw[len_app];omega,?_⟩
 refine⟨_,rfl,_,_,rfl,rfl,⟨by decide,by decide⟩,_,rfl,fill c,rfl,by omega,_,_,rfl,rfl,_,_,rfl,rfl,(by show (0:Int) < ((fill c).length:Int)+1;omega),?_⟩
 have z1:(SL (fill c) none (some (place c))).length<=52:=KZ (Txt.slice_le _ _ _) fl
 have z2:(SL (fill c) (some (place c)) none).length<=52:=KZ (Txt.slice_le _ _ _) fl
 have zs:∀i:Int,(sign i).length=1:=λi=>rfl
 have zl:(200:Nat)<=JQ:=by rw[KS];decide
 refine⟨_,rfl,_,rfl,_,rfl,fill c,rfl,by omega,?_⟩
 refine⟨_,rfl,_,rfl,_,_,rfl,rfl,⟨by decide,by decide⟩,_,_,rfl,rfl,(by show (0:Int) < 26;decide),Ek,_,_,rfl,rfl,lz,Sy (ME _ (by decide)) (LZ _ (by decide)),?_⟩
 refine⟨_,sign (k / 26 % 26),rfl,rfl,by rw[zs];exact KZ (Nat.add_le_add_right z1 1) (by omega),?_⟩
 refine⟨_,rfl,_,rfl,_,_,rfl,rfl,(by show (0:Int) < 26;decide),Ek,_,_,rfl,rfl,lz,Sy (ME _ (by decide)) (LZ _ (by decide)),?_⟩
 have z1':(SL (fill c) none (some (c / 494 % (((fill c).length:Int)+1)))).length<=52:=z1
 have z2':(SL (fill c) (some (c / 494 % (((fill c).length:Int)+1))) none).length<=52:=z2
 refine⟨_,sign (k % 26),rfl,rfl,by rw[len_app,zs,zs];omega,?_⟩
 refine⟨_,rfl,_,rfl,_,rfl,fill c,rfl,by omega,?_⟩
 refine⟨_,_,rfl,rfl,by rw[len_app,len_app,zs,zs];omega,?_⟩
 exact q
end
end Bk
namespace Bk
open PySem L2 Mg Nm Rk PySem.SeqAt
abbrev Uo:List Str:=["_law_script","_law_book","_law_names","_law_many","_law_k","_law_name","_law_words","_law_cell","_law_body","_law_pair","_law_ends","_law_number","_law_word"]
theorem Gu:An Uo ["_law_script"] (Ad Fq):=Ez (by decide +kernel)
theorem mD(ns:List Int)(lo hi:Nat):∃ms:List Int,Fy (ns.map V.int) (some (lo:Int)) (some (hi:Int))=ms.map V.int/\ms.length<=hi-lo:=by
 refine⟨(ns.drop (HT.sIx (ns.map V.int).length 0 (some (lo:Int)))).take (HT.sIx (ns.map V.int).length (ns.map V.int).length (some (hi:Int))-HT.sIx (ns.map V.int).length 0 (some (lo:Int))),?_,?_⟩
 ·unfold Fy
  rw[List.map_take,RP]
 ·rw[NT,MW,HT.sIx_nat,HT.sIx_nat,JJ]
  omega
theorem pS{ms:List Int}{i:Nat}{v:V}(h:(ms.map V.int)[i]? = some v):∃c,ms[i]? = some c/\v=V.int c:=by
 rw[KP] at h
 cases e:ms[i]? with
 | none=>rw[e] at h;cases h
 | some c=>rw[e] at h;exact⟨c,rfl,(LC h).symm⟩
theorem gR.kp{CB CH:JO}{H0 H:Hp}{p d ka:JO}{ns:List Str}{m:Nat}(h:gR CB CH H0 H p d ka ns m):Md H0 H:=let ⟨_,_,_,_,_,_,_,_,k⟩:=h;k
theorem nH{ws:List Str}{lad:Str->List Nat}{w:Str}(h:w∈ws):valV (Ma ws lad) (KJ w:Key)=some (.int (((lad w).getD 0 0:Nat):Int)):=by
 unfold Ma
 induction ws with
 | nil=>cases h
 | cons e L ih=>
  rw[LY]
  by_cases he:e=w
  ·rw[Cu (by rw[he]),he]
  ·rw[Cw (λz=>he (KJ.inj z))]
   exact ih ((JT.mp h).resolve_left λz=>he z.symm)
theorem lD{xs:List V}{r:Nat}{v:V}(hr:r < xs.length)(h:xs[xs.length-1-r]? = some v):Jb xs (-1-(r:Int))=some v:=by
 have e:jN xs.length (-1-(r:Int))=some (xs.length-1-r):=by
  unfold jN
  rw[if_neg (by omega),if_pos (by omega)]
  congr 1
  omega
 unfold Jb
 rw[e]
 exact h
theorem Md.seq{K:JG}{H H':Hp}(k:Md H H'){a:JO}{xs:List V}(h:Aw K H a xs):Aw K H' a xs:=by
 rcases h with (h | ⟨o,h⟩) | h
 ·exact .inl (.inl (k.lst h))
 ·exact .inl (.inr ⟨o,k _ _ h (by intro z e;cases e) (by intro z e;cases e)⟩)
 ·exact .inr h
def mask1(H:Hp)(l:JO):Hp:=λb=>if b=l then none else H b
theorem Gw{H:Hp}{l b:JO}{o:HO}(e:H b=some o)(h:b≠l):mask1 H l b=some o:=by
 unfold mask1
 rw[if_neg h]
 exact e
theorem aY(H:Hp)(l:JO):mask1 H l l=none:=by
 unfold mask1
 rw[if_pos rfl]
theorem Sn{H:Hp}{l:JO}:Am (mask1 H l) H:=λb o e=>by
 unfold mask1 at e
 split at e
 ·cases e
 ·exact e
theorem Am.mask1{M H:Hp}{l:JO}(s:Am M H)(h:M l=none):Am M (mask1 H l):=λb o e=>Gw (s _ _ e) (Ai e h)
def Yx(CB CH:JO)(H0 H:Hp)(p d:JO)(ns:List Str)(m:Nat):Prop:=∃(L:List Ent)(B:Ci),cO CB CH H p d L B/\L.map (·.nm)=ns/\(∀e∈L,e.bd.length<=m)/\Md H0 H
theorem gR.m{CB CH:JO}{H0 H:Hp}{p d ka:JO}{ns:List Str}{m:Nat}(h:gR CB CH H0 H p d ka ns m):Yx CB CH H H p d ns m:=let ⟨L,_,B,S,_,a,_,b,_⟩:=h;⟨L,B,S,a,b,Md.of_same (Am.refl _)⟩
theorem Yx.same{CB CH:JO}{H0 H H':Hp}{p d:JO}{ns:List Str}{m:Nat}(h:Yx CB CH H0 H p d ns m)(s:Am H H'):Yx CB CH H0 H' p d ns m:=let ⟨L,B,S,a,b,k⟩:=h;⟨L,B,S.same s,a,b,k.trans (Md.of_same s)⟩
theorem Yx.kp{CB CH:JO}{H0 H:Hp}{p d:JO}{ns:List Str}{m:Nat}(h:Yx CB CH H0 H p d ns m):Md H0 H:=let ⟨_,_,_,_,_,k⟩:=h;k
theorem Yx.re{CB CH:JO}{H0 H:Hp}{p d:JO}{ns:List Str}{m:Nat}(h:Yx CB CH H0 H p d ns m):Yx CB CH H H p d ns m:=let ⟨L,B,S,a,b,_⟩:=h;⟨L,B,S,a,b,Md.of_same (Am.refl _)⟩
def row(c:Int)(n:Nat):List Str:=(SI n).map λi:Nat=>Ft (i:Int) c
theorem Uw(c:Int)(n:Nat):(row c n).length=n:=by unfold row;simp
theorem AF{c:Int}{n:Nat}{x:Str}(h:x∈row c n):iQ x:=by
 unfold row at h
 obtain⟨i,_,e⟩:=LR.mp h
 rw[<- e]
 exact fU _ _
theorem nM(c:Int)(n:Nat):Az (row c n)++[V.str (Ft (n:Int) c)]=Az (row c (n+1)):=by
 unfold Az row
 rw[List.range_succ,JX,JX]
 rfl
theorem oU{c:Int}{n i:Nat}(h:i < (row c n).length):(row c n)[i]=Ft (i:Int) c:=by
 simp[row]
theorem AW{c:Int}{n:Nat}(h:n<=676):(row c n).Nodup:=by
 refine List.pairwise_iff_getElem.mpr λi j hi hj hlt z=>?_
 rw[oU hi,oU hj] at z
 rw[Uw] at hi hj
 have:=Xh (by omega) (by omega) (by omega) (by omega) z
 omega
theorem Kd{H:Hp}{l b:JO}{o:HO}(h:mask1 H l b=some o):b≠l:=λz=>by
 rw[z,aY] at h
 cases h
theorem lC(H:Hp)(l:JO)(o:HO):mask1 (upd H l o) l=mask1 H l:=by
 funext b
 unfold mask1
 by_cases h:b=l
 ·rw[if_pos h,if_pos h]
 ·rw[if_neg h,if_neg h,Aj h]
theorem Be.mask{CB CH:JO}{H:Hp}{p d na:JO}{L:List Ent}(B:Be CB CH H p d L)(hp:p≠na)(hd:d≠na)(he:∀e∈L,e.at_≠na/\e.ea≠na/\e.oa≠na/\e.ba≠na):Be CB CH (mask1 H na) p d L:=
 ⟨let ⟨dx,e⟩:=B.ob;⟨dx,Gw e hp⟩,Gw B.dc hd,λe m=>let E:=B.en e m;let ⟨n1,n2,n3,n4⟩:=he e m;⟨Gw E.ob n1,Gw E.el n2,Gw E.od n3,Gw E.bd n4⟩,B.nb,B.nd,B.nn⟩
theorem Be.maskAdd{CB CH:JO}{H H':Hp}{p d na:JO}{L:List Ent}{e:Ent}{o:HO}(B:Be CB CH (mask1 H na) p d L)(B':Be CB CH H' p d (L++[e]))(fr:gE H e)(ho:H na=some o):Be CB CH (mask1 H' na) p d (L++[e]):=by
 obtain⟨dx,hp⟩:=B.ob
 refine B'.mask (Kd hp) (Kd B.dc) λe' he'=>?_
 rcases KO.mp he' with z | z
 ·have E:=B.en e' z
  exact⟨Kd E.ob,Kd E.el,Kd E.od,Kd E.bd⟩
 ·rw[JP.mp z]
  have nn:∀ {b:JO},H b=none->b≠na:=λ{b} hb z=>by
   rw[z,ho] at hb
   cases hb
  exact⟨nn fr.at_,nn fr.ea,nn fr.oa,nn fr.ba⟩
def gI(K:JG):Sp:=λvs H Q _=>∃(a:JO)(ns:List Int),vs=[.ref a]/\Aw K H a (ns.map V.int)/\ns.length<=63/\∀H',Q (.bl true) H'
section
variable {P:KI} {w:LQ} {K:JG} {mg:Str->Option JH} {base:MV} {f fO fC fD fL fG fT fB fE fN fK fF fI fR CB CH:JO} {fd dO dC dD dL dG dT dB dE dN dK dF dI dR:LG} {ks:List (Str×JO×List Str)}
theorem uC(T:Ha K mg CB CH)(Tx:Txt mg)(GC:Al P w K mg base Bi 1 fC dC ["_law_script","_law_k"] (My K))(kC:JV K (.ref fC)=true)(bC:Binds K dC ["_law_script","_law_k"] [])(mC:mg "_law_cell_at" = some (.ref fC))(GL:Al P w K mg base Je 4 fL dL ["book","name"] (Uk CB CH))(kL:JV K (.ref fL)=true)(bL:Binds K dL ["book","name"] [])(mL:mg "left_out" = some (.ref fL))(GT:Al P w K mg base Bi 6 fT dT ["rows"] (Ak.spTold K))(kT:JV K (.ref fT)=true)(bT:Binds K dT ["rows"] [])(mT:mg "told_ahead" = some (.ref fT))(GR:Al P w K mg base Je 170 fR dR ["_law_book","_law_name","_law_word","_law_number","_law_end"] (Nw K CB CH))(kR:JV K (.ref fR)=true)(bR:Binds K dR ["_law_book","_law_name","_law_word","_law_number","_law_end"] [])(mR:mg "_law_right" = some (.ref fR))(cdv:JH)(A:LM)(outer:List Env)(s:JL)(H:Hp)(E:XK)(hr:Co 170 (A.deeper (QE "law" (Ad Fq) s.heap.objs.size f cdv)))(Q:VK):
 ∃tt,Hy (Er Je P w K mg base Uo "law" (Ad Fq) f cdv A outer s H E).nox ((Bg Fq).drop 8) tt /\
  ∀(H1:Hp)(a p d na:JO)(ns:List Str)(m:Nat)(zs:List Int)(v3 v4 v5 v6 v7 v8:Option V),Yx CB CH H1 H1 p d ns m->m<=500->0 < ns.length->ns.length<=40->H1 na=some (.lst (Az ns))->Aw K H1 a (zs.map V.int)->(∀H',Q (.bl true) H') ->
   tt { nx:=λ_ H'=>Q .non H',rt:=Q } [some (.ref a),some (.ref p),some (.ref na),v3,v4,v5,v6,v7,v8,none,none,none,none] H1:=by
 have hr1:=hr.mono (j:=1) (by decide)
 have hr4:=hr.mono (j:=4) (by decide)
 have hr6:=hr.mono (j:=6) (by decide)
 have hu:=Fo hr
 refine⟨_,Ac (Bv 5 Gu.nd (As Bj (pv 2) (Aq Jo (Jy Gx Ae) (Aq Cb (Cf GC hr1 mC kC bC (Em (pv 0) Ae)) (Bw Tx.len (pv 2)))) (λ_ _=>rfl)))
  (Ac (Bv 9 Gu.nd (Dj GL hr4 rfl mL kL bL .nil Ti (Em (pv 1) (pv 5))))
  (Ac (Bv 10 Gu.nd (Cf GT hr6 mT kT bT (Du (As Ax (pv 9) Ae (λ_ _=>rfl)))))
  (Ac (Bv 11 Gu.nd (Aq Jo (Aq Cb (Aq Dy (Cf GC hr1 mC kC bC (Em (pv 0) Ae)) Ae) (Aq Cm (Aq Ku Ae (Aq Tl Ae Ae)) Ae)) (Aq Tl Ae Ae)))
  (Ac (Eh MN rfl (sO (As Ax (pv 9) Ae (λ_ _=>rfl))) (Dg 12 Gu.nd)
   (Af (Ay (Hi (Fv (Dj GR hr rfl mR kR bR .nil Ti (Gc (pv 1) (rP (pv 5) (pv 12) (pv 11) (As Bj (pv 10) (Ie hu (As Ax (pv 9) Ae (λ_ _=>rfl)) (pv 12) (λ_ _=>rfl)) (λ_ _=>rfl))))))) Bs Ap)))
  (Af (Ao wV)))))),?_⟩
 intro H1 a p d na ns m zs v3 v4 v5 v6 v7 v8 S hm hn0 hn ena esa q
 obtain⟨L,B,S,rfl,hbl,_⟩:=S
 rw[JJ] at hn0 hn
 have lsv:(Az (L.map (·.nm))).length=L.length:=by rw[Av,JJ]
 have b0:0<=zs.getD 2 0 % ((Az (L.map (·.nm))).length:Int):=ME _ (by omega)
 have b1:zs.getD 2 0 % ((Az (L.map (·.nm))).length:Int) < ((Az (L.map (·.nm))).length:Int):=LZ _ (by omega)
 obtain⟨r,hr0⟩:=NJ b0
 have hrl:r < L.length:=by omega
 have hix:L.length-1-r < L.length:=by omega
 obtain⟨e,he⟩:∃e,L[L.length-1-r]? = some e:=⟨_,JK hix⟩
 have hem:=KD he
 have pick:Jb (Az (L.map (·.nm))) (-1-zs.getD 2 0 % ((Az (L.map (·.nm))).length:Int))=some (.str e.nm):=by
  rw[hr0]
  refine lD (by omega) ?_
  rw[lsv]
  exact Ms (by rw[KP,he];rfl)
 have U:=S.qb (by omega) hem
 refine⟨_,rfl,_,rfl,_,rfl,a,zs,2,rfl,esa,_,rfl,na,_,rfl,.inl (Aw.of ena),_,_,rfl,rfl,(by rw[lsv];omega),_,_,rfl,rfl,na,_,_,_,rfl,rfl,Aw.of ena,pick,?_⟩
 have hod:e.od.length<=40:=KZ (Oa S.od hem) hn
 refine⟨_,rfl,_,rfl,p,d,L,e.nm,e,B,rfl,Mn S.bk.nd hem,U,λy hy e' he'=>?_,hod,λpr dd ra H2 ws lad es as vss s2 fdd epr edd wnd wpos R LS hes=>?_⟩
 ·have hm':=(Fx he').1
  obtain⟨W,eW,nd⟩:=S.tx e' hm'
  refine⟨W,eW,nd,?_⟩
  have:=hbl e' hm'
  rw[eW,Vj] at this
  omega
 have LO:=LS.left
 have hlen:(Hg lad es).length=es.length:=by unfold Hg;rw[JJ]
 have way_lt:∀(w:Str)(r:Nat),∀x∈Ah.ldsL (Fl lad w r),x < es.length:=λw r x hx=>by
  unfold Fl at hx
  cases z:(lad w)[r]? with
  | none=>rw[z] at hx;cases hx
  | some y=>
   rw[z] at hx
   have hx':x∈[y]:=hx
   rw[JP.mp hx']
   exact LS.lt w y (KD z)
 have hLd:Ak.LeadsOk (Hg lad es):=by
  intro rr hrr st hst x hx
  rw[hlen]
  unfold Hg at hrr
  obtain⟨en,_,rfl⟩:=LR.mp hrr
  obtain⟨sp,_,rfl⟩:=LR.mp hst
  cases sp with
  | sm _=>cases hx
  | onw=>exact way_lt _ _ x hx
  | ask y=>exact way_lt _ _ x hx
  | tri y z=>
   rcases KO.mp hx with h | h
   ·exact way_lt _ _ x h
   ·exact way_lt _ _ x h
 refine⟨_,rfl,pr,_,_,_,rfl,rfl,Ck.of epr,Ak.at1 _ _ _,ra,as,vss,Hg lad es,rfl,R,hLd,by omega,λle us H3 mm hle s3 el hul T3 hv=>?_⟩
 have s13:=s2.trans s3
 have esa3:=s13.seq esa
 refine⟨_,rfl,a,zs,4,rfl,esa3,_,_,rfl,rfl,⟨by decide,by decide⟩,_,_,rfl,rfl,⟨by decide,by decide,by decide⟩,_,_,rfl,rfl,.inl ⟨by decide,by decide⟩,_,_,rfl,rfl,_,_,rfl,rfl,(by show (0:Int) < 2 * 10 ^ (30:Int).toNat+1;decide),_,_,rfl,rfl,⟨by decide,by decide,by decide⟩,_,_,rfl,rfl,?_⟩
 have hb1:(0:Int)<=zs.getD 4 0 / 6 % (2 * 10 ^ (30:Int).toNat+1):=ME _ (by decide)
 have hb2:zs.getD 4 0 / 6 % (2 * 10 ^ (30:Int).toNat+1) < 2 * 10 ^ (30:Int).toNat+1:=LZ _ (by decide)
 have hnb0 : -big<=zs.getD 4 0 / 6 % (2 * 10 ^ (30:Int).toNat+1)-10 ^ (30:Int).toNat:=by
  show -(10 ^ 30:Int)<=_-10 ^ 30
  omega
 have hnb1:zs.getD 4 0 / 6 % (2 * 10 ^ (30:Int).toNat+1)-10 ^ (30:Int).toNat<=big:=by
  have hb2':zs.getD 4 0 / 6 % (2 * 10 ^ (30:Int).toNat+1) < 2 * 10 ^ 30+1:=hb2
  show _-10 ^ 30<=(10 ^ 30:Int)
  omega
 dsimp only
 generalize zs.getD 4 0 / 6 % (2 * 10 ^ (30:Int).toNat+1)-10 ^ (30:Int).toNat=n at *
 refine⟨_,rfl,pr,_,_,_,rfl,rfl,Ck.of (s3 _ _ epr),Ak.at0 _ _,dd,_,rfl,s3 _ _ edd,λo nf=>?_⟩
 have ez:(upd H3 dd (.frz o (.dK (Ma ws lad)))) dd=some (.frz o (.dK (Ma ws lad))):=Aa
 have fz:Ak.Fr dd H3 (upd H3 dd (.frz o (.dK (Ma ws lad)))):=λb u z n=>by rw[Aj n];exact z
 generalize upd H3 dd (.frz o (.dK (Ma ws lad)))=Hz at *
 have edd3:=s3 _ _ edd
 have sz:Am H1 Hz:=λb u z=>fz b u (s13 b u z) (Ai z fdd)
 have eprz:=fz _ _ (s3 _ _ epr) (Cd (s3 _ _ epr) edd3 (by intro z;cases z))
 have elz:=fz _ _ el (Cd el edd3 (by intro z;cases z))
 refine qB (d:=dd) (o:=o) (kvs:=Ma ws lad) (λi σ H4=>∃v12:Option V,σ=[some (.ref a),some (.ref p),some (.ref na),v3,v4,some (.str e.nm),v6,v7,v8,some (.ref pr),some (.ref le),some (.int n),v12]/\Am Hz H4) ⟨none,rfl,Am.refl _⟩ (λi σ H4 _ ⟨_,_,s4⟩=>s4 _ _ ez) ?_ ?_
 ·rintro i kv σ H4 hkv ⟨v12,rfl,s4⟩
  obtain⟨w,hw,rfl⟩:∃w,ws[i]? = some w/\kv=((KJ w:Key),V.int (((lad w).getD 0 0:Nat):Int)):=by
   unfold Ma at hkv
   rw[KP] at hkv
   cases hq:ws[i]? with
   | none=>rw[hq] at hkv;cases hkv
   | some w=>rw[hq] at hkv;cases hkv;exact⟨w,rfl,rfl⟩
  have hwm:=KD hw
  obtain⟨p0,r0,e0⟩:∃p0 r0,lad w=p0::r0:=by
   cases z:lad w with
   | nil=>exact absurd z (wpos w hwm)
   | cons p0 r0=>exact⟨p0,r0,rfl⟩
  have hval:=nH (lad:=lad) hwm
  rw[e0] at hval
  have hp0:p0 < (Hg lad es).length:=by rw[hlen];exact LS.lt w p0 (by rw[e0];exact JW)
  obtain⟨v',nd,a1,a2,ev⟩:=hv p0 hp0
  have ev4:=(ev.fr edd3 fz).same s4
  have hne:∀x,nd ≠ .need x:=λx z=>T3.nn p0 x (by rw[a2,z])
  have htv:=λk=>Ah.told_val T3 (λx hx=>let ⟨_,_,_,z2,_⟩:=hv x hx;by rw[z2];exact nofun) (λx hx s' hs' y hy=>hLd.at hs' hy) k k (JM _) p0 nd a2
  have hdue:∀k,EY (rS B e.od w 0 n k [])=hV nd k:=λk=>by
   rw[BP,Wf LO k k (JM _) w 0 n []]
   show BI (Ah.cLd _ k (Fl lad w (kn B e.od w 0)))=_
   rw[eV,show Fl lad w 0=.go p0 by unfold Fl;rw[e0];rfl]
   show BI (Ah.cR (Ak.rowF (Hg lad es)) p0 k)=_
   rw[htv k]
   exact AO hne k
  refine⟨_,rfl,_,rfl,_,rfl,_,rfl,_,rfl,_,rfl,pr,_,_,_,rfl,rfl,Ck.of (s4 _ _ eprz),Ak.at0 _ _,_,rfl,dd,_,rfl,.inl ⟨_,KJ w,.inr ⟨o,s4 _ _ ez⟩,rfl,hval.symm⟩,le,_,_,_,rfl,rfl,Aw.of (s4 _ _ elz),Bc a1,?_⟩
  refine⟨p,d,e.nm,w,n,v',nd,L,e,B,rfl,Mn S.bk.nd hem,U.same (sz.trans s4),hnb0,hnb1,ev4,hne,hdue,λH5 s5=>?_⟩
  exact⟨_,rfl,Eb ⟨_,rfl,s4.trans s5⟩⟩
 ·rintro σ H4 ⟨v12,rfl,s4⟩
  exact q _
theorem Yx.at{H0 H1:Hp}{p d:JO}{ns:List Str}{m:Nat}{x:Str}(h:Yx CB CH H0 H1 p d ns m)(hx:x∈ns):∃(L:List Ent)(B:Ci)(j:Nat)(en:Ent),cO CB CH H1 p d L B/\L.map (·.nm)=ns/\(∀e∈L,e.bd.length<=m)/\Md H0 H1/\L[j]? = some en/\en.nm=x:=by
 obtain⟨L,B,S,rfl,b,k⟩:=h
 obtain⟨en,he,rfl⟩:=LR.mp hx
 obtain⟨j,hj⟩:=MM he
 exact⟨L,B,j,en,S,rfl,b,k,hj,rfl⟩
theorem zK{y:Str}(h:Fz y=true):y.length<=20:=by
 unfold Fz at h
 rw[MJ,MJ] at h
 exact of_decide_eq_true h.1.2
theorem cH(T:Ha K mg CB CH)(Tx:Txt mg)(Tp:cU ks)(GB:Al P w K mg base Bi 3 fB dB ["_law_words","_law_first","_law_cell"] Jk)(kB:JV K (.ref fB)=true)(bB:Binds K dB ["_law_words","_law_first","_law_cell"] [])(mB:mg "_law_body_by" = some (.ref fB))(GE:Al P w K mg base Bi 6 fE dE ["self","name","word","body"] (Ky CB CH ks))(bE:Binds K dE ["self","name","word","body"] [])(mE:Dt K CB "teach" fE)(cdv:JH)(A:LM)(outer:List Env)(s:JL)(H:Hp)(E:XK)(hr:Co 170 (A.deeper (QE "law" (Ad Fq) s.heap.objs.size f cdv)))(Q:VK)(h8:∃tt,Hy (Er Je P w K mg base Uo "law" (Ad Fq) f cdv A outer s H E).nox ((Bg Fq).drop 8) tt /\
  ∀(H1:Hp)(a p d na:JO)(ns:List Str)(m:Nat)(zs:List Int)(v3 v4 v5 v6 v7 v8:Option V),Yx CB CH H1 H1 p d ns m->m<=500->0 < ns.length->ns.length<=40->H1 na=some (.lst (Az ns))->Aw K H1 a (zs.map V.int)->(∀H',Q (.bl true) H') ->
   tt { nx:=λ_ H'=>Q .non H',rt:=Q } [some (.ref a),some (.ref p),some (.ref na),v3,v4,v5,v6,v7,v8,none,none,none,none] H1):
 ∃tt,Hy (Er Je P w K mg base Uo "law" (Ad Fq) f cdv A outer s H E).nox ((Bg Fq).drop 7) tt /\
  ∀(H1:Hp)(a p d na wa:JO)(ns ws:List Str)(m:Nat)(zs:List Int)(v3 v4 v5:Option V),Yx CB CH H1 H1 p d ns m->m<=300->0 < ns.length->ns.length<=40->H1 na=some (.lst (Az ns))->H1 wa=some (.lst (Az ws))->0 < ws.length->ws.length<=7->(∀y∈ws,Fz y=true)->Aw K H1 a (zs.map V.int)->(∀H',Q (.bl true) H') ->
   tt { nx:=λ_ H'=>Q .non H',rt:=Q } [some (.ref a),some (.ref p),some (.ref na),v3,v4,v5,some (.ref wa),none,none,none,none,none,none] H1:=by
 have hr3:=hr.mono (j:=3) (by decide)
 have hr6:=hr.mono (j:=6) (by decide)
 obtain⟨t8,h8,p8⟩:=h8
 refine⟨_,Ac (Eh MN rfl (Dk (Cj El (pv 0) (Cy Ae) (Cy Ae))) (Dg 7 Gu.nd)
  (Ac (Bv 8 Gu.nd (Cf GB hr3 mB kB bB (Iz (pv 6) Ae (Aq Dy (pv 7) Ae))))
  (Af (Bx (Ee (pv 1) T.clB mE GE hr6 bE .nil Dh (Iz (As Bj (pv 2) (Aq Cb (pv 7) (Bw Tx.len (pv 2))) (λ_ _=>rfl)) (As Bj (pv 6) (Aq Cb (Aq Dy (pv 7) Ae) (Bw Tx.len (pv 6))) (λ_ _=>rfl)) (pv 8))))))) h8,?_⟩
 intro H1 a p d na wa ns ws m zs v3 v4 v5 S hm hn0 hn ena ewa hw0 hwl hws esa q
 have lsv:(Az ns).length=ns.length:=Av _
 have lsw:(Az ws).length=ws.length:=Av _
 refine⟨_,rfl,_,rfl,_,rfl,a,_,rfl,esa,λsl hsl=>?_⟩
 obtain⟨ms,ems,hms⟩:=mD zs 5 63
 rw[show Fy (zs.map V.int) (some 5) (some 63)=ms.map V.int from ems]
 obtain⟨H2,zz,s1,esl⟩:=lay hsl (.lst (ms.map V.int))
 rw[zz]
 have S2:=(S.same s1).re
 have ena2:=s1 _ _ ena
 have ewa2:=s1 _ _ ewa
 have esa2:=s1.seq esa
 refine⟨sl,rfl,⟨_,Aw.of esl⟩,Fi (K:=K) (a:=sl) (xs:=ms.map V.int) (λi σ H3=>∃v7 v8:Option V,σ=[some (.ref a),some (.ref p),some (.ref na),v3,v4,v5,some (.ref wa),v7,v8,none,none,none,none]/\Yx CB CH H2 H3 p d ns (m+i)) ⟨_,_,rfl,S2⟩ (λi σ H3 _ ⟨_,_,_,S3⟩=>Aw.of (S3.kp.lst esl)) ?_ ?_⟩
 ·rintro i v σ H3 hi ⟨v7,v8,rfl,S3⟩
  obtain⟨c,hc,rfl⟩:=pS hi
  have hil:i < ms.length:=(JF.mp hc).1
  obtain⟨k5,hk5,hk5l⟩:=Vv (x:=c) hn0
  have pickn:Jb (Az ns) (c % ((Az ns).length:Int))=some (.str ns[k5]):=by
   rw[lsv,hk5]
   exact Bc (Ms (JK hk5l))
  have hxm:ns[k5]∈ns:=OO hk5l
  generalize ns[k5]=x at *
  obtain⟨k6,hk6,hk6l⟩:=Vv (x:=c / 7) hw0
  have pickw:Jb (Az ws) (c / 7 % ((Az ws).length:Int))=some (.str ws[k6]):=by
   rw[lsw,hk6]
   exact Bc (Ms (JK hk6l))
  have hyw:ws[k6]∈ws:=OO hk6l
  generalize ws[k6]=y at *
  have hyk:=hws y hyw
  have hyl:=zK hyk
  refine⟨_,rfl,_,rfl,_,_,rfl,rfl,⟨by decide,by decide⟩,wa,ws,0,_,rfl,S3.kp.lst ewa2,hw0,by omega,λlb ts ss H5 hlb s5 elb hst hss hsl=>?_⟩
  have ena5:=s5 _ _ (S3.kp.lst ena2)
  have ewa5:=s5 _ _ (S3.kp.lst ewa2)
  obtain⟨L,B,j,en,S5,hns,hbl,kx,hj,rfl⟩:=(S3.same s5).at hxm
  obtain⟨dx5,hp5⟩:=S5.bk.ob
  have hem:=KD hj
  refine⟨_,rfl,p,dx5,_,rfl,hp5,Gs d (by decide +kernel),_,rfl,_,rfl,_,rfl,na,_,rfl,.inl (Aw.of ena5),_,_,rfl,rfl,(by rw[lsv];omega),na,_,_,_,rfl,rfl,Aw.of ena5,pickn,_,rfl,_,rfl,_,_,rfl,rfl,⟨by decide,by decide⟩,_,rfl,wa,_,rfl,.inl (Aw.of ewa5),_,_,rfl,rfl,(by rw[lsw];omega),wa,_,_,_,rfl,rfl,Aw.of ewa5,pickw,_,rfl,p,d,lb,L,en.nm,y,en,ts,ss.map Stp.pr,rfl,S5.bk,Mn S5.bk.nd hem,hyk,by rw[KS];omega,elb,hst,Rz Tp hws hss (by omega),by have:=hbl en hem;omega,λla H8 hla ela eba k8=>?_⟩
  have E5:=(S5.bk.en en hem).bd
  have kx8:Md H5 H8:=λb o h n _=>k8 b o h (Cd h E5 (n _))
  have hla8:Hm H8 la ss:=⟨ts,ela,hst.1,λa t pr h1 h2=>kx8 _ _ (hst.2 a t pr h1 h2) (by intro z e;cases e) (by intro z e;cases e)⟩
  refine⟨_,_,rfl,_,_,S5.put hj (w:=y) (ss:=ss) ⟨λs hs=>(hss s hs).ok,by omega⟩ k8 eba hla8,(Ef (f:=λx:Ent=>x.nm) (e':={ en with bd:=putK en.bd (KJ y:Key) (.ref la) }) hj rfl).trans hns,λe1 he1=>?_,kx.trans kx8⟩
  rcases RC he1 with z | z
  ·have:=hbl e1 z
   omega
  ·rw[z]
   have h1:=Dm en.bd (KJ y:Key) (.ref la)
   have h2:=hbl en hem
   show (putK en.bd (KJ y:Key) (.ref la)).length<=_
   omega
 ·rintro σ H3 ⟨v7,v8,rfl,S3⟩
  rw[JJ] at S3
  exact p8 H3 a p d na ns _ zs _ _ _ _ _ _ S3.re (by omega) hn0 hn (S3.kp.lst ena2) (S3.kp.seq esa2) q
end
section
variable {P:KI} {w:LQ} {K:JG} {mg:Str->Option JH} {base:MV} {f fO fC fD fL fG fT fB fE fN fK fF fI fR CB CH:JO} {fd dO dC dD dL dG dT dB dE dN dK dF dI dR:LG} {ks:List (Str×JO×List Str)}
theorem HP:(["_law_k","_law_script"]:List Str).Nodup:=by decide +kernel
theorem iP(T:Ha K mg CB CH)(Tx:Txt mg)(Tp:cU ks)(GC:Al P w K mg base Bi 1 fC dC ["_law_script","_law_k"] (My K))(kC:JV K (.ref fC)=true)(bC:Binds K dC ["_law_script","_law_k"] [])(mC:mg "_law_cell_at" = some (.ref fC))(GN:Al P w K mg base Bi 1 fN dN ["_law_k","_law_cell"] Qa)(kN:JV K (.ref fN)=true)(bN:Binds K dN ["_law_k","_law_cell"] [])(mN:mg "_law_name_by" = some (.ref fN))(GK:Al P w K mg base Bi 7 fK dK ["_law_book","_law_names","_law_words","_law_seed"] (Kb CB CH))(kK:JV K (.ref fK)=true)(bK:Binds K dK ["_law_book","_law_names","_law_words","_law_seed"] [])(mK:mg "_law_taught" = some (.ref fK))(cdv:JH)(A:LM)(outer:List Env)(s:JL)(H:Hp)(E:XK)(hr:Co 170 (A.deeper (QE "law" (Ad Fq) s.heap.objs.size f cdv)))(Q:VK)(h7:∃tt,Hy (Er Je P w K mg base Uo "law" (Ad Fq) f cdv A outer s H E).nox ((Bg Fq).drop 7) tt /\
  ∀(H1:Hp)(a p d na wa:JO)(ns ws:List Str)(m:Nat)(zs:List Int)(v3 v4 v5:Option V),Yx CB CH H1 H1 p d ns m->m<=300->0 < ns.length->ns.length<=40->H1 na=some (.lst (Az ns))->H1 wa=some (.lst (Az ws))->0 < ws.length->ws.length<=7->(∀y∈ws,Fz y=true)->Aw K H1 a (zs.map V.int)->(∀H',Q (.bl true) H') ->
   tt { nx:=λ_ H'=>Q .non H',rt:=Q } [some (.ref a),some (.ref p),some (.ref na),v3,v4,v5,some (.ref wa),none,none,none,none,none,none] H1):
 ∃tt,Hy (Er Je P w K mg base Uo "law" (Ad Fq) f cdv A outer s H E).nox ((Bg Fq).drop 5) tt /\
  ∀(H1:Hp)(a p d na:JO)(L:List Ent)(zs:List Int)(v3 v4 v5:Option V),Be CB CH H1 p d L->Gv L->0 < L.length->L.length<=40->(∀e∈L,e.bd=[])->H1 na=some (.lst (Az (L.map (·.nm))))->Aw K H1 a (zs.map V.int)->(∀H',Q (.bl true) H') ->
   tt { nx:=λ_ H'=>Q .non H',rt:=Q } [some (.ref a),some (.ref p),some (.ref na),v3,v4,v5,none,none,none,none,none,none,none] H1:=by
 have hr1:=hr.mono (j:=1) (by decide)
 have hr7:=hr.mono (j:=7) (by decide)
 obtain⟨t7,h7,p7⟩:=h7
 refine⟨_,Ac (Dd (i:=6) (Ad Fq) Uo ["_law_k"] [("_law_script", 0)] rfl Gu.nd rfl rfl (Fc rfl Tx.range (Du (Aq Cm Ae (Aq Cb (Cf GC hr1 mC kC bC (Em (pv 0) Ae)) Ae)))) (Bm (i:=0) (by decide)) (λ_ _ _ _ _ _=>⟨Dg 0 HP,Dr,
  Cf GN hr1 mN kN bN (Em (pv 0) (Cf GC hr1 mC kC bC (Em (pv 1) Ae)))⟩))
  (Ac (Bx (Cf GK hr7 mK kK bK (rP (pv 1) (pv 2) (pv 6) (Aq Cm (Cf GC hr1 mC kC bC (Em (pv 0) Ae)) (Cf GC hr1 mC kC bC (Em (pv 0) Ae)))))) h7),?_⟩
 intro H1 a p d na L zs v3 v4 v5 B O hL0 hL hbd ena esa q
 have hq0:0<=zs.getD 4 0 % 5:=ME _ (by decide)
 have hq1:zs.getD 4 0 % 5 < 5:=LZ _ (by decide)
 obtain⟨m,hm⟩:=NJ (show 0<=2+zs.getD 4 0 % 5 by omega)
 refine⟨_,rfl,a,zs,4,rfl,esa,_,_,rfl,rfl,(by show (0:Int) < 5;decide),_,_,rfl,rfl,(m:Int),by show [V.int (2+zs.getD 4 0 % 5)]=_;rw[hm],by omega,by omega,Ir (k:=(m:Int).toNat) (λi ys H5=>H5=H1/\ys=Az (row (zs.getD 3 0) i)) ⟨rfl,rfl⟩ ?_ ?_⟩
 ·rintro i ys H5 hi ⟨rfl,rfl⟩
  rw[LX] at hi
  have e0:(0:Int)+(i:Int)=(i:Int):=by omega
  rw[e0]
  refine⟨_,rfl,_,rfl,a,zs,3,rfl,esa,_,_,rfl,?_,rfl,nM _ _⟩
  rw[Av,Uw,KS]
  omega
 rintro ys H5 ⟨rfl,rfl⟩ wa hwa
 rw[LX]
 have s2:=Ag hwa (.lst (Az (row (zs.getD 3 0) m)))
 have ewa:(upd H5 wa (.lst (Az (row (zs.getD 3 0) m)))) wa=some (.lst (Az (row (zs.getD 3 0) m))):=Aa
 have wl:(row (zs.getD 3 0) m).length=m:=Uw _ _
 have wnd:(row (zs.getD 3 0) m).Nodup:=AW (by omega)
 have wok:∀y∈row (zs.getD 3 0) m,Fz y=true:=λy hy=>Up (AF hy)
 generalize row (zs.getD 3 0) m=ws at *
 generalize upd H5 wa (.lst (Az ws))=H6 at *
 have esa6:=s2.seq esa
 refine⟨_,rfl,_,rfl,_,rfl,_,rfl,a,zs,2,rfl,esa6,_,rfl,a,zs,4,rfl,esa6,_,_,rfl,rfl,p,d,na,wa,L,ws,_,rfl,B.same s2,O,hL,hbd,s2 _ _ ena,ewa,by omega,wok,λka H7 S7=>?_⟩
 have k7:=S7.kp
 exact p7 H7 a p d na wa _ ws 300 zs _ _ _ S7.m (by decide) (by rw[JJ];exact hL0) (by rw[JJ];exact hL) (k7.lst (s2 _ _ ena)) (k7.lst ewa) (by omega) (by omega) wok (k7.seq esa6) q
theorem cN(T:Ha K mg CB CH)(Tx:Txt mg)(GC:Al P w K mg base Bi 1 fC dC ["_law_script","_law_k"] (My K))(kC:JV K (.ref fC)=true)(bC:Binds K dC ["_law_script","_law_k"] [])(mC:mg "_law_cell_at" = some (.ref fC))(GN:Al P w K mg base Bi 1 fN dN ["_law_k","_law_cell"] Qa)(kN:JV K (.ref fN)=true)(bN:Binds K dN ["_law_k","_law_cell"] [])(mN:mg "_law_name_by" = some (.ref fN))(GF:Al P w K mg base Je 6 fF dF ["_law_book","_law_names","_law_name","_law_cell"] (Kf CB CH))(kF:JV K (.ref fF)=true)(bF4:Binds K dF ["_law_book","_law_names","_law_name","_law_cell"] [])(mF:mg "_law_founded" = some (.ref fF))(cdv:JH)(A:LM)(outer:List Env)(s:JL)(H:Hp)(E:XK)(hr:Co 170 (A.deeper (QE "law" (Ad Fq) s.heap.objs.size f cdv)))(Q:VK)(h5:∃tt,Hy (Er Je P w K mg base Uo "law" (Ad Fq) f cdv A outer s H E).nox ((Bg Fq).drop 5) tt /\
  ∀(H1:Hp)(a p d na:JO)(L:List Ent)(zs:List Int)(v3 v4 v5:Option V),Be CB CH H1 p d L->Gv L->0 < L.length->L.length<=40->(∀e∈L,e.bd=[])->H1 na=some (.lst (Az (L.map (·.nm))))->Aw K H1 a (zs.map V.int)->(∀H',Q (.bl true) H') ->
   tt { nx:=λ_ H'=>Q .non H',rt:=Q } [some (.ref a),some (.ref p),some (.ref na),v3,v4,v5,none,none,none,none,none,none,none] H1):
 ∃tt,Hy (Er Je P w K mg base Uo "law" (Ad Fq) f cdv A outer s H E).nox ((Bg Fq).drop 4) tt /\
  ∀(H0 H1:Hp)(a p d na:JO)(n:Nat)(zs:List Int),Be CB CH (mask1 H1 na) p d []->Am H0 H1->H0 d=none->H0 na=none->0 < n->n<=40->H1 na=some (.lst [])->Aw K H0 a (zs.map V.int)->(∀H',Q (.bl true) H') ->
   tt { nx:=λ_ H'=>Q .non H',rt:=Q } [some (.ref a),some (.ref p),some (.ref na),some (.int (n:Int)),none,none,none,none,none,none,none,none,none] H1:=by
 have hr1:=hr.mono (j:=1) (by decide)
 have hr6:=hr.mono (j:=6) (by decide)
 obtain⟨t5,h5,p5⟩:=h5
 refine⟨_,Ac (Eh MN rfl (Fc rfl Tx.range (Du (pv 3))) (Dg 4 Gu.nd)
  (Ac (Bv 5 Gu.nd (Cf GN hr1 mN kN bN (Em (pv 4) (Cf GC hr1 mC kC bC (Em (pv 0) Ae)))))
  (Ac (Bx (Dj GF hr6 rfl mF kF bF4 .nil Ti (rP (pv 1) (pv 2) (pv 5) (Aq Cm (Cf GC hr1 mC kC bC (Em (pv 0) Ae)) (Aq Ku Ae (pv 4))))))
  (Af (Bx (Ll MO MS MR Ed (pv 2) (Du (pv 5)))))))) h5,?_⟩
 intro H0 H1 a p d na n zs B0 s0 fd0 fna hn0 hn ena esa q
 refine⟨_,rfl,_,rfl,by omega,by omega,Hv (n:=(n:Int).toNat) (λi σ H7=>∃(L:List Ent)(v4 v5:Option V),σ=[some (.ref a),some (.ref p),some (.ref na),some (.int (n:Int)),v4,v5,none,none,none,none,none,none,none]/\Be CB CH (mask1 H7 na) p d L/\Gv L/\L.length=i/\(∀(j:Nat)(e:Ent),L[j]? = some e->e.nm=Ft (j:Int) (zs.getD 1 0)/\e.bd=[])/\H7 na=some (.lst (Az (L.map (·.nm))))/\Am H0 H7)
  ⟨[],none,none,rfl,B0,(λe he=>nomatch he),rfl,(λj e h=>by simp at h),ena,s0⟩ ?_ ?_⟩
 ·rintro i σ H7 hi ⟨L,v4,v5,rfl,B,O,hLl,hL,ena7,s7⟩
  rw[LX] at hi
  have e0:(0:Int)+(i:Int)=(i:Int):=by omega
  rw[e0]
  have esa7:=s7.seq esa
  have hnx:=fU (i:Int) (zs.getD 1 0)
  have hnew:Hl L (Ft (i:Int) (zs.getD 1 0))=none:=qV λe he z=>by
   obtain⟨j,hj⟩:=MM he
   have hjl:j < L.length:=(JF.mp hj).1
   rw[(hL j e hj).1] at z
   have:=Xh (by omega) (by omega) (by omega) (by omega) z
   omega
  refine⟨_,rfl,_,rfl,a,zs,1,rfl,esa7,_,_,rfl,?_⟩
  have Bf:Be CB CH H7 p d L:=B.same Sn
  refine⟨_,rfl,_,rfl,_,rfl,_,rfl,a,zs,2,rfl,esa7,_,rfl,_,_,rfl,rfl,.inl ⟨by decide,by decide⟩,_,_,rfl,rfl,p,d,na,L,_,_,rfl,Bf,ena7,O,by omega,hnx,hnew,λH8 e B8 hnm hbd O8 fr k8=>?_⟩
  have nad:na≠d:=Cd ena7 Bf.dc (by intro z;cases z)
  have ena8:=k8 _ _ ena7 nad
  refine⟨_,rfl,.inl ⟨rfl,_,Aw.of ena8⟩,_,rfl,na,_,_,rfl,rfl,ena8,?_,?_⟩
  ·show (Az (L.map (·.nm))).length < JQ
   rw[Av,JJ,KS]
   omega
  refine⟨L++[e],_,_,rfl,?_,O8,by rw[JN,hLl];rfl,λj e' he'=>?_,?_,λb o hb=>?_⟩
  ·rw[lC]
   exact B.maskAdd B8 fr ena7
  ·by_cases hj:j < L.length
   ·rw[KN hj] at he'
    exact hL j e' he'
   ·have hjl:j < (L++[e]).length:=(JF.mp he').1
    rw[JN,JY] at hjl
    obtain rfl:j=L.length:=by omega
    rw[KH] at he'
    cases he'
    exact⟨by rw[hnm,hLl],hbd⟩
  ·rw[Aa,JX]
   unfold Az
   rw[JX]
   show some (HO.lst (_++[V.str _]))=some (HO.lst (_++[V.str e.nm]))
   rw[hnm]
  ·rw[Aj (Ai hb fna)]
   exact k8 b o (s7 _ _ hb) (Ai hb fd0)
 ·rintro σ H7 ⟨L,v4,v5,rfl,B,O,hLl,hL,ena7,s7⟩
  rw[LX] at hLl
  refine p5 H7 a p d na L zs _ _ _ (B.same Sn) O (by omega) (by omega) (λe he=>?_) ena7 (s7.seq esa) q
  obtain⟨j,hj⟩:=MM he
  exact(hL j e hj).2
theorem yA(F:Di K "law" "law" Fq f fd)(T:Ha K mg CB CH)(Tx:Txt mg)(Tp:cU ks)(GC:Al P w K mg base Bi 1 fC dC ["_law_script","_law_k"] (My K))(kC:JV K (.ref fC)=true)(bC:Binds K dC ["_law_script","_law_k"] [])(mC:mg "_law_cell_at" = some (.ref fC))(GL:Al P w K mg base Je 4 fL dL ["book","name"] (Uk CB CH))(kL:JV K (.ref fL)=true)(bL:Binds K dL ["book","name"] [])(mL:mg "left_out" = some (.ref fL))(GT:Al P w K mg base Bi 6 fT dT ["rows"] (Ak.spTold K))(kT:JV K (.ref fT)=true)(bT:Binds K dT ["rows"] [])(mT:mg "told_ahead" = some (.ref fT))(GR:Al P w K mg base Je 170 fR dR ["_law_book","_law_name","_law_word","_law_number","_law_end"] (Nw K CB CH))(kR:JV K (.ref fR)=true)(bR:Binds K dR ["_law_book","_law_name","_law_word","_law_number","_law_end"] [])(mR:mg "_law_right" = some (.ref fR))(GB:Al P w K mg base Bi 3 fB dB ["_law_words","_law_first","_law_cell"] Jk)(kB:JV K (.ref fB)=true)(bB:Binds K dB ["_law_words","_law_first","_law_cell"] [])(mB:mg "_law_body_by" = some (.ref fB))(GE:Al P w K mg base Bi 6 fE dE ["self","name","word","body"] (Ky CB CH ks))(bE:Binds K dE ["self","name","word","body"] [])(mE:Dt K CB "teach" fE)(GN:Al P w K mg base Bi 1 fN dN ["_law_k","_law_cell"] Qa)(kN:JV K (.ref fN)=true)(bN:Binds K dN ["_law_k","_law_cell"] [])(mN:mg "_law_name_by" = some (.ref fN))(GK:Al P w K mg base Bi 7 fK dK ["_law_book","_law_names","_law_words","_law_seed"] (Kb CB CH))(kK:JV K (.ref fK)=true)(bK:Binds K dK ["_law_book","_law_names","_law_words","_law_seed"] [])(mK:mg "_law_taught" = some (.ref fK))(GF:Al P w K mg base Je 6 fF dF ["_law_book","_law_names","_law_name","_law_cell"] (Kf CB CH))(kF:JV K (.ref fF)=true)(bF4:Binds K dF ["_law_book","_law_names","_law_name","_law_cell"] [])(mF:mg "_law_founded" = some (.ref fF))(GI:Al P w K mg base Bi 1 fI dI ["self"] (Tw CB))(bI:Binds K dI ["self"] [])(MB:Mk K CB fI):Al P w K mg base Je 171 f fd ["_law_script"] (gI K):=by
 refine F.ok1 Gu (λvs H Q E h=>?_) (λcdv A outer s H vs Q E hr h=>?_)
 ·obtain⟨a,zs,rfl,_⟩:=h
  rfl
 obtain⟨a,zs,rfl,S,h63,q⟩:=h
 have hr1:=hr.mono (j:=1) (by decide)
 have hr2:=hr.mono (j:=2) (by decide)
 obtain⟨t4,h4,p4⟩:=cN (f:=f) T Tx GC kC bC mC GN kN bN mN GF kF bF4 mF cdv A outer s H E hr Q
  (iP (f:=f) T Tx Tp GC kC bC mC GN kN bN mN GK kK bK mK cdv A outer s H E hr Q
   (cH (f:=f) T Tx Tp GB kB bB mB GE bE mE cdv A outer s H E hr Q
    (uC (f:=f) T Tx GC kC bC mC GL kL bL mL GT kT bT mT GR kR bR mR cdv A outer s H E hr Q)))
 refine⟨_,Ac (Bv 1 Gu.nd (oS MB GI hr2 rfl T.mgB bI .nil Dh))
  (Ac (Bv 2 Gu.nd (De Fw))
  (Ac (Bv 3 Gu.nd (Aq Cm Ae (Aq Cb (Cf GC hr1 mC kC bC (Em (pv 0) Ae)) Ae)))
  (Ac (Ay (Ar Cc (Aq Cb (Aq Dy (Cf GC hr1 mC kC bC (Em (pv 0) Ae)) Ae) Ae) Ae (Au _)) (Af (Bv 3 Gu.nd (Aq Cm Ae (Aq Cb (Aq Dy (Cf GC hr1 mC kC bC (Em (pv 0) Ae)) Ae) Ae)))) Ap) h4))),?_⟩
 -- Book()
 intro p dx np ndx nex
 refine⟨p,dx,rfl,Aa,λd hd=>⟨rfl,?_⟩⟩
 have hd1:d≠p:=λz=>by rw[z,Aa] at hd;cases hd
 have fd0:H d=none:=Nn (Nn hd)
 have sb:Am H (upd (upd (upd (upd H dx (.own p)) p (.ins CB dx [])) d (.dK [])) p (.ins CB dx (bF d))):=λb o e=>by
  rw[Aj (Ai e np),Aj (Ai e fd0),Aj (Ai e np),Aj (Ai e ndx)]
  exact e
 have ep:(upd (upd (upd (upd H dx (.own p)) p (.ins CB dx [])) d (.dK [])) p (.ins CB dx (bF d))) p=some (.ins CB dx (bF d)):=Aa
 have ed:(upd (upd (upd (upd H dx (.own p)) p (.ins CB dx [])) d (.dK [])) p (.ins CB dx (bF d))) d=some (.dK []):=by rw[Aj hd1];exact Aa
 generalize upd (upd (upd (upd H dx (.own p)) p (.ins CB dx [])) d (.dK [])) p (.ins CB dx (bF d))=H1 at *
 have B0:Be CB CH H1 p d []:=⟨⟨dx,ep⟩,ed,(λe he=>nomatch he),(λe he=>nomatch he),OV,OV⟩
 -- names
 refine⟨by show 0<=JQ;decide,λna hna=>?_⟩
 obtain⟨H2,zz,s2,ena⟩:=lay hna (.lst [])
 rw[zz]
 have sA:=sb.trans s2
 have S2:=sA.seq S
 have B2:Be CB CH (mask1 H2 na) p d []:=B0.same (Am.mask1 s2 hna)
 have m0:0<=zs.getD 0 0 % 7:=ME _ (by decide)
 have m1:zs.getD 0 0 % 7 < 7:=LZ _ (by decide)
 have m2:0<=zs.getD 0 0 / 56 % 13:=ME _ (by decide)
 have m3:zs.getD 0 0 / 56 % 13 < 13:=LZ _ (by decide)
 refine⟨_,rfl,a,zs,0,rfl,S2,_,_,rfl,rfl,(by show (0:Int) < 7;decide),_,_,rfl,rfl,?_⟩
 refine⟨_,rfl,a,zs,0,rfl,S2,_,_,rfl,rfl,⟨by decide,by decide⟩,_,_,rfl,rfl,(by show (0:Int) < 8;decide),rfl,_,rfl,Br (λe=>?_) (λe=>?_)⟩
 ·obtain⟨n,hn⟩:=NJ (show 0<=8+zs.getD 0 0 / 56 % 13 by omega)
  have z:=p4 H H2 a p d na n zs B2 sA fd0 (sb.free hna) (by omega) (by omega) ena S q
  rw[<- hn] at z
  exact⟨_,rfl,a,zs,0,rfl,S2,_,_,rfl,rfl,⟨by decide,by decide⟩,_,_,rfl,rfl,(by show (0:Int) < 13;decide),_,_,rfl,rfl,z⟩
 ·obtain⟨n,hn⟩:=NJ (show 0<=1+zs.getD 0 0 % 7 by omega)
  have z:=p4 H H2 a p d na n zs B2 sA fd0 (sb.free hna) (by omega) (by omega) ena S q
  rw[<- hn] at z
  exact z
end
end Bk
namespace Bk
open PySem L2 Mg Nm
def wL(w:LQ)(p:Str×Tok×JO):RT:=⟨NE w.params p.1,.str p.1 p.2.1,.ref p.2.2⟩
theorem mX{P:KI}{w:LQ}:∀ents:List (Str×Tok×JO),Pairs (Bo P w) (ents.map (wL w)) (ents.map λp=>((KJ p.1:Key),JZ p.2.2)):=by
 intro ents
 induction ents with
 | nil=>exact .nil
 | cons p ents ih=>exact .cons (Mq p.1 p.2.1) rfl ih
theorem vX{P:KI}{w:LQ}{K:JG}{aP:JO}{es:Array RT}{ep:Nat}(ents:List (Str×Tok×JO))(l:K.lookup aP=some ⟨.type "dict", none,.dict es ep,#[]⟩)(hes:es.toList=ents.map (wL w))(nd:(ents.map (·.1)).Nodup)(sm:(aP == OI)=false):cX P w K aP (ents.map λp=>((KJ p.1:Key),V.ref p.2.2)):=by
 refine⟨_,es,ep,ents.map λp=>((KJ p.1:Key),JZ p.2.2),l,⟨rfl,rfl,rfl⟩,rfl,λe he=>?_,by rw[hes];exact mX ents,?_,?_,sm⟩
 ·have he':e∈es.toList:=by simpa using he
  rw[hes] at he'
  obtain⟨p,hp,rfl⟩:=LR.mp he'
  exact⟨KJ p.1,Mq p.1 p.2.1,rfl⟩
 ·rw[List.map_map]
  have:((λq:Key×JH=>q.1) ∘ λp:Str×Tok×JO=>((KJ p.1:Key),JZ p.2.2))=λp=>(KJ p.1:Key):=rfl
  rw[this]
  have h2:(ents.map λp=>(KJ p.1:Key))=(ents.map (·.1)).map KJ:=by rw[List.map_map];rfl
  rw[h2]
  exact List.pairwise_map.mpr (nd.imp λh z=>h (KJ.inj z))
 ·clear l hes nd
  induction ents with
  | nil=>exact .nil
  | cons p ents ih=>exact .cons ⟨rfl,rfl⟩ ih
theorem Ex{K:JG}{H:Hp}{a:JO}{od:Option JO}{its:Array JH}{n:Nat}{sl:Array (Option JH)}{r:List Str}(l:K.lookup a=some ⟨.type "tuple", od,.seq its n,sl⟩)(v:Bb (Az r) its.toList)(hl:its.size<=JQ):Ck K H a (Az r):=.inr ⟨_,its,n,l,rfl,rfl,hl,v⟩
end Bk
namespace Bk
open PySem L2 Mg PySem.W
theorem Vo{K:Frag}{cls:JH}{C:JO}(h1:isClsIn K C=true)(h2:typeIn K (.ref C)=some (.type "type"))(h3:subIn K (.ref C) (.type "BaseException")=some true){b:Bool}(h4:subIn K cls (.ref C)=some b):exmOne K cls (.ref C)=some b:=by
 have e1:(clsIn K C).isSome=true:=h1
 unfold exmOne kitCls
 simp only[h2,h3,h4,e1]
 rfl
end Bk
namespace Bk
open PySem L2 Mg Nm Rk PySem.W
abbrev BF(p0 p1 p2 p3 p4 p5 p6 p7 p8 p9 p10 p11 p12 p13:JO):List (Str×JO×List Str):=[(("say" : Str),p0,([]:List Str)),(("put" : Str),p1,([("amount" : Str)]:List Str)),(("plus" : Str),p2,([("amount" : Str)]:List Str)),(("times" : Str),p3,([("amount" : Str)]:List Str)),(("both" : Str),p4,([("amount" : Str)]:List Str)),(("any" : Str),p5,([("amount" : Str)]:List Str)),(("odd" : Str),p6,([("amount" : Str)]:List Str)),(("over" : Str),p7,([("divisor" : Str)]:List Str)),(("part" : Str),p8,([("divisor" : Str)]:List Str)),(("up" : Str),p9,([("shift" : Str)]:List Str)),(("down" : Str),p10,([("shift" : Str)]:List Str)),(("onwards" : Str),p11,([]:List Str)),(("ask" : Str),p12,([("word" : Str)]:List Str)),(("try" : Str),p13,([("word" : Str),("word" : Str)]:List Str))]
theorem vK{us:List JH}(h:us.length=1):∃a,us=[a]:=match us,h with | [a],_=>⟨a,rfl⟩
theorem ln2{us:List JH}(h:us.length=2):∃a b,us=[a,b]:=match us,h with | [a,b],_=>⟨a,b,rfl⟩
theorem Yv{us:List JH}(h:us.length=3):∃a b c,us=[a,b,c]:=match us,h with | [a,b,c],_=>⟨a,b,c,rfl⟩
theorem wR{us:List JH}(h:us.length=4):∃a b c d,us=[a,b,c,d]:=match us,h with | [a,b,c,d],_=>⟨a,b,c,d,rfl⟩
theorem CC{us:List JH}(h:us.length=5):∃a b c d e,us=[a,b,c,d,e]:=match us,h with | [a,b,c,d,e],_=>⟨a,b,c,d,e,rfl⟩
abbrev aU(K:Frag)(f:JO)(oc:JH)(od:Option JO)(x q:Str)(st:OU)(kV dc pm:JH)(an:Option JO)(cd ct:JH)(sl:Array (Option JH)):Prop:=K.lookup f=some ⟨oc,od,.func (fnOf x q (Dx st) (Bg st) (Ad st) .none kV dc pm an cd ct),sl⟩/\codeIn K cd q=true/\keepIn K (.ref f)=true
abbrev aN(K:Frag)(x:Str)(f:JO):Prop:=nsIn K LH x=some (some (.ref f))
abbrev aM(K:Frag)(C:JO)(x:Str)(f:JO):Prop:=RY K (.ref C) x=some (some (.ref f))/\isFn K (.ref f)=true
abbrev aK(K:Frag)(C:JO):Prop:=plainGet K C Str.empty=true/\hasDictIn K C=true/\plainOver K C=true/\RY K (.ref C) "__setattr__" = some (some (.builtin "object.__setattr__"))/\makesIn K C=true/\keepIn K (.ref C)=true
theorem Bl{K:Frag}{f:JO}{oc:JH}{od:Option JO}{x q:Str}{st:OU}{kV dc pm:JH}{an:Option JO}{cd ct:JH}{sl:Array (Option JH)}(h:aU K f oc od x q st kV dc pm an cd ct sl):Di K x q st f (fnOf x q (Dx st) (Bg st) (Ad st) .none kV dc pm an cd ct):=pA h.1 h.2.1 h.2.2
theorem yU{l:PySem.W.OpenLaw}{w:LQ}{K:JG}{h:MV}{mg:Str->Option JH}{fa f1 f2 f3 f4 f5 f6 f7 f8 f11 f12 f13 f14 f16 f18 f19 f20 f21 f22 f23 f26 f29 f28 f30 f31 f32 f40 f41 f42 f43 f44 f45 f46 f47 f50 f48 f51 f52 f60 f61 f62 f63 f64 f80 f81 f82 f83 f84 f85 f86 f87 f88 f89 f90 f91 CB CH CA CL T14 T43:JO}(X:K.In h)(G:h.Ns LH mg)(hfa:mg "law" = some (.ref fa)){od1 an1 od2 an2 od3 an3 od4 an4 od5 an5 od6 an6 od7 an7 od8 an8 od11 an11 od12 an12 od13 an13 od14 an14 od16 an16 od18 an18 od19 an19 od20 an20 od21 an21 od22 an22 od23 an23 od26 an26 od29 an29 od28 an28 od30 an30 od31 an31 od32 an32 od40 an40 od41 an41 od42 an42 od43 an43 od44 an44 od45 an45 od46 an46 od47 an47 od50 an50 od48 an48 od51 an51 od52 an52 od60 an60 od61 an61 od62 an62 od63 an63 od64 an64 od80 an80 od81 an81 od82 an82 od83 an83 od84 an84 od85 an85 od86 an86 od87 an87 od88 an88 od89 an89 od90 an90 od91 an91:Option JO}{sl1 sl2 sl3 sl4 sl5 sl6 sl7 sl8 sl11 sl12 sl13 sl14 sl16 sl18 sl19 sl20 sl21 sl22 sl23 sl26 sl29 sl28 sl30 sl31 sl32 sl40 sl41 sl42 sl43 sl44 sl45 sl46 sl47 sl50 sl48 sl51 sl52 sl60 sl61 sl62 sl63 sl64 sl80 sl81 sl82 sl83 sl84 sl85 sl86 sl87 sl88 sl89 sl90 sl91:Array (Option JH)}{oc1 kV1 dc1 pm1 cd1 ct1 oc2 kV2 dc2 pm2 cd2 ct2 oc3 kV3 dc3 pm3 cd3 ct3 oc4 kV4 dc4 pm4 cd4 ct4 oc5 kV5 dc5 pm5 cd5 ct5 oc6 kV6 dc6 pm6 cd6 ct6 oc7 kV7 dc7 pm7 cd7 ct7 oc8 kV8 dc8 pm8 cd8 ct8 oc11 kV11 dc11 pm11 cd11 ct11 oc12 kV12 dc12 pm12 cd12 ct12 oc13 kV13 dc13 pm13 cd13 ct13 oc14 kV14 dc14 pm14 cd14 ct14 oc16 kV16 dc16 pm16 cd16 ct16 oc18 kV18 dc18 pm18 cd18 ct18 oc19 kV19 dc19 pm19 cd19 ct19 oc20 kV20 dc20 pm20 cd20 ct20 oc21 kV21 dc21 pm21 cd21 ct21 oc22 kV22 dc22 pm22 cd22 ct22 oc23 kV23 dc23 pm23 cd23 ct23 oc26 kV26 dc26 pm26 cd26 ct26 oc29 kV29 dc29 pm29 cd29 ct29 oc28 kV28 dc28 pm28 cd28 ct28 oc30 kV30 dc30 pm30 cd30 ct30 oc31 kV31 dc31 pm31 cd31 ct31 oc32 kV32 dc32 pm32 cd32 ct32 oc40 kV40 dc40 pm40 cd40 ct40 oc41 kV41 dc41 pm41 cd41 ct41 oc42 kV42 dc42 pm42 cd42 ct42 oc43 kV43 dc43 pm43 cd43 ct43 oc44 kV44 dc44 pm44 cd44 ct44 oc45 kV45 dc45 pm45 cd45 ct45 oc46 kV46 dc46 pm46 cd46 ct46 oc47 kV47 dc47 pm47 cd47 ct47 oc50 kV50 dc50 pm50 cd50 ct50 oc48 kV48 dc48 pm48 cd48 ct48 oc51 kV51 dc51 pm51 cd51 ct51 oc52 kV52 dc52 pm52 cd52 ct52 oc60 kV60 dc60 pm60 cd60 ct60 oc61 kV61 dc61 pm61 cd61 ct61 oc62 kV62 dc62 pm62 cd62 ct62 oc63 kV63 dc63 pm63 cd63 ct63 oc64 kV64 dc64 pm64 cd64 ct64 oc80 kV80 dc80 pm80 cd80 ct80 oc81 kV81 dc81 pm81 cd81 ct81 oc82 kV82 dc82 pm82 cd82 ct82 oc83 kV83 dc83 pm83 cd83 ct83 oc84 kV84 dc84 pm84 cd84 ct84 oc85 kV85 dc85 pm85 cd85 ct85 oc86 kV86 dc86 pm86 cd86 ct86 oc87 kV87 dc87 pm87 cd87 ct87 oc88 kV88 dc88 pm88 cd88 ct88 oc89 kV89 dc89 pm89 cd89 ct89 oc90 kV90 dc90 pm90 cd90 ct90 oc91 kV91 dc91 pm91 cd91 ct91:JH}{ocT14:JH}{odT14:Option JO}{slT14:Array (Option JH)}{nT14:Nat}{ocT43:JH}{odT43:Option JO}{slT43:Array (Option JH)}{nT43:Nat}{aP:JO}{esP:Array RT}{epP:Nat}{t0 t1 t2 t3 t4 t5 t6 t7 t8 t9 t10 t11 t12 t13:Tok}{p0 p1 p2 p3 p4 p5 p6 p7 p8 p9 p10 p11 p12 p13:JO}{oq0 oq1 oq2 oq3 oq4 oq5 oq6 oq7 oq8 oq9 oq10 oq11 oq12 oq13:Option JO}{nq0 nq1 nq2 nq3 nq4 nq5 nq6 nq7 nq8 nq9 nq10 nq11 nq12 nq13:Nat}{sq0 sq1 sq2 sq3 sq4 sq5 sq6 sq7 sq8 sq9 sq10 sq11 sq12 sq13:Array (Option JH)}{u1_0 u2_0 u3_0 u4_0 u5_0 u6_0 u7_0 u8_0 u9_0 u10_0 u12_0 u13_0 u13_1:Tok}{aV:JO}{tkN tkM:Tok}{oqN:Option JO}{nqN:Nat}{sqN:Array (Option JH)}{tkA tkB:Tok}{CO CU CS CE f99 NB:JO}{ocB ocN oc99 kV99 dc99 pm99 cd99 ct99:JH}{odB odN od99 an99:Option JO}{cdB:ClassData}{slB slN sl99:Array (Option JH)}{esN:Array RT}{epN:Nat}{NO:JO}{bmO bsO subO:List JH}{nmO qnO:Str}{hdctO abO:Bool}{snO:List Str}{colO:Option Bool}{ddO:Option JO}{y0O y1O y2O y3O y5O:Option JH}{NU:JO}{bmU bsU subU:List JH}{nmU qnU:Str}{hdctU abU:Bool}{snU:List Str}{colU:Option Bool}{ddU:Option JO}{y0U y1U y2U y3U y5U:Option JH}{NS:JO}{bmS bsS subS:List JH}{nmS qnS:Str}{hdctS abS:Bool}{snS:List Str}{colS:Option Bool}{ddS:Option JO}{y0S y1S y2S y3S y5S:Option JH}(aCB:nsIn K LH "Book" = some (some (.ref CB)))(pkB:aK K CB)(nB_by_name:RY K (.ref CB) "by_name" = some none)(aCH:nsIn K LH "House" = some (some (.ref CH)))(pkH:aK K CH)(nH_elder_row:RY K (.ref CH) "elder_row" = some none)(nH_order_row:RY K (.ref CH) "order_row" = some none)(nH_bodies:RY K (.ref CH) "bodies" = some none)(aCA:nsIn K LH "Asking" = some (some (.ref CA)))(pkA:aK K CA)(nA_book:RY K (.ref CA) "book" = some none)(nA_row:RY K (.ref CA) "row" = some none)(nA_tally:RY K (.ref CA) "tally" = some none)(aCL:nsIn K LH "Tally" = some (some (.ref CL)))(pkL:aK K CL)(nL_left:RY K (.ref CL) "left" = some none)(nL_said:RY K (.ref CL) "said" = some none)(a1:aN K "merged" f1)(u1:aU K f1 oc1 od1 "merged" "merged" Ga kV1 dc1 pm1 an1 cd1 ct1 sl1)(a2:aN K "counts_behind" f2)(u2:aU K f2 oc2 od2 "counts_behind" "counts_behind" Lh kV2 dc2 pm2 an2 cd2 ct2 sl2)(a3:aN K "free_name" f3)(u3:aU K f3 oc3 od3 "free_name" "free_name" Xw kV3 dc3 pm3 an3 cd3 ct3 sl3)(a4:aN K "take_out" f4)(u4:aU K f4 oc4 od4 "take_out" "take_out" Yu kV4 dc4 pm4 an4 cd4 ct4 sl4)(a5:aN K "made_order" f5)(u5:aU K f5 oc5 od5 "made_order" "made_order" Wg kV5 dc5 pm5 an5 cd5 ct5 sl5)(a6:aN K "is_name" f6)(u6:aU K f6 oc6 od6 "is_name" "is_name" Of kV6 dc6 pm6 an6 cd6 ct6 sl6)(a7:aN K "_law_cell_at" f7)(u7:aU K f7 oc7 od7 "_law_cell_at" "_law_cell_at" Ql kV7 dc7 pm7 an7 cd7 ct7 sl7)(a8:aN K "_law_name_by" f8)(u8:aU K f8 oc8 od8 "_law_name_by" "_law_name_by" qK kV8 dc8 pm8 an8 cd8 ct8 sl8)(a11:aN K "law" f11)(u11:aU K f11 oc11 od11 "law" "law" Fq kV11 dc11 pm11 an11 cd11 ct11 sl11)(m12:aM K CH "__init__" f12)(u12:aU K f12 oc12 od12 "__init__" "House.__init__" cY kV12 dc12 pm12 an12 cd12 ct12 sl12)(m13:aM K CB "__init__" f13)(u13:aU K f13 oc13 od13 "__init__" "Book.__init__" cK kV13 dc13 pm13 an13 cd13 ct13 sl13)(m14:aM K CB "found" f14)(l14:K.lookup f14=some ⟨oc14,od14,.func (fnOf "found" "Book.found" (Dx Il) (Bg Il) (Ad Il) (.ref T14) kV14 dc14 pm14 an14 cd14 ct14),sl14⟩)(c14:codeIn K cd14 "Book.found" = true)(k14:keepIn K (.ref f14)=true)(lT14:K.lookup T14=some ⟨ocT14,odT14,.seq #[.none] nT14,slT14⟩)(m16:aM K CB "order" f16)(u16:aU K f16 oc16 od16 "order" "Book.order" cE kV16 dc16 pm16 an16 cd16 ct16 sl16)(m18:aM K CB "house" f18)(u18:aU K f18 oc18 od18 "house" "Book.house" Zd kV18 dc18 pm18 an18 cd18 ct18 sl18)(a19:aN K "is_whole" f19)(u19:aU K f19 oc19 od19 "is_whole" "is_whole" aA kV19 dc19 pm19 an19 cd19 ct19 sl19)(a20:aN K "is_amount" f20)(u20:aU K f20 oc20 od20 "is_amount" "is_amount" Va kV20 dc20 pm20 an20 cd20 ct20 sl20)(a21:aN K "is_body" f21)(u21:aU K f21 oc21 od21 "is_body" "is_body" Oq kV21 dc21 pm21 an21 cd21 ct21 sl21)(a22:aN K "is_step" f22)(u22:aU K f22 oc22 od22 "is_step" "is_step" Oc kV22 dc22 pm22 an22 cd22 ct22 sl22)(a23:aN K "is_part" f23)(u23:aU K f23 oc23 od23 "is_part" "is_part" Ub kV23 dc23 pm23 an23 cd23 ct23 sl23)(m26:aM K CB "teach" f26)(u26:aU K f26 oc26 od26 "teach" "Book.teach" aL kV26 dc26 pm26 an26 cd26 ct26 sl26)(m29:aM K CB "own_words" f29)(u29:aU K f29 oc29 od29 "own_words" "Book.own_words" yN kV29 dc29 pm29 an29 cd29 ct29 sl29)(m28:aM K CB "body" f28)(u28:aU K f28 oc28 od28 "body" "Book.body" qD kV28 dc28 pm28 an28 cd28 ct28 sl28)(a30:aN K "ring_of" f30)(u30:aU K f30 oc30 od30 "ring_of" "ring_of" mU kV30 dc30 pm30 an30 cd30 ct30 sl30)(a31:aN K "first_name" f31)(u31:aU K f31 oc31 od31 "first_name" "first_name" Pk kV31 dc31 pm31 an31 cd31 ct31 sl31)(a32:aN K "leaning_against" f32)(u32:aU K f32 oc32 od32 "leaning_against" "leaning_against" Xp kV32 dc32 pm32 an32 cd32 ct32 sl32)(a40:aN K "check_question" f40)(u40:aU K f40 oc40 od40 "check_question" "check_question" bJ kV40 dc40 pm40 an40 cd40 ct40 sl40)(a41:aN K "reckoned" f41)(u41:aU K f41 oc41 od41 "reckoned" "reckoned" qQ kV41 dc41 pm41 an41 cd41 ct41 sl41)(a42:aN K "changed" f42)(u42:aU K f42 oc42 od42 "changed" "changed" Pi kV42 dc42 pm42 an42 cd42 ct42 sl42)(a43:aN K "answered" f43)(l43:K.lookup f43=some ⟨oc43,od43,.func (fnOf "answered" "answered" (Dx Gi) (Bg Gi) (Ad Gi) (.ref T43) kV43 dc43 pm43 an43 cd43 ct43),sl43⟩)(c43:codeIn K cd43 "answered" = true)(k43:keepIn K (.ref f43)=true)(lT43:K.lookup T43=some ⟨ocT43,odT43,.seq #[.int 0 tkA,.int 40 tkB] nT43,slT43⟩)(m44:aM K CA "__init__" f44)(u44:aU K f44 oc44 od44 "__init__" "Asking.__init__" aI kV44 dc44 pm44 an44 cd44 ct44 sl44)(m45:aM K CA "asked" f45)(u45:aU K f45 oc45 od45 "asked" "Asking.asked" Qs kV45 dc45 pm45 an45 cd45 ct45 sl45)(m46:aM K CA "entered" f46)(u46:aU K f46 oc46 od46 "entered" "Asking.entered" Mb kV46 dc46 pm46 an46 cd46 ct46 sl46)(m47:aM K CA "behind" f47)(u47:aU K f47 oc47 od47 "behind" "Asking.behind" Oe kV47 dc47 pm47 an47 cd47 ct47 sl47)(m50:aM K CA "tried" f50)(u50:aU K f50 oc50 od50 "tried" "Asking.tried" Py kV50 dc50 pm50 an50 cd50 ct50 sl50)(m48:aM K CL "__init__" f48)(u48:aU K f48 oc48 od48 "__init__" "Tally.__init__" Zw kV48 dc48 pm48 an48 cd48 ct48 sl48)(m51:aM K CL "enter" f51)(u51:aU K f51 oc51 od51 "enter" "Tally.enter" Zu kV51 dc51 pm51 an51 cd51 ct51 sl51)(m52:aM K CL "take_back" f52)(u52:aU K f52 oc52 od52 "take_back" "Tally.take_back" lV kV52 dc52 pm52 an52 cd52 ct52 sl52)(a60:aN K "_law_founded" f60)(u60:aU K f60 oc60 od60 "_law_founded" "_law_founded" Ej kV60 dc60 pm60 an60 cd60 ct60 sl60)(a61:aN K "_law_mixed" f61)(u61:aU K f61 oc61 od61 "_law_mixed" "_law_mixed" Zs kV61 dc61 pm61 an61 cd61 ct61 sl61)(a62:aN K "_law_step_by" f62)(u62:aU K f62 oc62 od62 "_law_step_by" "_law_step_by" Hh kV62 dc62 pm62 an62 cd62 ct62 sl62)(a63:aN K "_law_body_by" f63)(u63:aU K f63 oc63 od63 "_law_body_by" "_law_body_by" Ob kV63 dc63 pm63 an63 cd63 ct63 sl63)(a64:aN K "_law_taught" f64)(u64:aU K f64 oc64 od64 "_law_taught" "_law_taught" Uv kV64 dc64 pm64 an64 cd64 ct64 sl64)(a80:aN K "left_out" f80)(u80:aU K f80 oc80 od80 "left_out" "left_out" Ph kV80 dc80 pm80 an80 cd80 ct80 sl80)(a81:aN K "row_of" f81)(u81:aU K f81 oc81 od81 "row_of" "row_of" Vw kV81 dc81 pm81 an81 cd81 ct81 sl81)(a82:aN K "without_elders" f82)(u82:aU K f82 oc82 od82 "without_elders" "without_elders" lZ kV82 dc82 pm82 an82 cd82 ct82 sl82)(a83:aN K "way" f83)(u83:aU K f83 oc83 od83 "way" "way" yL kV83 dc83 pm83 an83 cd83 ct83 sl83)(a84:aN K "told_ahead" f84)(u84:aU K f84 oc84 od84 "told_ahead" "told_ahead" Nj kV84 dc84 pm84 an84 cd84 ct84 sl84)(a85:aN K "tell_end" f85)(u85:aU K f85 oc85 od85 "tell_end" "tell_end" Qr kV85 dc85 pm85 an85 cd85 ct85 sl85)(a86:aN K "end_of_row" f86)(u86:aU K f86 oc86 od86 "end_of_row" "end_of_row" Iv kV86 dc86 pm86 an86 cd86 ct86 sl86)(a87:aN K "end_behind" f87)(u87:aU K f87 oc87 od87 "end_behind" "end_behind" Iy kV87 dc87 pm87 an87 cd87 ct87 sl87)(a88:aN K "end_of_step" f88)(u88:aU K f88 oc88 od88 "end_of_step" "end_of_step" Fj kV88 dc88 pm88 an88 cd88 ct88 sl88)(a89:aN K "end_of_either" f89)(u89:aU K f89 oc89 od89 "end_of_either" "end_of_either" Ik kV89 dc89 pm89 an89 cd89 ct89 sl89)(a90:aN K "_law_comes" f90)(u90:aU K f90 oc90 od90 "_law_comes" "_law_comes" cT kV90 dc90 pm90 an90 cd90 ct90 sl90)(a91:aN K "_law_right" f91)(u91:aU K f91 oc91 od91 "_law_right" "_law_right" aC kV91 dc91 pm91 an91 cd91 ct91 sl91)(z1:nsIn K LH "len" = some none)(z2:nsIn K LH "zip" = some none)(z3:nsIn K LH "enumerate" = some none)(z4:nsIn K LH "any" = some none)(z5:nsIn K LH "range" = some none)(z6:nsIn K LH "isinstance" = some none)(z7:nsIn K LH "list" = some none)(z8:nsIn K LH "str" = some none)(z9:nsIn K LH "all" = some none)(z10:nsIn K LH "reversed" = some none)(z11:nsIn K LH "set" = some none)(z12:nsIn K LH "tuple" = some none)(z13:nsIn K LH "int" = some none)(z14:nsIn K LH "bool" = some none)(z15:nsIn K LH "ValueError" = some none)(gP:nsIn K LH "PARTS" = some (some (.ref aP)))(aXO:nsIn K LH "AtOdds" = some (some (.ref CO)))(aXU:nsIn K LH "Unanswered" = some (some (.ref CU)))(aXS:nsIn K LH "Spent" = some (some (.ref CS)))(zab:nsIn K LH "abs" = some none)(zdi:nsIn K LH "dict" = some none)(gN:nsIn K LH "NEVER" = some (some (.ref aV)))(aE:nsIn K LH "BookError" = some (some (.ref CE)))(lP:K.lookup aP=some ⟨.type "dict", none,.dict esP epP,#[]⟩)(hes:esP.toList=[⟨NE w.params "say", .str "say" t0,.ref p0⟩,⟨NE w.params "put", .str "put" t1,.ref p1⟩,⟨NE w.params "plus", .str "plus" t2,.ref p2⟩,⟨NE w.params "times", .str "times" t3,.ref p3⟩,⟨NE w.params "both", .str "both" t4,.ref p4⟩,⟨NE w.params "any", .str "any" t5,.ref p5⟩,⟨NE w.params "odd", .str "odd" t6,.ref p6⟩,⟨NE w.params "over", .str "over" t7,.ref p7⟩,⟨NE w.params "part", .str "part" t8,.ref p8⟩,⟨NE w.params "up", .str "up" t9,.ref p9⟩,⟨NE w.params "down", .str "down" t10,.ref p10⟩,⟨NE w.params "onwards", .str "onwards" t11,.ref p11⟩,⟨NE w.params "ask", .str "ask" t12,.ref p12⟩,⟨NE w.params "try", .str "try" t13,.ref p13⟩])(smP:(aP == OI)=false)(q0:K.lookup p0=some ⟨.type "tuple", oq0,.seq #[] nq0,sq0⟩)(q1:K.lookup p1=some ⟨.type "tuple", oq1,.seq #[.str "amount" u1_0] nq1,sq1⟩)(q2:K.lookup p2=some ⟨.type "tuple", oq2,.seq #[.str "amount" u2_0] nq2,sq2⟩)(q3:K.lookup p3=some ⟨.type "tuple", oq3,.seq #[.str "amount" u3_0] nq3,sq3⟩)(q4:K.lookup p4=some ⟨.type "tuple", oq4,.seq #[.str "amount" u4_0] nq4,sq4⟩)(q5:K.lookup p5=some ⟨.type "tuple", oq5,.seq #[.str "amount" u5_0] nq5,sq5⟩)(q6:K.lookup p6=some ⟨.type "tuple", oq6,.seq #[.str "amount" u6_0] nq6,sq6⟩)(q7:K.lookup p7=some ⟨.type "tuple", oq7,.seq #[.str "divisor" u7_0] nq7,sq7⟩)(q8:K.lookup p8=some ⟨.type "tuple", oq8,.seq #[.str "divisor" u8_0] nq8,sq8⟩)(q9:K.lookup p9=some ⟨.type "tuple", oq9,.seq #[.str "shift" u9_0] nq9,sq9⟩)(q10:K.lookup p10=some ⟨.type "tuple", oq10,.seq #[.str "shift" u10_0] nq10,sq10⟩)(q11:K.lookup p11=some ⟨.type "tuple", oq11,.seq #[] nq11,sq11⟩)(q12:K.lookup p12=some ⟨.type "tuple", oq12,.seq #[.str "word" u12_0] nq12,sq12⟩)(q13:K.lookup p13=some ⟨.type "tuple", oq13,.seq #[.str "word" u13_0,.str "word" u13_1] nq13,sq13⟩)(lXO:K.lookup CO=some (excClassObj nmO qnO CO NO bsO bmO hdctO snO subO abO colO ddO y0O y1O y2O y3O y5O "ValueError.__new__"))(kXO:keepIn K (.ref CO)=true)(hbmO:bmO=.ref CE::Nr)(lXU:K.lookup CU=some (excClassObj nmU qnU CU NU bsU bmU hdctU snU subU abU colU ddU y0U y1U y2U y3U y5U "ValueError.__new__"))(kXU:keepIn K (.ref CU)=true)(hbmU:bmU=.ref CE::Nr)(ixU:RY K (.ref CU) "__init__" = some (some (.builtin "ValueError.__init__")))(lXS:K.lookup CS=some (excClassObj nmS qnS CS NS bsS bmS hdctS snS subS abS colS ddS y0S y1S y2S y3S y5S "ValueError.__new__"))(kXS:keepIn K (.ref CS)=true)(hbmS:bmS=.ref CE::Nr)(ixS:RY K (.ref CS) "__init__" = some (some (.builtin "ValueError.__init__")))(csO:isClsIn K CO=true)(tyO:typeIn K (.ref CO)=some (.type "type"))(beO:subIn K (.ref CO) (.type "BaseException")=some true)(sOO:subIn K (.ref CO) (.ref CO)=some true)(csU:isClsIn K CU=true)(tyU:typeIn K (.ref CU)=some (.type "type"))(beU:subIn K (.ref CU) (.type "BaseException")=some true)(sUU:subIn K (.ref CU) (.ref CU)=some true)(csS:isClsIn K CS=true)(tyS:typeIn K (.ref CS)=some (.type "type"))(beS:subIn K (.ref CS) (.type "BaseException")=some true)(sSS:subIn K (.ref CS) (.ref CS)=some true)(sSU:subIn K (.ref CS) (.ref CU)=some false)(lB:K.lookup CE=some ⟨ocB,odB,.cls cdB,slB⟩)(hB:cdB.ns=NB)(lN:K.lookup NB=some ⟨ocN,odN,.dict esN epN,slN⟩)(uN:Vz esN.toList=true)(iN:nsIn K NB "__init__" = some none)(iC:RY K (.ref CO) "__init__" = some (some (.ref f99)))(nC:isFn K (.ref f99)=true)(l99:K.lookup f99=some ⟨oc99,od99,.func (fnOf "__init__" "AtOdds.__init__" (Dx Ps) (Bg Ps) (Ad Ps) .none kV99 dc99 pm99 an99 cd99 ct99),sl99⟩)(c99:codeIn K cd99 "AtOdds.__init__" = true)(k99:keepIn K (.ref f99)=true)(x1:RY K (.ref CO) "__setattr__" = some (some (.builtin "object.__setattr__")))(x2:RY K (.ref CO) "ring" = some none)(x3:hasDictIn K CO=true)(g1O:RY K (.ref CO) "__getattribute__" = some (some (.builtin "BaseException.__getattribute__")))(g2O:RY K (.ref CO) "__getattr__" = some none)(g3O:mroIn K CO (.type "BaseException")=some true)(lN2:K.lookup aV=some ⟨.type "tuple", oqN,.seq #[.str "never" tkN,.int 0 tkM] nqN,sqN⟩):
 ∃fd:LG,(∀(s:JL)(v:JH),BindsTo s fd ⟨[v],[]⟩ [("_law_script", v)])/\∀base:MV,K.In base->base.Ns LH mg->Al l.prog w K mg base Je 171 fa fd ["_law_script"] (gI K):=by
 have e:=hfa.symm.trans (NY X G a11)
 cases e
 have Tx:Txt mg:=⟨OM X G z1,OM X G z2,OM X G z3,OM X G z4,OM X G z5,OM X G z6,OM X G z7,OM X G z8,OM X G z9,OM X G z10,OM X G z11,OM X G z12,OM X G z13,OM X G z14,OM X G z15⟩
 have F1:=Bl u1
 have b1:=F1.binds (ps:=["rows","labels"]) λ_ _ _ _ _ _ us hl=>by obtain⟨_,_,rfl⟩:=ln2 hl;rfl
 have F2:=Bl u2
 have b2:=F2.binds (ps:=["rows"]) λ_ _ _ _ _ _ us hl=>by obtain⟨_,rfl⟩:=vK hl;rfl
 have F3:=Bl u3
 have b3:=F3.binds (ps:=["rows","starts","behind"]) λ_ _ _ _ _ _ us hl=>by obtain⟨_,_,_,rfl⟩:=Yv hl;rfl
 have F4:=Bl u4
 have b4:=F4.binds (ps:=["name","rows","starts","behind"]) λ_ _ _ _ _ _ us hl=>by obtain⟨_,_,_,_,rfl⟩:=wR hl;rfl
 have F5:=Bl u5
 have b5:=F5.binds (ps:=["name","elders","orders"]) λ_ _ _ _ _ _ us hl=>by obtain⟨_,_,_,rfl⟩:=Yv hl;rfl
 have F6:=Bl u6
 have b6:=F6.binds (ps:=["value"]) λ_ _ _ _ _ _ us hl=>by obtain⟨_,rfl⟩:=vK hl;rfl
 have F7:=Bl u7
 have b7:=F7.binds (ps:=["_law_script","_law_k"]) λ_ _ _ _ _ _ us hl=>by obtain⟨_,_,rfl⟩:=ln2 hl;rfl
 have F8:=Bl u8
 have b8:=F8.binds (ps:=["_law_k","_law_cell"]) λ_ _ _ _ _ _ us hl=>by obtain⟨_,_,rfl⟩:=ln2 hl;rfl
 have F11:=Bl u11
 have F12:=Bl u12
 have b12:=F12.binds (ps:=["self","elder_row","order_row"]) λ_ _ _ _ _ _ us hl=>by obtain⟨_,_,_,rfl⟩:=Yv hl;rfl
 have F13:=Bl u13
 have b13:=F13.binds (ps:=["self"]) λ_ _ _ _ _ _ us hl=>by obtain⟨_,rfl⟩:=vK hl;rfl
 have F14:=gJ (st:=Il) l14 c14 k14
 have b14_3:=F14.binds (ps:=["self","name","elders"]) (ds:=[]) lT14 rfl 3 rfl λ_ _ _ _ _ _ us hl=>by obtain⟨_,_,_,rfl⟩:=Yv hl;exact⟨_,rfl,rfl⟩
 have F16:=Bl u16
 have b16:=F16.binds (ps:=["self","name"]) λ_ _ _ _ _ _ us hl=>by obtain⟨_,_,rfl⟩:=ln2 hl;rfl
 have F18:=Bl u18
 have b18:=F18.binds (ps:=["self","name"]) λ_ _ _ _ _ _ us hl=>by obtain⟨_,_,rfl⟩:=ln2 hl;rfl
 have F19:=Bl u19
 have b19:=F19.binds (ps:=["value","least","most"]) λ_ _ _ _ _ _ us hl=>by obtain⟨_,_,_,rfl⟩:=Yv hl;rfl
 have F20:=Bl u20
 have b20:=F20.binds (ps:=["value"]) λ_ _ _ _ _ _ us hl=>by obtain⟨_,rfl⟩:=vK hl;rfl
 have F21:=Bl u21
 have b21:=F21.binds (ps:=["value"]) λ_ _ _ _ _ _ us hl=>by obtain⟨_,rfl⟩:=vK hl;rfl
 have F22:=Bl u22
 have b22:=F22.binds (ps:=["value"]) λ_ _ _ _ _ _ us hl=>by obtain⟨_,rfl⟩:=vK hl;rfl
 have F23:=Bl u23
 have b23:=F23.binds (ps:=["part","kind"]) λ_ _ _ _ _ _ us hl=>by obtain⟨_,_,rfl⟩:=ln2 hl;rfl
 have F26:=Bl u26
 have b26:=F26.binds (ps:=["self","name","word","body"]) λ_ _ _ _ _ _ us hl=>by obtain⟨_,_,_,_,rfl⟩:=wR hl;rfl
 have F29:=Bl u29
 have b29:=F29.binds (ps:=["self","name"]) λ_ _ _ _ _ _ us hl=>by obtain⟨_,_,rfl⟩:=ln2 hl;rfl
 have F28:=Bl u28
 have b28:=F28.binds (ps:=["self","name","word"]) λ_ _ _ _ _ _ us hl=>by obtain⟨_,_,_,rfl⟩:=Yv hl;rfl
 have F30:=Bl u30
 have b30:=F30.binds (ps:=["rests","labels"]) λ_ _ _ _ _ _ us hl=>by obtain⟨_,_,rfl⟩:=ln2 hl;rfl
 have F31:=Bl u31
 have b31:=F31.binds (ps:=["rests"]) λ_ _ _ _ _ _ us hl=>by obtain⟨_,rfl⟩:=vK hl;rfl
 have F32:=Bl u32
 have b32:=F32.binds (ps:=["name","rests","labels"]) λ_ _ _ _ _ _ us hl=>by obtain⟨_,_,_,rfl⟩:=Yv hl;rfl
 have F40:=Bl u40
 have b40:=F40.binds (ps:=["number","count"]) λ_ _ _ _ _ _ us hl=>by obtain⟨_,_,rfl⟩:=ln2 hl;rfl
 have F41:=Bl u41
 have b41:=F41.binds (ps:=["step","number","said"]) λ_ _ _ _ _ _ us hl=>by obtain⟨_,_,_,rfl⟩:=Yv hl;rfl
 have F42:=Bl u42
 have b42:=F42.binds (ps:=["number","sort","amount"]) λ_ _ _ _ _ _ us hl=>by obtain⟨_,_,_,rfl⟩:=Yv hl;rfl
 have F43:=gJ (st:=Gi) l43 c43 k43
 have b43_4:=F43.binds (ps:=["book","name","word","number","count"]) (ds:=[.int 40 tkB]) lT43 rfl 4 rfl λ_ _ _ _ _ _ us hl=>by obtain⟨_,_,_,_,rfl⟩:=wR hl;exact⟨_,rfl,rfl⟩
 have b43_5:=F43.binds (ps:=["book","name","word","number","count"]) (ds:=[]) lT43 rfl 5 rfl λ_ _ _ _ _ _ us hl=>by obtain⟨_,_,_,_,_,rfl⟩:=CC hl;exact⟨_,rfl,rfl⟩
 have F44:=Bl u44
 have b44:=F44.binds (ps:=["self","book","row","tally"]) λ_ _ _ _ _ _ us hl=>by obtain⟨_,_,_,_,rfl⟩:=wR hl;rfl
 have F45:=Bl u45
 have b45:=F45.binds (ps:=["self","word","place","number"]) λ_ _ _ _ _ _ us hl=>by obtain⟨_,_,_,_,rfl⟩:=wR hl;rfl
 have F46:=Bl u46
 have b46:=F46.binds (ps:=["self","body","word","index","number"]) λ_ _ _ _ _ _ us hl=>by obtain⟨_,_,_,_,_,rfl⟩:=CC hl;rfl
 have F47:=Bl u47
 have b47:=F47.binds (ps:=["self","step","word","index","number"]) λ_ _ _ _ _ _ us hl=>by obtain⟨_,_,_,_,_,rfl⟩:=CC hl;rfl
 have F50:=Bl u50
 have b50:=F50.binds (ps:=["self","word","other","number"]) λ_ _ _ _ _ _ us hl=>by obtain⟨_,_,_,_,rfl⟩:=wR hl;rfl
 have F48:=Bl u48
 have b48:=F48.binds (ps:=["self","left"]) λ_ _ _ _ _ _ us hl=>by obtain⟨_,_,rfl⟩:=ln2 hl;rfl
 have F51:=Bl u51
 have b51:=F51.binds (ps:=["self"]) λ_ _ _ _ _ _ us hl=>by obtain⟨_,rfl⟩:=vK hl;rfl
 have F52:=Bl u52
 have b52:=F52.binds (ps:=["self","length"]) λ_ _ _ _ _ _ us hl=>by obtain⟨_,_,rfl⟩:=ln2 hl;rfl
 have F60:=Bl u60
 have b60:=F60.binds (ps:=["_law_book","_law_names","_law_name","_law_cell"]) λ_ _ _ _ _ _ us hl=>by obtain⟨_,_,_,_,rfl⟩:=wR hl;rfl
 have F61:=Bl u61
 have b61:=F61.binds (ps:=["_law_cell","_law_k"]) λ_ _ _ _ _ _ us hl=>by obtain⟨_,_,rfl⟩:=ln2 hl;rfl
 have F62:=Bl u62
 have b62:=F62.binds (ps:=["_law_words","_law_first","_law_mixed_here"]) λ_ _ _ _ _ _ us hl=>by obtain⟨_,_,_,rfl⟩:=Yv hl;rfl
 have F63:=Bl u63
 have b63:=F63.binds (ps:=["_law_words","_law_first","_law_cell"]) λ_ _ _ _ _ _ us hl=>by obtain⟨_,_,_,rfl⟩:=Yv hl;rfl
 have F64:=Bl u64
 have b64:=F64.binds (ps:=["_law_book","_law_names","_law_words","_law_seed"]) λ_ _ _ _ _ _ us hl=>by obtain⟨_,_,_,_,rfl⟩:=wR hl;rfl
 have F80:=Bl u80
 have b80:=F80.binds (ps:=["book","name"]) λ_ _ _ _ _ _ us hl=>by obtain⟨_,_,rfl⟩:=ln2 hl;rfl
 have F81:=Bl u81
 have b81:=F81.binds (ps:=["body","onwards","ladders"]) λ_ _ _ _ _ _ us hl=>by obtain⟨_,_,_,rfl⟩:=Yv hl;rfl
 have F82:=Bl u82
 have b82:=F82.binds (ps:=["step","onwards","ladders"]) λ_ _ _ _ _ _ us hl=>by obtain⟨_,_,_,rfl⟩:=Yv hl;rfl
 have F83:=Bl u83
 have b83:=F83.binds (ps:=["ladders","word","rung"]) λ_ _ _ _ _ _ us hl=>by obtain⟨_,_,_,rfl⟩:=Yv hl;rfl
 have F84:=Bl u84
 have b84:=F84.binds (ps:=["rows"]) λ_ _ _ _ _ _ us hl=>by obtain⟨_,rfl⟩:=vK hl;rfl
 have F85:=Bl u85
 have b85:=F85.binds (ps:=["place","rows","ends"]) λ_ _ _ _ _ _ us hl=>by obtain⟨_,_,_,rfl⟩:=Yv hl;rfl
 have F86:=Bl u86
 have b86:=F86.binds (ps:=["row","ends"]) λ_ _ _ _ _ _ us hl=>by obtain⟨_,_,rfl⟩:=ln2 hl;rfl
 have F87:=Bl u87
 have b87:=F87.binds (ps:=["count","last"]) λ_ _ _ _ _ _ us hl=>by obtain⟨_,_,rfl⟩:=ln2 hl;rfl
 have F88:=Bl u88
 have b88:=F88.binds (ps:=["step","ends"]) λ_ _ _ _ _ _ us hl=>by obtain⟨_,_,rfl⟩:=ln2 hl;rfl
 have F89:=Bl u89
 have b89:=F89.binds (ps:=["one","other","ends"]) λ_ _ _ _ _ _ us hl=>by obtain⟨_,_,_,rfl⟩:=Yv hl;rfl
 have F90:=Bl u90
 have b90:=F90.binds (ps:=["_law_book","_law_name","_law_word","_law_number","_law_count"]) λ_ _ _ _ _ _ us hl=>by obtain⟨_,_,_,_,_,rfl⟩:=CC hl;rfl
 have F91:=Bl u91
 have b91:=F91.binds (ps:=["_law_book","_law_name","_law_word","_law_number","_law_end"]) λ_ _ _ _ _ _ us hl=>by obtain⟨_,_,_,_,_,rfl⟩:=CC hl;rfl
 have T:Ha K mg CB CH:=⟨⟨pkB.1,pkB.2.1,pkB.2.2.1,pkB.2.2.2.1⟩,⟨pkH.1,pkH.2.1,pkH.2.2.1,pkH.2.2.2.1⟩,nB_by_name,nH_elder_row,nH_order_row,nH_bodies,NY X G aCB,NY X G aCH⟩
 have TA:Xn K mg CA:=⟨⟨pkA.1,pkA.2.1,pkA.2.2.1,pkA.2.2.2.1⟩,nA_book,nA_row,nA_tally,NY X G aCA⟩
 have TT:Vh K mg CL:=⟨⟨pkL.1,pkL.2.1,pkL.2.2.1,pkL.2.2.2.1⟩,nL_left,nL_said,NY X G aCL⟩
 have F99:=pA (st:=Ps) l99 c99 k99
 have b99:=F99.binds (ps:=["self","ring"]) λ_ _ _ _ _ _ us hl=>by obtain⟨_,_,rfl⟩:=ln2 hl;rfl
 have Tb:Tab l.prog w K aP (BF p0 p1 p2 p3 p4 p5 p6 p7 p8 p9 p10 p11 p12 p13):=by
  refine⟨vX [(("say" : Str),t0,p0),(("put" : Str),t1,p1),(("plus" : Str),t2,p2),(("times" : Str),t3,p3),(("both" : Str),t4,p4),(("any" : Str),t5,p5),(("odd" : Str),t6,p6),(("over" : Str),t7,p7),(("part" : Str),t8,p8),(("up" : Str),t9,p9),(("down" : Str),t10,p10),(("onwards" : Str),t11,p11),(("ask" : Str),t12,p12),(("try" : Str),t13,p13)] lP hes (show ([("say" : Str),("put" : Str),("plus" : Str),("times" : Str),("both" : Str),("any" : Str),("odd" : Str),("over" : Str),("part" : Str),("up" : Str),("down" : Str),("onwards" : Str),("ask" : Str),("try" : Str)]:List Str).Nodup by decide +kernel) smP,λp hp H=>?_⟩
  simp only[BF,JT,KL,or_false] at hp
  rcases hp with rfl | rfl | rfl | rfl | rfl | rfl | rfl | rfl | rfl | rfl | rfl | rfl | rfl | rfl
  ·exact Ex q0 .nil (by show 0<=JQ;decide)
  ·exact Ex q1 (.cons ⟨_,rfl⟩ .nil) (by show 1<=JQ;decide)
  ·exact Ex q2 (.cons ⟨_,rfl⟩ .nil) (by show 1<=JQ;decide)
  ·exact Ex q3 (.cons ⟨_,rfl⟩ .nil) (by show 1<=JQ;decide)
  ·exact Ex q4 (.cons ⟨_,rfl⟩ .nil) (by show 1<=JQ;decide)
  ·exact Ex q5 (.cons ⟨_,rfl⟩ .nil) (by show 1<=JQ;decide)
  ·exact Ex q6 (.cons ⟨_,rfl⟩ .nil) (by show 1<=JQ;decide)
  ·exact Ex q7 (.cons ⟨_,rfl⟩ .nil) (by show 1<=JQ;decide)
  ·exact Ex q8 (.cons ⟨_,rfl⟩ .nil) (by show 1<=JQ;decide)
  ·exact Ex q9 (.cons ⟨_,rfl⟩ .nil) (by show 1<=JQ;decide)
  ·exact Ex q10 (.cons ⟨_,rfl⟩ .nil) (by show 1<=JQ;decide)
  ·exact Ex q11 .nil (by show 0<=JQ;decide)
  ·exact Ex q12 (.cons ⟨_,rfl⟩ .nil) (by show 1<=JQ;decide)
  ·exact Ex q13 (.cons ⟨_,rfl⟩ (.cons ⟨_,rfl⟩ .nil)) (by show 2<=JQ;decide)
 have Tp:cU (BF p0 p1 p2 p3 p4 p5 p6 p7 p8 p9 p10 p11 p12 p13):=⟨λkd h=>by
  simp only[JT,KL,or_false] at h
  rcases h with rfl | rfl
  ·exact⟨p0,rfl⟩
  ·exact⟨p11,rfl⟩,λkd h=>by
  simp only[JT,KL,or_false] at h
  rcases h with rfl | rfl | rfl | rfl | rfl | rfl
  ·exact⟨p1,rfl⟩
  ·exact⟨p2,rfl⟩
  ·exact⟨p3,rfl⟩
  ·exact⟨p4,rfl⟩
  ·exact⟨p5,rfl⟩
  ·exact⟨p6,rfl⟩,λkd h=>by
  simp only[JT,KL,or_false] at h
  rcases h with rfl | rfl
  ·exact⟨p7,rfl⟩
  ·exact⟨p8,rfl⟩,λkd h=>by
  simp only[JT,KL,or_false] at h
  rcases h with rfl | rfl
  ·exact⟨p9,rfl⟩
  ·exact⟨p10,rfl⟩,⟨p12,rfl⟩,⟨p13,rfl⟩⟩
 subst hB
 have bE:(JZ CE::Nr).contains (.type "BaseException")=true:=by rw[List.contains_cons,show Nr.contains (.type "BaseException")=true by decide +kernel,Bool.or_true]
 subst hbmO
 have exO:Kv K CO (.ref CE::Nr):=by
  refine⟨⟨nmO,qnO,NO,bsO,hdctO,snO,subO,abO,colO,ddO,y0O,y1O,y2O,y3O,y5O,lXO⟩,λh' X'=>?_,kXO⟩
  exact .own (X' CE _ lB) (Sl X' lN uN) (ns_none_of X' (Sl X' lN uN) iN) .base
 subst hbmU
 have exU:Kv K CU (.ref CE::Nr):=by
  refine⟨⟨nmU,qnU,NU,bsU,hdctU,snU,subU,abU,colU,ddU,y0U,y1U,y2U,y3U,y5U,lXU⟩,λh' X'=>?_,kXU⟩
  exact .own (X' CE _ lB) (Sl X' lN uN) (ns_none_of X' (Sl X' lN uN) iN) .base
 subst hbmS
 have exS:Kv K CS (.ref CE::Nr):=by
  refine⟨⟨nmS,qnS,NS,bsS,hdctS,snS,subS,abS,colS,ddS,y0S,y1S,y2S,y3S,y5S,lXS⟩,λh' X'=>?_,kXS⟩
  exact .own (X' CE _ lB) (Sl X' lN uN) (ns_none_of X' (Sl X' lN uN) iN) .base
 have hf:vD K CO "ring" := ⟨x1,x2,x3,g1O,g2O,g3O⟩
 have CX:aH K mg CU CS (.ref CE::Nr) (.ref CE::Nr):=⟨exU,bE,ixU,NY X G aXU,exS,bE,ixS,NY X G aXS,Vo csU tyU beU sUU,Vo csU tyU beU sSU⟩
 have GF4:Wp l.prog w K mg 4 f14 _ ["self","name","elders"] (Nz CB CH):=λbase _ _=>by
  have GM:Al l.prog w K mg base Bi 2 f1 _ ["rows","labels"] Pp:=jS F1 Tx F2 b2 (NY X G a2) F3 b3 (NY X G a3) F4 b4 (NY X G a4)
  have G5:Al l.prog w K mg base Bi 3 f5 _ ["name","elders","orders"] cP:=vT F5 Tx GM u1.2.2 b1 (NY X G a1)
  have G6:Al l.prog w K mg base Bi 1 f6 _ ["value"] Gy:=Rt F6 Tx
  have G12:Al l.prog w K mg base Bi 1 f12 _ ["self","elder_row","order_row"] (La CH):=Wt F12 T
  have G18:Al l.prog w K mg base Bi 1 f18 _ ["self","name"] (Ib CB CH):=Ww F18 T
  have G16:Al l.prog w K mg base Bi 2 f16 _ ["self","name"] (Ia CB CH):=Xg F16 T Tx G18 b18 ⟨m18.1,m18.2,u18.2.2⟩
  exact qS F14 T Tx G16 b16 ⟨m16.1,m16.2,u16.2.2⟩ G6 u6.2.2 b6 (NY X G a6) G5 u5.2.2 b5 (NY X G a5) G12 b12 ⟨pkH.2.2.2.2.1,m12.1,m12.2,pkH.2.2.2.2.2⟩
 refine⟨fnOf "law" "law" (Dx Fq) (Bg Fq) (Ad Fq) .none kV11 dc11 pm11 an11 cd11 ct11,λs v=>.of_eq rfl,λbase _ _=>?_⟩
 have G30:Al l.prog w K mg base Je 2 f30 _ ["rests","labels"] Yy:=tX F30 Tx F31 b31 (NY X G a31) F32 b32 (NY X G a32)
 have GM:Al l.prog w K mg base (Gk l.prog w) 3 f1 _ ["rows","labels"] (Mf CO):=Zn F1 Tx F2 b2 (NY X G a2) F3 b3 (NY X G a3) F4 b4 (NY X G a4) G30 u30.2.2 b30 (NY X G a30) F99 b99 (NY X G aXO) exO hf bE iC nC
 have G5:Al l.prog w K mg base (Gk l.prog w) 4 f5 _ ["name","elders","orders"] (Um CO):=mZ F5 Tx GM u1.2.2 b1 (NY X G a1)
 have G6:Al l.prog w K mg base Bi 1 f6 _ ["value"] Gy:=Rt F6 Tx
 have G12:Al l.prog w K mg base Bi 1 f12 _ ["self","elder_row","order_row"] (La CH):=Wt F12 T
 have G13:Al l.prog w K mg base Bi 1 f13 _ ["self"] (Tw CB):=nB F13 T
 have G18:Al l.prog w K mg base Bi 1 f18 _ ["self","name"] (Ib CB CH):=Ww F18 T
 have G16:Al l.prog w K mg base Bi 2 f16 _ ["self","name"] (Ia CB CH):=Xg F16 T Tx G18 b18 ⟨m18.1,m18.2,u18.2.2⟩
 have G14:Al l.prog w K mg base (Gk l.prog w) 5 f14 _ ["self","name","elders"] (Lo CB CH CO):=iX F14 T Tx G16 b16 ⟨m16.1,m16.2,u16.2.2⟩ G6 u6.2.2 b6 (NY X G a6) G5 u5.2.2 b5 (NY X G a5) G12 b12 ⟨pkH.2.2.2.2.1,m12.1,m12.2,pkH.2.2.2.2.2⟩
 have G7:Al l.prog w K mg base Bi 1 f7 _ ["_law_script","_law_k"] (My K):=tG F7 Tx
 have G8:Al l.prog w K mg base Bi 1 f8 _ ["_law_k","_law_cell"] Qa:=sU F8 Tx
 have G19:Al l.prog w K mg base Bi 1 f19 _ ["value","least","most"] Kw:=oB F19 Tx
 have G20:Al l.prog w K mg base Bi 2 f20 _ ["value"] Ly:=kD F20 Tx G19 u19.2.2 b19 (NY X G a19)
 have G23:Al l.prog w K mg base Bi 3 f23 _ ["part","kind"] aR:=vA F23 Tx G19 u19.2.2 b19 (NY X G a19) G20 u20.2.2 b20 (NY X G a20) G6 u6.2.2 b6 (NY X G a6)
 have G22:Al l.prog w K mg base Bi 4 f22 _ ["value"] (aO K (BF p0 p1 p2 p3 p4 p5 p6 p7 p8 p9 p10 p11 p12 p13)):=sW F22 Tx Tb (NY X G gP) G23 u23.2.2 b23 (NY X G a23)
 have G21:Al l.prog w K mg base Bi 5 f21 _ ["value"] (Qu (BF p0 p1 p2 p3 p4 p5 p6 p7 p8 p9 p10 p11 p12 p13)):=jG F21 Tx G22 u22.2.2 b22 (NY X G a22)
 have G26:Al l.prog w K mg base Bi 6 f26 _ ["self","name","word","body"] (Ky CB CH (BF p0 p1 p2 p3 p4 p5 p6 p7 p8 p9 p10 p11 p12 p13)):=lJ F26 T Tx G18 b18 ⟨m18.1,m18.2,u18.2.2⟩ G6 u6.2.2 b6 (NY X G a6) G21 u21.2.2 b21 (NY X G a21)
 have G29:Al l.prog w K mg base Je 2 f29 _ ["self","name"] (rB CB CH):=AH F29 T Tx G18 b18 ⟨m18.1,m18.2,u18.2.2⟩
 have G28:Al l.prog w K mg base Bi 2 f28 _ ["self","name","word"] (Pu CB CH):=vC F28 T Tx G18 b18 ⟨m18.1,m18.2,u18.2.2⟩
 have G40:Al l.prog w K mg base Bi 3 f40 _ ["number","count"] Ul:=oK F40 Tx G19 u19.2.2 b19 (NY X G a19) G20 u20.2.2 b20 (NY X G a20)
 have G42:Al l.prog w K mg base Bi 1 f42 _ ["number","sort","amount"] Mv:=cW F42 Tx
 have G41:Al l.prog w K mg base Bi 2 f41 _ ["step","number","said"] Tz:=vE F41 Tx G42 u42.2.2 b42 (NY X G a42)
 have G44:Al l.prog w K mg base Bi 1 f44 _ ["self","book","row","tally"] (Ur CA):=oX F44 TA
 have G48:Al l.prog w K mg base Bi 1 f48 _ ["self","left"] (Vs CL):=qG F48 TT
 have G51:Al l.prog w K mg base (Gk l.prog w) 1 f51 _ ["self"] (Oh CL CS):=qZ F51 TT CX
 have G52:Su l.prog w K mg base 1 f52 _ ["self","length"] (To CL):=tY F52 TT
 have G45:Al l.prog w K mg base (Gk l.prog w) (4 * 41+3) f45 _ ["self","word","place","number"] (Ra CA CL CB CH CU CS 41):=eX F45 b45 ⟨m45.1,m45.2,u45.2.2⟩ F46 b46 ⟨m46.1,m46.2,u46.2.2⟩ F47 b47 ⟨m47.1,m47.2,u47.2.2⟩ F50 b50 ⟨m50.1,m50.2,u50.2.2⟩ G52 b52 ⟨m52.1,m52.2,u52.2.2⟩ G51 b51 ⟨m51.1,m51.2,u51.2.2⟩ TA TT T Tx CX G41 u41.2.2 b41 (NY X G a41) G28 b28 ⟨m28.1,m28.2,u28.2.2⟩ 41
 have G43:Al l.prog w K mg base (Gk l.prog w) 168 f43 _ ["book","name","word","number","count"] (rL CB CH CU CS):=zE F43 TA TT T G16 b16 ⟨m16.1,m16.2,u16.2.2⟩ G40 u40.2.2 b40 (NY X G a40) G44 b44 ⟨pkA.2.2.2.2.1,m44.1,m44.2,pkA.2.2.2.2.2⟩ G48 b48 ⟨pkL.2.2.2.2.1,m48.1,m48.2,pkL.2.2.2.2.2⟩ G45 b45 ⟨m45.1,m45.2,u45.2.2⟩
 have G61:Al l.prog w K mg base Bi 1 f61 _ ["_law_cell","_law_k"] Oi:=pK F61
 have G62:Al l.prog w K mg base Bi 1 f62 _ ["_law_words","_law_first","_law_mixed_here"] Ox:=EN F62 Tx (OM X G zab)
 have G63:Al l.prog w K mg base Bi 3 f63 _ ["_law_words","_law_first","_law_cell"] Jk:=(BO F63 Tx G61 u61.2.2 b61 (NY X G a61) G62 u62.2.2 b62 (NY X G a62)).mono (by decide)
 have G64:Al l.prog w K mg base Bi 7 f64 _ ["_law_book","_law_names","_law_words","_law_seed"] (Kb CB CH):=cF F64 T Tx Tp G61 u61.2.2 b61 (NY X G a61) G63 u63.2.2 b63 (NY X G a63) G26 b26 ⟨m26.1,m26.2,u26.2.2⟩
 have G60:Al l.prog w K mg base Je 6 f60 _ ["_law_book","_law_names","_law_name","_law_cell"] (Kf CB CH):=cI F60 T Tx (NY X G aXO) (Vo csO tyO beO sOO) G14 GF4 b14_3 ⟨m14.1,m14.2,k14⟩
 have Tx2:Ak.Txt mg:=⟨Tx.len,Tx.range,Tx.isi,Tx.list,Tx.str,Tx.all,Tx.tup,Tx.int,Tx.bool⟩
 have hN:∀H,Ck K H aV [.str "never", .int 0]:=λH=>.inr ⟨_,_,_,lN2,rfl,rfl,by show 2<=JQ;decide,.cons ⟨_,rfl⟩ (.cons ⟨_,rfl⟩ .nil)⟩
 have G87:Al l.prog w K mg base Bi 1 f87 _ ["count","last"] (Ak.spEB K):=Ak.ok_eb F87
 have G88:Al l.prog w K mg base Bi 1 f88 _ ["step","ends"] (Ak.spLd K):=Ak.ok_ld F88
 have G89:Al l.prog w K mg base Bi 2 f89 _ ["one","other","ends"] (Ak.spEi K):=Ak.ok_ei F89 G88 u88.2.2 b88 (NY X G a88) G87 u87.2.2 b87 (NY X G a87)
 have G88b:Al l.prog w K mg base Bi 3 f88 _ ["step","ends"] (Ak.spSE K):=Ak.ok_se F88 G88 G89 u89.2.2 b89 (NY X G a89)
 have G86:Al l.prog w K mg base Bi 4 f86 _ ["row","ends"] (Ak.spRE K):=Ak.ok_re F86 G88b u88.2.2 b88 (NY X G a88) G87 u87.2.2 b87 (NY X G a87)
 have G85:Al l.prog w K mg base Bi 5 f85 _ ["place","rows","ends"] (Ak.spTell K):=Ak.ok_te F85 G86 u86.2.2 b86 (NY X G a86) (NY X G gN) hN
 have G84:Al l.prog w K mg base Bi 6 f84 _ ["rows"] (Ak.spTold K):=Ak.ok_ta F84 Tx2 G85 u85.2.2 b85 (NY X G a85)
 have G83:Al l.prog w K mg base Bi 1 f83 _ ["ladders","word","rung"] gA:=AQ F83 Tx
 have G82:Al l.prog w K mg base Bi 2 f82 _ ["step","onwards","ladders"] cZ:=tZ F82 G83 u83.2.2 b83 (NY X G a83)
 have G81:Al l.prog w K mg base Bi 3 f81 _ ["body","onwards","ladders"] Ua:=qR F81 G82 u82.2.2 b82 (NY X G a82)
 have G80:Al l.prog w K mg base Je 4 f80 _ ["book","name"] (Uk CB CH):=uR F80 T Tx (OM X G zdi) G16 b16 ⟨m16.1,m16.2,u16.2.2⟩ G29 b29 ⟨m29.1,m29.2,u29.2.2⟩ G28 b28 ⟨m28.1,m28.2,u28.2.2⟩ G83 u83.2.2 b83 (NY X G a83) G81 u81.2.2 b81 (NY X G a81)
 have G90:Al l.prog w K mg base Je 169 f90 _ ["_law_book","_law_name","_law_word","_law_number","_law_count"] (Ts CB CH):=qW F90 CX (Vo csS tyS beS sSS) G43 k43 b43_5 (NY X G a43)
 have G91:Al l.prog w K mg base Je 170 f91 _ ["_law_book","_law_name","_law_word","_law_number","_law_end"] (Nw K CB CH):=oO F91 Tx G90 u90.2.2 b90 (NY X G a90)
 exact yA F11 T Tx Tp G7 u7.2.2 b7 (NY X G a7) G80 u80.2.2 b80 (NY X G a80) G84 u84.2.2 b84 (NY X G a84) G91 u91.2.2 b91 (NY X G a91) G63 u63.2.2 b63 (NY X G a63) G26 b26 ⟨m26.1,m26.2,u26.2.2⟩ G8 u8.2.2 b8 (NY X G a8) G64 u64.2.2 b64 (NY X G a64) G60 u60.2.2 b60 (NY X G a60) G13 b13 ⟨pkB.2.2.2.2.1,m13.1,m13.2,pkB.2.2.2.2.2⟩
theorem walk{l:PySem.W.OpenLaw}{q:KI}{loose:List Str}{XP:(Str->Option JH)->MV->Prop}{YP:LQ->MV->Prop}{d:DefRec}{K:Params->JG}(hn:l.most=some 63)(hdf:d.params.defaults=[])(hY:∀(w:LQ)(h:MV),YP w h->(K w.params).In h)(F:∀(w:LQ)(mg:Str->Option JH)(fa:JO)(h:MV),(K w.params).In h->h.Ns LH mg->mg d.name=some (.ref fa) ->
  ∃fd:LG,(∀(s:JL)(u:JH),BindsTo s fd ⟨[u],[]⟩ [("_law_script", u)])/\∀base:MV,(K w.params).In base->base.Ns LH mg->Al l.prog w (K w.params) mg base Je 171 fa fd ["_law_script"] (gI (K w.params))):
 PySem.W.WalkO q loose XP YP l.row.toRowW d [] (λf vs=>PySem.call f vs):=
 L2.vG (n:=63) (k:=171) (x := "_law_script") (CX:=λ_=>Je) (sp:=λw=>gI (K w.params)) hn (by decide) hdf ⟨by decide,by decide⟩ hY F (λ_ _ a ns hl _ hS=>⟨a,ns,rfl,hS,hl,λ_=>rfl⟩) λ_ _ _ _ _ z=>z
end Bk
end
set_option Elab.async false
set_option linter.all false
namespace PySem.W.Fast
theorem tw3237412489588293584:True:=⟨⟩
theorem tw9994096453907014666:True:=⟨⟩
theorem tw7009999252509308006:True:=⟨⟩
theorem tw5037631518495050265:True:=⟨⟩
theorem tw6023099262518102681:True:=⟨⟩
theorem tw10071580186284528585:True:=⟨⟩
theorem tw10341301832069426167:True:=⟨⟩
theorem tw2859082654381964317:True:=⟨⟩
theorem tw733948428570277578:True:=⟨⟩
theorem tw8777340084941820107:True:=⟨⟩
theorem tw10602295257140281122:True:=⟨⟩
theorem tw3491973270039096261:True:=⟨⟩
theorem tw1370434089164482382:True:=⟨⟩
theorem tw10712257959007374145:True:=⟨⟩
theorem tw10144773804067663521:True:=⟨⟩
theorem tw12621899625743462168:True:=⟨⟩
theorem tw2734898472398860845:True:=⟨⟩
theorem tw10984547102990668970:True:=⟨⟩
theorem tw14095895898907265823:True:=⟨⟩
theorem tw7392157927666184838:True:=⟨⟩
theorem tw15683884348960958196:True:=⟨⟩
theorem tw13196491638110556855:True:=⟨⟩
theorem tw6848686926792199091:True:=⟨⟩
theorem tw633957640217792931:True:=⟨⟩
theorem tw2850218361163961272:True:=⟨⟩
theorem tw15147742835546329754:True:=⟨⟩
theorem tw17550683486172249089:True:=⟨⟩
theorem tw17162297584421079949:True:=⟨⟩
theorem tw872320755993640296:True:=⟨⟩
theorem tw10138940718072026052:True:=⟨⟩
theorem tw13232084971710783259:True:=⟨⟩
theorem tw4773415061753407668:True:=⟨⟩
theorem tw13669876408874134084:True:=⟨⟩
theorem tw8564154270301901893:True:=⟨⟩
theorem tw3101875584862212517:True:=⟨⟩
theorem tw10914389609848754483:True:=⟨⟩
theorem tw14587326041223850171:True:=⟨⟩
theorem tw1068476901896966273:True:=⟨⟩
theorem tw6393145399882244135:True:=⟨⟩
theorem tw2259465924925548701:True:=⟨⟩
theorem tw11674347837651314389:True:=⟨⟩
theorem tw2896255638697077461:True:=⟨⟩
theorem tw9917427279520745487:True:=⟨⟩
theorem tw17205735292731918967:True:=⟨⟩
theorem tw12339969600230479776:True:=⟨⟩
theorem tw5237254769185238820:True:=⟨⟩
theorem tw603835716263429034:True:=⟨⟩
theorem tw4608172916307856644:True:=⟨⟩
theorem tw7230881834757100525:True:=⟨⟩
theorem tw11400105029430204216:True:=⟨⟩
theorem tw16963490663528116766:True:=⟨⟩
theorem tw12528564936329413405:True:=⟨⟩
theorem tw17541431706804423092:True:=⟨⟩
theorem tw13412632486555537832:True:=⟨⟩
theorem tw134828676217354892:True:=⟨⟩
theorem tw8871237868925438529:True:=⟨⟩
theorem tw16650438773550348834:True:=⟨⟩
theorem tw8095384992772620050:True:=⟨⟩
theorem tw12029445948467015581:True:=⟨⟩
theorem tw7815273593449787293:True:=⟨⟩
theorem tw5123036214339114465:True:=⟨⟩
theorem tw9375544620788487604:True:=⟨⟩
theorem tw1131447284303617597:True:=⟨⟩
theorem tw17070965192271972547:True:=⟨⟩
theorem tw3870190611580082361:True:=⟨⟩
theorem tw13384615216719787799:True:=⟨⟩
theorem tw5770121128016605018:True:=⟨⟩
theorem tw9816348316394597128:True:=⟨⟩
theorem tw737604183415009453:True:=⟨⟩
theorem tw9212171451259068933:True:=⟨⟩
theorem tw15303093622476108725:True:=⟨⟩
theorem tw10535292527047486922:True:=⟨⟩
theorem tw15702231793468346175:True:=⟨⟩
theorem tw2902003039244316691:True:=⟨⟩
theorem tw151724018807942691:True:=⟨⟩
theorem tw7181017181631774442:True:=⟨⟩
theorem tw17054486498995581379:True:=⟨⟩
theorem tw15684616432713598158:True:=⟨⟩
theorem tw8030699985589636188:True:=⟨⟩
theorem tw15277003845321079933:True:=⟨⟩
theorem tw16238673170095688764:True:=⟨⟩
theorem tw12061129909224860948:True:=⟨⟩
theorem tw2122159915246900933:True:=⟨⟩
theorem tw12083818805017906341:True:=⟨⟩
theorem tw17675522813575314665:True:=⟨⟩
theorem tw4575591543981019740:True:=⟨⟩
theorem tw17072059589106242480:True:=⟨⟩
theorem tw13685236234011957362:True:=⟨⟩
theorem tw16903271088701983387:True:=⟨⟩
theorem tw15717521691648898049:True:=⟨⟩
theorem tw326967047130719436:True:=⟨⟩
theorem tw7185187658444385757:True:=⟨⟩
theorem tw17078814868996851822:True:=⟨⟩
theorem tw15714046619143575866:True:=⟨⟩
theorem tw2461875662084305684:True:=⟨⟩
theorem tw14419944621281059562:True:=⟨⟩
theorem tw10384872491122559488:True:=⟨⟩
theorem tw9093451496351871695:True:=⟨⟩
theorem tw15567054521743381574:True:=⟨⟩
theorem tw11680817313188591042:True:=⟨⟩
theorem tw1523850289123383367:True:=⟨⟩
theorem tw4530180157618818087:True:=⟨⟩
theorem tw13880625298142897233:True:=⟨⟩
theorem tw13346210888530292310:True:=⟨⟩
theorem tw7200473946054614837:True:=⟨⟩
theorem tw1095780072488420581:True:=⟨⟩
theorem tw7370986672951192835:True:=⟨⟩
theorem tw14883662138503462681:True:=⟨⟩
theorem tw12184764296956745405:True:=⟨⟩
theorem tw7445512538584982628:True:=⟨⟩
theorem tw14684058398389651650:True:=⟨⟩
theorem tw12366212802928167844:True:=⟨⟩
theorem tw5120370690035777080:True:=⟨⟩
theorem tw5636443988768808994:True:=⟨⟩
theorem tw3558306384711845320:True:=⟨⟩
theorem tw12610090801182940507:True:=⟨⟩
theorem tw15595031229580849603:True:=⟨⟩
theorem tw8392032427971242517:True:=⟨⟩
theorem tw7078588533007149105:True:=⟨⟩
theorem tw5702524476644392716:True:=⟨⟩
theorem tw14836832479129753616:True:=⟨⟩
theorem tw4211310896587624465:True:=⟨⟩
theorem tw5968291170973668148:True:=⟨⟩
theorem tw1779320608771397679:True:=⟨⟩
theorem tw543689450083137299:True:=⟨⟩
theorem tw455171540021873383:True:=⟨⟩
theorem tw16441574117312845277:True:=⟨⟩
theorem tw16111320696908763835:True:=⟨⟩
theorem tw490163366058713247:True:=⟨⟩
theorem tw7879057184502869372:True:=⟨⟩
theorem tw5802882314315016035:True:=⟨⟩
theorem tw9888612426433186928:True:=⟨⟩
theorem tw12581164669468887550:True:=⟨⟩
theorem tw9576123518831001624:True:=⟨⟩
theorem tw5870285190205559038:True:=⟨⟩
theorem tw1573551819240845247:True:=⟨⟩
theorem tw3603737605319930768:True:=⟨⟩
theorem tw10771198867828380434:True:=⟨⟩
theorem tw6541174808157258665:True:=⟨⟩
theorem tw5620739342103545157:True:=⟨⟩
theorem tw10651739224431735076:True:=⟨⟩
theorem tw5832179899158883239:True:=⟨⟩
theorem tw4926766368506327089:True:=⟨⟩
theorem tw7205399013606669433:True:=⟨⟩
theorem tw8800878608675922161:True:=⟨⟩
theorem tw10852542036040028597:True:=⟨⟩
theorem tw7718414138693012898:True:=⟨⟩
theorem tw13621364516795305840:True:=⟨⟩
theorem tw7884472600675152132:True:=⟨⟩
theorem tw15917803328171528521:True:=⟨⟩
theorem tw6417864325392490446:True:=⟨⟩
theorem tw8394042019957231850:True:=⟨⟩
theorem tw7159563113183151966:True:=⟨⟩
theorem tw1101551285052051011:True:=⟨⟩
theorem tw1877051254784679625:True:=⟨⟩
theorem tw2500347133409097392:True:=⟨⟩
theorem tw4887485438679459991:True:=⟨⟩
theorem tw3909363604259270986:True:=⟨⟩
theorem tw17897635155040101662:True:=⟨⟩
theorem tw5718609925072116634:True:=⟨⟩
theorem tw18353226076634601152:True:=⟨⟩
theorem tw477658697496735725:True:=⟨⟩
theorem tw6863684946560289367:True:=⟨⟩
theorem tw2952362985652322909:True:=⟨⟩
theorem tw16429602485784657588:True:=⟨⟩
theorem tw15093277725845928573:True:=⟨⟩
theorem tw5407529240441454224:True:=⟨⟩
theorem tw4020111968071344954:True:=⟨⟩
theorem tw10760737154728682378:True:=⟨⟩
theorem tw16895772883277631603:True:=⟨⟩
theorem tw5160384605297778503:True:=⟨⟩
theorem tw464547260557441306:True:=⟨⟩
theorem tw3319117697972655962:True:=⟨⟩
theorem tw9796422910538630110:True:=⟨⟩
theorem tw749419802674296982:True:=⟨⟩
theorem tw15184817233551816714:True:=⟨⟩
theorem tw6529867335636008409:True:=⟨⟩
theorem tw7909066784935253560:True:=⟨⟩
theorem tw6574662340904574952:True:=⟨⟩
theorem tw4805707732876043824:True:=⟨⟩
theorem tw13945311606012474726:True:=⟨⟩
theorem tw14845318316725031629:True:=⟨⟩
theorem tw14300271908247993671:True:=⟨⟩
theorem tw7371298928496573120:True:=⟨⟩
theorem tw205859150951622613:True:=⟨⟩
theorem tw13576994528048666112:True:=⟨⟩
theorem tw10443711912116174377:True:=⟨⟩
theorem tw18328030855275671816:True:=⟨⟩
theorem tw14515513271105325331:True:=⟨⟩
theorem tw15411501336284661944:True:=⟨⟩
theorem tw6881845852018253635:True:=⟨⟩
theorem tw8610565325424710446:True:=⟨⟩
theorem tw6467281856880684332:True:=⟨⟩
theorem tw1454864979606851028:True:=⟨⟩
theorem tw4069141225247351666:True:=⟨⟩
theorem tw12952153704650665231:True:=⟨⟩
theorem tw12156635784335124332:True:=⟨⟩
theorem tw146301448938004076:True:=⟨⟩
theorem tw7843411865531855111:True:=⟨⟩
theorem tw7145266490632621152:True:=⟨⟩
theorem tw13392101905122845672:True:=⟨⟩
theorem tw1884417673100368929:True:=⟨⟩
theorem tw15070554091854833596:True:=⟨⟩
theorem tw9720292886745452357:True:=⟨⟩
theorem tw6898256954635806066:True:=⟨⟩
theorem tw4963352606546237586:True:=⟨⟩
theorem tw18389382924801568603:True:=⟨⟩
theorem tw9581068301372158519:True:=⟨⟩
theorem tw14159009646428892962:True:=⟨⟩
theorem tw6021857337235838107:True:=⟨⟩
theorem tw1715977907745946303:True:=⟨⟩
theorem tw8780367342399758573:True:=⟨⟩
theorem tw1643258778471009151:True:=⟨⟩
theorem tw7911067698163976028:True:=⟨⟩
theorem tw11586818068113659853:True:=⟨⟩
theorem tw14986845009142935774:True:=⟨⟩
theorem tw13448833827091600901:True:=⟨⟩
theorem tw3847256406945118387:True:=⟨⟩
theorem tw9727573759133744577:True:=⟨⟩
theorem tw4611995440424187330:True:=⟨⟩
theorem tw16199904698955327525:True:=⟨⟩
theorem tw198178249765926938:True:=⟨⟩
theorem tw9506853479354605570:True:=⟨⟩
theorem tw4457802487020285629:True:=⟨⟩
theorem tw2602369934813012617:True:=⟨⟩
theorem tw5899469334708285381:True:=⟨⟩
theorem tw12899812657416357075:True:=⟨⟩
theorem tw5326149337170188920:True:=⟨⟩
theorem tw6521839065993564572:True:=⟨⟩
theorem tw7875135845487527372:True:=⟨⟩
theorem tw18033601289948259505:True:=⟨⟩
theorem tw12148693982316357489:True:=⟨⟩
theorem tw13644068821643031406:True:=⟨⟩
theorem tw14674343384799035909:True:=⟨⟩
theorem tw6847157766078214429:True:=⟨⟩
theorem tw3487221790196222631:True:=⟨⟩
theorem tw14583444549115345782:True:=⟨⟩
theorem tw9340047276350171633:True:=⟨⟩
theorem tw2159281679427615314:True:=⟨⟩
theorem tw7662798718395900843:True:=⟨⟩
theorem tw2066310200562592712:True:=⟨⟩
theorem tw13000422661385986581:True:=⟨⟩
theorem tw11000245293276530674:True:=⟨⟩
theorem tw17086288724447163706:True:=⟨⟩
theorem tw11574285481575674354:True:=⟨⟩
theorem tw11361105023827388591:True:=⟨⟩
theorem tw16768203846645645312:True:=⟨⟩
theorem tw12746365578869481474:True:=⟨⟩
theorem tw14217433726396473300:True:=⟨⟩
theorem tw4096130386969532057:True:=⟨⟩
theorem tw6528568878611612872:True:=⟨⟩
theorem tw1298142122704287601:True:=⟨⟩
theorem tw4765056658561122194:True:=⟨⟩
theorem tw13321438428774371014:True:=⟨⟩
theorem tw1152961260507083855:True:=⟨⟩
theorem tw257424272077004480:True:=⟨⟩
theorem tw17639937726690988737:True:=⟨⟩
theorem tw1175977471389259854:True:=⟨⟩
theorem tw15548237939545258786:True:=⟨⟩
theorem tw5468683566174760777:True:=⟨⟩
theorem tw15547018946419605601:True:=⟨⟩
theorem tw10507020577479106129:True:=⟨⟩
theorem tw16211127375945018604:True:=⟨⟩
theorem tw3072395948174507949:True:=⟨⟩
theorem tw4133061316328776657:True:=⟨⟩
theorem tw7585230743067968805:True:=⟨⟩
theorem tw13840766348730017770:True:=⟨⟩
theorem tw2172651102243837268:True:=⟨⟩
theorem tw14714122475398646150:True:=⟨⟩
theorem tw10662550990733011013:True:=⟨⟩
theorem tw10554666663250494477:True:=⟨⟩
theorem tw5447850049416149707:True:=⟨⟩
theorem tw18417093510046130092:True:=⟨⟩
theorem tw241997402421062989:True:=⟨⟩
theorem tw12537117855637971430:True:=⟨⟩
theorem tw16268468978351750276:True:=⟨⟩
theorem tw1153212333814290603:True:=⟨⟩
theorem tw2361015257700994649:True:=⟨⟩
theorem tw4213275244526574259:True:=⟨⟩
theorem tw11308604458155452512:True:=⟨⟩
theorem tw8856548833182215448:True:=⟨⟩
theorem tw427965844639051995:True:=⟨⟩
theorem tw17893192103103596249:True:=⟨⟩
theorem tw14580136779849082859:True:=⟨⟩
theorem tw13162039445667671023:True:=⟨⟩
theorem tw10027510186368492704:True:=⟨⟩
theorem tw12288655882181978128:True:=⟨⟩
theorem tw6853346109428983359:True:=⟨⟩
theorem tw14103345993200375261:True:=⟨⟩
theorem tw2813323438248123311:True:=⟨⟩
theorem tw13571900305171458027:True:=⟨⟩
theorem tw9368771031700132252:True:=⟨⟩
theorem tw17377202964936077034:True:=⟨⟩
theorem tw8852625996415608022:True:=⟨⟩
theorem tw9928938237623738467:True:=⟨⟩
theorem tw15119177276107218393:True:=⟨⟩
theorem tw2015507484304459318:True:=⟨⟩
theorem tw4791621263526342246:True:=⟨⟩
theorem tw6491077385290135669:True:=⟨⟩
theorem tw2814462824868891188:True:=⟨⟩
theorem tw9894054487793450323:True:=⟨⟩
theorem tw9744851344094535219:True:=⟨⟩
theorem tw5728488462945346155:True:=⟨⟩
theorem tw14723935944232333595:True:=⟨⟩
theorem tw8233535125509754527:True:=⟨⟩
theorem tw15612290242503938229:True:=⟨⟩
theorem tw8486306584570302756:True:=⟨⟩
theorem tw9594469762171825347:True:=⟨⟩
theorem tw8798965685850574720:True:=⟨⟩
theorem tw1148158932599818215:True:=⟨⟩
theorem tw5524095623276679665:True:=⟨⟩
theorem tw7608131657888583918:True:=⟨⟩
theorem tw4920160143027495951:True:=⟨⟩
theorem tw1921301773607492251:True:=⟨⟩
theorem tw2658108972586880522:True:=⟨⟩
theorem tw14686542604701312134:True:=⟨⟩
theorem tw4139097396540525965:True:=⟨⟩
theorem tw2848434329574189158:True:=⟨⟩
theorem tw12784889804452953086:True:=⟨⟩
theorem tw2734081157950412848:True:=⟨⟩
theorem tw13559023699228467251:True:=⟨⟩
theorem tw1036122313793143068:True:=⟨⟩
theorem tw15024945727345256731:True:=⟨⟩
theorem tw6783986565067424601:True:=⟨⟩
end PySem.W.Fast
open PySem PySem.W PyProof.Rows
set_option maxHeartbeats 0 in
theorem PySem.Challenge.cw_elderline_k16_whole_house_ahead_holds : PySem.Challenge.rw_elderline_k16_whole_house_ahead.Holds := by
  w_on; o_law; k_head; (case hw => w_witness2)
  k_fill
  refine Bk.walk (l := PySem.Challenge.rw_elderline_k16_whole_house_ahead) rfl rfl (fun w h Y => PySem.W.kIn_of Y) ?F
  case F =>
    intro w mg fa h KX G hmg
    refine' Bk.yU KX G hmg ?aCB ?pkB ?nB_by_name ?aCH ?pkH ?nH_elder_row ?nH_order_row ?nH_bodies ?aCA ?pkA ?nA_book ?nA_row ?nA_tally ?aCL ?pkL ?nL_left ?nL_said ?a1 ?u1 ?a2 ?u2 ?a3 ?u3 ?a4 ?u4 ?a5 ?u5 ?a6 ?u6 ?a7 ?u7 ?a8 ?u8 ?a11 ?u11 ?m12 ?u12 ?m13 ?u13 ?m14 ?l14 ?c14 ?k14 ?lT14 ?m16 ?u16 ?m18 ?u18 ?a19 ?u19 ?a20 ?u20 ?a21 ?u21 ?a22 ?u22 ?a23 ?u23 ?m26 ?u26 ?m29 ?u29 ?m28 ?u28 ?a30 ?u30 ?a31 ?u31 ?a32 ?u32 ?a40 ?u40 ?a41 ?u41 ?a42 ?u42 ?a43 ?l43 ?c43 ?k43 ?lT43 ?m44 ?u44 ?m45 ?u45 ?m46 ?u46 ?m47 ?u47 ?m50 ?u50 ?m48 ?u48 ?m51 ?u51 ?m52 ?u52 ?a60 ?u60 ?a61 ?u61 ?a62 ?u62 ?a63 ?u63 ?a64 ?u64 ?a80 ?u80 ?a81 ?u81 ?a82 ?u82 ?a83 ?u83 ?a84 ?u84 ?a85 ?u85 ?a86 ?u86 ?a87 ?u87 ?a88 ?u88 ?a89 ?u89 ?a90 ?u90 ?a91 ?u91 ?z1 ?z2 ?z3 ?z4 ?z5 ?z6 ?z7 ?z8 ?z9 ?z10 ?z11 ?z12 ?z13 ?z14 ?z15 ?gP ?aXO ?aXU ?aXS ?zab ?zdi ?gN ?aE ?lP ?hes ?smP ?q0 ?q1 ?q2 ?q3 ?q4 ?q5 ?q6 ?q7 ?q8 ?q9 ?q10 ?q11 ?q12 ?q13 ?lXO ?kXO ?hbmO ?lXU ?kXU ?hbmU ?ixU ?lXS ?kXS ?hbmS ?ixS ?csO ?tyO ?beO ?sOO ?csU ?tyU ?beU ?sUU ?csS ?tyS ?beS ?sSS ?sSU ?lB ?hB ?lN ?uN ?iN ?iC ?nC ?l99 ?c99 ?k99 ?x1 ?x2 ?x3 ?g1O ?g2O ?g3O ?lN2
    (case aCB => k_is)
    (case pkB => exact ⟨by k_is, by k_is, by k_is, by k_is, by k_is, by k_is⟩)
    (case nB_by_name | aCH => k_is)
    (case pkH => exact ⟨by k_is, by k_is, by k_is, by k_is, by k_is, by k_is⟩)
    (case nH_elder_row | nH_order_row | nH_bodies | aCA => k_is)
    (case pkA => exact ⟨by k_is, by k_is, by k_is, by k_is, by k_is, by k_is⟩)
    (case nA_book | nA_row | nA_tally | aCL => k_is)
    (case pkL => exact ⟨by k_is, by k_is, by k_is, by k_is, by k_is, by k_is⟩)
    (case nL_left | nL_said => k_is)
    (case a1 => show _ = _; k_is)
    (case u1 => exact ⟨by k_is, by k_is, by k_is⟩)
    (case a2 => show _ = _; k_is)
    (case u2 => exact ⟨by k_is, by k_is, by k_is⟩)
    (case a3 => show _ = _; k_is)
    (case u3 => exact ⟨by k_is, by k_is, by k_is⟩)
    (case a4 => show _ = _; k_is)
    (case u4 => exact ⟨by k_is, by k_is, by k_is⟩)
    (case a5 => show _ = _; k_is)
    (case u5 => exact ⟨by k_is, by k_is, by k_is⟩)
    (case a6 => show _ = _; k_is)
    (case u6 => exact ⟨by k_is, by k_is, by k_is⟩)
    (case a7 => show _ = _; k_is)
    (case u7 => exact ⟨by k_is, by k_is, by k_is⟩)
    (case a8 => show _ = _; k_is)
    (case u8 => exact ⟨by k_is, by k_is, by k_is⟩)
    (case a11 => show _ = _; k_is)
    (case u11 => exact ⟨by k_is, by k_is, by k_is⟩)
    (case m12 => exact ⟨by k_is, by k_is⟩)
    (case u12 => exact ⟨by k_is, by k_is, by k_is⟩)
    (case m13 => exact ⟨by k_is, by k_is⟩)
    (case u13 => exact ⟨by k_is, by k_is, by k_is⟩)
    (case m14 => exact ⟨by k_is, by k_is⟩)
    (case l14 | c14 | k14 | lT14 => k_is)
    (case m16 => exact ⟨by k_is, by k_is⟩)
    (case u16 => exact ⟨by k_is, by k_is, by k_is⟩)
    (case m18 => exact ⟨by k_is, by k_is⟩)
    (case u18 => exact ⟨by k_is, by k_is, by k_is⟩)
    (case a19 => show _ = _; k_is)
    (case u19 => exact ⟨by k_is, by k_is, by k_is⟩)
    (case a20 => show _ = _; k_is)
    (case u20 => exact ⟨by k_is, by k_is, by k_is⟩)
    (case a21 => show _ = _; k_is)
    (case u21 => exact ⟨by k_is, by k_is, by k_is⟩)
    (case a22 => show _ = _; k_is)
    (case u22 => exact ⟨by k_is, by k_is, by k_is⟩)
    (case a23 => show _ = _; k_is)
    (case u23 => exact ⟨by k_is, by k_is, by k_is⟩)
    (case m26 => exact ⟨by k_is, by k_is⟩)
    (case u26 => exact ⟨by k_is, by k_is, by k_is⟩)
    (case m29 => exact ⟨by k_is, by k_is⟩)
    (case u29 => exact ⟨by k_is, by k_is, by k_is⟩)
    (case m28 => exact ⟨by k_is, by k_is⟩)
    (case u28 => exact ⟨by k_is, by k_is, by k_is⟩)
    (case a30 => show _ = _; k_is)
    (case u30 => exact ⟨by k_is, by k_is, by k_is⟩)
    (case a31 => show _ = _; k_is)
    (case u31 => exact ⟨by k_is, by k_is, by k_is⟩)
    (case a32 => show _ = _; k_is)
    (case u32 => exact ⟨by k_is, by k_is, by k_is⟩)
    (case a40 => show _ = _; k_is)
    (case u40 => exact ⟨by k_is, by k_is, by k_is⟩)
    (case a41 => show _ = _; k_is)
    (case u41 => exact ⟨by k_is, by k_is, by k_is⟩)
    (case a42 => show _ = _; k_is)
    (case u42 => exact ⟨by k_is, by k_is, by k_is⟩)
    (case a43 => show _ = _; k_is)
    (case l43 | c43 | k43 | lT43 => k_is)
    (case m44 => exact ⟨by k_is, by k_is⟩)
    (case u44 => exact ⟨by k_is, by k_is, by k_is⟩)
    (case m45 => exact ⟨by k_is, by k_is⟩)
    (case u45 => exact ⟨by k_is, by k_is, by k_is⟩)
    (case m46 => exact ⟨by k_is, by k_is⟩)
    (case u46 => exact ⟨by k_is, by k_is, by k_is⟩)
    (case m47 => exact ⟨by k_is, by k_is⟩)
    (case u47 => exact ⟨by k_is, by k_is, by k_is⟩)
    (case m50 => exact ⟨by k_is, by k_is⟩)
    (case u50 => exact ⟨by k_is, by k_is, by k_is⟩)
    (case m48 => exact ⟨by k_is, by k_is⟩)
    (case u48 => exact ⟨by k_is, by k_is, by k_is⟩)
    (case m51 => exact ⟨by k_is, by k_is⟩)
    (case u51 => exact ⟨by k_is, by k_is, by k_is⟩)
    (case m52 => exact ⟨by k_is, by k_is⟩)
    (case u52 => exact ⟨by k_is, by k_is, by k_is⟩)
    (case a60 => show _ = _; k_is)
    (case u60 => exact ⟨by k_is, by k_is, by k_is⟩)
    (case a61 => show _ = _; k_is)
    (case u61 => exact ⟨by k_is, by k_is, by k_is⟩)
    (case a62 => show _ = _; k_is)
    (case u62 => exact ⟨by k_is, by k_is, by k_is⟩)
    (case a63 => show _ = _; k_is)
    (case u63 => exact ⟨by k_is, by k_is, by k_is⟩)
    (case a64 => show _ = _; k_is)
    (case u64 => exact ⟨by k_is, by k_is, by k_is⟩)
    (case a80 => show _ = _; k_is)
    (case u80 => exact ⟨by k_is, by k_is, by k_is⟩)
    (case a81 => show _ = _; k_is)
    (case u81 => exact ⟨by k_is, by k_is, by k_is⟩)
    (case a82 => show _ = _; k_is)
    (case u82 => exact ⟨by k_is, by k_is, by k_is⟩)
    (case a83 => show _ = _; k_is)
    (case u83 => exact ⟨by k_is, by k_is, by k_is⟩)
    (case a84 => show _ = _; k_is)
    (case u84 => exact ⟨by k_is, by k_is, by k_is⟩)
    (case a85 => show _ = _; k_is)
    (case u85 => exact ⟨by k_is, by k_is, by k_is⟩)
    (case a86 => show _ = _; k_is)
    (case u86 => exact ⟨by k_is, by k_is, by k_is⟩)
    (case a87 => show _ = _; k_is)
    (case u87 => exact ⟨by k_is, by k_is, by k_is⟩)
    (case a88 => show _ = _; k_is)
    (case u88 => exact ⟨by k_is, by k_is, by k_is⟩)
    (case a89 => show _ = _; k_is)
    (case u89 => exact ⟨by k_is, by k_is, by k_is⟩)
    (case a90 => show _ = _; k_is)
    (case u90 => exact ⟨by k_is, by k_is, by k_is⟩)
    (case a91 => show _ = _; k_is)
    (case u91 => exact ⟨by k_is, by k_is, by k_is⟩)
    (case z1 | z2 | z3 | z4 | z5 | z6 | z7 | z8 | z9 | z10 | z11 | z12 | z13 | z14 | z15 | gP | aXO | aXU | aXS | zab | zdi | gN | aE | lP => k_is)
    (case hes => rfl)
    (case smP => rfl)
    (case q0 | q1 | q2 | q3 | q4 | q5 | q6 | q7 | q8 | q9 | q10 | q11 | q12 | q13 | lXO | kXO => k_is)
    (case hbmO => rfl)
    (case lXU | kXU => k_is)
    (case hbmU => rfl)
    (case ixU | lXS | kXS => k_is)
    (case hbmS => rfl)
    (case ixS | csO | tyO | beO | sOO | csU | tyU | beU | sUU | csS | tyS | beS | sSS | sSU | lB => k_is)
    (case hB => rfl)
    (case lN => k_is)
    (case uN => rfl)
    (case iN | iC | nC | l99 | c99 | k99 | x1 | x2 | x3 | g1O | g2O | g3O | lN2 => k_is)

