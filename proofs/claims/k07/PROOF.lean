import PyProof.Rows.All
import Wide.All
import OpenK.AllK
import Wide.FinOn
import PyProof.EqAt
import PyProof.EqKinds
import PyProof.TupleCall
import PyProof.DictIter
import PyProof.FitsBits
import PyProof.NoPylong
import Lean
import PySem.Challenge.RW_elderline_k07_asked
noncomputable section
open PySem renaming wpAny_bind -> IF, Value -> II, sizeLine -> IK, Shared -> IL, Addr -> IN, wpAny_pure -> JA, sizeLine_eq -> JB, Program -> JJ, starEach -> JS, wpAny -> JT, model -> JV, FuncData -> JW, wpAny_field -> JX, mainGlobals -> KE, Around -> KG, World -> KL, wpAny_callSpecial?_slot -> KU, wpAny_holding -> LI, Heap -> LO, wpAny_call_entry -> LU, wpAny_mono -> MI, wpAny_seqItems -> ML, wpAny_setField -> MO, Builtin -> MV, wpAny_setField_rec -> MW, wpAny_rule -> NF, sysModules -> NG, wpAny_Call_Name_kw -> NQ, Stmt -> NW, wpAny_truthy_bool -> NY, wpAny_newObj_type -> NZ, eval -> OA, strKind -> OC, assignEach -> OH, compareOp -> OJ, codeAny_mono -> OL, bootBuiltins -> OM, pyNext -> OX, codeAny_builtin -> OY, IsPair -> OZ, rawInt -> PB, backTo -> PD, Paired -> PF, wpAny_standAt -> PK, wpAny_attempt -> PL, binaryOp -> PM, wpAny_pyNext_list_item -> PQ, tupleKind_room_in1 -> PU, wpAny_passesOwn -> PZ, wpAny_letGo -> QA, keywordEach -> QC, wpAny_loadPart_at -> QK, mem_of_lookup -> QL, wpAny_isInstance -> QX, wpAny_call -> QZ, boot_len -> RD, codeAny -> RE, behindInMarks -> RF, attributeBase -> RG, ExceptHandler -> RM
open PySem.W renaming Frag -> IG, keepIn -> IR, findIn -> LH, kia_one -> MR, callWith_K -> MS, mg_of -> MX, emptyDict -> NC, kitOne -> NT, mg_none_of -> NV, methodCall_KW -> OD, Looks -> OE, instObj -> ON, fnOf -> OS, exmOne -> QD, findIn -> QY
open List renaming getElem?_eq_some_iff -> IH, length_map -> IM, mem_cons -> IQ, mem_singleton -> IT, getElem?_eq_getElem -> IU, length_append -> IV, mem_of_getElem? -> IY, mem_cons_of_mem -> JC, map_append -> JE, not_mem_nil -> JG, length_singleton -> JH, mem_append_right -> JK, lookup_cons -> JL, mem_cons_self -> JM, size_toArray -> JN, mem_append -> JO, replicate -> JQ, getElem?_map -> JU, getElem?_concat_length -> JY, getElem?_append_left -> KA, length_cons -> KH, map_cons -> KR, take_of_length_le -> KW, drop_eq_getElem_cons -> KY, mem_map -> KZ, append_nil -> LA, getElem?_of_mem -> LD, nodup_cons -> LJ, length_reverse -> LL, length_drop -> LP, getElem_mem -> LQ, length_replicate -> LV, getD_eq_getElem?_getD -> MJ, getElem?_set_ne -> MM, mem_append_left -> MU, getElem?_set_self -> MY, drop_eq_nil_of_le -> MZ, take_add_one -> ND, reverse_cons -> NE, all_eq_true -> NL, mem_of_mem_drop -> NP, length_take -> OB, replicate_succ' -> OI, append_assoc -> OP, getElem?_replicate -> OV, nodup_append -> PR, nodup_nil -> QG, mem_or_eq_of_mem_set -> QH, lookup -> QM, sum_append -> QQ, map_drop -> QR, find?_cons -> QS, filter_cons_of_pos -> QT, filter_cons_of_neg -> QU, cons_lt_cons_iff -> RK
open PySem.Heap renaming get?_push_of_some -> IJ, lt_size -> JF, get?_push_size -> JI, get?_update_other -> KP, get?_update_self -> LM, ExtBut -> NA, size_push -> NM, SameBut -> OQ
open Nat renaming le_refl -> IP, ne_of_lt -> JP, le_trans -> JR, lt_of_lt_of_le -> KD, zero_le -> KI, ne_of_gt -> OF, lt_irrefl -> OT, le_succ -> OU, lt_of_le_of_lt -> PJ, le_of_eq -> PP, lt_succ_self -> QJ
open Sum renaming inr -> IW
open Bool renaming false_ne_true -> IZ, and_eq_true -> LC, false_eq_true -> LZ, eq_false_iff -> MP, false_and -> QI, true_and -> QW
open PySem.Value renaming ref -> JD, none -> LX, type -> NR
open Int renaming emod_lt_of_pos -> JZ, emod_nonneg -> KJ, toNat_natCast -> LR, eq_ofNat_of_zero_le -> LW
open Option.some renaming inj -> KC
open Ne renaming symm -> KO
open PySem.F renaming plainAttrs_list -> KQ, type_list_append -> ME, slot_list_append -> MF, called_set -> NJ, slot_dict_get -> PN, excBase_ValueError -> PX, slot_tuple_iterator_next -> QN, plainAttrs_dict -> QP, slot_dict_pop -> RI, slot_zip_next -> RL
open PySem.Builtin.SmallTypes renaming nextOf -> KS, ownedTupleIsFree -> LY
open PySem.PassesOwn renaming never -> LB
open False renaming elim -> LF
open PyProof.Rows renaming boot_isinstance -> LG, envOfC -> LK, boot_list -> LN, callWith_type1 -> MG, slot_tuple_getitem -> RC
open PySem.NameKind renaming free -> LS
open PySem.PyData renaming keyHash -> MD, depthAll -> RJ
open Array renaming getElem?_eq_some_iff -> MK
open PySem.SeqAt renaming EqAt -> MN
open PySem.Str renaming ofString -> MQ
open PySem.Heap.SameBut renaming update -> NH
open True renaming intro -> NI
open PySem.Paired renaming length -> NK
open PySem.Builtin renaming bitNot -> NN
open Sum.inr renaming inj -> NX
open PySem.Calls renaming callWith_builtin -> OG, spliced_cons -> OR, evalArgs_plain -> QO
open PySem.Obj renaming mapFields -> OO, data_mapFields -> PY, isFreed_of_fields -> QF, mapSeq -> RA
open PySem.Around renaming under_plainId -> OW
open PyProof.Rows.F renaming plain_set_update_loop -> QE
open PySem.Builtin.Slice renaming slicePlaces -> QV
open PySem.Builtin.Tuple renaming tupleExact -> RB
open PySem.Txt renaming slice -> RH
open PySem.Code renaming quiet_builtin -> RN
open PySem.Builtin.Range renaming rangeSize -> RO
set_option Elab.async false
set_option linter.all false
set_option maxRecDepth 100000
set_option maxHeartbeats 4000000
namespace L2
open PySem PySem.Spec PyProof.Rows
def Bm(A:KG)(h:LO):Prop:=A.handled=none ∨ ∃(x:IN)(o:Obj)(vs:Array II),A.handled=some (.ref x)/\h.get? x=some o/\o.data=.fields vs/\vs[2]? = some .none
theorem Rf:entryFor table "proto.unchain" = some Builtin.«proto.unchain» := entryFor_of_fast (by kernel_rfl)
section
variable {prog:JJ} {w:KL} {A:KG} {s:IL} {E:II->IL->Prop}
theorem Xb{e:II}{x:IN}{o:Obj}{vs:Array II}{Q:II->IL->Prop}(g:s.heap.get? x=some o)(d:o.data=.fields vs)(c:vs[2]? = some .none)(h:Q .none s):
 JT (JV prog w) A (runValue (.builtin "proto.unchain" ⟨[e,.ref x,.ref x,.bool false],[]⟩)) Q E s:=by
 refine wpAny_runValue (OY Rf ?_)
 show JT _ _ (field (.ref x) 2 >>= _) _ _ s
 refine IF (JX g d c ?_)
 dsimp only
 rw[if_pos (show (LX == LX)=true from rfl)]
 exact JA h
theorem Zy{α:Type}{a x:IN}{oa o:Obj}{us vs:Array II}{Q:α->IL->Prop}(hh:A.handled=some (.ref x))(ne:x≠a)(g:s.heap.get? x=some o)(d:o.data=.fields vs)(c:vs[2]? = some .none)(ga:s.heap.get? a=some oa)(da:oa.data=.fields us)(h2:2 < us.size)(h:E (.ref a) { s with heap:=s.heap.update a (OO (·.setIfInBounds 2 (.ref x))) }):JT (JV prog w) A (raiseNew (.ref a):Sem α) Q E s:=by
 unfold raiseNew
 refine IF (wpAny_handled ?_)
 rw[hh]
 dsimp only
 rw[if_pos (show ((JD x != JD a)=true) by simp[ne])]
 refine IF ?_
 refine LI (Xb g d c ?_)
 exact IF (MO (i:=2) ga da h2 (wpAny_throw h))
theorem Es{α:Type}{Q:α->IL->Prop}(hh:Bm A s.heap)(h:∀(h':LO)(e:IN),(∀b o,s.heap.get? b=some o->h'.get? b=some o)->Shared.TypeIs { s with heap:=h' } (.ref e) "StopIteration" -> E (.ref e) { s with heap:=h' }):
 JT (JV prog w) A (newExc (.type "StopIteration") [] >>= λe=>(raiseNew e:Sem α)) Q E s:=by
 have z6:∀ {x:II},(#[x,.none,.none,.none,.bool false,.none]++ownMembersOf (.type "StopIteration") []:Array II).size=6:=λ{x}=>rfl
 refine IF ?_
 unfold newExc newTuple
 refine IF (NZ ?_ (by size_fits))
 refine IF (wpAny_of_eq (a:=LX) (by first | rfl | (unfold firstArgMember;rfl)) (NZ ?_ (by size_fits)))
 have kp:∀(T X:Obj)(b:IN)(o:Obj),s.heap.get? b=some o->((s.heap.push T).push X).get? b=some o:=λT X b o e=>IJ _ (IJ _ e)
 rcases hh with hn | ⟨x,o,vs,hx,g,d,c⟩
 ·unfold raiseNew
  refine IF (wpAny_handled ?_)
  rw[hn]
  exact wpAny_throw (h _ _ (kp _ _) ⟨_,JI _ rfl,rfl⟩)
 ·have lt:x≠(s.heap.push { cls:=.type "tuple", data:=.seq #[] }).objs.size:=λz=>by
   have e1:=IJ { cls:=.type "tuple", data:=.seq #[] } g
   rw[z] at e1
   exact absurd e1 (by simp[Heap.get?])
  have ne:∀(b:IN)(o:Obj),s.heap.get? b=some o->(s.heap.push { cls:=.type "tuple", data:=.seq #[] }).objs.size≠b:=λb o e z=>by
   have e1:=IJ { cls:=.type "tuple", data:=.seq #[] } e
   rw[<- z] at e1
   exact absurd e1 (by simp[Heap.get?])
  refine Zy hx lt (kp _ _ _ _ g) d c (JI _ rfl) rfl (by show 2 < 6;decide) (h _ _ (λb o e=>?_) ?_)
  ·rw[KP _ _ (ne b o e)]
   exact kp _ _ b o e
  ·exact⟨_,LM _ (JI _ rfl) rfl,rfl⟩
end
section
variable {prog:JJ} {w:KL} {A:KG} {s:IL} {E:II->IL->Prop}
theorem Bm.upd{h:LO}{it:IN}{f:Obj->Obj}(hh:Bm A h)(hn:∀o vs,h.get? it=some o->o.data=.fields vs->¬ vs[2]? = some .none):Bm A (h.update it f):=by
 rcases hh with z | ⟨x,o,vs,a,g,d,c⟩
 ·exact .inl z
 ·have:it≠x:=λe=>hn o vs (by rw[e];exact g) d c
  exact .inr ⟨x,o,vs,a,(KP _ _ this).trans g,d,c⟩
theorem Bm.ext{h h':LO}(hh:Bm A h)(k:∀b o,h.get? b=some o->h'.get? b=some o):Bm A h':=by
 rcases hh with z | ⟨x,o,vs,a,g,d,c⟩
 ·exact .inl z
 ·exact .inr ⟨x,o,vs,a,k _ _ g,d,c⟩
theorem Bm.in1{h:LO}(hh:Bm A h):Bm A.in1 h:=hh
theorem Jw{h:LO}{it:IN}{oi:Obj}{u v:II}(gi:h.get? it=some oi)(di:oi.data=.fields #[u,v]):∀o vs,h.get? it=some o->o.data=.fields vs->¬ vs[2]? = some .none:=λo vs g d c=>by
 obtain rfl:oi=o:=KC (gi.symm.trans g)
 rw[di] at d
 cases d
 simp at c
theorem Lf{α:Type}{it:IN}{f:Obj->Obj}{Q:Option α->IL->Prop}{k:Sem (Option α)}{E':II->IL->Prop}(hQ:∀h',NA it s.heap h'->Q none { s with heap:=h' }){h':LO}{e:IN}(kp:∀b o,(s.heap.update it f).get? b=some o->h'.get? b=some o)(ty:Shared.TypeIs { s with heap:=h' } (.ref e) "StopIteration"):
 JT (JV prog w) A (do if (<- isInstance (.ref e) (.type "StopIteration"))=true then pure none else k) Q E' { s with heap:=h' }:=by
 refine IF (QX (T := "StopIteration") (b:=true) ty isSubtype_stop ?_)
 rw[if_pos rfl]
 exact JA (hQ _ λb o hb g=>kp _ _ ((KP _ _ (KO hb)).trans g))
theorem Us{it l:IN}{i:Nat}{items:Array II}{Q:Option II->IL->Prop}(hh:Bm A s.heap)(hit:s.heap.IsListIter it l i)(hl:s.heap.IsList l items)(hnil:items[i]? = none)(hQ:∀h',NA it s.heap h'->Q none { s with heap:=h' }):JT (JV prog w) A (OX (.ref it)) Q E s:=by
 obtain⟨oi,gi,ci,di⟩:=id hit
 obtain⟨oz,gz,_,nz,dz⟩:=hl
 unfold OX
 refine IF (PL (KU (name:=MQ "__next__") hit.typeIs slot_listiter_next (LU slot_listiter_next hit.typeIs entry_listiter_next ?_ (args_listiter_next _))))
 refine IF (m:=field (.ref it) 0) (JX gi di (x:=.ref l) rfl ?_)
 show JT _ _ (if (JD l == .none)=true then _ else _) _ _ s
 rw[if_neg (show ¬ ((JD l == .none)=true) from IZ)]
 refine IF (m:=field (.ref it) 1) (JX gi di (x:=.int i 0) rfl ?_)
 refine IF (m:=seqItems? (.ref l)) (ML gz dz ?_)
 simp only[LR,hnil]
 refine IF (NF (IF (MO gi di (by simp) ?_)))
 exact Es (hh.in1.upd (Jw gi di)) λh' e kp ty=>Lf hQ kp ty
theorem yE{it t:IN}{i:Nat}{items:Array II}{Q:Option II->IL->Prop}(hh:Bm A s.heap)(hit:IsTupIter s.heap it t i)(hl:IsTup s.heap t items)(hnil:items[i]? = none)(hQ:∀h',NA it s.heap h'->Q none { s with heap:=h' }):JT (JV prog w) A (OX (.ref it)) Q E s:=by
 obtain⟨oi,gi,ci,di⟩:=id hit
 obtain⟨oz,gz,_,nz,dz⟩:=hl
 unfold OX
 refine IF (PL (KU (name:=MQ "__next__") hit.typeIs slot_tupleiter_next (LU slot_tupleiter_next hit.typeIs entry_tupleiter_next ?_ (args_tupleiter_next _))))
 refine IF (m:=field (.ref it) 0) (JX gi di (x:=.ref t) rfl ?_)
 show JT _ _ (if (JD t == .none)=true then _ else _) _ _ s
 rw[if_neg (show ¬ ((JD t == .none)=true) from IZ)]
 refine IF (m:=field (.ref it) 1) (JX gi di (x:=.int i 0) rfl ?_)
 refine IF (m:=seqItems? (.ref t)) (ML gz dz ?_)
 simp only[LR,hnil]
 refine IF (NF (IF (MO gi di (by simp) ?_)))
 exact Es (hh.in1.upd (Jw gi di)) λh' e kp ty=>Lf hQ kp ty
theorem Wi{it:IN}{x left step:Int}{Q:Option II->IL->Prop}(hh:Bm A s.heap)(hit:IsRangeIter s.heap it x left step)(hl:left<=0)(hQ:∀h',NA it s.heap h'->Q none { s with heap:=h' }):JT (JV prog w) A (OX (.ref it)) Q E s:=by
 have ty0:s.TypeIs (.ref it) "range_iterator" := ⟨_,hit,rfl⟩
 unfold OX
 refine IF (PL (KU (name:=MQ "__next__") ty0 F.slot_range_iterator_next (LU F.slot_range_iterator_next ty0 F.entry_range_iterator_next ?_ (F.args_range_iterator_next_1 _))))
 refine IF (m:=field (.ref it) 0) (JX hit rfl (x:=PB x) rfl ?_)
 refine IF (m:=field (.ref it) 1) (JX hit rfl (x:=PB left) rfl ?_)
 refine IF (m:=field (.ref it) 2) (JX hit rfl (x:=PB step) rfl ?_)
 show JT _ _ (if left<=0 then _ else _) _ _ s
 rw[if_pos hl]
 refine IF (NF (IF ?_))
 refine Es hh.in1 λh' e kp ty=>?_
 refine IF (QX (T := "StopIteration") (b:=true) ty isSubtype_stop (JA (hQ _ λb o hb g=>kp _ _ g)))
theorem qM{it:IN}{x:Str}{t:Tok}{i:Nat}{Q:Option II->IL->Prop}(hh:Bm A s.heap)(hit:s.heap.IsStrIter it "str_ascii_iterator" x t i)(hnil:x.cps[i]? = none)(hQ:∀h',NA it s.heap h'->Q none { s with heap:=h' }):JT (JV prog w) A (OX (.ref it)) Q E s:=by
 obtain⟨oi,gi,ci,di⟩:=id hit
 unfold OX
 refine IF (PL (KU (name:=MQ "__next__") hit.typeIs F.slot_str_ascii_iterator_next (LU F.slot_str_ascii_iterator_next hit.typeIs F.entry_str_ascii_iterator_next ?_ (F.args_str_ascii_iterator_next_1 _))))
 refine IF (m:=field (.ref it) 0) (JX gi di (x:=.str x t) rfl ?_)
 refine IF (m:=field (.ref it) 1) (JX gi di (x:=.int i 0) rfl ?_)
 simp only[LR,hnil]
 refine IF (NF (IF (MO gi di (by simp) (IF (QA ?_)))))
 exact Es (hh.in1.upd (Jw gi di)) λh' e kp ty=>Lf hQ kp ty
theorem vT{it:IN}{x:Str}{t:Tok}{i:Nat}{Q:Option II->IL->Prop}(hh:Bm A s.heap)(hit:s.heap.IsStrIter it "str_iterator" x t i)(hnil:x.cps[i]? = none)(hQ:∀h',NA it s.heap h'->Q none { s with heap:=h' }):JT (JV prog w) A (OX (.ref it)) Q E s:=by
 obtain⟨oi,gi,ci,di⟩:=id hit
 unfold OX
 refine IF (PL (KU (name:=MQ "__next__") hit.typeIs F.slot_str_iterator_next (LU F.slot_str_iterator_next hit.typeIs F.entry_str_iterator_next ?_ (F.args_str_iterator_next_1 _))))
 refine IF (m:=field (.ref it) 0) (JX gi di (x:=.str x t) rfl ?_)
 refine IF (m:=field (.ref it) 1) (JX gi di (x:=.int i 0) rfl ?_)
 simp only[LR,hnil]
 refine IF (NF (IF (MO gi di (by simp) (IF (QA ?_)))))
 exact Es (hh.in1.upd (Jw gi di)) λh' e kp ty=>Lf hQ kp ty
end
section
variable {prog:JJ} {w:KL} {A:KG} {s:IL} {E:II->IL->Prop}
theorem Mm{it l:IN}{i:Nat}{items:Array II}{Q:II->IL->Prop}(hh:Bm A s.heap)(hit:s.heap.IsListIter it l i)(hl:s.heap.IsList l items)(hnil:items[i]? = none)(hE:∀h' e,NA it s.heap h'->(∃o,h'.get? e=some o/\o.cls=.type "StopIteration")->E (.ref e) { s with heap:=h' }):JT (JV prog w) A (KS (.ref it)) Q E s:=by
 obtain⟨oi,gi,ci,di⟩:=id hit
 obtain⟨oz,gz,_,nz,dz⟩:=hl
 unfold KS
 refine IF (KU (name:=MQ "__next__") hit.typeIs slot_listiter_next (LU slot_listiter_next hit.typeIs entry_listiter_next ?_ (args_listiter_next _)))
 refine IF (m:=field (.ref it) 0) (JX gi di (x:=.ref l) rfl ?_)
 show JT _ _ (if (JD l == .none)=true then _ else _) _ _ s
 rw[if_neg (show ¬ ((JD l == .none)=true) from IZ)]
 refine IF (m:=field (.ref it) 1) (JX gi di (x:=.int i 0) rfl ?_)
 refine IF (m:=seqItems? (.ref l)) (ML gz dz ?_)
 simp only[LR,hnil]
 refine IF (NF (IF (MO gi di (by simp) ?_)))
 exact Es (hh.in1.upd (Jw gi di)) λh' e kp ty=>hE h' e (λb o hb g=>kp _ _ ((KP _ _ (KO hb)).trans g)) ty
theorem tT{e it l:IN}{i:Int}{k:Nat}{old:II}{items:Array II}{Q:Option II->IL->Prop}(hh:Bm A s.heap)(he:IsEnum s.heap e it i old)(h1:s.heap.IsListIter it l k)(hl:s.heap.IsList l items)(hnil:items[k]? = none)(hQ:∀h',NA it s.heap h'->Q none { s with heap:=h' }):JT (JV prog w) A (OX (.ref e)) Q E s:=by
 have ty0:s.TypeIs (.ref e) "enumerate" := ⟨_,he,rfl⟩
 unfold OX
 refine IF (PL (KU (name:=MQ "__next__") ty0 F.slot_enumerate_next (LU F.slot_enumerate_next ty0 F.entry_enumerate_next ?_ (F.args_enumerate_next_1 _))))
 refine IF (m:=field (.ref e) 2) (JX he rfl (x:=.ref it) rfl (IF (Mm hh.in1 h1 hl hnil λh' x kp ty=>?_)))
 exact IF (QX (T := "StopIteration") (b:=true) ty isSubtype_stop (JA (hQ _ kp)))
theorem jF{t:IN}{items:Array II}{Q:List II->IL->Prop}(hh:Bm A s.heap)(ht:IsTup s.heap t items)(hQ:∀h',NA s.heap.objs.size s.heap h'->Q items.toList { s with heap:=h' }):JT (JV prog w) A (unpackItems (.ref t) items.size none) Q E s:=by
 have ne0:t≠s.heap.objs.size:=by
  obtain⟨o,g,_⟩:=ht
  exact JP (JF g)
 unfold unpackItems notIterableAtAll
 refine IF (IF (wpAny_specialOf ht.typeIs slot_tuple_iter.lookup (JA ?_)))
 simp only[LZ,if_false]
 refine IF (LI (iter_tuple ht (IF (LI (draw_tuple ne0 items.size 0 _ _ ⟨_,JI _ rfl,rfl,rfl⟩ (ht.push _) (by omega) λh1 i1 s1=>?_)))))
 rw[show List.take items.size (List.drop 0 items.toList)=items.toList by rw[List.drop_zero];exact KW (by simp),if_neg (by simp)]
 have ht1:IsTup h1 t items:=(ht.push _).extBut s1.extBut ne0
 have kp:NA s.heap.objs.size s.heap h1:=λb o hb g=>s1.extBut b o hb (IJ _ g)
 have hh1:Bm A h1:=by
  rcases hh with z | ⟨x,o,vs,a,g,d,c⟩
  ·exact .inl z
  ·exact .inr ⟨x,o,vs,a,kp _ _ (JP (JF g)) g,d,c⟩
 refine IF (LI (yE hh1 i1 ht1 (by simp) λh2 e2=>?_))
 simp only[Option.isSome_none,LZ,if_false]
 exact JA (hQ h2 (kp.trans e2))
theorem rE{env:Env}{elts:List Expr}{x1}{pos:Pos}{t:IN}{items:Array II}{Q:Unit->IL->Prop}(hh:Bm A s.heap)(ht:IsTup s.heap t items)(hn:(OH elts env).length=items.size)(hst:(OH elts env).findIdx? (·.1)=none)(h:∀h',NA s.heap.objs.size s.heap h'->JT (JV prog w) A (assignInOrder ((OH elts env).map (·.2)) items.toList) Q E { s with heap:=h' }):JT (JV prog w) A (assign (.Tuple elts x1 pos) env (.ref t)) Q E s:=by
 rw[assign_Tuple]
 refine IF (PK ?_)
 unfold unpack
 rw[hn,hst]
 exact IF (LI (jF hh ht h))
theorem Yd{it:IN}{lo step:Int}{n:Nat}(i:Nat)(s:IL)(Q:Option II->IL->Prop)(E:II->IL->Prop)(hi:i < n)(st:IsRangeIter s.heap it (lo+(i:Int) * step) ((n:Int)-(i:Int)) step)(hQ:∀(v:II)(h':LO)(tk:Tok),(∃t,v=.int (lo+(i:Int) * step) t)->IsRangeIter h' it (lo+((i+1:Nat):Int) * step) ((n:Int)-((i+1:Nat):Int)) step->(∀b o,b∉[it]->s.heap.get? b=some o->h'.get? b=some o)->Q (some v) { s with heap:=h',toks:=tk }):
 JT (JV prog w) A (OX (.ref it)) Q E s:=by
 refine wpAny_pyNext_range_item st (by omega) λh' st' sb=>hQ _ h' _ ⟨_,rfl⟩ ?_ λb o hb e=>sb.extBut b o (by simpa using hb) e
 have e1:lo+((i+1:Nat):Int) * step=lo+(i:Int) * step+step:=by rw[Int.natCast_add,Int.add_mul,<- Int.add_assoc];simp
 have e2:(n:Int)-((i+1:Nat):Int)=(n:Int)-(i:Int)-1:=by omega
 rw[e1,e2]
 exact st'
end
def Nn(A:KG):List IN:=match A.handled with
 | some (.ref x)=>[x]
 | _=>[]
theorem Bm.keep{A:KG}{h h':LO}(hh:Bm A h)(k:∀b∈Nn A,∀o,h.get? b=some o->h'.get? b=some o):Bm A h':=by
 rcases hh with z | ⟨x,o,vs,a,g,d,c⟩
 ·exact .inl z
 ·exact .inr ⟨x,o,vs,a,k x (by unfold Nn;rw[a];exact JM) o g,d,c⟩
theorem Bm.but{A:KG}{h h':LO}{it:IN}(hh:Bm A h)(hn:∀o vs,h.get? it=some o->o.data=.fields vs->¬ vs[2]? = some .none)(k:NA it h h'):Bm A h':=by
 rcases hh with z | ⟨x,o,vs,a,g,d,c⟩
 ·exact .inl z
 ·exact .inr ⟨x,o,vs,a,k x o (λe=>hn o vs (by rw[<- e];exact g) d c) g,d,c⟩
theorem Bm.lt{A:KG}{h:LO}(hh:Bm A h):∀b∈Nn A,b < h.objs.size:=λb hb=>by
 rcases hh with z | ⟨x,o,vs,a,g,d,c⟩
 ·unfold Nn at hb
  rw[z] at hb
  cases hb
 ·unfold Nn at hb
  rw[a] at hb
  rw[IT.mp hb]
  exact JF g
theorem eY{h:LO}{it l:IN}{i:Nat}(hit:h.IsListIter it l i):∀o vs,h.get? it=some o->o.data=.fields vs->¬ vs[2]? = some .none:=
 let ⟨_,g,_,d⟩:=id hit
 Jw g d
theorem aH{prog:JJ}{w:KL}{A:KG}(I ax:IN)(hne:ax≠I)(items:Array II):
 Walks prog w A I (I::ax::Nn A) [I] items.size (λi v=>items[i]? = some v) (λi h=>h.IsListIter I ax i/\h.IsList ax items/\Bm A h) where
 sub:=λb hb=>by rw[IT.mp hb];exact JM
 frame:=λ_ _ _ st hk=>⟨st.1.at λo e=>hk I JM o e,st.2.1.at λo e=>hk ax (JC _ JM) o e,st.2.2.keep λb hb o e=>hk b (JC _ (JC _ hb)) o e⟩
 item:=λi s Q E hi st hQ=>by
  refine PQ st.1 st.2.1 (x:=items[i]) (by simp[hi]) λh' it' sb=>hQ _ h' s.toks (by simp[hi]) ⟨it',st.2.1.extBut sb.extBut hne,st.2.2.but (eY st.1) sb.extBut⟩ λb o hb e=>?_
  exact sb.extBut b o (λz=>hb (by simp[z])) e
 done:=λs Q E st hQ=>Us st.2.2 st.1 st.2.1 (by simp) λh' eb=>hQ h' s.toks λb o hb e=>eb b o (λz=>hb (by simp[z])) e
 self:=λ_ _ _ _ st hQ=>wpAny_pyIter_listiter st.1 hQ
section
variable {prog:JJ} {w:KL} {A:KG} {s:IL} {E:II->IL->Prop}
theorem cE{h:LO}{z TI TO:IN}{f0:II}(hz:IsZip h z TI TO f0):∀o vs,h.get? z=some o->o.data=.fields vs->¬ vs[2]? = some .none:=λo vs g d c=>by
 have e:=hz.symm.trans g
 cases e
 cases d
 simp at c
theorem zQ{z TI TO i1 i2 l1 l2:IN}{k1 k2:Nat}{xs ys:Array II}{a b:II}{Q:Option II->IL->Prop}(hh:Bm A s.heap)(D:ZipApart z TI TO i1 i2 l1 l2)(hz:IsZip s.heap z TI TO .none)(hTI:OZ s.heap TI (.ref i1) (.ref i2))(hTO:OZ s.heap TO a b)(h1:s.heap.IsListIter i1 l1 k1)(h2:s.heap.IsListIter i2 l2 k2)(hl1:s.heap.IsList l1 xs)(hl2:s.heap.IsList l2 ys)(hend:xs[k1]? = none∨ys[k2]? = none)(hQ:∀h',(∀c o,c≠z->c≠TO->c≠i1->c≠i2->s.heap.get? c=some o->h'.get? c=some o)->Q none { s with heap:=h' }):JT (JV prog w) A (OX (.ref z)) Q E s:=by
 have ty0:s.TypeIs (.ref z) "zip" := ⟨_,hz,rfl⟩
 unfold OX
 refine IF (PL (KU (name:=MQ "__next__") ty0 RL (LU RL ty0 F.entry_zip_next ?_ (F.args_zip_next_1 _))))
 have fin:∀(h':LO)(e:IN),(∀c o,c≠z->c≠TO->c≠i1->c≠i2->s.heap.get? c=some o->h'.get? c=some o)->(∃o,h'.get? e=some o/\o.cls=.type "StopIteration")->JT (JV prog w) A (do if (<- isInstance (.ref e) (.type "StopIteration"))=true then pure none else throw (.ref e)) Q E { s with heap:=h' }:=λh' e kp ty=>
  IF (QX (T := "StopIteration") (b:=true) ty isSubtype_stop (JA (hQ _ kp)))
 refine IF (m:=field (.ref z) 2) (JX hz rfl (x:=.bool false) rfl ?_)
 refine IF (m:=field (.ref z) 3) (JX hz rfl (x:=.ref TI) rfl (IF (ML hTI rfl ?_)))
 refine IF (m:=LY (.ref z)) ?_
 unfold LY
 refine IF (JX hz rfl (x:=.none) rfl (JA ?_))
 simp only[if_true]
 refine IF (NF (IF (JX hz rfl (x:=.ref TO) rfl (IF (MW hz (by simp) λha za sa=>?_)))))
 have za':IsZip ha z TI TO .ellipsis:=za
 have hha:Bm A ha:=hh.but (cE hz) sa.extBut
 refine IF ?_
 simp only[List.zipIdx_cons,List.zipIdx_nil,List.forIn_cons,List.forIn_nil]
 refine IF (IF (wpAny_onRaise ?_))
 refine IF (m:=KS (.ref i1)) ?_
 cases ex:xs[k1]? with
 | none=>
  refine Mm hha.in1 (h1.extBut sa.extBut D.i1z) (hl1.extBut sa.extBut D.l1z) ex λhb e sb ty=>?_
  obtain⟨oe,ge,ce⟩:=ty
  have zb:IsZip hb z TI TO .ellipsis:=sb _ _ D.i1z.symm za'
  have nez:e≠z:=λy=>by subst y;rw[zb] at ge;cases ge;simp at ce
  exact MW zb (by simp) λhc _ sc=>fin hc e (λc o c1 _ c3 _ g=>sc.extBut _ _ c1 (sb _ _ c3 (sa.extBut _ _ c1 g))) ⟨oe,sc.extBut _ _ nez ge,ce⟩
 | some x=>
  have ey:ys[k2]? = none:=hend.resolve_left (by rw[ex];exact λy=>nomatch y)
  refine wpAny_nextOf_list_item (h1.extBut sa.extBut D.i1z) (hl1.extBut sa.extBut D.l1z) ex λhb _ sb=>JA ?_
  have hhb:Bm A hb:=hha.but (eY (h1.extBut sa.extBut D.i1z)) sb.extBut
  have TOb:OZ hb TO a b:=sb.extBut _ _ D.TOi1 (sa.extBut _ _ D.TOz hTO)
  refine IF (ML TOb rfl (IF (wpAny_updateSeq_pair TOb λhc TOc sc=>IF (QA (JA ?_)))))
  have hhc:Bm A hc:=hhb.but (λo vs g d _=>by rw[TOb] at g;cases g;cases d) sc.extBut
  refine IF (IF (wpAny_onRaise (IF (m:=KS (.ref i2)) ?_)))
  refine Mm hhc.in1 (((h2.extBut sa.extBut D.i2z).extBut sb.extBut D.i12.symm).extBut sc.extBut D.TOi2.symm) (((hl2.extBut sa.extBut D.l2z).extBut sb.extBut D.l2i1).extBut sc.extBut D.l2TO) ey λhd e sd ty=>?_
  obtain⟨oe,ge,ce⟩:=ty
  have zd:IsZip hd z TI TO .ellipsis:=sd _ _ D.i2z.symm (sc.extBut _ _ D.TOz.symm (sb.extBut _ _ D.i1z.symm za'))
  have nez:e≠z:=λy=>by subst y;rw[zd] at ge;cases ge;simp at ce
  exact MW zd (by simp) λhe _ se=>fin he e (λc o c1 c2 c3 c4 g=>se.extBut _ _ c1 (sd _ _ c4 (sc.extBut _ _ c2 (sb.extBut _ _ c3 (sa.extBut _ _ c1 g))))) ⟨oe,se.extBut _ _ nez ge,ce⟩
end
section
variable {prog:JJ} {w:KL} {A:KG} {s:IL} {E:II->IL->Prop} {KK:Type} [DecidableEq KK] {knd:KeyKind prog w KK}
end
abbrev Key:=Sum Int Str
def Tg:Key->II->Bool
 | .inl k,v=>Value.isInt k v
 | .inr x,v=>Value.isStrOf x v
def ET(w:KL):Key->Int
 | .inl k=>hashInt k
 | .inr x=>hashStr w x
theorem Dh:∀ {k:Key} {v:II},Tg k v=true->(∃i t,k=Sum.inl i/\v=Value.int i t)∨(∃x t,k=IW x/\v=Value.str x t)
 | .inl i,v,h=>by
  obtain⟨t,e⟩:=Value.isInt_shape (k:=i) (v:=v) h
  exact .inl ⟨i,t,rfl,e⟩
 | .inr x,v,h=>by
  obtain⟨t,e⟩:=Value.isStrOf_shape (x:=x) (v:=v) h
  exact .inr ⟨x,t,rfl,e⟩
theorem jD(i:Int)(t:Tok):Tg (.inl i) (.int i t)=true:=by simp[Tg,Value.isInt]
theorem Ms(x:Str)(t:Tok):Tg (.inr x) (.str x t)=true:=by simp[Tg,Value.isStrOf]
theorem xL(a b:Int):decide ((Sum.inl a:Key)=Sum.inl b)=(a == b):=by
 by_cases e:a=b
 ·subst e;simp
 ·have h:¬ (Sum.inl a:Key)=Sum.inl b:=λq=>e (Sum.inl.inj q)
  rw[decide_eq_false h]
  exact(beq_eq_false_iff_ne.mpr e).symm
theorem wZ(a b:Str):decide ((IW a:Key)=IW b)=decide (a=b):=by
 by_cases e:a=b
 ·subst e;simp
 ·have h:¬ (IW a:Key)=IW b:=λq=>e (IW.inj q)
  rw[decide_eq_false h,decide_eq_false e]
theorem zJ(a:Int)(b:Str):decide ((Sum.inl a:Key)=IW b)=false:=decide_eq_false (λq=>nomatch q)
theorem zR(a:Str)(b:Int):decide ((IW a:Key)=Sum.inl b)=false:=decide_eq_false (λq=>nomatch q)
def Bz(prog:JJ)(w:KL):PySem.KeyKind prog w Key where
 is:=Tg
 hash:=ET w
 inj:=λv a b ha hb=>by
  rcases Dh ha with ⟨i,t,rfl,rfl⟩ | ⟨x,t,rfl,rfl⟩
  ·rcases Dh hb with ⟨j,u,rfl,e⟩ | ⟨y,u,rfl,e⟩
   ·injection e with e1 _;rw[e1]
   ·exact nomatch e
  ·rcases Dh hb with ⟨j,u,rfl,e⟩ | ⟨y,u,rfl,e⟩
   ·exact nomatch e
   ·injection e with e1 _;rw[e1]
 byValue:=λk v h=>by
  rcases Dh h with ⟨i,t,rfl,rfl⟩ | ⟨x,t,rfl,rfl⟩<;>rfl
 pyHash:=λhv h=>by
  rcases Dh hv with ⟨i,t,rfl,rfl⟩ | ⟨x,t,rfl,rfl⟩
  ·exact wpAny_pyHash_int h
  ·exact wpAny_pyHash_str h
 eqBool:=λhu hv h=>by
  rcases Dh hu with ⟨i,t,rfl,rfl⟩ | ⟨x,t,rfl,rfl⟩
  ·rcases Dh hv with ⟨j,u,rfl,rfl⟩ | ⟨y,u,rfl,rfl⟩
   ·rw[xL] at h;exact wpAny_eqBool_int h
   ·rw[zJ] at h;exact SeqAt.EqAt.int_str i t y u _ _ _ _ h
  ·rcases Dh hv with ⟨j,u,rfl,rfl⟩ | ⟨y,u,rfl,rfl⟩
   ·rw[zR] at h;exact SeqAt.EqAt.str_int x t j u _ _ _ _ h
   ·rw[wZ] at h;exact wpAny_eqBool_str h
 «strs» := λk x t v h=>by
  rcases Dh h with ⟨i,u,rfl,e⟩ | ⟨y,u,rfl,e⟩
  ·exact nomatch e
  ·injection e with e1 _
   subst e1
   cases v<;>rfl
theorem Ya(prog:JJ)(w:KL)(i:Int)(t:Tok):(Bz prog w).is (.inl i) (.int i t)=true:=jD i t
theorem Xd(prog:JJ)(w:KL)(x:Str)(t:Tok):(Bz prog w).is (.inr x) (.str x t)=true:=Ms x t
inductive V where
 | non | bl (b:Bool) | int (i:Int) | str (x:Str) | byt (b:Array UInt8) | flt (b:UInt64) | ref (a:IN) | ty (n:String)
 deriving DecidableEq
def RelV:V->II->Prop
 | .non,u=>u=LX
 | .bl b,u=>u=Value.bool b
 | .int i,u=>∃t,u=Value.int i t
 | .str x,u=>∃t,u=Value.str x t
 | .byt b,u=>∃t,u=Value.bytes b t
 | .flt b,u=>∃t,u=Value.float b t
 | .ref a,u=>u=JD a
 | .ty n,u=>u=NR n
abbrev Be:List V->List II->Prop:=PF RelV
theorem Be.length{xs:List V}{us:List II}(r:Be xs us):xs.length=us.length:=NK r
theorem Be.get:∀ {xs:List V} {us:List II} {i:Nat} {x:V},Be xs us->xs[i]? = some x->∃u,us[i]? = some u/\RelV x u
 | _,_,_,_,.nil,e=>by simp at e
 | _,_,0,_,.cons r _,e=>by simp at e;subst e;exact⟨_,rfl,r⟩
 | _,_,i+1,x,.cons _ t,e=>by
  obtain⟨u,h1,h2⟩:=Be.get (i:=i) (x:=x) t (by simpa using e)
  exact⟨u,by simpa using h1,h2⟩
theorem Be.set{x:V}{u:II}(r:RelV x u):∀ {xs:List V} {us:List II} (i:Nat),Be xs us->Be (xs.set i x) (us.set i u)
 | _,_,_,.nil=>.nil
 | _,_,0,.cons _ t=>.cons r t
 | _,_,i+1,.cons q t=>.cons q (Be.set r i t)
theorem Be.append:∀ {xs ys:List V} {us ws:List II},Be xs us->Be ys ws->Be (xs++ys) (us++ws)
 | _,_,_,_,.nil,s=>s
 | _,_,_,_,.cons r t,s=>.cons r (Be.append t s)
theorem Be.take:∀ {xs:List V} {us:List II} (n:Nat),Be xs us->Be (xs.take n) (us.take n)
 | _,_,0,_=>.nil
 | _,_,_+1,.nil=>.nil
 | _,_,n+1,.cons r t=>.cons r (Be.take n t)
theorem Be.drop:∀ {xs:List V} {us:List II} (n:Nat),Be xs us->Be (xs.drop n) (us.drop n)
 | _,_,0,r=>r
 | _,_,_+1,.nil=>.nil
 | _,_,n+1,.cons _ t=>Be.drop n t
def Hu:Option V->Option II->Prop
 | some v,some u=>RelV v u
 | none,none=>True
 | _,_=>False
def KV{κ:Type}:List (κ×V)->List (κ×II)->Prop:=PF λ(p:κ×V) (q:κ×II)=>p.1=q.1/\RelV p.2 q.2
def kV:Key->V
 | .inl i=>.int i
 | .inr x=>.str x
inductive HO where
 /-- a list -/
 | lst (xs:List V)
 /-- a tuple (never changes) -/
 | tup (xs:List V)
 /-- a dict whose keys are ints and texts;one whose keys are tuples of ints and texts (the empty one is both) -/
 | dK (kvs:List (Key×V)) | dT (kvs:List (List Key×V))
 /-- a set of ints: its members,its size -/
 | set (S:Int->Bool) (n:Nat)
 /-- an instance of the class at C,its dict at dx,its attributes -/
 | ins (C dx:IN) (fs:List (Str×V))
 /-- the dict of the instance at x -/
 | own (x:IN)
 /-- the dict of an exception -/
 | xd (fs:List (Str×V))
 /-- a bound method,f of x -/
 | met (f x:IN)
 /-- a range object lo,lo+1,.. below hi -/
 | rng (lo hi:Int)
 /-- a thing that is known to the object (the script;a dict while a loop walks it): read,never written while it is so -/
 | frz (o:Obj) (u:HO)
 /-- a code object's table -/
 | tbl (ps:Array II)
 /-- any other thing,by what is true of its one object (a def of one's own: SetO a S n:=HO.ext λh=>..) -/
 | ext (φ:LO->Prop)
abbrev Hp:=IN->Option HO
def upd(H:Hp)(a:IN)(o:HO):Hp:=λb=>if b=a then some o else H b
theorem Aa{H:Hp}{a:IN}{o:HO}:upd H a o a=some o:=by unfold upd;rw[if_pos rfl]
theorem Ai{H:Hp}{a b:IN}{o:HO}(h:b≠a):upd H a o b=H b:=by unfold upd;rw[if_neg h]
theorem Cd{H:Hp}{a b:IN}{o u:HO}(h:H a=some o)(h':H b=some u)(d:o≠u):a≠b:=by
 intro e;subst e;rw[h] at h';exact d (KC h')
theorem Ah{H:Hp}{a b:IN}{o:HO}(h:H a=some o)(h':H b=none):a≠b:=by
 intro e;subst e;rw[h] at h';cases h'
section
variable (P:JJ) (w:KL)
def Cz(H:Hp)(h:LO)(a:IN):HO->Prop
 | .lst xs=>xs.length<=IK/\∃(its:List II)(n:Nat),Be xs its/\h.get? a=some { cls:=.type "list", data:=.seq its.toArray n }
 | .tup xs=>xs.length<=IK/\∃its:List II,Be xs its/\IsTup h a its.toArray
 | .dK kvs=>kvs.length<=IK/\(a == NG)=false/\∃vs,KV kvs vs/\h.DictOf (Bz P w) a vs
 | .dT kvs=>kvs.length<=IK/\(a == NG)=false/\∃xs:List (List Key×IN×II),
  PF (λ(p:List Key×V) (q:List Key×IN×II)=>p.1=q.1/\H q.2.1=some (.tup (p.1.map kV))/\RelV p.2 q.2.2) kvs xs /\
  ∃o es ep,h.get? a=some o/\o.ExactDict/\o.data=.dict es ep/\es.toList=xs.map (entryOfKey (tupleKind (Bz P w)))/\(xs.map (·.1)).Nodup
 | .set S n=>h.SetOf (intKind P w) a S n
 | .ins C dx fs=>H dx=some (.own a)/\fs.length<=1000/\dx≠a/\h.get? a=some (ON C dx) /\
  ∃mA,h.Ns1 dx mA/\(∀f,Hu (fs.lookup f) (mA f))/\PySem.Within mA (fs.map (·.1))
 | .own _=>∃o,h.get? a=some o
 | .xd fs=>∃mA,h.Ns1 a mA/\∀f,Hu (fs.lookup f) (mA f)
 | .rng lo hi=>∃t u v,h.get? a=some { cls:=.type "range", data:=.fields #[.int lo t,.int hi u,.int 1 v] }
 | .frz o u=>h.get? a=some o/\Cz H h a u
 | .tbl ps=>h.get? a=some { cls:=.none,data:=.fields ps }
 | .met f x=>h.get? a=some (PySem.W.methodObj (.ref f) (.ref x))
 | .ext φ=>φ h/\(∃o,h.get? a=some o)/\∀h1 h2:LO,φ h1->(∀o,h1.get? a=some o->h2.get? a=some o)->φ h2
def Km(H:Hp)(h:LO):Prop:=∀a o,H a=some o->Cz P w H h a o
end
section
variable {P:JJ} {w:KL} {H H':Hp} {h h':LO} {a:IN} {o:HO}
theorem Cz.lt(x:Cz P w H h a o):a < h.objs.size:=by
 cases o with
 | lst xs=>obtain⟨_,_,_,_,e⟩:=x;exact JF e
 | tup xs=>obtain⟨_,_,_,p⟩:=x;exact p.lt
 | dK kvs=>obtain⟨_,_,_,_,o,_,_,e,_⟩:=x;exact JF e
 | dT kvs=>obtain⟨_,_,_,_,o,_,_,e,_⟩:=x;exact JF e
 | set S n=>obtain⟨o,_,_,_,e,_⟩:=x;exact JF e
 | ins C dx fs=>obtain⟨_,_,_,e,_⟩:=x;exact JF e
 | own y=>obtain⟨_,e⟩:=x;exact JF e
 | xd fs=>obtain⟨_,⟨_,_,_,e,_⟩,_⟩:=x;exact JF e
 | rng lo hi=>obtain⟨_,_,_,e⟩:=x;exact JF e
 | frz ob u=>obtain⟨e,_⟩:=x;exact JF e
 | tbl ps=>exact JF (show h.get? a=some _ from x)
 | met f y=>exact JF (show h.get? a=some _ from x)
 | ext φ=>obtain⟨_,⟨_,e⟩,_⟩:=x;exact JF e
theorem Paired.mapP{α β:Type}{F G:α->β->Prop}:∀ {l₁:List α} {l₂:List β},PF F l₁ l₂->(∀a b,F a b->G a b)->PF G l₁ l₂
 | _,_,.nil,_=>.nil
 | _,_,.cons r t,f=>.cons (f _ _ r) (Paired.mapP t f)
theorem Cz.stay(x:Cz P w H h a o)(k:∀b u,(b=a∨H b=some (.own a))->h.get? b=some u->h'.get? b=some u)(ho:∀b,H b=some (.own a)->H' b=some (.own a))(ht:∀b xs,H b=some (.tup xs)->H' b=some (.tup xs)):Cz P w H' h' a o:=by
 induction o with
 | lst xs=>obtain⟨z,its,n,r,e⟩:=x;exact⟨z,its,n,r,k _ _ (.inl rfl) e⟩
 | tup xs=>obtain⟨z,its,r,ob,e,c⟩:=x;exact⟨z,its,r,ob,k _ _ (.inl rfl) e,c⟩
 | dK kvs=>obtain⟨z,y,vs,r,ob,es,ep,e,c⟩:=x;exact⟨z,y,vs,r,ob,es,ep,k _ _ (.inl rfl) e,c⟩
 | dT kvs=>
  obtain⟨z,y,xs,r,ob,es,ep,e,c⟩:=x
  exact⟨z,y,xs,Paired.mapP r λp q z=>⟨z.1,ht _ _ z.2.1,z.2.2⟩,ob,es,ep,k _ _ (.inl rfl) e,c⟩
 | set S n=>obtain⟨ob,es,ep,t,e,c⟩:=x;exact⟨ob,es,ep,t,k _ _ (.inl rfl) e,c⟩
 | ins C dx fs=>
  obtain⟨d,z,ne,e,mA,⟨od,es,ep,e2,c⟩,r⟩:=x
  exact⟨ho _ d,z,ne,k _ _ (.inl rfl) e,mA,⟨od,es,ep,k _ _ (.inr d) e2,c⟩,r⟩
 | own y=>obtain⟨ob,e⟩:=x;exact⟨ob,k _ _ (.inl rfl) e⟩
 | xd fs=>obtain⟨mA,⟨od,es,ep,e,c⟩,r⟩:=x;exact⟨mA,⟨od,es,ep,k _ _ (.inl rfl) e,c⟩,r⟩
 | rng lo hi=>obtain⟨t,u,v,e⟩:=x;exact⟨t,u,v,k _ _ (.inl rfl) e⟩
 | frz ob u ih=>obtain⟨e,q⟩:=x;exact⟨k _ _ (.inl rfl) e,ih q⟩
 | tbl ps=>
  have e:h.get? a=some { cls:=.none,data:=.fields ps }:=x
  show h'.get? a=some { cls:=.none,data:=.fields ps }
  exact k a _ (.inl rfl) e
 | met f y=>
  have e:h.get? a=some (PySem.W.methodObj (.ref f) (.ref y)):=x
  show h'.get? a=some (PySem.W.methodObj (.ref f) (.ref y))
  exact k a _ (.inl rfl) e
 | ext φ=>obtain⟨p,⟨o,e⟩,st⟩:=x;exact⟨st _ _ p λo q=>k _ _ (.inl rfl) q,⟨o,k _ _ (.inl rfl) e⟩,st⟩
theorem Km.lt(x:Km P w H h)(e:H a=some o):a < h.objs.size:=(x a o e).lt
theorem Km.fresh(x:Km P w H h)(e:h.objs.size<=a):H a=none:=by
 cases q:H a with
 | none=>rfl
 | some u=>exact absurd (KD (x.lt q) e) (OT _)
theorem Km.kept(x:Km P w H h)(k:∀b u,h.get? b=some u->h'.get? b=some u):Km P w H h':=λa o e=>
 (x a o e).stay (λb u _ q=>k b u q) (λ_ q=>q) λ_ _ q=>q
theorem Km.laid(x:Km P w H h)(k:∀b u,h.get? b=some u->h'.get? b=some u)(hp:h.objs.size<=a)(new:Cz P w (upd H a o) h' a o):Km P w (upd H a o) h':=λb u e=>by
 have hn:=x.fresh hp
 by_cases hb:b=a
 ·subst hb;rw[Aa] at e;cases e;exact new
 ·rw[Ai hb] at e
  exact(x b u e).stay (λc v _ q=>k c v q) (λc q=>by rw[Ai (Ah q hn)];exact q) λc xs q=>by rw[Ai (Ah q hn)];exact q
end
def Rd(H:Hp)(a:IN)(u:HO):Prop:=H a=some u ∨ ∃o,H a=some (.frz o u)
theorem Rd.ok{P:JJ}{w:KL}{H:Hp}{h:LO}{a:IN}{u:HO}(r:Rd H a u)(x:Km P w H h):Cz P w H h a u:=by
 rcases r with r | ⟨o,r⟩
 ·exact x a u r
 ·obtain⟨_,q⟩:=x a _ r
  exact q
def DC:Option HO->Prop
 | some (.lst _)=>True
 | some (.dK _)=>True
 | some (.dT _)=>True
 | some (.set _ _)=>True
 | some (.ins _ _ _)=>True
 | some (.ext _)=>True
 | _=>False
section
variable {P:JJ} {w:KL} {H:Hp} {h h':LO} {x e:IN} {o':HO}
theorem Km.write(ok:Km P w H h)(mu:DC (H x))(he:e=x∨H e=some (.own x))(k:∀b u,b≠e->h.get? b=some u->h'.get? b=some u)(heo:∃u,h'.get? e=some u)(new:Cz P w (upd H x o') h' x o'):Km P w (upd H x o') h':=λb u q=>by
 have nown:∀c y,H c=some (.own y)->c≠x:=λc y r z=>by subst z;rw[r] at mu;exact mu
 have ntup:∀c xs,H c=some (.tup xs)->c≠x:=λc xs r z=>by subst z;rw[r] at mu;exact mu
 by_cases hb:b=x
 ·subst hb;rw[Aa] at q;cases q;exact new
 ·rw[Ai hb] at q
  by_cases hbe:b=e
  ·have q':H b=some (.own x):=by
    rcases he with z | z
    ·exact absurd (hbe.trans z) hb
    ·rw[hbe];exact z
   rw[q] at q';cases q'
   obtain⟨v,hv⟩:=heo
   exact⟨v,by rw[hbe];exact hv⟩
  ·refine(ok b u q).stay (λc v hc r=>k c v ?_ r) (λc r=>by rw[Ai (nown c b r)];exact r) λc xs r=>by rw[Ai (ntup c xs r)];exact r
   rcases hc with rfl | hc
   ·exact hbe
   ·rintro rfl
    rcases he with z | z
    ·exact nown c b hc z
    ·rw[hc] at z;cases z;exact hb rfl
end
structure Un(fs ex:List IN)(H H':Hp)(h h':LO):Prop where
 keep:∀b o,h.get? b=some o->H b=none->b∉fs->b∉ex->h'.get? b=some o
 slot:∀b o,h.get? b=some o->H b=none->b∈fs->b∉ex->∃sl,h'.get? b=some { o with slots:=sl }
 free:∀b o,h.get? b=some o->H b=none->b∉ex->H' b=none
 there:∀b o,h.get? b=some o->b∉ex->∃o',h'.get? b=some o'
 tups:∀b xs,H b=some (.tup xs)->H' b=some (.tup xs)
 frzs:∀b o u,H b=some (.frz o u)->H' b=some (.frz o u)
 tbls:∀b ps,H b=some (.tbl ps)->∃more,H' b=some (.tbl (ps++more))
section
variable {fs fs' ex ex':List IN} {H H1 H2:Hp} {h h1 h2 h':LO} {a x e:IN} {o:HO}
theorem Un.any(u:Un fs ex H H1 h h1){b:IN}{ob:Obj}(q:h.get? b=some ob)(n:H b=none)(hx:b∉ex):∃sl,h1.get? b=some { ob with slots:=sl }:=by
 by_cases hb:b∈fs
 ·exact u.slot b ob q n hb hx
 ·exact⟨ob.slots,u.keep b ob q n hb hx⟩
theorem Un.kept(k:∀b u,h.get? b=some u->h'.get? b=some u):Un fs ex H H h h':=
 ⟨λb ob q _ _ _=>k b ob q,λb ob q _ _ _=>⟨ob.slots,k b ob q⟩,λ_ _ _ n _=>n,λb ob q _=>⟨ob,k b ob q⟩,λ_ _ q=>q,λ_ _ _ q=>q,λ_ ps q=>⟨#[],by rw[q];simp⟩⟩
theorem Un.refl:Un fs ex H H h h:=Un.kept λ_ _ q=>q
theorem Un.laid(k:∀b u,h.get? b=some u->h'.get? b=some u)(hp:h.objs.size<=a)(hn:H a=none):Un fs ex H (upd H a o) h h' where
 keep:=λb u q _ _ _=>k b u q
 slot:=λb u q _ _ _=>⟨u.slots,k b u q⟩
 free:=λb u q n _=>by rw[Ai (JP (KD (JF q) hp))];exact n
 there:=λb u q _=>⟨u,k b u q⟩
 tups:=λb xs q=>by rw[Ai (Ah q hn)];exact q
 frzs:=λb u xs q=>by rw[Ai (Ah q hn)];exact q
 tbls:=λb ps q=>⟨#[],by rw[Ai (Ah q hn),q];simp⟩
theorem Un.write(mu:DC (H x))(he:e=x∨H e=some (.own x))(k:∀b u,b≠e->h.get? b=some u->h'.get? b=some u)(heo:∃u,h'.get? e=some u):Un fs ex H (upd H x o) h h':=by
 have hx:∀b,H b=none->b≠x:=λb n z=>by subst z;rw[n] at mu;exact mu
 have hb:∀b,H b=none->b≠e:=λb n z=>by
  subst z
  rcases he with r | r
  ·exact hx b n r
  ·rw[n] at r;cases r
 have hm:∀b u,H b=some u->¬ DC (some u)->b≠x:=λb u q nm z=>by subst z;rw[q] at mu;exact nm mu
 refine⟨λb u q n _ _=>k b u (hb b n) q,λb u q n _ _=>⟨u.slots,k b u (hb b n) q⟩,λb u q n _=>by rw[Ai (hx b n)];exact n,λb u q _=>?_,
  λb xs q=>by rw[Ai (hm b _ q λz=>z)];exact q,λb u xs q=>by rw[Ai (hm b _ q λz=>z)];exact q,λb ps q=>⟨#[],by rw[Ai (hm b _ q λz=>z),q];simp⟩⟩
 by_cases hbe:b=e
 ·subst hbe;exact heo
 ·exact⟨u,k b u hbe q⟩
end
def DR(h:LO)(H:Hp):List IN:=(List.range h.objs.size).filter λa=>(H a).isSome
def Mc(h:LO)(H:Hp):LO:=PySem.W.hideAll h (DR h H)
theorem Sg(h:LO)(H:Hp):(Mc h H).objs.size=h.objs.size:=PySem.W.hideAll_size _ _
theorem Pa{h:LO}{H:Hp}{b:IN}{o:Obj}(e:h.get? b=some o)(n:H b=none):(Mc h H).get? b=some o:=
 PySem.W.hideAll_get _ e λhm=>by
  have q:(H b).isSome=true:=(List.mem_filter.mp hm).2
  rw[n] at q;simp at q
theorem gA{h:LO}{H:Hp}{b:IN}{o:Obj}(e:(Mc h H).get? b=some o):h.get? b=some o/\H b=none:=by
 have e':h.get? b=some o:=PySem.W.of_hideAll (DR h H) e
 refine⟨e',?_⟩
 cases q:H b with
 | none=>rfl
 | some x=>
  have hm:b∈DR h H:=List.mem_filter.mpr ⟨List.mem_range.mpr (JF e'),by simp[q]⟩
  have z:(Mc h H).get? b=none:=PySem.W.hideAll_none (DR h H) hm
  rw[z] at e;cases e
structure Mod(K:IG)(mg:Str->Option II)(base:LO):Prop where
 kin:K.In base
 glob:base.Ns KE mg
 blt:∃mb,base.Ns builtinsNs mb/\∀x:Str,x ≠ "__name__" -> mb x=OM x
 nolimit:base.NoLimit
structure Cx where
 prog:JJ
 w:KL
 K:IG
 mg:Str->Option II
 base:LO
 A:KG
 N:List Str
 s₀:IL
 H₀:Hp
 env:Env
 outer:List Env
 stack:List Env
 ex:List IN
 fn:Str->Bool
 calm:Bool
 sx:Bool
 pn:List (IN×Obj)
 xe:II->IL->Prop
def Qy(l:List Env):List IN:=l.filterMap (·.frame)
abbrev Cx.fs(X:Cx):List IN:=Qy X.outer
def FD(sc:Scope)(x:Str):Prop:=sc.names.lookup x=some .local∨sc.names.lookup x=some .cell∨sc.names.lookup x=some .free
def Loc(sc:Scope)(x:Str):Prop:=sc.names.lookup x=some .local∨sc.names.lookup x=some .cell
def Look(env:Env)(h:LO)(m:Str->Option II)(x:Str)(u:II):Prop:=
 (env.kindOf x=some .local/\m x=some u)∨((env.kindOf x=some .cell∨env.kindOf x=some .free)/\∃c,env.cells.lookup x=some c/\h.IsCell c (some u))
structure Cx.Ok(X:Cx):Prop where
 mod:Mod X.K X.mg X.base
 kind:X.env.scope.kind=.function
 glob:X.env.globals=KE
 blt:X.env.builtins=builtinsNs
 above:X.s₀.heap.objs.size<=X.env.locals
 inj:∀x y c,X.env.cells.lookup x=some c->X.env.cells.lookup y=some c->x=y
 has:∀x,(X.env.kindOf x=some .cell∨X.env.kindOf x=some .free)->∃c,X.env.cells.lookup x=some c
 cab:∀x c,X.fn x=true->X.env.cells.lookup x=some c->X.s₀.heap.objs.size<=c
 hd:X.calm=true->Bm X.A X.base
 st:X.sx=true->X.A.handled=none
 frames:X.A.frames=some X.stack
 stk:X.stack=X.outer∨(X.stack=X.env::X.outer/\X.env.frame=some X.env.locals)
 exf:∀b∈X.ex,b≠X.env.locals/\∀x c,X.env.cells.lookup x=some c->c≠b
 bs:∀b o,X.base.get? b=some o->X.s₀.heap.get? b=some o/\X.H₀ b=none
 bsz:X.base.objs.size<=X.s₀.heap.objs.size
 noex:∀b o,X.base.get? b=some o->b∉X.ex
 exfs:∀b∈X.ex,b∉X.fs
 funs:X.s₀.heap.FunFrames X.base X.outer
 frf:∀b∈X.fs,X.H₀ b=none
structure Inv(X:Cx)(pins:List (IN×Obj))(σ:List (Option V))(H:Hp)(s:IL):Prop where
 ok:X.Ok
 os:s.os=X.s₀.os
 bare:AllBare s.gens
 base:Un X.fs X.ex X.H₀ H X.s₀.heap s.heap
 loc:∃m,s.heap.Ns X.env.locals m/\∀(i:Nat)(x:Str)(v:V),X.N[i]? = some x->σ[i]? = some (some v)->FD X.env.scope x->∃u,RelV v u/\Look X.env s.heap m x u
 cell:∀x c,X.env.cells.lookup x=some c->∃v,s.heap.IsCell c v
 free:H X.env.locals=none
 freeC:∀x c,X.env.cells.lookup x=some c->H c=none
 pin:∀p∈X.pn++pins,s.heap.get? p.1=some p.2/\H p.1=none/\p.1≠X.env.locals/\p.1∉X.fs/\∀v,p.2.data ≠ .cell v
 hok:Km X.prog X.w H s.heap
 len:σ.length=X.N.length
section
variable {X:Cx} {pins:List (IN×Obj)} {σ:List (Option V)} {H H':Hp} {s:IL} {h':LO}
theorem Cx.Ok.nofr(ok:X.Ok){b:IN}{o:Obj}(e:X.base.get? b=some o):b∉X.fs:=λhb=>by
 have:=(ok.funs.mem hb).1
 rw[e] at this;cases this
theorem Inv.bs(I:Inv X pins σ H s):∀b o,X.base.get? b=some o->s.heap.get? b=some o/\H b=none:=λb o e=>
 ⟨I.base.keep b o (I.ok.bs b o e).1 (I.ok.bs b o e).2 (I.ok.nofr e) (I.ok.noex b o e),I.base.free b o (I.ok.bs b o e).1 (I.ok.bs b o e).2 (I.ok.noex b o e)⟩
theorem Inv.bk(I:Inv X pins σ H s):∀b o,X.base.get? b=some o->s.heap.get? b=some o:=λb o e=>(I.bs b o e).1
theorem Inv.calmS(I:Inv X pins σ H s)(hc:X.calm=true):Bm X.A s.heap:=(I.ok.hd hc).ext I.bk
theorem Inv.mod(I:Inv X pins σ H s):Mod X.K X.mg X.base:=I.ok.mod
theorem Inv.kIn(I:Inv X pins σ H s):X.K.In s.heap:=I.ok.mod.kin.keeps I.bk
theorem Inv.fr(I:Inv X pins σ H s):∃m,Fr X.base X.env.locals s.heap m:=
 let ⟨m,hn,_⟩:=I.loc
 ⟨m,hn,I.bk,JR I.ok.bsz I.ok.above⟩
theorem Inv.lt(I:Inv X pins σ H s):X.env.locals < s.heap.objs.size:=let ⟨_,hn,_⟩:=I.loc;hn.lt
theorem Inv.sz(I:Inv X pins σ H s):X.s₀.heap.objs.size<=s.heap.objs.size:=JR I.ok.above (Nat.le_of_lt I.lt)
theorem Inv.nofs(I:Inv X pins σ H s){a:IN}(h:s.heap.objs.size<=a):a∉X.fs:=λhb=>by
 obtain⟨_,o,ho,_⟩:=I.ok.funs.mem hb
 exact absurd (KD (JF ho) (JR I.sz h)) (OT _)
theorem Inv.cne(I:Inv X pins σ H s):∀x c,X.env.cells.lookup x=some c->c≠X.env.locals:=λx c e z=>by
 obtain⟨v,o,ho,hd⟩:=I.cell x c e
 obtain⟨m,⟨o',es,ep,ho',hd',_⟩,_⟩:=I.loc
 rw[z,ho'] at ho;cases ho;rw[hd'] at hd;cases hd
theorem Inv.funs(I:Inv X pins σ H s):s.heap.FunFrames X.base X.outer:=by
 have all:∀(l:List Env),(∀b∈Qy l,b∈X.fs)->X.s₀.heap.FunFrames X.base l->s.heap.FunFrames X.base l:=by
  intro l
  induction l with
  | nil=>intro _ _;trivial
  | cons env r ih=>
   intro hs hl
   obtain⟨hk,⟨L,o,hf,hn,ho,hd⟩,hr⟩:=hl
   have hL:L∈X.fs:=hs L (by unfold Qy;rw[List.filterMap_cons,hf];exact JM)
   obtain⟨sl,e⟩:=I.base.slot L o ho (I.ok.frf L hL) hL λz=>I.ok.exfs L z hL
   exact⟨hk,⟨L,_,hf,hn,e,hd⟩,ih (λb hb=>hs b (by unfold Qy;rw[List.filterMap_cons,hf];exact JC _ hb)) hr⟩
 exact all X.outer (λ_ hb=>hb) I.ok.funs
theorem Inv.stack(I:Inv X pins σ H s):s.heap.FunFrames X.base X.stack:=by
 rcases I.ok.stk with e | ⟨e,hf⟩
 ·rw[e];exact I.funs
 ·rw[e]
  obtain⟨m,hn,_⟩:=I.loc
  refine .cons (by rw[I.ok.kind];decide) hf hn ?_ I.funs
  exact Heap.get?_none_of_le (JR I.ok.bsz I.ok.above)
theorem Inv.stkSub(I:Inv X pins σ H s):∀b∈Qy X.stack,b∈X.env.locals::X.fs:=λb hb=>by
 rcases I.ok.stk with e | ⟨e,hf⟩
 ·rw[e] at hb;exact JC _ hb
 ·rw[e] at hb
  unfold Qy at hb
  rw[List.filterMap_cons,hf] at hb
  exact hb
theorem Inv.stkFree(I:Inv X pins σ H s):∀b∈Qy X.stack,H b=none:=λb hb=>by
 rcases IQ.mp (I.stkSub b hb) with e | hb
 ·rw[e];exact I.free
 ·obtain⟨_,o,ho,_⟩:=I.ok.funs.mem hb
  exact I.base.free b o ho (I.ok.frf b hb) λz=>I.ok.exfs b z hb
theorem Inv.step{g':Array GenState}{t':Nat}{d':Drawn}{ch:List IN}(I:Inv X pins σ H s)(hch:∀b∈ch,(b∈X.ex∨X.s₀.heap.objs.size<=b)/\b≠X.env.locals/\(∀x c,X.env.cells.lookup x=some c->c≠b)/\∀p∈X.pn++pins,p.1≠b)(keep:∀b o,b≠X.env.locals->b∉X.fs->b∉ch->s.heap.get? b=some o->H b=none->h'.get? b=some o)(slot:∀b o,b≠X.env.locals->b∈X.fs->b∉ch->s.heap.get? b=some o->H b=none->∃sl,h'.get? b=some { o with slots:=sl })(free:∀b o,b∉ch->s.heap.get? b=some o->H b=none->H' b=none)(there:∀b o,b∉ch->s.heap.get? b=some o->∃o',h'.get? b=some o')(tups:∀b xs,H b=some (.tup xs)->H' b=some (.tup xs))(frzs:∀b o u,H b=some (.frz o u)->H' b=some (.frz o u))(tbls:∀b ps,H b=some (.tbl ps)->∃more,H' b=some (.tbl (ps++more)))(ns:∀m,s.heap.Ns X.env.locals m->h'.Ns X.env.locals m)(hok:Km X.prog X.w H' h')(hg:AllBare g'):
 Inv X pins σ H' { s with heap:=h',gens:=g',drawn:=d',toks:=t' }:=by
 have neL:∀b o,X.s₀.heap.get? b=some o->b≠X.env.locals:=λb o e=>JP (KD (JF e) I.ok.above)
 have neC:∀b o,X.s₀.heap.get? b=some o->b∉X.ex->b∉ch:=λb o e hx hb=>by
  rcases (hch b hb).1 with z | z
  ·exact hx z
  ·exact absurd (KD (JF e) z) (OT _)
 have cellK:∀x c,X.env.cells.lookup x=some c->∀v,s.heap.IsCell c v->h'.IsCell c v:=λx c e v ⟨o,ho,hd⟩=>by
  have nch:c∉ch:=λz=>(hch c z).2.2.1 x c e rfl
  by_cases hc:c∈X.fs
  ·obtain⟨sl,q⟩:=slot c o (I.cne x c e) hc nch ho (I.freeC x c e)
   exact⟨_,q,hd⟩
  ·exact⟨o,keep c o (I.cne x c e) hc nch ho (I.freeC x c e),hd⟩
 refine⟨I.ok,I.os,hg,⟨λb o e n hb hx=>?_,λb o e n hb hx=>?_,λb o e n hx=>?_,λb o e hx=>?_,λb xs e=>tups b xs (I.base.tups b xs e),λb o xs e=>frzs b o xs (I.base.frzs b o xs e),λb ps e=>?_⟩,?_,λx c e=>?_,?_,λx c e=>?_,λp hp=>?_,hok,I.len⟩
 ·exact keep b o (neL b o e) hb (neC b o e hx) (I.base.keep b o e n hb hx) (I.base.free b o e n hx)
 ·obtain⟨sl,e1⟩:=I.base.slot b o e n hb hx
  obtain⟨sl',e2⟩:=slot b _ (neL b o e) hb (neC b o e hx) e1 (I.base.free b o e n hx)
  exact⟨sl',e2⟩
 ·obtain⟨o',e1⟩:=I.base.there b o e hx
  exact free b o' (neC b o e hx) e1 (I.base.free b o e n hx)
 ·obtain⟨o',e1⟩:=I.base.there b o e hx
  exact there b o' (neC b o e hx) e1
 ·obtain⟨m1,e1⟩:=I.base.tbls b ps e
  obtain⟨m2,e2⟩:=tbls b _ e1
  exact⟨m1++m2,by rw[e2,Array.append_assoc]⟩
 ·obtain⟨m,hn,hl⟩:=I.loc
  refine⟨m,ns m hn,λi x v e1 e2 e3=>?_⟩
  obtain⟨u,r,l⟩:=hl i x v e1 e2 e3
  refine⟨u,r,?_⟩
  rcases l with l | ⟨k,c,e,z⟩
  ·exact .inl l
  ·exact .inr ⟨k,c,e,cellK x c e _ z⟩
 ·obtain⟨v,z⟩:=I.cell x c e
  exact⟨v,cellK x c e v z⟩
 ·obtain⟨m,⟨o,_,_,ho,_⟩,_⟩:=I.loc
  exact free _ o (λz=>(hch _ z).2.1 rfl) ho I.free
 ·obtain⟨v,o,ho,hd⟩:=I.cell x c e
  exact free c o (λz=>(hch c z).2.2.1 x c e rfl) ho (I.freeC x c e)
 ·obtain⟨e,n,ne,nf,d⟩:=I.pin p hp
  have nch:p.1∉ch:=λz=>(hch p.1 z).2.2.2 p hp rfl
  exact⟨keep p.1 p.2 ne nf nch e n,free p.1 p.2 nch e n,ne,nf,d⟩
theorem Inv.un{t':Nat}(I:Inv X pins σ H s)(u:Un X.fs [] H H' s.heap h')(hok:Km X.prog X.w H' h'):Inv X pins σ H' { s with heap:=h',toks:=t' }:=by
 obtain⟨m,⟨o,es,ep,ho,r⟩,_⟩:=id I.loc
 obtain⟨sl,hL⟩:=u.any ho I.free (by simp)
 exact I.step (g':=s.gens) (d':=s.drawn) (ch:=[]) (λ_ z=>nomatch z) (λb o _ hb _ e n=>u.keep b o e n hb (by simp)) (λb o _ hb _ e n=>u.slot b o e n hb (by simp)) (λb o _ e n=>u.free b o e n (by simp)) (λb o _ e=>u.there b o e (by simp)) u.tups u.frzs u.tbls (λm' hm=>by
  obtain⟨o',es',ep',ho',r'⟩:=hm
  rw[ho] at ho';cases ho'
  exact⟨_,es',ep',hL,r'⟩) hok I.bare
theorem Inv.call{g':Array GenState}{t':Nat}{d':Drawn}{ch:List IN}(I:Inv X pins σ H s)(u:Un (Qy X.stack) ch H H' s.heap h')(hok:Km X.prog X.w H' h')(hg:AllBare g')(hch:∀b∈ch,(b∈X.ex∨X.s₀.heap.objs.size<=b)/\b≠X.env.locals/\(∀x c,X.env.cells.lookup x=some c->c≠b)/\∀p∈X.pn++pins,p.1≠b):
 Inv X pins σ H' { s with heap:=h',gens:=g',drawn:=d',toks:=t' }:=by
 obtain⟨m,⟨o,es,ep,ho,r⟩,_⟩:=id I.loc
 obtain⟨sl,hL⟩:=u.any ho I.free λz=>(hch _ z).2.1 rfl
 exact I.step (ch:=ch) hch (λb o hL hb hc e n=>u.keep b o e n (λz=>(IQ.mp (I.stkSub b z)).elim hL hb) hc) (λb o _ _ hc e n=>u.any e n hc) (λb o hc e n=>u.free b o e n hc) (λb o hc e=>u.there b o e hc) u.tups u.frzs u.tbls (λm' hm=>by
  obtain⟨o',es',ep',ho',r'⟩:=hm
  rw[ho] at ho';cases ho'
  exact⟨_,es',ep',hL,r'⟩) hok hg
theorem Inv.turned{t':Nat}{it:IN}(I:Inv X pins σ H s)(k:∀b o,b≠it->s.heap.get? b=some o->h'.get? b=some o)(hn:H it=none)(hL:it≠X.env.locals)(h1:it∈X.ex∨X.s₀.heap.objs.size<=it)(h2:∀x c,X.env.cells.lookup x=some c->c≠it)(h3:∀p∈X.pn++pins,p.1≠it):Inv X pins σ H { s with heap:=h',toks:=t' }:=by
 have nit:∀b u,H b=some u->b≠it:=λb u e z=>by rw[z,hn] at e;cases e
 refine I.step (g':=s.gens) (d':=s.drawn) (ch:=[it]) (λb hb=>?_) (λb o _ _ hc e _=>k b o (λz=>hc (by simp[z])) e) (λb o _ _ hc e _=>⟨o.slots,k b o (λz=>hc (by simp[z])) e⟩) (λ_ _ _ _ n=>n)
  (λb o hc e=>⟨o,k b o (λz=>hc (by simp[z])) e⟩) (λ_ _ e=>e) (λ_ _ _ e=>e) (λb ps e=>⟨#[],by rw[e];simp⟩) (λm hm=>?_) (λb u e=>?_) I.bare
 ·have e:b=it:=by simpa using hb
  subst e
  exact⟨h1,hL,h2,h3⟩
 ·obtain⟨o,es,ep,ho,r⟩:=hm
  exact⟨o,es,ep,k _ o (KO hL) ho,r⟩
 ·refine(I.hok b u e).stay (λc v hc q=>k c v ?_ q) (λ_ q=>q) λ_ _ q=>q
  rcases hc with z | z
  ·rw[z];exact nit b u e
  ·exact nit c _ z
theorem Inv.tok(I:Inv X pins σ H s)(t:Nat):Inv X pins σ H { s with toks:=t }:=I.un (h':=s.heap) (t':=t) Un.refl I.hok
theorem Inv.kept{t':Nat}(I:Inv X pins σ H s)(k:∀b u,s.heap.get? b=some u->h'.get? b=some u):Inv X pins σ H { s with heap:=h',toks:=t' }:=I.un (Un.kept k) (I.hok.kept k)
theorem Inv.laid{a:IN}{o:HO}{t':Nat}(I:Inv X pins σ H s)(k:∀b u,s.heap.get? b=some u->h'.get? b=some u)(hp:s.heap.objs.size<=a)(new:Cz X.prog X.w (upd H a o) h' a o):
 Inv X pins σ (upd H a o) { s with heap:=h',toks:=t' }:=I.un (Un.laid k hp (I.hok.fresh hp)) (I.hok.laid k hp new)
theorem Inv.write{x e:IN}{o:HO}{t':Nat}(I:Inv X pins σ H s)(mu:DC (H x))(he:e=x∨H e=some (.own x))(k:∀b u,b≠e->s.heap.get? b=some u->h'.get? b=some u)(heo:∃u,h'.get? e=some u)(new:Cz X.prog X.w (upd H x o) h' x o):Inv X pins σ (upd H x o) { s with heap:=h',toks:=t' }:=I.un (Un.write mu he k heo) (I.hok.write mu he k heo new)
theorem Inv.weak{σ':List (Option V)}(I:Inv X pins σ H s)(hl:σ'.length=σ.length)(w:∀(i:Nat) v,σ'[i]? = some (some v)->σ[i]? = some (some v)):Inv X pins σ' H s:=
 ⟨I.ok,I.os,I.bare,I.base,let ⟨m,hn,hl'⟩:=I.loc;⟨m,hn,λi x v e1 e2 e3=>hl' i x v e1 (w i v e2) e3⟩,I.cell,I.free,I.freeC,I.pin,I.hok,hl.trans I.len⟩
theorem Inv.pins_of{pins':List (IN×Obj)}(I:Inv X pins σ H s)(h:∀p∈pins',s.heap.get? p.1=some p.2/\H p.1=none/\p.1≠X.env.locals/\p.1∉X.fs/\∀v,p.2.data ≠ .cell v):Inv X pins' σ H s:=
 ⟨I.ok,I.os,I.bare,I.base,I.loc,I.cell,I.free,I.freeC,λp hp=>(JO.mp hp).elim (λz=>I.pin p (MU _ z)) (h p),I.hok,I.len⟩
theorem Xc{N:List Str}(hN:N.Nodup){i j:Nat}{x:Str}(a:N[i]? = some x)(b:N[j]? = some x):i=j:=by
 obtain⟨h1,e1⟩:=IH.mp a
 obtain⟨h2,e2⟩:=IH.mp b
 exact(List.getElem_inj hN).mp (e1.trans e2.symm)
theorem hJ{M:Model}{A:KG}{E:II->IL->Prop}{i:Nat}{x:Str}{v:V}{u:II}{Q:Unit->IL->Prop}(I:Inv X pins σ H s)(hN:X.N.Nodup)(hi:X.N[i]? = some x)(hx:Loc X.env.scope x)(r:RelV v u)(h:∀s',Inv X pins (σ.set i (some v)) H s'->(∃a,OQ a s.heap s'.heap/\(a=X.env.locals∨X.env.cells.lookup x=some a))->Q () s')(hf:X.fn x=true∨X.env.scope.names.lookup x=some .local:=by first | exact .inl rfl | exact .inr rfl | assumption):JT M A (storeName X.env x u) Q E s:=by
 obtain⟨m,hn,hl⟩:=id I.loc
 have hcls:(X.env.scope.kind == .class || (X.env.scope.kind == .module && X.env.locals != X.env.globals))=false:=by rw[I.ok.kind];rfl
 have hiσ:i < σ.length:=by rw[I.len];exact(IH.mp hi).1
 have cne:=I.cne
 have tracked:∀ {a:IN} {h':LO},(∃o,s.heap.get? a=some o/\H a=none)->OQ a s.heap h'->Km X.prog X.w H h':=λ{a h'} ha hs b ob e=>by
  obtain⟨_,_,hfree⟩:=ha
  refine(I.hok b ob e).stay (λc w' hc q=>(hs.2 c ?_).trans q) (λ_ q=>q) λ_ _ q=>q
  rintro rfl
  rcases hc with rfl | hc
  ·rw[hfree] at e;cases e
  ·rw[hfree] at hc;cases hc
 rcases hx with hk | hk
 ·refine wpAny_storeName_local hk hn (λh' hn' hs=>?_) hcls
  obtain⟨oL,_,_,hoL,_⟩:=id hn
  refine h _ ⟨I.ok,I.os,I.bare,⟨λb o e n hb hx=>?_,λb o e n hb hx=>?_,I.base.free,λb o e hx=>?_,I.base.tups,I.base.frzs,I.base.tbls⟩,⟨_,hn',λj y v' e1 e2 e3=>?_⟩,λy c e=>?_,I.free,I.freeC,λp hp=>?_,tracked ⟨oL,hoL,I.free⟩ hs,by simpa using I.len⟩ ⟨_,hs,.inl rfl⟩
  ·exact(hs.2 b (JP (KD (JF e) I.ok.above))).trans (I.base.keep b o e n hb hx)
  ·obtain⟨sl,e1⟩:=I.base.slot b o e n hb hx
   exact⟨sl,(hs.2 b (JP (KD (JF e) I.ok.above))).trans e1⟩
  ·obtain⟨o',e1⟩:=I.base.there b o e hx
   exact⟨o',(hs.2 b (JP (KD (JF e) I.ok.above))).trans e1⟩
  ·by_cases hj:j=i
   ·subst hj
    rw[hi] at e1;cases e1
    rw[MY hiσ] at e2
    cases e2
    exact⟨u,r,.inl ⟨hk,by simp⟩⟩
   ·rw[MM (KO hj)] at e2
    obtain⟨u',r',q⟩:=hl j y v' e1 e2 e3
    refine⟨u',r',?_⟩
    rcases q with ⟨k,e⟩ | ⟨k,c,e,z⟩
    ·refine .inl ⟨k,?_⟩
     have:y≠x:=λe=>hj (Xc hN e1 (e ▸ hi))
     simp[this,e]
    ·exact .inr ⟨k,c,e,z.sameBut hs (cne y c e)⟩
  ·obtain⟨w',z⟩:=I.cell y c e
   exact⟨w',z.sameBut hs (cne y c e)⟩
  ·obtain⟨e,n,ne,nf,d⟩:=I.pin p hp
   exact⟨(hs.2 p.1 ne).trans e,n,ne,nf,d⟩
 ·have hfn:X.fn x=true:=by
   rcases hf with z | z
   ·exact z
   ·rw[z] at hk;cases hk
  obtain⟨c,hc⟩:=I.ok.has x (.inl hk)
  obtain⟨w',z⟩:=I.cell x c hc
  refine wpAny_storeName_cell I.ok.kind hk hc z (λh' hc' hs=>?_)
  obtain⟨oc,hoc,hocd⟩:=id z
  refine h { s with heap:=h' } ⟨I.ok,I.os,I.bare,⟨λb o e n hb hx=>?_,λb o e n hb hx=>?_,I.base.free,λb o e hx=>?_,I.base.tups,I.base.frzs,I.base.tbls⟩,⟨m,hn.sameBut hs (KO (cne x c hc)),λj y v' e1 e2 e3=>?_⟩,λy c' e=>?_,I.free,I.freeC,λp hp=>?_,tracked ⟨oc,hoc,I.freeC x c hc⟩ hs,by simpa using I.len⟩ ⟨c,hs,.inr hc⟩
  ·exact(hs.2 b (JP (KD (JF e) (I.ok.cab x c hfn hc)))).trans (I.base.keep b o e n hb hx)
  ·obtain⟨sl,e1⟩:=I.base.slot b o e n hb hx
   exact⟨sl,(hs.2 b (JP (KD (JF e) (I.ok.cab x c hfn hc)))).trans e1⟩
  ·obtain⟨o',e1⟩:=I.base.there b o e hx
   exact⟨o',(hs.2 b (JP (KD (JF e) (I.ok.cab x c hfn hc)))).trans e1⟩
  ·by_cases hj:j=i
   ·subst hj
    rw[hi] at e1;cases e1
    rw[MY hiσ] at e2
    cases e2
    exact⟨u,r,.inr ⟨.inl hk,c,hc,hc'⟩⟩
   ·rw[MM (KO hj)] at e2
    obtain⟨u',r',q⟩:=hl j y v' e1 e2 e3
    refine⟨u',r',?_⟩
    rcases q with q | ⟨k,c',e,z'⟩
    ·exact .inl q
    ·refine .inr ⟨k,c',e,z'.sameBut hs ?_⟩
     rintro rfl
     exact hj (Xc hN e1 (I.ok.inj _ _ _ e hc ▸ hi))
  ·by_cases hcc:c'=c
   ·subst hcc;exact⟨_,hc'⟩
   ·obtain⟨w2,z2⟩:=I.cell y c' e
    exact⟨w2,z2.sameBut hs hcc⟩
  ·obtain⟨e,n,ne,nf,d⟩:=I.pin p hp
   refine⟨(hs.2 p.1 ?_).trans e,n,ne,nf,d⟩
   intro q
   rw[q,hoc] at e
   have q':oc=p.2:=KC e
   exact d w' (by rw[<- q'];exact hocd)
theorem Qh{M:Model}{A:KG}{E:II->IL->Prop}{i:Nat}{x:Str}{v:V}{u:II}{Q:Unit->IL->Prop}(I:Inv X pins σ H s)(hN:X.N.Nodup)(hi:X.N[i]? = some x)(hx:Loc X.env.scope x)(r:RelV v u)(h:∀s',Inv X pins (σ.set i (some v)) H s'->Q () s')(hf:X.fn x=true∨X.env.scope.names.lookup x=some .local:=by first | exact .inl rfl | exact .inr rfl | assumption):JT M A (storeName X.env x u) Q E s:=
 hJ I hN hi hx r (λs' I' _=>h s' I') hf
theorem Inv.call'{s':IL}{ch:List IN}(I:Inv X pins σ H s)(ho:s'.os=s.os)(u:Un (Qy X.stack) ch H H' s.heap s'.heap)(hok:Km X.prog X.w H' s'.heap)(hg:AllBare s'.gens)(hch:∀b∈ch,(b∈X.ex∨X.s₀.heap.objs.size<=b)/\b≠X.env.locals/\(∀x c,X.env.cells.lookup x=some c->c≠b)/\∀p∈X.pn++pins,p.1≠b):Inv X pins σ H' s':=by
 obtain⟨h',g',d',t',o'⟩:=s'
 have e:o'=s.os:=ho
 subst e
 exact I.call (g':=g') (t':=t') (d':=d') u hok hg hch
end
abbrev XK:=II->Option IN->Hp->Prop
abbrev St:=List (Option V)
abbrev VK:=V->Hp->Prop
abbrev TE:=St->Hp->VK->Prop
abbrev TT:=St->Hp->(Bool->Hp->Prop)->Prop
abbrev TA:=St->Hp->(List V->Hp->Prop)->Prop
structure Ends where
 nx:St->Hp->Prop
 rt:VK
 bk:St->Hp->Prop:=λ_ _=>False
 ct:St->Hp->Prop:=λ_ _=>False
abbrev TS:=Ends->St->Hp->Prop
def EP(X:Cx)(pins:List (IN×Obj))(σ:St)(Q:VK)(u:II)(s':IL):Prop:=∃v H',Inv X pins σ H' s'/\RelV v u/\Q v H'
def TP(X:Cx)(pins:List (IN×Obj))(σ:St)(Q:Bool->Hp->Prop)(b:Bool)(s':IL):Prop:=∃H',Inv X pins σ H' s'/\Q b H'
def AP(X:Cx)(pins:List (IN×Obj))(σ:St)(Q:List V->Hp->Prop)(us:List II)(s':IL):Prop:=∃vs H',Inv X pins σ H' s'/\Be vs us/\Q vs H'
def SP(X:Cx)(pins:List (IN×Obj))(D:Ends)(f:Flow)(s':IL):Prop:=
 match f with
 | .next=>∃σ' H',Inv X pins σ' H' s'/\D.nx σ' H'
 | .brk=>∃σ' H',Inv X pins σ' H' s'/\D.bk σ' H'
 | .cont=>∃σ' H',Inv X pins σ' H' s'/\D.ct σ' H'
 | .ret u=>∃v σ' H',Inv X pins σ' H' s'/\RelV v u/\D.rt v H'
def PE(X:Cx)(e:Expr)(t:TE):Prop:=
 ∀(pins:List (IN×Obj))(s:IL)(σ:St)(H:Hp)(Q:VK),Inv X pins σ H s->t σ H Q->JT (JV X.prog X.w) X.A (OA e X.env) (EP X pins σ Q) X.xe s
def PT(X:Cx)(e:Expr)(t:TT):Prop:=
 ∀(pins:List (IN×Obj))(s:IL)(σ:St)(H:Hp)(Q:Bool->Hp->Prop),Inv X pins σ H s->t σ H Q->JT (JV X.prog X.w) X.A (isTrue e X.env (OA e X.env)) (TP X pins σ Q) X.xe s
def PW(X:Cx)(e:Expr)(t:TT):Prop:=
 ∀(whole:Sem II)(pins:List (IN×Obj))(s:IL)(σ:St)(H:Hp)(Q:Bool->Hp->Prop),Inv X pins σ H s->t σ H Q->JT (JV X.prog X.w) X.A (isTrue e X.env whole) (TP X pins σ Q) X.xe s
theorem PW.pt{X:Cx}{e:Expr}{t:TT}(h:PW X e t):PT X e t:=h _
def PA(X:Cx)(es:List Expr)(t:TA):Prop:=
 ∀(pos:Pos)(pins:List (IN×Obj))(s:IL)(σ:St)(H:Hp)(Q:List V->Hp->Prop),Inv X pins σ H s->t σ H Q->JT (JV X.prog X.w) X.A (spliced (PD pos (JS es X.env))) (AP X pins σ Q) X.xe s
def PS(X:Cx)(st:NW)(t:TS):Prop:=
 ∀(pins:List (IN×Obj))(s:IL)(σ:St)(H:Hp)(D:Ends),Inv X pins σ H s->t D σ H->JT (JV X.prog X.w) X.A (exec st X.env) (SP X pins D) X.xe s
def Hs(X:Cx)(st:List NW)(t:TS):Prop:=
 ∀(pins:List (IN×Obj))(s:IL)(σ:St)(H:Hp)(D:Ends),Inv X pins σ H s->t D σ H->JT (JV X.prog X.w) X.A (execs st X.env) (SP X pins D) X.xe s
theorem Bx{α:Type}{t:Sem α}{Q Q':α->IL->Prop}{M:Model}{A:KG}{E:II->IL->Prop}{s:IL}(h:JT M A t Q E s)(hQ:∀a s,Q a s->Q' a s):JT M A t Q' E s:=MI h hQ λ_ _ x=>x
section
variable {X:Cx}
theorem IE{a b:Expr}{ta tb:TE}(ha:PE X a ta)(hb:PE X b tb){pins:List (IN×Obj)}{s:IL}{σ:St}{H:Hp}{R:V->V->Hp->Prop}(I:Inv X pins σ H s)(h:ta σ H λx H1=>tb σ H1 λy H2=>R x y H2){α:Type}{Q:α->IL->Prop}{f:II->II->Sem α}(hf:∀v u s2 x y H2,Inv X pins σ H2 s2->RelV x v->RelV y u->R x y H2->JT (JV X.prog X.w) X.A (f v u) Q X.xe s2):
 JT (JV X.prog X.w) X.A (OA a X.env) (λv s₁=>JT (JV X.prog X.w) X.A (OA b X.env) (λu s₂=>JT (JV X.prog X.w) X.A (f v u) Q X.xe s₂) X.xe s₁) X.xe s:=by
 refine Bx (ha pins s σ H _ I h) λv s1 ⟨x,H1,I1,r1,q1⟩=>?_
 refine Bx (hb pins s1 σ H1 _ I1 q1) λu s2 ⟨y,H2,I2,r2,q2⟩=>?_
 exact hf v u s2 x y H2 I2 r1 r2 q2
def CJ(i:Nat):TE:=λσ H Q=>∃v,σ[i]? = some (some v)/\Q v H
def tC(v:V):TE:=λ_ H Q=>Q v H
theorem yN{i:Nat}{x:Str}{pos:Pos}(hN:X.N[i]? = some x)(hv:FD X.env.scope x)(hd:(x == ("__debug__" : Str))=false:=by decide)(hcd:(x == ("__classdict__" : Str))=false:=by decide):PE X (.Name x pos) (CJ i):=by
 intro pins s σ H Q I h
 obtain⟨v,e,h⟩:=h
 obtain⟨m,hn,hl⟩:=I.loc
 obtain⟨u,r,l⟩:=hl i x v hN e hv
 have fin:EP X pins σ Q u s:=⟨v,H,I,r,h⟩
 rcases l with ⟨hk,hm⟩ | ⟨hk,c,hc,hcell⟩
 ·exact wpAny_Name (wpAny_loadName_local I.ok.kind hk hn hm fin) hd
 ·rcases hk with hk | hk
  ·exact wpAny_Name (wpAny_loadName_cell I.ok.kind hk hc hcell fin) hd
  ·exact wpAny_Name (wpAny_loadName_free I.ok.kind hk hc hcell fin hcd) hd
theorem Ad{i j pos}:PE X (.Constant (.int i) j pos) (tC (.int i)):=λ_ _ _ H _ I h=>wpAny_Constant_int ⟨.int i,H,I.tok _,⟨_,rfl⟩,h⟩
theorem nP{b j pos}:PE X (.Constant (.bool b) j pos) (tC (.bl b)):=λ_ _ _ H _ I h=>Constant_bool ⟨.bl b,H,I,rfl,h⟩
theorem Zj{j pos}:PE X (.Constant .none j pos) (tC .non):=λ_ _ _ H _ I h=>Constant_none ⟨.non,H,I,rfl,h⟩
theorem Ar{x j pos}:PE X (.Constant (.str x) j pos) (tC (.str x)):=λ_ _ _ H _ I h=>Calls.Constant_str ⟨.str x,H,I.tok _,⟨_,rfl⟩,h⟩
def Gl(X:Cx)(x:Str):Prop:=X.env.kindOf x=some .globalImplicit
theorem Hg{E:II->IL->Prop}{pins:List (IN×Obj)}{s:IL}{σ:St}{H:Hp}{x:Str}{u:II}{pos:Pos}{Q:II->IL->Prop}(I:Inv X pins σ H s)(hg:Gl X x)(hm:X.mg x=some u)(h:Q u s)(hd:(x == ("__debug__" : Str))=false:=by decide):JT (JV X.prog X.w) X.A (OA (.Name x pos) X.env) Q E s:=
 Calls.Name_function_global I.ok.kind hg (Calls.loadGlobal_global (by rw[I.ok.glob];exact I.mod.glob.keeps I.bk) hm h) hd
theorem Ib{E:II->IL->Prop}{pins:List (IN×Obj)}{s:IL}{σ:St}{H:Hp}{x:Str}{u:II}{pos:Pos}{Q:II->IL->Prop}(I:Inv X pins σ H s)(hg:Gl X x)(hm:X.mg x=none)(hv:OM x=some u)(h:Q u s)(hn:x ≠ "__name__" := by decide)(hd:(x == ("__debug__" : Str))=false:=by decide):JT (JV X.prog X.w) X.A (OA (.Name x pos) X.env) Q E s:=by
 obtain⟨mb,h1,h2⟩:=I.mod.blt
 exact Calls.Name_function_global I.ok.kind hg (Calls.loadGlobal_builtin (by rw[I.ok.glob];exact I.mod.glob.keeps I.bk) hm (by rw[I.ok.blt];exact h1.keeps I.bk) ((h2 x hn).trans hv) h) hd
theorem uE{x:Str}{v:V}{u:II}{pos:Pos}(hg:Gl X x)(hm:X.mg x=some u)(r:RelV v u)(hd:(x == ("__debug__" : Str))=false:=by decide):PE X (.Name x pos) (tC v):=
 λ_ _ _ H _ I h=>Hg I hg hm ⟨v,H,I,r,h⟩ hd
theorem Gk{x:Str}{v:V}{u:II}{pos:Pos}(hg:Gl X x)(hm:X.mg x=none)(hv:OM x=some u)(r:RelV v u)(hn:x ≠ "__name__" := by decide)(hd:(x == ("__debug__" : Str))=false:=by decide):PE X (.Name x pos) (tC v):=
 λ_ _ _ H _ I h=>Ib I hg hm hv ⟨v,H,I,r,h⟩ hn hd
variable {a b:Expr} {ta tb:TE} {pos:Pos}
def PC(X:Cx)(op:CmpOp)(a b:Expr)(t:TE):Prop:=
 ∀(pins:List (IN×Obj))(s:IL)(σ:St)(H:Hp)(Q:VK),Inv X pins σ H s->t σ H Q ->
  JT (JV X.prog X.w) X.A (OA a X.env) (λv s₁=>JT (JV X.prog X.w) X.A (OA b X.env) (λu s₂=>JT (JV X.prog X.w) X.A (OJ op v u) (EP X pins σ Q) X.xe s₂) X.xe s₁) X.xe s
theorem qY(b:Expr){op:CmpOp}(h:op ≠ .In)(h2:op ≠ .NotIn):RF op b=false:=by
 have e1:(op == CmpOp.In)=false:=by cases op<;>first | rfl | exact absurd rfl h
 have e2:(op == CmpOp.NotIn)=false:=by cases op<;>first | rfl | exact absurd rfl h2
 cases b<;>simp[RF,e1,e2]
def DU(ta:TE):TE:=λσ H Q=>ta σ H λx H1=>Q (.bl (decide (x=.non))) H1
def CC(ta:TE):TE:=λσ H Q=>ta σ H λx H1=>Q (.bl (!decide (x=.non))) H1
theorem RelV.none_iff{x:V}{v:II}(r:RelV x v):(v == LX)=decide (x=.non):=by
 cases x with
 | non=>cases r;rfl
 | bl _=>cases r;rfl
 | int _=>obtain⟨t,rfl⟩:=r;rfl
 | str _=>obtain⟨t,rfl⟩:=r;rfl
 | byt _=>obtain⟨t,rfl⟩:=r;rfl
 | flt _=>obtain⟨t,rfl⟩:=r;rfl
 | ref _=>cases r;rfl
 | ty _=>cases r;rfl
theorem bZ{j pos'}(ha:PE X a ta):PC X .Is a (.Constant .none j pos') (DU ta):=by
 intro pins s σ H Q I h
 refine Bx (ha pins s σ H _ I h) λv s1 ⟨x,H1,I1,r1,q1⟩=>?_
 exact Constant_none (is_none_gen ⟨.bl _,H1,I1,by rw[r1.none_iff];rfl,q1⟩)
theorem Uc{j pos'}(ha:PE X a ta):PC X .IsNot a (.Constant .none j pos') (CC ta):=by
 intro pins s σ H Q I h
 refine Bx (ha pins s σ H _ I h) λv s1 ⟨x,H1,I1,r1,q1⟩=>?_
 exact Constant_none (isnot_none_gen ⟨.bl _,H1,I1,by rw[r1.none_iff];rfl,q1⟩)
def tB(t:TE):TT:=λσ H Q=>t σ H λx H1=>∃c,x=.bl c/\Q c H1
theorem Fj{op:CmpOp}{t:TE}(h:PC X op a b t)(h1:RF op b=false:=by first | exact qY _ (by decide) (by decide) | rfl):PT X (.Compare a [op] [b] pos) (tB t):=by
 intro pins s σ H Q I hw
 refine wpAny_isTrue_Compare1 (Bx (h pins s σ H _ I hw) λv s1 h1=>Bx h1 λu s2 h2=>Bx h2 λc s3 ⟨x,H1,I1,r1,q1⟩=>?_) h1
 obtain⟨d,rfl,q⟩:=q1
 cases r1
 exact NY ⟨H1,I1,q⟩
theorem Gc{e:Expr}{t:TE}(h:PE X e t)(he:∀whole,isTrue e X.env whole=(do let v <- whole;standAt e.pos;holding [v] (truthy v)):=by intro _;rfl):PT X e (tB t):=by
 intro pins s σ H Q I hw
 refine isTrue_plain (Bx (h pins s σ H _ I hw) λv s1 ⟨x,H1,I1,r1,q1⟩=>?_) (he _)
 obtain⟨d,rfl,q⟩:=q1
 cases r1
 exact NY ⟨H1,I1,q⟩
variable {tA tB':TT} {rest:List Expr}
def FH(t u:TT):TT:=λσ H Q=>t σ H λc H1=>if c=true then u σ H1 Q else Q false H1
def HS(t u:TT):TT:=λσ H Q=>t σ H λc H1=>if c=true then Q true H1 else u σ H1 Q
def DZ(t:TT):TT:=λσ H Q=>t σ H λc H1=>Q (!c) H1
theorem Le(ha:PT X a tA):PW X (.BoolOp .And [a] pos) tA:=by
 intro wh pins s σ H Q I h
 refine isTrue_and (Bx (ha pins s σ H Q I h) λc s1 e=>?_)
 cases c with
 | true=>exact isTrue_and_nil e
 | false=>exact e
theorem aJ(ha:PT X a tA):PW X (.BoolOp .Or [a] pos) tA:=by
 intro wh pins s σ H Q I h
 refine isTrue_or (Bx (ha pins s σ H Q I h) λc s1 e=>?_)
 cases c with
 | false=>exact isTrue_or_nil e
 | true=>exact e
theorem Qx(ha:PT X a tA)(hb:PW X (.BoolOp .And (b::rest) pos) tB'):PW X (.BoolOp .And (a::b::rest) pos) (FH tA tB'):=by
 intro wh pins s σ H Q I h
 refine isTrue_and (Bx (ha pins s σ H _ I h) λc s1 ⟨H1,I1,q1⟩=>?_)
 cases c with
 | true=>exact hb wh pins s1 σ H1 Q I1 q1
 | false=>exact⟨H1,I1,q1⟩
theorem eC(ha:PT X a tA)(hb:PW X (.BoolOp .Or (b::rest) pos) tB'):PW X (.BoolOp .Or (a::b::rest) pos) (HS tA tB'):=by
 intro wh pins s σ H Q I h
 refine isTrue_or (Bx (ha pins s σ H _ I h) λc s1 ⟨H1,I1,q1⟩=>?_)
 cases c with
 | true=>exact⟨H1,I1,q1⟩
 | false=>exact hb wh pins s1 σ H1 Q I1 q1
theorem Ht(ha:PT X a tA):PT X (.UnaryOp .Not a pos) (DZ tA):=by
 intro pins s σ H Q I h
 exact isTrue_not (ha pins s σ H (λc H1=>Q (!c) H1) I h)
def CI(ta tb:TE):TE:=λσ H Q=>ta σ H λx H1=>∃c,x=.bl c/\if c=true then tb σ H1 Q else Q (.bl false) H1
def EU(ta tb:TE):TE:=λσ H Q=>ta σ H λx H1=>∃c,x=.bl c/\if c=true then Q (.bl true) H1 else tb σ H1 Q
def BB(ta:TE):TE:=λσ H Q=>ta σ H λx H1=>∃c,x=.bl c/\Q (.bl (!c)) H1
theorem Qr{op}{t:TE}(h:PE X a t):PE X (.BoolOp op [a] pos) t:=λpins s σ H Q I hw=>BoolOp_one (h pins s σ H Q I hw)
theorem La(ha:PE X a ta)(hb:PE X (.BoolOp .And (b::rest) pos) tb):PE X (.BoolOp .And (a::b::rest) pos) (CI ta tb):=by
 intro pins s σ H Q I h
 refine BoolOp_and (Bx (ha pins s σ H _ I h) λv s1 ⟨x,H1,I1,r1,q1⟩=>?_)
 obtain⟨c,rfl,q1⟩:=q1
 cases r1
 refine NY ?_
 cases c with
 | true=>exact hb pins s1 σ H1 Q I1 q1
 | false=>exact⟨.bl false,H1,I1,rfl,q1⟩
theorem BG(ha:PE X a ta)(hb:PE X (.BoolOp .Or (b::rest) pos) tb):PE X (.BoolOp .Or (a::b::rest) pos) (EU ta tb):=by
 intro pins s σ H Q I h
 refine BoolOp_or (Bx (ha pins s σ H _ I h) λv s1 ⟨x,H1,I1,r1,q1⟩=>?_)
 obtain⟨c,rfl,q1⟩:=q1
 cases r1
 refine NY ?_
 cases c with
 | false=>exact hb pins s1 σ H1 Q I1 q1
 | true=>exact⟨.bl true,H1,I1,rfl,q1⟩
theorem qP(ha:PE X a ta):PE X (.UnaryOp .Not a pos) (BB ta):=by
 intro pins s σ H Q I h
 refine UnaryOp_ (Bx (ha pins s σ H _ I h) λv s1 ⟨x,H1,I1,r1,q1⟩=>?_)
 obtain⟨c,rfl,q1⟩:=q1
 cases r1
 exact not_of (NY ⟨.bl (!c),H1,I1,rfl,q1⟩)
def HV(t:TT)(ta tb:TE):TE:=λσ H Q=>t σ H λc H1=>if c=true then ta σ H1 Q else tb σ H1 Q
theorem Xe{c:Expr}(hc:PT X c tA)(ha:PE X a ta)(hb:PE X b tb):PE X (.IfExp c a b pos) (HV tA ta tb):=by
 intro pins s σ H Q I h
 refine wpAny_IfExp (Bx (hc pins s σ H _ I h) λd s1 ⟨H1,I1,q1⟩=>?_)
 cases d with
 | true=>exact ha pins s1 σ H1 Q I1 q1
 | false=>exact hb pins s1 σ H1 Q I1 q1
end
def Av(K:IG)(H:Hp)(a:IN)(xs:List V):Prop:=
 Rd H a (.lst xs) ∨
  ∃(o:Obj)(its:Array II)(n:Nat),K.lookup a=some o/\o.cls=.type "list" /\ o.dict=none/\o.data=.seq its n/\its.size<=IK/\Be xs its.toList
def Cc(K:IG)(H:Hp)(a:IN)(xs:List V):Prop:=
 Rd H a (.tup xs) ∨
  ∃(o:Obj)(its:Array II)(n:Nat),K.lookup a=some o/\o.cls=.type "tuple" /\ o.data=.seq its n/\its.size<=IK/\Be xs its.toList
def EB:II->Option V
 | .none=>some .non
 | .bool b=>some (.bl b)
 | .int i _=>some (.int i)
 | .str x _=>some (.str x)
 | .bytes b _=>some (.byt b)
 | .float b _=>some (.flt b)
 | .ref a=>some (.ref a)
 | .type n=>some (.ty n)
 | _=>none
theorem RelV.abs{x:V}{u:II}(r:RelV x u):EB u=some x:=by
 cases x with
 | non=>cases r;rfl
 | bl _=>cases r;rfl
 | int _=>obtain⟨t,rfl⟩:=r;rfl
 | str _=>obtain⟨t,rfl⟩:=r;rfl
 | byt _=>obtain⟨t,rfl⟩:=r;rfl
 | flt _=>obtain⟨t,rfl⟩:=r;rfl
 | ref _=>cases r;rfl
 | ty _=>cases r;rfl
theorem RelV.inj{x y:V}{u:II}(r:RelV x u)(q:RelV y u):x=y:=KC (r.abs.symm.trans q.abs)
theorem Be.inj:∀ {xs ys:List V} {us:List II},Be xs us->Be ys us->xs=ys
 | _,_,_,.nil,.nil=>rfl
 | _,_,_,.cons r t,.cons r' t'=>by rw[r.inj r',Be.inj t t']
section
variable {X:Cx} {pins:List (IN×Obj)} {σ:St} {H:Hp} {s:IL} {a:IN} {xs ys:List V}
theorem Av.of{K:IG}(h:H a=some (.lst xs)):Av K H a xs:=.inl (.inl h)
theorem Cc.of{K:IG}(h:H a=some (.tup xs)):Cc K H a xs:=.inl (.inl h)
theorem Inv.list(I:Inv X pins σ H s)(h:Av X.K H a xs):∃its:List II,Be xs its/\PlainL s.heap a its.toArray/\xs.length<=IK:=by
 rcases h with h | ⟨o,its,n,hk,hc,hd,hs,hz,r⟩
 ·obtain⟨z,its,n,r,e⟩:=h.ok I.hok
  exact⟨its,r,⟨_,n,e,rfl,rfl,rfl⟩,z⟩
 ·refine⟨its.toList,r,⟨o,n,I.kIn a o hk,hc,hd,by simpa using hs⟩,?_⟩
  have e:=r.length
  simp only[Array.length_toList] at e
  omega
theorem Inv.tuple(I:Inv X pins σ H s)(h:Cc X.K H a xs):∃its:List II,Be xs its/\IsTup s.heap a its.toArray/\xs.length<=IK:=by
 rcases h with h | ⟨o,its,n,hk,hc,hs,hz,r⟩
 ·obtain⟨z,its,r,p⟩:=h.ok I.hok
  exact⟨its,r,p,z⟩
 ·refine⟨its.toList,r,⟨o,I.kIn a o hk,hc,n,by simpa using hs⟩,?_⟩
  have e:=r.length
  simp only[Array.length_toList] at e
  omega
theorem Inv.list_inj(I:Inv X pins σ H s)(h:Av X.K H a xs)(h':Av X.K H a ys):xs=ys:=by
 obtain⟨its,r,⟨o,n,e,_,_,d⟩,_⟩:=I.list h
 obtain⟨its',r',⟨o',n',e',_,_,d'⟩,_⟩:=I.list h'
 rw[e] at e';cases e'
 rw[d] at d'
 injection d' with d1 _
 have:its=its':=by simpa using congrArg Array.toList d1
 subst this
 exact r.inj r'
theorem Inv.tuple_inj(I:Inv X pins σ H s)(h:Cc X.K H a xs)(h':Cc X.K H a ys):xs=ys:=by
 obtain⟨its,r,⟨o,e,_,n,d⟩,_⟩:=I.tuple h
 obtain⟨its',r',⟨o',e',_,n',d'⟩,_⟩:=I.tuple h'
 rw[e] at e';cases e'
 rw[d] at d'
 injection d' with d1 _
 have:its=its':=by simpa using congrArg Array.toList d1
 subst this
 exact r.inj r'
end
abbrev Cx.wish(X:Cx)(E:II->IL->Prop):Cx:={ X with xe:=E }
abbrev Cx.nox(X:Cx):Cx:=X.wish λ_ _=>False
theorem Cx.Ok.wish{X:Cx}(ok:X.Ok)(E:II->IL->Prop):(X.wish E).Ok:=
 ⟨ok.mod,ok.kind,ok.glob,ok.blt,ok.above,ok.inj,ok.has,ok.cab,ok.hd,ok.st,ok.frames,ok.stk,ok.exf,ok.bs,ok.bsz,ok.noex,ok.exfs,ok.funs,ok.frf⟩
theorem Cx.Ok.unwish{X:Cx}{E:II->IL->Prop}(ok:(X.wish E).Ok):X.Ok:=
 ⟨ok.mod,ok.kind,ok.glob,ok.blt,ok.above,ok.inj,ok.has,ok.cab,ok.hd,ok.st,ok.frames,ok.stk,ok.exf,ok.bs,ok.bsz,ok.noex,ok.exfs,ok.funs,ok.frf⟩
section
variable {X:Cx} {pins:List (IN×Obj)} {σ:St} {H:Hp} {s:IL} {E:II->IL->Prop}
theorem Inv.wish(I:Inv X pins σ H s)(E:II->IL->Prop):Inv (X.wish E) pins σ H s:=⟨I.ok.wish E,I.os,I.bare,I.base,I.loc,I.cell,I.free,I.freeC,I.pin,I.hok,I.len⟩
theorem Inv.unwish(I:Inv (X.wish E) pins σ H s):Inv X pins σ H s:=⟨I.ok.unwish,I.os,I.bare,I.base,I.loc,I.cell,I.free,I.freeC,I.pin,I.hok,I.len⟩
theorem SP.unwish{D:Ends}{f:Flow}{s':IL}(h:SP (X.wish E) pins D f s'):SP X pins D f s':=by
 cases f with
 | next=>obtain⟨σ',H',I,q⟩:=h;exact⟨σ',H',I.unwish,q⟩
 | brk=>obtain⟨σ',H',I,q⟩:=h;exact⟨σ',H',I.unwish,q⟩
 | cont=>obtain⟨σ',H',I,q⟩:=h;exact⟨σ',H',I.unwish,q⟩
 | ret u=>obtain⟨v,σ',H',I,r,q⟩:=h;exact⟨v,σ',H',I.unwish,r,q⟩
theorem Hs.nox{st:List NW}{t:TS}(h:Hs X.nox st t):Hs X st t:=λpins s σ H D I hw=>
 MI (h pins s σ H D (I.wish _) hw) (λ_ _ q=>q.unwish) λ_ _ z=>LF z
end
section
variable {X:Cx} {st:NW} {rest:List NW} {t u:TS} {e:Expr} {te:TE} {pos:Pos}
def BQ:TS:=λD σ H=>D.nx σ H
def CP(t u:TS):TS:=λD σ H=>t { D with nx:=u D } σ H
theorem Al:Hs X [] BQ:=λ_ _ σ H _ I h=>wpAny_execs_nil ⟨σ,H,I,h⟩
theorem Ac(h1:PS X st t)(h2:Hs X rest u):Hs X (st::rest) (CP t u):=by
 intro pins s σ H D I h
 refine wpAny_execs_cons (Bx (h1 pins s σ H { D with nx:=u D } I h) λf s1 q=>?_)
 cases f with
 | next=>
  obtain⟨σ',H',I',q⟩:=q
  exact h2 pins s1 σ' H' D I' q
 | ret v=>exact q
 | brk=>exact q
 | cont=>exact q
theorem Ag(h1:PS X st t):Hs X [st] t:=by
 intro pins s σ H D I h
 refine wpAny_execs_cons (Bx (h1 pins s σ H D I h) λf s1 q=>?_)
 cases f with
 | next=>exact wpAny_execs_nil q
 | ret v=>exact q
 | brk=>exact q
 | cont=>exact q
theorem Inv.quiet{pins:List (IN×Obj)}{σ:St}{H:Hp}{s:IL}(I:Inv X pins σ H s):interactive X.env=false:=by simp[interactive,I.ok.kind]
def DL(te:TE):TS:=λD σ H=>te σ H λ_ H1=>D.nx σ H1
theorem Ca(he:PE X e te)(hs:swapsWith e none pos.line X.env=pure false:=by rfl):PS X (.Expr e pos) (DL te):=by
 intro pins s σ H D I h
 exact wpAny_Expr_any (Bx (he pins s σ H _ I h) λv s1 ⟨x,H1,I1,r1,q1⟩=>⟨σ,H1,I1,q1⟩) I.quiet hs
def EK(te:TE):TS:=λD σ H=>te σ H D.rt
theorem An(he:PE X e te):PS X (.Return (some e) pos) (EK te):=by
 intro pins s σ H D I h
 exact wpAny_Return_some (Bx (he pins s σ H _ I h) λv s1 ⟨x,H1,I1,r1,q1⟩=>⟨x,σ,H1,I1,r1,q1⟩)
def FZ(c:TT)(t u:TS):TS:=λD σ H=>c σ H λb H1=>if b=true then t D σ H1 else u D σ H1
theorem Ax{c:Expr}{a b:List NW}{tc:TT}(hc:PT X c tc)(ha:Hs X a t)(hb:Hs X b u):PS X (.If c a b pos) (FZ tc t u):=by
 intro pins s σ H D I h
 refine wpAny_If (Bx (hc pins s σ H _ I h) λd s1 ⟨H1,I1,q1⟩=>?_)
 cases d with
 | true=>exact ha pins s1 σ H1 D I1 q1
 | false=>exact hb pins s1 σ H1 D I1 q1
def AB:TS:=λ_ _ _=>False
theorem Bw{sts:List NW}:Hs X sts AB:=λ_ _ _ _ _ _ h=>h.elim
end
abbrev TG:=V->St->Hp->(St->Hp->Prop)->Prop
abbrev jK:=List V->St->Hp->(St->Hp->Prop)->Prop
def PG(X:Cx)(target:Expr)(t:TG):Prop:=
 ∀(pins:List (IN×Obj))(s:IL)(σ:St)(H:Hp)(v:V)(u:II)(Q:St->Hp->Prop),Inv X pins σ H s->RelV v u->t v σ H Q ->
  JT (JV X.prog X.w) X.A (assign target X.env u) (λ_ s'=>∃σ' H',Inv X pins σ' H' s'/\Q σ' H') X.xe s
def CV(X:Cx)(ts:List Expr)(t:jK):Prop:=
 ∀(pins:List (IN×Obj))(s:IL)(σ:St)(H:Hp)(vs:List V)(us:List II)(Q:St->Hp->Prop),Inv X pins σ H s->Be vs us->t vs σ H Q ->
  JT (JV X.prog X.w) X.A (assignInOrder ((OH ts X.env).map (·.2)) us) (λ_ s'=>∃σ' H',Inv X pins σ' H' s'/\Q σ' H') X.xe s
abbrev yB:=V->V->V->Hp->(Hp->Prop)->Prop
def BZ(X:Cx)(t:yB):Prop:=
 ∀(pins:List (IN×Obj))(s:IL)(σ:St)(H:Hp)(o i v:V)(ov iv u:II)(Q:Hp->Prop),Inv X pins σ H s->RelV o ov->RelV i iv->RelV v u->t o i v H Q ->
  JT (JV X.prog X.w) X.A (setItem ov iv u) (λ_ s'=>∃H',Inv X pins σ H' s'/\Q H') X.xe s
section
variable {X:Cx} {pos:Pos}
def Ko(i:Nat):TG:=λv σ H Q=>Q (σ.set i (some v)) H
theorem rM{i:Nat}{x:Str}(hN:X.N.Nodup)(hi:X.N[i]? = some x)(hx:Loc X.env.scope x)(hf:X.fn x=true∨X.env.scope.names.lookup x=some .local:=by first | exact .inl rfl | exact .inr rfl | assumption):PG X (.Name x pos) (Ko i):=by
 intro pins s σ H v u Q I r h
 exact wpAny_assign_Name (Qh I hN hi hx r (λs' I'=>⟨_,H,I',h⟩) hf)
def CN:jK:=λvs σ H Q=>vs=[]/\Q σ H
def wG(t:TG)(u:jK):jK:=λvs σ H Q=>∃v r,vs=v::r/\t v σ H λσ' H'=>u r σ' H' Q
theorem Gg:CV X [] CN:=by
 intro pins s σ H vs us Q I r h
 obtain⟨e,h⟩:=h
 subst e
 cases r
 exact assignInOrder_nil ⟨σ,H,I,h⟩
theorem Bo{e:Expr}{es:List Expr}{t:TG}{u:jK}(h1:PG X e t)(h2:CV X es u)(hs:(OH (e::es) X.env).map (·.2)=assign e X.env::(OH es X.env).map (·.2):=by rfl):CV X (e::es) (wG t u):=by
 intro pins s σ H vs us Q I r h
 obtain⟨v,vr,e1,h⟩:=h
 subst e1
 cases r with
 | cons r rr=>
  rw[hs]
  refine assignInOrder_cons (Bx (h1 pins s σ H _ _ _ I r h) λ_ s1 ⟨σ1,H1,I1,q1⟩=>?_)
  exact h2 pins s1 σ1 H1 _ _ Q I1 rr q1
def DG(K:IG)(n:Nat)(t:jK):TG:=λv σ H Q=>∃a xs,v=.ref a/\Cc K H a xs/\xs.length=n/\t xs σ H Q
theorem Jm{es:List Expr}{k:Nat}{t:jK}{n:Nat}(hc:X.calm=true)(h:CV X es t)(hn:(OH es X.env).length=n:=by rfl)(hst:(OH es X.env).findIdx? (·.1)=none:=by rfl):PG X (.Tuple es k pos) (DG X.K n t):=by
 intro pins s σ H v u Q I r hw
 obtain⟨a,xs,e1,hq,hl,hw⟩:=hw
 subst e1
 cases r
 obtain⟨its,rv,ht,hz⟩:=I.tuple hq
 refine rE (I.calmS hc) ht (by simp[hn,<- hl,rv.length]) hst λh' hx=>?_
 have I1:Inv X pins σ H { s with heap:=h' }:=I.kept (t':=s.toks) λb o e=>hx b o (JP (JF e)) e
 exact h pins _ σ H xs _ Q I1 (by simpa using rv) hw
def EN(to ti:TE)(t:yB):TG:=λv σ H Q=>to σ H λo H1=>ti σ H1 λi H2=>t o i v H2 λH3=>Q σ H3
theorem zB{o i:Expr}{to ti:TE}{t:yB}(ho:PE X o to)(hi:PE X i ti)(hs:BZ X t)(ha:∀v,assign (.Subscript o i pos) X.env v=(do
  let ov <- holding [v] (OA o X.env)
  let iv <- holding [v,ov] (OA i X.env)
  standAt pos
  holding [v,ov,iv] (setItem ov iv v)
  release [v,ov,iv] []):=by intro _;rfl):PG X (.Subscript o i pos) (EN to ti t):=by
 intro pins s σ H v u Q I r h
 rw[ha]
 refine IF (LI (Bx (ho pins s σ H _ I h) λov s1 ⟨x,H1,I1,r1,q1⟩=>?_))
 refine IF (LI (Bx (hi pins s1 σ H1 _ I1 q1) λiv s2 ⟨y,H2,I2,r2,q2⟩=>?_))
 refine IF (PK (IF (LI (Bx (hs pins s2 σ H2 x y v ov iv u _ I2 r1 r2 r q2) λ_ s3 ⟨H3,I3,q3⟩=>?_))))
 exact wpAny_release ⟨σ,H3,I3,q3⟩
def Xn(te:TE)(g:TG):TS:=λD σ H=>te σ H λx H1=>g x σ H1 D.nx
theorem Zq{tg e:Expr}{te:TE}{g:TG}(he:PE X e te)(hg:PG X tg g)(hs:swapsWithSole [tg] e pos.line X.env=pure false:=by rfl)(hw:swappedStores [tg] e X.env=pure none:=by rfl)(h1:(OH [tg] X.env).map (·.2)=[assign tg X.env]:=by rfl):PS X (.Assign [tg] e pos) (Xn te g):=by
 intro pins s σ H D I h
 refine wpAny_Assign_stores (Bx (he pins s σ H _ I h) λv s1 ⟨x,H1,I1,r1,q1⟩=>?_) hs hw
 rw[h1]
 exact Bx (hg pins s1 σ H1 x v _ I1 r1 q1) λ_ s2 q=>q
theorem Ot{i:Nat}{x:Str}{e:Expr}{te:TE}{pos':Pos}(hN:X.N.Nodup)(hi:X.N[i]? = some x)(hx:Loc X.env.scope x)(he:PE X e te)(hs:swapsWith e (some (.Name x pos')) pos.line X.env=pure false:=by rfl)(hf:X.fn x=true∨X.env.scope.names.lookup x=some .local:=by first | exact .inl rfl | exact .inr rfl | assumption):
 PS X (.Assign [.Name x pos'] e pos) (Xn te (Ko i)):=by
 intro pins s σ H D I h
 refine wpAny_Assign_Name (Bx (he pins s σ H _ I h) λv s1 ⟨y,H1,I1,r1,q1⟩=>?_) hs
 exact Qh I1 hN hi hx r1 (λs2 I2=>⟨_,H1,I2,q1⟩) hf
end
section
variable {X:Cx} {pos:Pos}
def xX(c:TT)(tb:TS):TS:=λD σ H=>∃W:Nat->St->Hp->Prop,(∃m,W m σ H)/\∀m σ H,W m σ H ->
 c σ H λb H1=>if b=true then ∃N:St->Hp->Prop,(∀σ' H',N σ' H'->∃m',m' < m/\W m' σ' H')/\tb { D with nx:=N,ct:=N,bk:=D.nx } σ H1 else D.nx σ H1
theorem Jq{c:Expr}{body:List NW}{tc:TT}{tb:TS}(hp:PassesOwn (JV X.prog X.w) X.A X.env X.xe)(hc:PT X c tc)(hb:Hs X body tb):PS X (.While c body [] pos) (xX tc tb):=by
 intro pins s σ H D I h
 obtain⟨W,⟨m0,w0⟩,turn⟩:=h
 refine wpAny_While (codeAny_whileLoop (λn s'=>∃σ' H',Inv X pins σ' H' s'/\W n σ' H') ?_ m0 ⟨σ,H,I,w0⟩)
 rintro n s1 ⟨σ1,H1,I1,w1⟩
 refine PZ hp (Bx (hc pins s1 σ1 H1 _ I1 (turn n σ1 H1 w1)) λb s2 ⟨H2,I2,q2⟩=>?_)
 cases b with
 | true=>
  obtain⟨N,hN,q2⟩:=q2
  rw[if_pos rfl]
  refine PZ hp (Bx (hb pins s2 σ1 H2 _ I2 q2) λf s3 q3=>?_)
  cases f with
  | next=>
   obtain⟨σ3,H3,I3,n3⟩:=q3
   obtain⟨m',hm,w3⟩:=hN σ3 H3 n3
   exact⟨m',hm,σ3,H3,I3,w3⟩
  | cont=>
   obtain⟨σ3,H3,I3,n3⟩:=q3
   obtain⟨m',hm,w3⟩:=hN σ3 H3 n3
   exact⟨m',hm,σ3,H3,I3,w3⟩
  | brk=>exact q3
  | ret v=>exact q3
 | false=>
  rw[if_neg IZ]
  exact wpAny_execs_nil ⟨σ1,H2,I2,q2⟩
end
structure It where
 go:Nat->Hp->Prop
 yld:Nat->Hp->V->Hp->Prop
 stop:Nat->Hp->Prop
def Dk(X:Cx)(pins:List (IN×Obj))(H:Hp)(b:IN):Prop:=
 H b=none/\b≠X.env.locals/\b∉X.fs/\(b∈X.ex∨X.s₀.heap.objs.size<=b)/\(∀x c,X.env.cells.lookup x=some c->c≠b)/\∀p∈X.pn++pins,p.1≠b
theorem Inv.fpOk{X:Cx}{pins:List (IN×Obj)}{σ:St}{H H':Hp}{s:IL}{b:IN}(I:Inv X pins σ H s)(hb:s.heap.objs.size<=b)(hn:H' b=none):Dk X pins H' b:=by
 refine⟨hn,OF (KD I.lt hb),I.nofs hb,.inr (JR I.sz hb),λx c e z=>?_,λp hp z=>?_⟩
 ·obtain⟨v,q⟩:=I.cell x c e
  exact absurd (KD q.lt (by rw[z];exact hb)) (OT _)
 ·exact absurd (KD (JF (I.pin p hp).1) (by rw[z];exact hb)) (OT _)
structure Turn(P:JJ)(w:KL)(K:IG)(tg:Expr)(J:It)(fp:List IN)(it:IN)(tn:Nat->LO->Prop):Prop where
 mem:it∈fp
 obj:∀i h,tn i h->∀b∈fp,∃o,h.get? b=some o/\∀v,o.data ≠ .cell v
 keep:∀i h h',tn i h->(∀b∈fp,∀o,h.get? b=some o->h'.get? b=some o)->tn i h'
 item:∀(X:Cx),X.prog=P->X.w=w->X.K=K->X.calm=true->∀(i:Nat)(pins:List (IN×Obj))(s:IL)(σ:St)(H:Hp)(E:II->IL->Prop),Inv X pins σ H s->(∀b∈fp,Dk X pins H b)->tn i s.heap->J.go i H ->
  JT (JV P w) X.A (OX (.ref it)) (λr s1=>∃u,r=some u /\
   JT (JV P w) X.A (letOwnedTupleGo tg (.ref it) u) (λ_ s2=>∃x H',Inv X pins σ H' s2/\RelV x u/\J.yld i H x H'/\tn (i+1) s2.heap/\∀b∈fp,H' b=none) E s1) E s
 done:∀(X:Cx),X.prog=P->X.w=w->X.K=K->X.calm=true->∀(i:Nat)(pins:List (IN×Obj))(s:IL)(σ:St)(H:Hp)(E:II->IL->Prop),Inv X pins σ H s->(∀b∈fp,Dk X pins H b)->tn i s.heap->J.stop i H ->
  JT (JV P w) X.A (OX (.ref it)) (λr s1=>r=none/\Inv X pins σ H s1) E s
 self:∀(A:KG)(i:Nat)(s:IL)(Q:II->IL->Prop)(E:II->IL->Prop),tn i s.heap->Q (.ref it) s->JT (JV P w) A (pyIter (.ref it)) Q E s
abbrev TI:=St->Hp->(It->Hp->Prop)->Prop
def DT(X:Cx)(pins:List (IN×Obj))(σ:St)(tg:Expr)(R:It->Hp->Prop)(itv:II)(s2:IL):Prop:=
 ∃(it:IN)(fp:List IN)(tn:Nat->LO->Prop)(J:It)(H':Hp),itv=.ref it/\Inv X pins σ H' s2/\Turn X.prog X.w X.K tg J fp it tn/\tn 0 s2.heap/\(∀b∈fp,Dk X pins H' b)/\R J H'
def PI(X:Cx)(tg iter:Expr)(wi:TI):Prop:=
 ∀(pins:List (IN×Obj))(s:IL)(σ:St)(H:Hp)(R:It->Hp->Prop),Inv X pins σ H s->wi σ H R ->
  JT (JV X.prog X.w) X.A (OA iter X.env) (λv s1=>JT (JV X.prog X.w) X.A (pyIter v) (DT X pins σ tg R) X.xe s1) X.xe s
theorem Xt{M:Model}{A:KG}{E:II->IL->Prop}{s:IL}{tg:Expr}{it:IN}{u:II}{o:Obj}{n:String}{vs:Array II}{Q:Unit->IL->Prop}(ho:s.heap.get? it=some o)(hc:o.cls=.type n)(hd:o.data=.fields vs)(hn:["enumerate","zip","dict_itemiterator","dict_reverseitemiterator","odict_iterator","itertools.zip_longest","itertools.pairwise"].contains n=false)(hQ:Q () s):JT M A (letOwnedTupleGo tg (.ref it) u) Q E s:=by
  unfold letOwnedTupleGo
  cases tg<;>first
    | exact JA hQ
    | (cases u<;>first
        | exact JA hQ
        | (refine IF (wpAny_load ho ?_)
           rw[hc,hd]
           show JT M A (if (["enumerate","zip","dict_itemiterator","dict_reverseitemiterator","odict_iterator","itertools.zip_longest","itertools.pairwise"].contains n && vs[0]? == some (PB _))=true then _ else _) Q E s
           rw[if_neg (by intro h;rw[hn,QI] at h;cases h)]
           exact JA hQ))
def yK(K:IG)(a:IN):It:=
 ⟨λi H=>∃xs x,Av K H a xs/\xs[i]? = some x,λi H x H'=>H'=H/\∀xs,Av K H a xs->xs[i]? = some x,λi H=>∃xs,Av K H a xs/\xs.length<=i⟩
def rH(lo:Int)(n:Nat):It:=⟨λi _=>i < n,λi H x H'=>H'=H/\x=.int (lo+i),λi _=>n<=i⟩
theorem Mu{P:JJ}{w:KL}{K:IG}{tg:Expr}(a it:IN):Turn P w K tg (yK K a) [it] it (λi h=>h.IsListIter it a i) where
 mem:=by simp
 obj:=λi h st b hb=>by
  have e:b=it:=by simpa using hb
  subst e
  obtain⟨o,e,c,d⟩:=st
  exact⟨o,e,λv z=>by rw[d] at z;cases z⟩
 keep:=λi h h' st k=>st.at λo e=>k it (by simp) o e
 item:=by
  intro X hP hw hK hc i pins s σ H E I hf st hg
  subst hP hw hK
  obtain⟨xs,x,hq,hx⟩:=hg
  obtain⟨its,rv,p,hz⟩:=I.list hq
  obtain⟨u,hu,ru⟩:=rv.get hx
  obtain⟨f0,f1,f2,f3,f4,f5⟩:=hf it (by simp)
  refine PQ st p.isList (x:=u) (by simpa using hu) λh' st' sb=>?_
  have I1:Inv X pins σ H { s with heap:=h' }:=I.turned (t':=s.toks) (λb o hb e=>(sb.2 b hb).trans e) f0 f1 f3 f4 f5
  obtain⟨o,e,c,d⟩:=id st'
  exact⟨u,rfl,Xt (s:={ s with heap:=h' }) e c d (by decide) ⟨x,H,I1,ru,⟨rfl,λys hy=>by rw[I.list_inj hy hq];exact hx⟩,st',λb hb=>(hf b hb).1⟩⟩
 done:=by
  intro X hP hw hK hc i pins s σ H E I hf st hg
  subst hP hw hK
  obtain⟨xs,hq,hx⟩:=hg
  obtain⟨its,rv,p,hz⟩:=I.list hq
  obtain⟨f0,f1,f2,f3,f4,f5⟩:=hf it (by simp)
  have hl:=rv.length
  exact Us (I.calmS hc) st p.isList (by simp;omega) λh' eb=>⟨rfl,I.turned (t':=s.toks) (λb o hb e=>eb b o hb e) f0 f1 f3 f4 f5⟩
 self:=λ_ _ _ _ _ st h=>wpAny_pyIter_listiter st h
theorem cI{P:JJ}{w:KL}{K:IG}{tg:Expr}(it:IN)(lo:Int)(n:Nat):Turn P w K tg (rH lo n) [it] it (λi h=>IsRangeIter h it (lo+(i:Nat) * 1) ((n:Int)-(i:Nat)) 1) where
 mem:=by simp
 obj:=λi h st b hb=>by
  have e:b=it:=by simpa using hb
  subst e
  exact⟨_,st,λv z=>by
   have z':Data.fields _=Data.cell v:=z
   cases z'⟩
 keep:=λi h h' st k=>k it (by simp) _ st
 item:=by
  intro X hP hw hK hc i pins s σ H E I hf st hg
  subst hP hw hK
  obtain⟨f0,f1,f2,f3,f4,f5⟩:=hf it (by simp)
  have W0:True:=trivial
  refine Yd i s _ _ hg st λv h' tk hv st' kk=>?_
  obtain⟨t,rfl⟩:=hv
  have I1:Inv X pins σ H { s with heap:=h',toks:=tk }:=I.turned (λb o hb e=>kk b o (by simpa using hb) e) f0 f1 f3 f4 f5
  refine⟨_,rfl,Xt (s:={ s with heap:=h',toks:=tk }) (n := "range_iterator") st' rfl rfl (by decide) ⟨.int (lo+i),H,I1,⟨t,?_⟩,⟨rfl,rfl⟩,st',λb hb=>(hf b hb).1⟩⟩
  rw[Int.mul_one]
 done:=by
  intro X hP hw hK hc i pins s σ H E I hf st hg
  subst hP hw hK
  obtain⟨f0,f1,f2,f3,f4,f5⟩:=hf it (by simp)
  exact Wi (I.calmS hc) st (by have:n<=i:=hg;omega) λh' eb=>⟨rfl,I.turned (t':=s.toks) (λb o hb e=>eb b o hb e) f0 f1 f3 f4 f5⟩
 self:=λ_ _ _ _ _ st h=>wpAny_pyIter_rangeiter st h
section
variable {X:Cx} {tg:Expr}
def BM(K:IG)(tl:TE):TI:=λσ H R=>tl σ H λx H1=>∃a,x=.ref a/\(∃xs,Av K H1 a xs)/\R (yK K a) H1
theorem De{l:Expr}{tl:TE}(hl:PE X l tl):PI X tg l (BM X.K tl):=by
 intro pins s σ H R I h
 refine Bx (hl pins s σ H _ I h) λv s1 ⟨x,H1,I1,r1,q1⟩=>?_
 obtain⟨a,e,⟨xs,hq⟩,q⟩:=q1
 subst e
 cases r1
 obtain⟨its,rv,p,hz⟩:=I1.list hq
 refine wpAny_pyIter_list p.isList ?_
 refine⟨s1.heap.objs.size,[s1.heap.objs.size],_,_,H1,rfl,I1.kept (t':=s1.toks) λb o e=>IJ _ e,Mu a _,⟨_,JI _ rfl,rfl,rfl⟩,λb hb=>?_,q⟩
 have e:b=s1.heap.objs.size:=by simpa using hb
 subst e
 exact I1.fpOk (IP _) (I1.hok.fresh (IP _))
theorem Vs{pins:List (IN×Obj)}{σ:St}{H:Hp}{s:IL}{R:It->Hp->Prop}{E:II->IL->Prop}{lo hi:Int}{t u v:Tok}{tk:Nat}(I:Inv X pins σ H s)(h1 : -(2 ^ 62)<=lo)(h2:lo < 2 ^ 62)(h3 : -(2 ^ 62)<=hi)(h4:hi < 2 ^ 62)(q:R (rH lo (hi-lo).toNat) H):JT (JV X.prog X.w) X.A (pyIter (.ref s.heap.objs.size)) (DT X pins σ tg R) E { s with heap:=s.heap.push { cls:=.type "range", data:=.fields #[.int lo t,.int hi u,.int 1 v] },toks:=tk }:=by
 refine wpAny_pyIter_range (IsRange.new ..) (small_one h1 h2 h3 h4) ?_
 have I1:Inv X pins σ H { s with heap:=s.heap.push { cls:=.type "range", data:=.fields #[.int lo t,.int hi u,.int 1 v] },toks:=tk }:=I.kept λb o e=>IJ _ e
 refine⟨(s.heap.push { cls:=.type "range", data:=.fields #[.int lo t,.int hi u,.int 1 v] }).objs.size,[(s.heap.push { cls:=.type "range", data:=.fields #[.int lo t,.int hi u,.int 1 v] }).objs.size],_,_,H,rfl,
  I1.kept (t':=tk) λb o e=>IJ _ e,cI _ lo (hi-lo).toNat,?_,λb hb=>?_,q⟩
 ·have e1:lo+((0:Nat):Int) * 1=lo:=by simp
  have e2:(((hi-lo).toNat:Nat):Int)-((0:Nat):Int)=RO lo hi 1:=by rw[rangeSize_one];split<;>omega
  show IsRangeIter _ _ (lo+((0:Nat):Int) * 1) ((((hi-lo).toNat:Nat):Int)-((0:Nat):Int)) 1
  rw[e1,e2]
  exact JI _ rfl
 ·have e:b=(s.heap.push { cls:=.type "range", data:=.fields #[.int lo t,.int hi u,.int 1 v] }).objs.size:=by simpa using hb
  subst e
  exact I1.fpOk (IP _) (I1.hok.fresh (IP _))
def DM(ta:TA):TI:=λσ H R=>ta σ H λvs H1=>∃j:Int,vs=[.int j] /\ -(2 ^ 62)<=j/\j < 2 ^ 62/\R (rH 0 j.toNat) H1
def BN(ta:TA):TI:=λσ H R=>ta σ H λvs H1=>∃i j:Int,vs=[.int i,.int j]/\(-(2 ^ 62)<=i/\i < 2 ^ 62 /\ -(2 ^ 62)<=j/\j < 2 ^ 62)/\R (rH i (j-i).toNat) H1
theorem Fl{a:Expr}{ta:TA}{p pos:Pos}(hg:Gl X "range")(hm:X.mg "range" = none)(ha:PA X [a] ta)(hs:JS [a] X.env=[(false,OA a X.env)]:=by rfl):PI X tg (.Call (.Name "range" p) [a] [] pos) (DM ta):=by
 intro pins s σ H R I h
 refine Call_ (Ib I hg hm boot_range (MG (Bx (ha pos pins s σ H _ I h) λus s1 ⟨vs,H1,I1,r1,q1⟩=>?_) hs rfl))
 obtain⟨j,e,q1,q2,q⟩:=q1
 subst e
 cases r1 with
 | cons r rr=>
  cases rr
  obtain⟨t,rfl⟩:=r
  exact call_range_1 (Vs I1 (by omega) (by omega) q1 q2 (by simpa using q))
theorem Rv{a b:Expr}{ta:TA}{p pos:Pos}(hg:Gl X "range")(hm:X.mg "range" = none)(ha:PA X [a,b] ta)(hs:JS [a,b] X.env=[(false,OA a X.env),(false,OA b X.env)]:=by rfl)(hs2:JS [b] X.env=[(false,OA b X.env)]:=by rfl):
 PI X tg (.Call (.Name "range" p) [a,b] [] pos) (BN ta):=by
 intro pins s σ H R I h
 refine Call_ (Ib I hg hm boot_range (MG (Bx (ha pos pins s σ H _ I h) λus s1 ⟨vs,H1,I1,r1,q1⟩=>?_) (by rw[hs,hs2]) (by rw[hs2];rfl)))
 obtain⟨i,j,e,⟨q1,q2,q3,q4⟩,q⟩:=q1
 subst e
 cases r1 with
 | cons r rr=>
  cases rr with
  | cons r' rr=>
   cases rr
   obtain⟨t,rfl⟩:=r
   obtain⟨t',rfl⟩:=r'
   exact call_range_2 (Vs I1 q1 q2 q3 q4 q)
def EY(wi:TI)(g:TG)(tb:TS):TS:=λD σ H=>wi σ H λJ H1=>∃W:Nat->Nat->St->Hp->Prop,(∃m,W 0 m σ H1)/\∀i m σ H,W i m σ H ->
 (J.stop i H/\D.nx σ H)∨(J.go i H/\∃N:St->Hp->Prop,(∀σ' H',N σ' H'->∃m',m' < m/\W (i+1) m' σ' H')/\∀x H',J.yld i H x H'->g x σ H' λσ2 H2=>tb { D with nx:=N,ct:=N,bk:=D.nx } σ2 H2)
def Ui(fp:List IN)(h:LO):List (IN×Obj):=fp.filterMap λb=>(h.get? b).map λo=>(b,o)
theorem Fp{fp:List IN}{h:LO}{b:IN}{o:Obj}(hb:b∈fp)(e:h.get? b=some o):(b,o)∈Ui fp h:=List.mem_filterMap.mpr ⟨b,hb,by rw[e];rfl⟩
theorem iG{fp:List IN}{h:LO}{p:IN×Obj}(hp:p∈Ui fp h):p.1∈fp/\h.get? p.1=some p.2:=by
 obtain⟨b,hb,e⟩:=List.mem_filterMap.mp hp
 cases q:h.get? b with
 | none=>rw[q] at e;cases e
 | some o=>
  rw[q] at e
  have e':(b,o)=p:=KC e
  subst e'
  exact⟨hb,q⟩
theorem Inv.pinned{pins:List (IN×Obj)}{σ:St}{H:Hp}{s:IL}{fp:List IN}(I:Inv X pins σ H s)(hf:∀b∈fp,Dk X pins H b)(ho:∀b∈fp,∃o,s.heap.get? b=some o/\∀v,o.data ≠ .cell v):Inv X (pins++Ui fp s.heap) σ H s:=
 I.pins_of λp hp=>(JO.mp hp).elim (λz=>I.pin p (JK _ z)) λz=>by
  obtain⟨hb,e⟩:=iG z
  obtain⟨f0,f1,f2,_⟩:=hf p.1 hb
  obtain⟨o,e',d⟩:=ho p.1 hb
  rw[e] at e';cases e'
  exact⟨e,f0,f1,f2,d⟩
theorem Inv.unpinned{pins pl:List (IN×Obj)}{σ:St}{H:Hp}{s:IL}(I:Inv X (pins++pl) σ H s):Inv X pins σ H s:=I.pins_of λp hp=>I.pin p (JK _ (MU _ hp))
theorem Eb{iter:Expr}{body:List NW}{wi:TI}{g:TG}{tb:TS}{pos:Pos}(hp:PassesOwn (JV X.prog X.w) X.A X.env X.xe)(hc:X.calm=true)(hi:PI X tg iter wi)(hg:PG X tg g)(hb:Hs X body tb)(hs:∀x,foldedSetIterable iter X.env x=pure x:=by intro _;rfl):PS X (.For tg iter body [] pos) (EY wi g tb):=by
 intro pins s σ H D I h
 refine wpAny_For (Bx (hi pins s σ H _ I h) λv s1 h1=>Bx h1 λitv s2 h2=>?_) hs
 obtain⟨it,fp,tn,J,H2,e,I2,T,st2,f2,W,⟨m0,w0⟩,turn⟩:=h2
 subst e
 -- what stays true of the iterator's objects through the loop
 have stat:∀ {H':Hp},(∀b∈fp,H' b=none)->∀b∈fp,Dk X pins H' b:=λhn b hb=>⟨hn b hb,(f2 b hb).2⟩
 refine codeAny_forLoop_any (λn s'=>∃i σ' H',Inv X pins σ' H' s'/\tn i s'.heap/\(∀b∈fp,H' b=none)/\W i n σ' H') ?_ m0 ⟨0,σ,H2,I2,st2,λb hb=>(f2 b hb).1,w0⟩
 rintro n s3 ⟨i,σ3,H3,I3,st3,fr3,w3⟩
 rcases turn i n σ3 H3 w3 with ⟨stop,qn⟩ | ⟨go,N,hN,step⟩
 ·refine PZ hp (Bx (T.done X rfl rfl rfl hc i pins s3 σ3 H3 X.xe I3 (stat fr3) st3 stop) λr s4 ⟨hr,I4⟩=>?_)
  subst hr
  exact wpAny_execs_nil ⟨σ3,H3,I4,qn⟩
 ·refine PZ hp (Bx (T.item X rfl rfl rfl hc i pins s3 σ3 H3 X.xe I3 (stat fr3) st3 go) λr s4 ⟨u,hr,h4⟩=>?_)
  subst hr
  refine PZ hp (Bx h4 λ_ s5 ⟨x,H5,I5,r5,y5,st5,fr5⟩=>?_)
  have I5':=I5.pinned (stat fr5) (T.obj _ _ st5)
  refine PZ hp (Bx (hg _ s5 σ3 H5 x u _ I5' r5 (step x H5 y5)) λ_ s6 ⟨σ6,H6,I6,q6⟩=>?_)
  refine PZ hp (Bx (hb _ s6 σ6 H6 _ I6 q6) λf s7 q7=>?_)
  have again:∀ {σ7:St} {H7:Hp},Inv X (pins++Ui fp s5.heap) σ7 H7 s7->N σ7 H7->∃m,m < n/\∃i σ' H',Inv X pins σ' H' s7/\tn i s7.heap/\(∀b∈fp,H' b=none)/\W i m σ' H':=λ{σ7 H7} I7 n7=>by
   obtain⟨m',hm,w7⟩:=hN σ7 H7 n7
   refine⟨m',hm,i+1,σ7,H7,I7.unpinned,T.keep _ _ _ st5 λb hb o e=>(I7.pin (b,o) (JK _ (JK _ (Fp hb e)))).1,λb hb=>?_,w7⟩
   obtain⟨o,e,d⟩:=T.obj _ _ st5 b hb
   exact(I7.pin (b,o) (JK _ (JK _ (Fp hb e)))).2.1
  cases f with
  | next=>obtain⟨σ7,H7,I7,n7⟩:=q7;exact again I7 n7
  | cont=>obtain⟨σ7,H7,I7,n7⟩:=q7;exact again I7 n7
  | brk=>obtain⟨σ7,H7,I7,q7⟩:=q7;exact⟨σ7,H7,I7.unpinned,q7⟩
  | ret v=>obtain⟨x7,σ7,H7,I7,r7,q7⟩:=q7;exact⟨x7,σ7,H7,I7.unpinned,r7,q7⟩
end
theorem Fe{K:IG}{a:IN}{xs:List V}{g:TG}{tb:TS}{D:Ends}{σ:St}{H:Hp}(Pv:Nat->St->Hp->Prop)(h0:Pv 0 σ H)(hl:∀i σ H,i<=xs.length->Pv i σ H->Av K H a xs)(hs:∀i x σ H,xs[i]? = some x->Pv i σ H->g x σ H λσ2 H2=>tb { D with nx:=Pv (i+1),ct:=Pv (i+1),bk:=D.nx } σ2 H2)(hd:∀σ H,Pv xs.length σ H->D.nx σ H):
 ∃W:Nat->Nat->St->Hp->Prop,(∃m,W 0 m σ H)/\∀i m σ H,W i m σ H ->
  ((yK K a).stop i H/\D.nx σ H)∨((yK K a).go i H/\∃N:St->Hp->Prop,(∀σ' H',N σ' H'->∃m',m' < m/\W (i+1) m' σ' H')/\∀x H',(yK K a).yld i H x H'->g x σ H' λσ2 H2=>tb { D with nx:=N,ct:=N,bk:=D.nx } σ2 H2):=by
 refine⟨λi m σ H=>m=xs.length-i/\i<=xs.length/\Pv i σ H,⟨xs.length,by simp,KI _,h0⟩,?_⟩
 rintro i m σ H ⟨rfl,hi,p⟩
 have q:=hl i σ H hi p
 by_cases hlt:i < xs.length
 ·refine .inr ⟨⟨xs,xs[i],q,by simp[hlt]⟩,Pv (i+1),λσ' H' p'=>⟨xs.length-(i+1),by omega,rfl,hlt,p'⟩,λx H' y=>?_⟩
  obtain⟨e,y⟩:=y
  subst e
  exact hs i x σ _ (y xs q) p
 ·have e:i=xs.length:=by omega
  subst e
  exact .inl ⟨⟨xs,q,IP _⟩,hd σ H p⟩
theorem Gq{lo:Int}{n:Nat}{g:TG}{tb:TS}{D:Ends}{σ:St}{H:Hp}(Pv:Nat->St->Hp->Prop)(h0:Pv 0 σ H)(hs:∀i σ H,i < n->Pv i σ H->g (.int (lo+i)) σ H λσ2 H2=>tb { D with nx:=Pv (i+1),ct:=Pv (i+1),bk:=D.nx } σ2 H2)(hd:∀σ H,Pv n σ H->D.nx σ H):
 ∃W:Nat->Nat->St->Hp->Prop,(∃m,W 0 m σ H)/\∀i m σ H,W i m σ H ->
  ((rH lo n).stop i H/\D.nx σ H)∨((rH lo n).go i H/\∃N:St->Hp->Prop,(∀σ' H',N σ' H'->∃m',m' < m/\W (i+1) m' σ' H')/\∀x H',(rH lo n).yld i H x H'->g x σ H' λσ2 H2=>tb { D with nx:=N,ct:=N,bk:=D.nx } σ2 H2):=by
 refine⟨λi m σ H=>m=n-i/\i<=n/\Pv i σ H,⟨n,by simp,KI _,h0⟩,?_⟩
 rintro i m σ H ⟨rfl,hi,p⟩
 by_cases hlt:i < n
 ·refine .inr ⟨hlt,Pv (i+1),λσ' H' p'=>⟨n-(i+1),by omega,rfl,hlt,p'⟩,λx H' y=>?_⟩
  obtain⟨e,y⟩:=y
  subst e y
  exact hs i σ _ hlt p
 ·have e:i=n:=by omega
  subst e
  exact .inl ⟨IP _,hd σ H p⟩
abbrev R2:=V->V->Hp->VK->Prop
def Kl(X:Cx)(f:II->II->Sem II)(r:R2):Prop:=
 ∀(pins:List (IN×Obj))(s:IL)(σ:St)(H:Hp)(x y:V)(v u:II)(Q:VK),Inv X pins σ H s->RelV x v->RelV y u->r x y H Q ->
  JT (JV X.prog X.w) X.A (f v u) (EP X pins σ Q) X.xe s
def FG(X:Cx)(f:II->Sem II)(r:V->Hp->VK->Prop):Prop:=
 ∀(pins:List (IN×Obj))(s:IL)(σ:St)(H:Hp)(x:V)(v:II)(Q:VK),Inv X pins σ H s->RelV x v->r x H Q ->
  JT (JV X.prog X.w) X.A (f v) (EP X pins σ Q) X.xe s
def Gv(X:Cx)(f:II)(r:List V->Hp->VK->Prop):Prop:=
 ∀(pins:List (IN×Obj))(s:IL)(σ:St)(H:Hp)(xs:List V)(us:List II)(Q:VK),Inv X pins σ H s->Be xs us->r xs H Q ->
  JT (JV X.prog X.w) X.A (call f us) (EP X pins σ Q) X.xe s
def FU(X:Cx)(r:V->Hp->(Bool->Hp->Prop)->Prop):Prop:=
 ∀(pins:List (IN×Obj))(s:IL)(σ:St)(H:Hp)(x:V)(v:II)(Q:Bool->Hp->Prop),Inv X pins σ H s->RelV x v->r x H Q ->
  JT (JV X.prog X.w) X.A (truthy v) (TP X pins σ Q) X.xe s
def AJ(r:R2)(ta tb:TE):TE:=λσ H Q=>ta σ H λx H1=>tb σ H1 λy H2=>r x y H2 Q
def HB(r:V->Hp->VK->Prop)(ta:TE):TE:=λσ H Q=>ta σ H λx H1=>r x H1 Q
def rI(C:Int->Int->Prop)(g:Int->Int->V):R2:=λx y H Q=>∃i j,x=.int i/\y=.int j/\C i j/\Q (g i j) H
def oA(g:Int->Int->V):R2:=λx y H Q=>∃i j,x=.int i/\y=.int j/\Q (g i j) H
def rU(g:Int->V):V->Hp->VK->Prop:=λx H Q=>∃i,x=.int i/\Q (g i) H
section
variable {X:Cx} {a b c:Expr} {ta tb tc:TE} {pos:Pos}
theorem zV(ha:PE X a ta)(hb:PE X b tb){pins:List (IN×Obj)}{s:IL}{σ:St}{H:Hp}{R:V->V->Hp->Prop}(I:Inv X pins σ H s)(h:ta σ H λx H1=>tb σ H1 λy H2=>R x y H2){Q:II->IL->Prop}{f:II->II->Sem II}(hf:∀v u s2 x y H2,Inv X pins σ H2 s2->RelV x v->RelV y u->R x y H2->JT (JV X.prog X.w) X.A (f v u) Q X.xe s2):
 JT (JV X.prog X.w) X.A (OA a X.env) (λv s₁=>JT (JV X.prog X.w) X.A (OA b X.env) (λu s₂=>JT (JV X.prog X.w) X.A (f v u) Q X.xe s₂) X.xe s₁) X.xe s:=by
 refine Bx (ha pins s σ H _ I h) λv s1 ⟨x,H1,I1,r1,q1⟩=>?_
 refine Bx (hb pins s1 σ H1 _ I1 q1) λu s2 ⟨y,H2,I2,r2,q2⟩=>?_
 exact hf v u s2 x y H2 I2 r1 r2 q2
theorem Ak{op:Operator}{r:R2}(ho:Kl X (PM op) r)(ha:PE X a ta)(hb:PE X b tb):PE X (.BinOp a op b pos) (AJ r ta tb):=by
 intro pins s σ H Q I h
 exact wpAny_BinOp (zV ha hb I h λv u s2 x y H2 I2 rx ry q=>ho pins s2 σ H2 x y v u Q I2 rx ry q)
theorem Hi{op:UnaryOp}{r:V->Hp->VK->Prop}(ho:FG X (unaryOp op) r)(ha:PE X a ta):PE X (.UnaryOp op a pos) (HB r ta):=by
 intro pins s σ H Q I h
 exact UnaryOp_ (Bx (ha pins s σ H _ I h) λv s1 ⟨x,H1,I1,r1,q1⟩=>ho pins s1 σ H1 x v Q I1 r1 q1)
theorem sQ{f:II->II->Sem II}{C:Int->Int->Prop}{g:Int->Int->Int}(rule:∀(i j:Int)(t u:Tok)(s:IL)(Q:II->IL->Prop)(E:II->IL->Prop),C i j->Q (.int (g i j) s.toks) { s with toks:=s.toks+1 }->JT (JV X.prog X.w) X.A (f (.int i t) (.int j u)) Q E s):
 Kl X f (rI C λi j=>.int (g i j)):=by
 intro pins s σ H x y v u Q I rx ry h
 obtain⟨i,j,rfl,rfl,hc,q⟩:=h
 obtain⟨t,rfl⟩:=rx
 obtain⟨t',rfl⟩:=ry
 exact rule i j t t' s _ _ hc ⟨.int (g i j),H,I.tok _,⟨_,rfl⟩,q⟩
theorem oO{f:II->II->Sem II}{g:Int->Int->Int}(rule:∀(i j:Int)(t u:Tok)(s:IL)(Q:II->IL->Prop)(E:II->IL->Prop),Q (.int (g i j) s.toks) { s with toks:=s.toks+1 }->JT (JV X.prog X.w) X.A (f (.int i t) (.int j u)) Q E s):
 Kl X f (oA λi j=>.int (g i j)):=by
 intro pins s σ H x y v u Q I rx ry h
 obtain⟨i,j,rfl,rfl,q⟩:=h
 obtain⟨t,rfl⟩:=rx
 obtain⟨t',rfl⟩:=ry
 exact rule i j t t' s _ _ ⟨.int (g i j),H,I.tok _,⟨_,rfl⟩,q⟩
theorem tH{f:II->II->Sem II}{g:Int->Int->Bool}(rule:∀(i j:Int)(t u:Tok)(s:IL)(Q:II->IL->Prop)(E:II->IL->Prop),Q (.bool (g i j)) s->JT (JV X.prog X.w) X.A (f (.int i t) (.int j u)) Q E s):
 Kl X f (oA λi j=>.bl (g i j)):=by
 intro pins s σ H x y v u Q I rx ry h
 obtain⟨i,j,rfl,rfl,q⟩:=h
 obtain⟨t,rfl⟩:=rx
 obtain⟨t',rfl⟩:=ry
 exact rule i j t t' s _ _ ⟨.bl (g i j),H,I,rfl,q⟩
def ER(i j:Int):Prop:=0 < j/\j < 1073741824
def FX(i j:Int):Prop:=0<=j/\j<=1000000/\i.natAbs < 2 ^ 64
def yA(i j:Int):Prop:=(-(2 ^ 64) < i/\i < 2 ^ 64)∨(-(2 ^ 64) < j/\j < 2 ^ 64)
theorem yA.ok{i j:Int}(h:yA i j):IntMulOk i j:=by
 rcases h with ⟨h1,h2⟩ | ⟨h1,h2⟩
 ·exact .of_left (intBits_le_64 h1 h2)
 ·exact .of_right (intBits_le_64 h1 h2)
theorem Yt(k:Nat):(0:Int)<=2 ^ k:=by
 rw[two_pow_cast]
 exact Int.natCast_nonneg _
theorem Bv:Kl X (PM .Add) (oA λi j=>.int (i+j)):=oO λ_ _ _ _ _ _ _ q=>add_int q
theorem Hq:Kl X (PM .Sub) (oA λi j=>.int (i-j)):=oO λ_ _ _ _ _ _ _ q=>sub_int q
theorem Jt:Kl X (PM .Mult) (rI yA λi j=>.int (i * j)):=sQ λ_ _ _ _ _ _ _ hc q=>mul_int q hc.ok
theorem Ce:Kl X (PM .FloorDiv) (rI ER λi j=>.int (i / j)):=sQ λi j _ _ _ _ _ hc q=>by
 have h1:(0:Int) < j:=hc.1
 have h2:j < 1073741824:=hc.2
 exact floordiv_int (by omega) (by rw[Int.fdiv_eq_ediv_of_nonneg i (by omega)];exact q) (.inl (PyProof.noPylong_small (by omega)))
theorem Bi:Kl X (PM .Mod) (rI (λ_ j=>0 < j) λi j=>.int (i % j)):=sQ λi j _ _ _ _ _ hc q=>by
 have h1:(0:Int) < j:=hc
 exact mod_int' (by omega) (by rw[Int.fmod_eq_emod_of_nonneg i (by omega)];exact q)
theorem eF:Kl X (PM .Mod) (rI (λ_ j=>j≠0) λi j=>.int (i.fmod j)):=sQ λ_ _ _ _ _ _ _ hc q=>mod_int' hc q
theorem Tj:Kl X (PM .Pow) (rI FX λi j=>.int (i ^ j.toNat)):=sQ λ_ _ _ _ _ _ _ hc q=>pow_int_small hc.1 hc.2.1 hc.2.2 q
theorem oP:Kl X (PM .RShift) (rI (λ_ j=>0<=j) λi j=>.int (i / 2 ^ j.toNat)):=sQ λi j _ _ _ _ _ hc q=>
 rshift_int hc (by rw[Int.fdiv_eq_ediv_of_nonneg i (Yt _)];exact q)
theorem jY:Kl X (PM .BitAnd) (oA λi j=>.int (Builtin.bitAnd i j)):=oO λ_ _ _ _ _ _ _ q=>and_int q
theorem wI:Kl X (PM .BitOr) (oA λi j=>.int (Builtin.bitOr i j)):=oO λ_ _ _ _ _ _ _ q=>or_int q
theorem lH:Kl X (PM .BitXor) (oA λi j=>.int (Builtin.bitXor i j)):=oO λ_ _ _ _ _ _ _ q=>xor_int q
theorem HU{f:II->Sem II}{g:Int->Int}(rule:∀(i:Int)(t:Tok)(s:IL)(Q:II->IL->Prop)(E:II->IL->Prop),Q (.int (g i) s.toks) { s with toks:=s.toks+1 }->JT (JV X.prog X.w) X.A (f (.int i t)) Q E s):
 FG X f (rU λi=>.int (g i)):=by
 intro pins s σ H x v Q I rx h
 obtain⟨i,rfl,q⟩:=h
 obtain⟨t,rfl⟩:=rx
 exact rule i t s _ _ ⟨.int (g i),H,I.tok _,⟨_,rfl⟩,q⟩
theorem Ff:FG X (unaryOp .USub) (rU λi=>.int (-i)):=HU λ_ _ _ _ _ q=>neg_int q
end
def CF:V->V->Bool
 | .non,.non=>true | .non,.int _=>true | .int _,.non=>true | .non,.bl _=>true | .bl _,.non=>true | .non,.str _=>true | .str _,.non=>true
 | .int _,.int _=>true | .bl _,.bl _=>true | .str _,.str _=>true | .byt _,.byt _=>true
 | .int _,.str _=>true | .str _,.int _=>true | .bl _,.str _=>true | .str _,.bl _=>true
 | _,_=>false
def ID:R2:=λx y H Q=>CF x y=true/\Q (.bl (decide (x=y))) H
def HZ:R2:=λx y H Q=>CF x y=true/\Q (.bl (!decide (x=y))) H
theorem dZ{i j:Int}:decide (V.int i=V.int j)=(i == j):=by
 rw[Bool.eq_iff_iff]
 simp
theorem lG{i j:Bool}:decide (V.bl i=V.bl j)=(i == j):=by
 rw[Bool.eq_iff_iff]
 simp
theorem eV{i j:Str}:decide (V.str i=V.str j)=(i == j):=by
 rw[Bool.eq_iff_iff]
 simp
theorem eE{i j:Array UInt8}:decide (V.byt i=V.byt j)=(i.toList == j.toList):=by
 rw[Bool.eq_iff_iff]
 cases i
 cases j
 simp
section
variable {X:Cx} {a b c:Expr} {ta tb tc:TE} {pos:Pos}
theorem Bu{pins:List (IN×Obj)}{σ:St}{H:Hp}{s:IL}{Q:VK}{k k':Bool}(I:Inv X pins σ H s)(q:Q (.bl k) H)(e:k=k'):EP X pins σ Q (.bool k') s:=by
 subst e
 exact⟨.bl k,H,I,rfl,q⟩
theorem Bp:Kl X (OJ .Eq) ID:=by
 intro pins s σ H x y v u Q I rx ry h
 obtain⟨hs,q⟩:=h
 cases x with
 | non=>
  cases rx
  cases y with
  | non=>cases ry;exact PySem.EqNone.eq_none_none (Bu I q (by simp))
  | bl j=>cases ry;exact PySem.EqNone.eq_none_bool (Bu I q (by simp))
  | int j=>obtain⟨t',rfl⟩:=ry;exact PySem.EqNone.eq_none_int (Bu I q (by simp))
  | str j=>obtain⟨t',rfl⟩:=ry;exact PySem.EqNone.eq_none_str (Bu I q (by simp))
  | _=>exact absurd (show false=true from hs) IZ
 | bl i=>
  cases rx
  cases y with
  | non=>cases ry;exact PySem.EqNone.eq_bool_none (Bu I q (by simp))
  | bl j=>cases ry;exact eq_bool (Bu I q lG)
  | str j=>obtain⟨t',rfl⟩:=ry;exact PySem.EqMixed.eq_bool_str (Bu I q (by simp))
  | _=>exact absurd (show false=true from hs) IZ
 | int i=>
  obtain⟨t,rfl⟩:=rx
  cases y with
  | non=>cases ry;exact PySem.EqNone.eq_int_none (Bu I q (by simp))
  | int j=>obtain⟨t',rfl⟩:=ry;exact eq_int (Bu I q dZ)
  | str j=>obtain⟨t',rfl⟩:=ry;exact PySem.EqMixed.eq_int_str (Bu I q (by simp))
  | _=>exact absurd (show false=true from hs) IZ
 | str i=>
  obtain⟨t,rfl⟩:=rx
  cases y with
  | non=>cases ry;exact PySem.EqNone.eq_str_none (Bu I q (by simp))
  | bl j=>cases ry;exact PySem.EqMixed.eq_str_bool (Bu I q (by simp))
  | int j=>obtain⟨t',rfl⟩:=ry;exact PySem.EqMixed.eq_str_int (Bu I q (by simp))
  | str j=>obtain⟨t',rfl⟩:=ry;exact eq_str (Bu I q eV)
  | _=>exact absurd (show false=true from hs) IZ
 | byt i=>
  obtain⟨t,rfl⟩:=rx
  cases y with
  | byt j=>obtain⟨t',rfl⟩:=ry;exact PySem.W.eq_bytes (Bu I q eE)
  | _=>exact absurd (show false=true from hs) IZ
 | _=>cases y<;>exact absurd (show false=true from hs) IZ
theorem pK:Kl X (OJ .NotEq) HZ:=by
 intro pins s σ H x y v u Q I rx ry h
 obtain⟨hs,q⟩:=h
 cases x with
 | non=>
  cases rx
  cases y with
  | non=>cases ry;exact PySem.EqNone.ne_none_none (Bu I q (by simp))
  | bl j=>cases ry;exact PySem.EqNone.ne_none_bool (Bu I q (by simp))
  | int j=>obtain⟨t',rfl⟩:=ry;exact PySem.EqNone.ne_none_int (Bu I q (by simp))
  | str j=>obtain⟨t',rfl⟩:=ry;exact PySem.EqNone.ne_none_str (Bu I q (by simp))
  | _=>exact absurd (show false=true from hs) IZ
 | bl i=>
  cases rx
  cases y with
  | non=>cases ry;exact PySem.EqNone.ne_bool_none (Bu I q (by simp))
  | bl j=>cases ry;exact ne_bool (Bu I q (congrArg not lG))
  | str j=>obtain⟨t',rfl⟩:=ry;exact PySem.EqMixed.ne_bool_str (Bu I q (by simp))
  | _=>exact absurd (show false=true from hs) IZ
 | int i=>
  obtain⟨t,rfl⟩:=rx
  cases y with
  | non=>cases ry;exact PySem.EqNone.ne_int_none (Bu I q (by simp))
  | int j=>obtain⟨t',rfl⟩:=ry;exact ne_int (Bu I q (congrArg not dZ))
  | str j=>obtain⟨t',rfl⟩:=ry;exact PySem.EqMixed.ne_int_str (Bu I q (by simp))
  | _=>exact absurd (show false=true from hs) IZ
 | str i=>
  obtain⟨t,rfl⟩:=rx
  cases y with
  | non=>cases ry;exact PySem.EqNone.ne_str_none (Bu I q (by simp))
  | bl j=>cases ry;exact PySem.EqMixed.ne_str_bool (Bu I q (by simp))
  | int j=>obtain⟨t',rfl⟩:=ry;exact PySem.EqMixed.ne_str_int (Bu I q (by simp))
  | str j=>obtain⟨t',rfl⟩:=ry;exact ne_str (Bu I q (congrArg not eV))
  | _=>exact absurd (show false=true from hs) IZ
 | byt i=>
  obtain⟨t,rfl⟩:=rx
  cases y with
  | byt j=>obtain⟨t',rfl⟩:=ry;exact PySem.W.ne_bytes (Bu I q (congrArg not eE))
  | _=>exact absurd (show false=true from hs) IZ
 | _=>cases y<;>exact absurd (show false=true from hs) IZ
theorem Sr:Kl X (OJ .Lt) (oA λi j=>.bl (decide (i < j))):=tH λ_ _ _ _ _ _ _ q=>lt_int q
theorem Wo:Kl X (OJ .LtE) (oA λi j=>.bl (decide (i<=j))):=tH λ_ _ _ _ _ _ _ q=>le_int q
theorem Wj:Kl X (OJ .Gt) (oA λi j=>.bl (decide (j < i))):=tH λ_ _ _ _ _ _ _ q=>gt_int q
theorem AW:Kl X (OJ .GtE) (oA λi j=>.bl (decide (j<=i))):=tH λ_ _ _ _ _ _ _ q=>ge_int q
theorem As(b:Expr){op:CmpOp}(h:op ≠ .In:=by decide)(h2:op ≠ .NotIn:=by decide):RF op b=false:=by
 have e1:(op == CmpOp.In)=false:=by cases op<;>first | rfl | exact absurd rfl h
 have e2:(op == CmpOp.NotIn)=false:=by cases op<;>first | rfl | exact absurd rfl h2
 cases b<;>simp[RF,e1,e2]
theorem dJ{op:CmpOp}{r:R2}(ho:Kl X (OJ op) r)(ha:PE X a ta)(hb:PE X b tb)(hm:RF op b=false):PE X (.Compare a [op] [b] pos) (AJ r ta tb):=by
 intro pins s σ H Q I h
 exact wpAny_Compare1 (zV ha hb I h λv u s2 x y H2 I2 rx ry q=>ho pins s2 σ H2 x y v u Q I2 rx ry q) hm
def DD(t:TE):TT:=λσ H Q=>t σ H λx H'=>∃k,x=.bl k/\Q k H'
theorem Ao{op:CmpOp}{r:R2}(ho:Kl X (OJ op) r)(ha:PE X a ta)(hb:PE X b tb)(hm:RF op b=false):PT X (.Compare a [op] [b] pos) (DD (AJ r ta tb)):=by
 intro pins s σ H Q I h
 refine wpAny_isTrue_Compare1 (Bx (ha pins s σ H _ I h) λv s1 ⟨x,H1,I1,r1,q1⟩=>Bx (hb pins s1 σ H1 _ I1 q1) λu s2 ⟨y,H2,I2,r2,q2⟩=>
  Bx (ho pins s2 σ H2 x y v u _ I2 r1 r2 q2) λc s3 ⟨z,H3,I3,r3,k,e,q3⟩=>?_) hm
 subst e
 cases r3
 exact NY ⟨H3,I3,q3⟩
def yJ(r r':R2)(ta tb tc:TE):TE:=λσ H Q=>ta σ H λx H1=>tb σ H1 λy H2=>r x y H2 λz H3=>∃k,z=.bl k /\
 (if k=true then tc σ H3 λw' H4=>r' y w' H4 Q else Q (.bl false) H3)
theorem Py{op op':CmpOp}{r r':R2}(ho:Kl X (OJ op) r)(ho':Kl X (OJ op') r')(ha:PE X a ta)(hb:PE X b tb)(hc:PE X c tc)(hm:lastMarks [op,op'] [b,c]=false:=by with_unfolding_all rfl):PE X (.Compare a [op,op'] [b,c] pos) (yJ r r' ta tb tc):=by
 intro pins s σ H Q I h
 refine Compare_chain (Bx (ha pins s σ H _ I h) λv s1 ⟨x,H1,I1,r1,q1⟩=>chain_link (Bx (hb pins s1 σ H1 _ I1 q1) λu s2 ⟨y,H2,I2,r2,q2⟩=>
  Bx (ho pins s2 σ H2 x y v u _ I2 r1 r2 q2) λd s3 ⟨z,H3,I3,r3,k,e,q3⟩=>?_)) hm
 subst e
 cases r3
 refine NY ?_
 cases k with
 | false=>exact ite_ff ⟨.bl false,H3,I3,rfl,q3⟩
 | true=>exact ite_tt (chain_last (Bx (hc pins s3 σ H3 _ I3 q3) λw' s4 ⟨z',H4,I4,r4,q4⟩=>ho' pins s4 σ H4 y z' u w' Q I4 r2 r4 q4))
def tZ(K:IG)(x:V)(H:Hp)(k:Bool):Prop:=
 match x with
 | .non=>k=false
 | .bl b=>k=b
 | .int i=>k=(i != 0)
 | .str y=>y.length<=IK/\k=((y.length:Int) != 0)
 | .byt y=>y.size<=IK/\k=((y.size:Int) != 0)
 | .ref p=>(∃xs,Av K H p xs/\k = !xs.isEmpty)∨(∃xs,Cc K H p xs/\k = !xs.isEmpty) ∨ ∃kvs,H p=some (.dK kvs)/\k = !kvs.isEmpty
 | _=>False
theorem Zm{κ:Type}{kvs:List (κ×V)}{vs:List (κ×II)}(r:KV kvs vs):(!vs.isEmpty) = !kvs.isEmpty:=by
 cases r<;>rfl
theorem Oo{xs:List V}{its:List II}(r:Be xs its):(!its.toArray.isEmpty) = !xs.isEmpty:=by
 cases r<;>simp
theorem Jx:(IK:Nat) < 2 ^ 63:=by rw[JB];decide
theorem aD:FU X (λx H Q=>∃k,tZ X.K x H k/\Q k H):=by
 intro pins s σ H x v Q I rx h
 obtain⟨k,e,q⟩:=h
 have hl:=Jx
 have hs:IK=16777216:=JB
 cases x with
 | non=>
  cases rx
  have e':k=false:=e
  subst e'
  exact truthy_none ⟨H,I,q⟩
 | bl b=>
  cases rx
  have e':k=b:=e
  subst e'
  exact NY ⟨H,I,q⟩
 | int i=>
  obtain⟨t,rfl⟩:=rx
  have e':k=(i != 0):=e
  subst e'
  exact PySem.P.truthy_int ⟨H,I,q⟩
 | str y=>
  obtain⟨t,rfl⟩:=rx
  obtain⟨hy,e'⟩:y.length<=IK/\k=((y.length:Int) != 0):=e
  subst e'
  exact PySem.P.truthy_str (by omega) ⟨H,I.tok _,q⟩
 | byt y=>
  obtain⟨t,rfl⟩:=rx
  obtain⟨hy,e'⟩:y.size<=IK/\k=((y.size:Int) != 0):=e
  subst e'
  exact PySem.W.truthy_bytes (by omega) ⟨H,I.tok _,q⟩
 | ref p=>
  cases rx
  have e':(∃xs,Av X.K H p xs/\k = !xs.isEmpty)∨(∃xs,Cc X.K H p xs/\k = !xs.isEmpty) ∨ ∃kvs,H p=some (.dK kvs)/\k = !kvs.isEmpty:=e
  rcases e' with ⟨xs,hx,e'⟩ | ⟨xs,hx,e'⟩ | ⟨kvs,hx,e'⟩
  ·subst e'
   obtain⟨its,r,pl,hz⟩:=I.list hx
   have hlen:=r.length
   exact wpAny_truthy_list pl.isList (by simp only[JN];omega) ⟨H,I.tok _,by rw[Oo r];exact q⟩
  ·subst e'
   obtain⟨its,r,pl,hz⟩:=I.tuple hx
   have hlen:=r.length
   exact truthy_tuple pl (by simp only[JN];omega) ⟨H,I.tok _,by rw[Oo r];exact q⟩
  ·subst e'
   obtain⟨hz,hS,vs,r,m⟩:kvs.length<=IK/\(p == NG)=false/\∃vs,KV kvs vs/\s.heap.DictOf (Bz X.prog X.w) p vs:=I.hok p _ hx
   have hlen:kvs.length=vs.length:=NK r
   exact wpAny_truthy_dict hS m (by omega) ⟨H,I.tok _,by rw[Zm r];exact q⟩
 | _=>exact(show False from e).elim
theorem nG(ha:PE X a ta)(he:∀whole,isTrue a X.env whole=(do let v <- whole;standAt a.pos;holding [v] (truthy v))):
 PT X a (λσ H Q=>ta σ H λx H'=>∃k,tZ X.K x H' k/\Q k H'):=by
 intro pins s σ H Q I h
 exact isTrue_plain (Bx (ha pins s σ H _ I h) λv s1 ⟨x,H1,I1,r1,q1⟩=>aD pins s1 σ H1 x v Q I1 r1 q1) (he _)
theorem Ir:Kl X (PM .Add) (λx y H Q=>∃i j,x=.str i/\y=.str j/\i.length+j.length<=IK/\Q (.str (i++j)) H):=by
 intro pins s σ H x y v u Q I rx ry h
 obtain⟨i,j,rfl,rfl,hz,q⟩:=h
 obtain⟨t,rfl⟩:=rx
 obtain⟨t',rfl⟩:=ry
 exact add_str (λt' tk=>⟨.str (i++j),H,I.tok _,⟨_,rfl⟩,q⟩) hz
theorem vals1{x:V}{us:List II}(r:Be [x] us):∃u,us=[u]/\RelV x u:=by
 cases r with
 | cons r1 r2=>cases r2;exact⟨_,rfl,r1⟩
theorem vals2{x y:V}{us:List II}(r:Be [x,y] us):∃u w',us=[u,w']/\RelV x u/\RelV y w':=by
 cases r with
 | cons r1 r2=>
  cases r2 with
  | cons r3 r4=>cases r4;exact⟨_,_,rfl,r1,r3⟩
theorem jS:Gv X (.builtin "abs") (λxs H Q=>∃i,xs=[.int i]/\Q (.int (if i < 0 then -i else i)) H):=by
 intro pins s σ H xs us Q I r h
 obtain⟨i,rfl,q⟩:=h
 obtain⟨u,rfl,t,rfl⟩:=vals1 r
 exact call_abs_int λu tk=>⟨.int (if i < 0 then -i else i),H,I.tok _,⟨_,rfl⟩,q⟩
end
structure Zk(h:LO)(x dx C:IN)(mA:Str->Option II):Prop where
 obj:h.get? x=some (ON C dx)
 ns:h.Ns1 dx mA
 ne:dx≠x
theorem iO{h:LO}{dx:IN}{mA:Str->Option II}(n:h.Ns1 dx mA):∃od,h.get? dx=some od/\∀name,PySem.W.lookIn name od=some (mA name):=by
 obtain⟨o,es,ep,ho,hd,hk,_,hm⟩:=n
 refine⟨o,ho,λname=>?_⟩
 have e:=hm name
 unfold nsFind findBy at e
 rw[<- Array.find?_toList] at e
 unfold PySem.W.lookIn
 rw[hd]
 dsimp only
 split
 ·rename_i y q
  rw[q] at e
  exact congrArg some e
 ·rename_i q
  rw[q] at e
  have a:es.toList.any (·.refKey)=false:=by
   rw[List.any_eq_false]
   intro y hy
   obtain⟨z,t,hkey⟩:=hk y (Array.mem_toList_iff.mp hy)
   simp[DictEntry.refKey,hkey]
  have a':¬ es.toList.any (·.refKey)=true:=by rw[a];exact IZ
  rw[if_neg a']
  exact congrArg some e
theorem Zk.look{h:LO}{x dx C:IN}{mA:Str->Option II}(I:Zk h x dx C mA):∃od,PySem.W.InstAt h x (ON C dx) C (some od)/\∀name,PySem.W.lookIn name od=some (mA name):=
 let ⟨od,ho,hl⟩:=iO I.ns
 ⟨od,⟨I.obj,rfl,rfl,ho⟩,hl⟩
section
variable {prog:JJ} {w:KL} {A:KG} {E:II->IL->Prop} {s:IL} {K:IG} {x dx C f:IN} {mA:Str->Option II} {name:Str} {v:II}
theorem tO{expr:Bool}{Q:II->IL->Prop}(X:K.In s.heap)(I:Zk s.heap x dx C mA)(hg:PySem.W.plainGet K C name=true)(hh:PySem.W.hasDictIn K C=true)(ha:LH K (.ref C) name=some none)(hv:mA name=some v)(hv':PySem.W.handedIn v=true)(h:Q v { s with toks:=s.toks+1 }):
 JT (JV prog w) A (getAttr (.ref x) name expr) Q E s:=by
 obtain⟨od,J,hl⟩:=I.look
 exact PySem.W.get_value X J (PySem.W.plainGet_of hg).1 (PySem.W.findObj_own hh ha rfl (by rw[hl,hv])) hv' h
theorem oV{pl:Sem Bool}{Q:II×List II->IL->Prop}(X:K.In s.heap)(I:Zk s.heap x dx C mA)(hg:PySem.W.plainGet K C name=true)(hf:LH K (.ref C) name=some (some (.ref f)))(ht:PySem.W.isFn K (.ref f)=true)(hv:mA name=none)(h:Q (.ref f,[.ref x]) s):
 JT (JV prog w) A (getMethod (.ref x) name pl) Q E s:=by
 obtain⟨od,J,hl⟩:=I.look
 exact PySem.W.method_fn X J (PySem.W.plainGet_of hg).1 (PySem.W.plainGet_of hg).2 hf (beq_iff_eq.mp ht) (by show (PySem.W.lookIn name od).map (·.isSome)=some false;rw[hl,hv];rfl) h
theorem tV{ns:List Str}{Q:Unit->IL->Prop}(X:K.In s.heap)(I:Zk s.heap x dx C mA)(hs:LH K (.ref C) "__setattr__" = some (some (.builtin "object.__setattr__")))(hp:PySem.W.plainOver K C=true)(ht:PySem.W.takerIn K C name=some none)(hh:PySem.W.hasDictIn K C=true)(hw:PySem.Within mA ns)(hsz:ns.length<=IK)(h:∀h',Zk h' x dx C (λy=>if y=name then some v else mA y)->OQ dx s.heap h'->Q () { s with heap:=h',toks:=s.toks+2 }):
 JT (JV prog w) A (setAttr (.ref x) name v) Q E s:=by
 obtain⟨od,J,hl⟩:=I.look
 refine PySem.W.set_plain X J hs (PySem.W.osa_open (s:={ s with toks:=s.toks+1 }) (r:=none) X J hp ht λb=>?_)
 obtain⟨cd,hc,hd'⟩:=PySem.W.any_some hh
 have hx:s.heap.get? x=some ⟨.ref C,some dx,.plain,#[]⟩:=I.obj
 refine IF (JA (IF (IF (wpAny_loadPart hx (IF (PySem.W.Looks.here (s:={ s with toks:=s.toks+1 }) (PySem.W.looks_clsIn X hc) ?_))))))
 rw[hd']
 refine JA (a:=some dx) (IF (JA (IF ?_)))
 refine wpAny_nsSet1 (s:={ s with toks:=s.toks+1 }) I.ns λh' hn2 hs2=>?_
 obtain⟨oD,esD,epD,hoD,hdD,hcD⟩:=hn2.count (PySem.Within.cons name v hw)
 refine IF (wpAny_lookBehind hoD (by rw[hdD];exact pastItsLine_dict (JR hcD (by rw[KH];omega))) ?_)
 exact JA (h _ ⟨(hs2.2 _ (KO I.ne)).trans I.obj,hn2,I.ne⟩ hs2)
theorem lA{R:Result->IL->Prop}{vs:List II}{kw:List (Str×II)}(X:K.In s.heap)(hm:PySem.W.makesIn K C=true)(hi:LH K (.ref C) "__init__" = some (some (.ref f)))(hf:PySem.W.typeIn K (.ref f)=some (.type "function"))(h:RE (JV prog w) (A.under (.builtin "type.__call__" ⟨.ref C::vs,kw⟩)) (.call (.ref f) ⟨.ref (s.heap.objs.size+1)::vs,kw⟩) (PySem.W.InitBack (s.heap.objs.size+1) R)
  { s with heap:=(s.heap.push NC).push (ON C s.heap.objs.size) }):
 RE (JV prog w) A (.call (.ref C) ⟨vs,kw⟩) R s:=by
 obtain⟨hh,g,d,t,os⟩:=s
 exact PySem.W.make_core (PySem.W.makes_of X hm) (PySem.W.looks_findIn X hi) (λself=>PySem.W.bind_fn X self hf) (.inl rfl) h
end
def Ex(f:Str)(v:V):List (Str×V)->List (Str×V)
 | []=>[(f,v)]
 | (g,x)::r=>if g=f then (g,v)::r else (g,x)::Ex f v r
theorem Nd(f g:Str)(v:V):∀fs:List (Str×V),(Ex f v fs).lookup g=if g=f then some v else fs.lookup g
 | []=>by
  show QM g [(f,v)]=_
  by_cases h:g=f
  ·have hb:(g == f)=true:=beq_iff_eq.mpr h
   simp only[QM,hb,if_pos h]
  ·have hb:(g == f)=false:=beq_eq_false_iff_ne.mpr h
   simp only[QM,hb,if_neg h]
 | (k,x)::r=>by
  have ih:=Nd f g v r
  rw[show Ex f v ((k,x)::r)=(if k=f then (k,v)::r else (k,x)::Ex f v r) from rfl]
  by_cases hk:k=f
  ·rw[if_pos hk]
   by_cases h:g=k
   ·have hb:(g == k)=true:=beq_iff_eq.mpr h
    simp only[QM,hb,if_pos (h.trans hk)]
   ·have hb:(g == k)=false:=beq_eq_false_iff_ne.mpr h
    simp only[QM,hb,if_neg (λe:g=f=>h (e.trans hk.symm))]
  ·rw[if_neg hk]
   by_cases h:g=k
   ·have hb:(g == k)=true:=beq_iff_eq.mpr h
    simp only[QM,hb,if_neg (λe:g=f=>hk (h.symm.trans e))]
   ·have hb:(g == k)=false:=beq_eq_false_iff_ne.mpr h
    simp only[QM,hb]
    exact ih
theorem Mw(f:Str)(v:V):∀fs:List (Str×V),f∈(Ex f v fs).map (·.1)/\∀g,g∈fs.map (·.1)->g∈(Ex f v fs).map (·.1)
 | []=>⟨by simp[Ex],λg h=>by simp at h⟩
 | (k,x)::r=>by
  obtain⟨i1,i2⟩:=Mw f v r
  rw[show Ex f v ((k,x)::r)=(if k=f then (k,v)::r else (k,x)::Ex f v r) from rfl]
  by_cases hk:k=f
  ·rw[if_pos hk]
   subst hk
   exact⟨by simp,λg h=>by simpa using h⟩
  ·rw[if_neg hk]
   refine⟨?_,λg h=>?_⟩
   ·rw[KR]
    exact JC _ i1
   ·rw[KR] at h ⊢
    rcases IQ.mp h with e | e
    ·exact IQ.mpr (.inl e)
    ·exact JC _ (i2 g e)
theorem Fz(f:Str)(v:V):∀fs:List (Str×V),(Ex f v fs).length<=fs.length+1
 | []=>by simp[Ex]
 | (k,x)::r=>by
  have ih:=Fz f v r
  rw[show Ex f v ((k,x)::r)=(if k=f then (k,v)::r else (k,x)::Ex f v r) from rfl]
  by_cases hk:k=f
  ·rw[if_pos hk,KH,KH];omega
  ·rw[if_neg hk,KH,KH];omega
theorem Hu.some_of{v:V}{o:Option II}(r:Hu (some v) o):∃u,o=some u/\RelV v u:=by
 cases o with
 | none=>exact(show False from r).elim
 | some u=>exact⟨u,rfl,r⟩
theorem Hu.none_of{o:Option II}(r:Hu none o):o=none:=by
 cases o with
 | none=>rfl
 | some u=>exact(show False from r).elim
theorem iT{v:V}{u:II}(r:RelV v u):PySem.W.handedIn u=true:=by
 cases v with
 | non=>cases (show u=LX from r);rfl
 | bl b=>cases (show u=Value.bool b from r);rfl
 | int i=>obtain⟨t,e⟩:=(show ∃t,u=Value.int i t from r);cases e;rfl
 | str x=>obtain⟨t,e⟩:=(show ∃t,u=Value.str x t from r);cases e;rfl
 | byt b=>obtain⟨t,e⟩:=(show ∃t,u=Value.bytes b t from r);cases e;rfl
 | flt b=>obtain⟨t,e⟩:=(show ∃t,u=Value.float b t from r);cases e;rfl
 | ref a=>cases (show u=JD a from r);rfl
 | ty n=>cases (show u=NR n from r);rfl
section
variable {P:JJ} {w:KL} {H H':Hp} {h h':LO} {a C dx:IN} {fs fs':List (Str×V)}
theorem Ob(hok:Km P w H h)(e:H a=some (.ins C dx fs)):∃mA,Zk h a dx C mA/\(∀f,Hu (fs.lookup f) (mA f))/\PySem.Within mA (fs.map (·.1))/\fs.length<=1000/\H dx=some (.own a):=by
 obtain⟨d,z,ne,ob,mA,n,r,q⟩:=(show Cz P w H h a (.ins C dx fs) from hok a _ e)
 exact⟨mA,⟨ob,n,ne⟩,r,q,z,d⟩
end
structure Vk(K:IG)(C:IN):Prop where
 pg:PySem.W.plainGet K C Str.empty=true
 hd:PySem.W.hasDictIn K C=true
 po:PySem.W.plainOver K C=true
 sa:LH K (.ref C) "__setattr__" = some (some (.builtin "object.__setattr__"))
theorem Vk.get{K:IG}{C:IN}(c:Vk K C)(f:Str):PySem.W.plainGet K C f=true:=c.pg
def Eh(K:IG)(C:IN)(f:Str):Prop:=LH K (.ref C) f=some none
theorem Eh.taker{K:IG}{C:IN}{f:Str}(n:Eh K C f):PySem.W.takerIn K C f=some none:=by
 unfold PySem.W.takerIn
 rw[show LH K (.ref C) f=some none from n]
 rfl
structure Cr(K:IG)(C:IN)(m:Str)(f:IN):Prop where
 at_:LH K (.ref C) m=some (some (.ref f))
 fn:PySem.W.isFn K (.ref f)=true
 kp:IR K (.ref f)=true
section
variable {X:Cx} {pins:List (IN×Obj)} {σ:St} {H:Hp} {s:IL} {a C dx:IN} {fs:List (Str×V)} {f:Str} {v:V} {A:KG} {E:II->IL->Prop}
theorem aG{b:Bool}{Q:II->IL->Prop}(I:Inv X pins σ H s)(e:H a=some (.ins C dx fs))(c:Vk X.K C)(n:Eh X.K C f)(l:fs.lookup f=some v)(h:∀u s',Inv X pins σ H s'->RelV v u->Q u s'):JT (JV X.prog X.w) A (getAttr (.ref a) f b) Q E s:=by
 obtain⟨mA,O,r,_,_,_⟩:=Ob I.hok e
 obtain⟨u,hu,ru⟩:=Hu.some_of (v:=v) (o:=mA f) (by rw[<- l];exact r f)
 exact tO I.kIn O (c.get f) c.hd n hu (iT ru) (h u _ (I.tok _) ru)
theorem Fu{m:Str}{g:IN}{pl:Sem Bool}{Q:II×List II->IL->Prop}(I:Inv X pins σ H s)(e:H a=some (.ins C dx fs))(c:Vk X.K C)(k:Cr X.K C m g)(l:fs.lookup m=none)(h:Q (.ref g,[.ref a]) s):JT (JV X.prog X.w) A (getMethod (.ref a) m pl) Q E s:=by
 obtain⟨mA,O,r,_,_,_⟩:=Ob I.hok e
 have hn:mA m=none:=Hu.none_of (by rw[<- l];exact r m)
 exact oV I.kIn O (c.get m) k.at_ k.fn hn h
theorem aT{y:V}{u:II}{Q:Unit->IL->Prop}(I:Inv X pins σ H s)(e:H a=some (.ins C dx fs))(c:Vk X.K C)(n:Eh X.K C f)(hl:fs.length < 1000)(ry:RelV y u)(h:∀s',Inv X pins σ (upd H a (.ins C dx (Ex f y fs))) s'->Q () s'):JT (JV X.prog X.w) A (setAttr (.ref a) f u) Q E s:=by
 obtain⟨mA,O,r,wi,_,ho⟩:=Ob I.hok e
 have hz:(fs.map (·.1)).length<=IK:=by rw[IM,JB];omega
 refine tV I.kIn O c.sa c.po n.taker c.hd wi hz λh' O' sb=>h _ ?_
 have hd:∃o,h'.get? dx=some o:=let ⟨o,_,_,e',_⟩:=O'.ns;⟨o,e'⟩
 refine I.write (x:=a) (e:=dx) (by rw[e];exact NI) (.inr ho) (λb q hb z=>(sb.2 b hb).trans z) hd ?_
 refine⟨by rw[Ai O.ne];exact ho,?_,O.ne,O'.obj,_,O'.ns,λg=>?_,λg hg=>?_⟩
 ·have:=Fz f y fs;omega
 ·show Hu ((Ex f y fs).lookup g) (if g=f then some u else mA g)
  rw[Nd]
  by_cases q:g=f
  ·rw[if_pos q,if_pos q];exact ry
  ·rw[if_neg q,if_neg q];exact r g
 ·by_cases q:g=f
  ·rw[q];exact(Mw f y fs).1
  ·refine(Mw f y fs).2 g (wi g λz=>hg ?_)
   show (if g=f then some u else mA g)=none
   rw[if_neg q];exact z
theorem Inv.made(I:Inv X pins σ H s):Inv X pins σ (upd (upd H s.heap.objs.size (.own (s.heap.objs.size+1))) (s.heap.objs.size+1) (.ins C s.heap.objs.size []))
 { s with heap:=(s.heap.push NC).push (ON C s.heap.objs.size) }:=by
 have e1:(s.heap.push NC).get? s.heap.objs.size=some NC:=JI s.heap rfl
 have e2:((s.heap.push NC).push (ON C s.heap.objs.size)).get? (s.heap.objs.size+1)=some (ON C s.heap.objs.size):=by
  have:=JI (s.heap.push NC) (o:=ON C s.heap.objs.size) rfl
  rwa [NM] at this
 have e3:(s.heap.push NC).Ns s.heap.objs.size (λ_=>none):=⟨NC,#[],_,e1,rfl,(λe he=>absurd he (by simp)),λ_=>rfl⟩
 have I1:=I.laid (a:=s.heap.objs.size) (o:=.own (s.heap.objs.size+1)) (h':=s.heap.push NC) (t':=s.toks) (λb u q=>IJ _ q) (IP _) ⟨_,e1⟩
 refine I1.laid (a:=s.heap.objs.size+1) (o:=.ins C s.heap.objs.size []) (t':=s.toks) (λb u q=>IJ _ q) (PP (NM _ _)) ?_
 have ne:s.heap.objs.size≠s.heap.objs.size+1:=JP (QJ _)
 refine⟨by rw[Ai ne,Aa],KI _,ne,e2,λ_=>none,(Heap.Ns1.of_empty e3).at λo q=>IJ _ q,λ_=>NI,λy hy=>absurd rfl hy⟩
theorem rK{prog:JJ}{w:KL}{env:Env}{e:Expr}{f:Str}{pos:Pos}{s:IL}{Q:II->IL->Prop}(hb:RG e f env (OA e env)=OA e env)(h:JT (JV prog w) A (OA e env) (λo s₁=>JT (JV prog w) A (getAttr o f true) Q E s₁) E s):JT (JV prog w) A (OA (.Attribute e f pos) env) Q E s:=
 Attribute_any_ h (by rw[arm_eval_Attribute,hb])
end
def BY(K:IG)(ta:TE)(f:Str):TE:=λσ H Q=>ta σ H λx H1=>∃a C dx fs v,x=.ref a/\H1 a=some (.ins C dx fs)/\Vk K C/\Eh K C f/\fs.lookup f=some v/\Q v H1
def FJ(K:IG)(ta tv:TE)(f:Str):TS:=λD σ H=>tv σ H λy H1=>ta σ H1 λx H2=>∃a C dx fs,x=.ref a/\H2 a=some (.ins C dx fs)/\Vk K C/\Eh K C f/\fs.length < 1000 /\
 D.nx σ (upd H2 a (.ins C dx (Ex f y fs)))
section
variable {X:Cx} {o e value:Expr} {f:Str} {pos pos' tpos:Pos} {ta tv:TE}
theorem Cp(he:PE X e ta)(hb:RG e f X.env (OA e X.env)=OA e X.env):PE X (.Attribute e f pos) (BY X.K ta f):=by
 intro pins s σ H Q I h
 refine rK hb (Bx (he pins s σ H _ I h) λu s1 ⟨x,H1,I1,rx,a,C,dx,fs,v,ex,ea,c,n,l,q⟩=>?_)
 subst ex
 obtain rfl:u=JD a:=rx
 exact aG I1 ea c n l λu' s2 I2 ru=>⟨v,H1,I2,ru,q⟩
theorem Gz(ha:PE X o ta)(hv:PE X value tv)(hs:swapsWith value (some (.Attribute o f pos')) pos.line X.env=pure false):PS X (.Assign [.Attribute o f pos'] value pos) (FJ X.K ta tv f):=by
 intro pins s σ H D I h
 refine plainObj_wpAny_Assign_Attribute (Bx (hv pins s σ H _ I h) λu s1 ⟨y,H1,I1,ry,q⟩=>Bx (ha pins s1 σ H1 _ I1 q) λov s2 ⟨x,H2,I2,rx,a,C,dx,fs,ex,ea,c,n,l,q2⟩=>?_) hs
 subst ex
 obtain rfl:ov=JD a:=rx
 exact aT I2 ea c n l ry λs3 I3=>⟨σ,_,I3,q2⟩
theorem wQ{pl:Sem Bool}{m:Str}{apos:Pos}{args:List Expr}{pins:List (IN×Obj)}{s:IL}{σ:St}{H:Hp}{Q:II->IL->Prop}{te:TE}(he:PE X e te)(I:Inv X pins σ H s)(h:te σ H λx H1=>∃a C dx fs g,x=.ref a/\H1 a=some (.ins C dx fs)/\Vk X.K C/\Cr X.K C m g/\fs.lookup m=none /\
  ∀s1,Inv X pins σ H1 s1->JT (JV X.prog X.w) X.A (callWith pos (.ref g) [.ref a] (PD pos (JS args X.env)) (backToKw pos (QC [] X.env))) Q X.xe s1)(ht:OA (.Call (.Attribute e m apos) args [] pos) X.env=(do
  let ov <- OA e X.env
  standAt apos.atName
  let (f,first) <- holding [ov] (getMethod ov m pl)
  callWith pos f first (PD pos (JS args X.env)) (backToKw pos (QC [] X.env)))):
 JT (JV X.prog X.w) X.A (OA (.Call (.Attribute e m apos) args [] pos) X.env) Q X.xe s:=by
 refine OD (pl:=pl) (Bx (he pins s σ H _ I h) λu s1 ⟨x,H1,I1,rx,a,C,dx,fs,g,ex,ea,c,k,l,q⟩=>?_) ht
 subst ex
 obtain rfl:u=JD a:=rx
 exact Fu I1 ea c k l (q s1 I1)
end
section
variable {X:Cx} {pins:List (IN×Obj)} {σ:St} {H:Hp} {s:IL} {A:KG} {E:II->IL->Prop} {Q:II->IL->Prop} {c:II} {b:Bool}
inductive Lg(K:IG)(H:Hp):V->II->Prop where
 | non:Lg K H .non (.type "NoneType")
 | bl (x:Bool):Lg K H (.bl x) (.type "bool")
 | int (i:Int):Lg K H (.int i) (.type "int")
 | str (x:Str):Lg K H (.str x) (.type "str")
 | flt (x:UInt64):Lg K H (.flt x) (.type "float")
 | lst {a:IN} {xs:List V} (e:H a=some (.lst xs)):Lg K H (.ref a) (.type "list")
 | frz {a:IN} {o:Obj} {xs:List V} (e:H a=some (.frz o (.lst xs))):Lg K H (.ref a) (.type "list")
 | tup {a:IN} {xs:List V} (e:H a=some (.tup xs)):Lg K H (.ref a) (.type "tuple")
 | dK {a:IN} {kvs:List (Key×V)} (e:H a=some (.dK kvs)):Lg K H (.ref a) (.type "dict")
 | dT {a:IN} {kvs:List (List Key×V)} (e:H a=some (.dT kvs)):Lg K H (.ref a) (.type "dict")
 | ins {a C dx:IN} {fs:List (Str×V)} (e:H a=some (.ins C dx fs)) (cl:Vk K C) (ha:LH K (.ref C) "__class__" = some (some (.builtin "object.__class__")))
  (hn:PySem.W.specialIn K (.builtin "object.__class__") "__get__" = some (some (.builtin "getset_descriptor.__get__"))) (htk:PySem.W.takesIn K (.builtin "object.__class__")=some true)
  (hm:PySem.W.mroIn K C (.type "object")=some true):Lg K H (.ref a) (.ref C)
theorem gS{x:V}{u t:II}(I:Inv X pins σ H s)(rx:RelV x u)(ty:Lg X.K H x t)(e:NT X.K t c=some b)(h:∀tk,Q (.bool b) { s with toks:=tk }):
 JT (JV X.prog X.w) A (call (.builtin "isinstance") [u,c]) Q E s:=by
 cases ty with
 | non=>cases (show u=LX from rx);exact MR PySem.W.kitx_none I.kIn NI e (λz=>nomatch z) h
 | bl y=>cases (show u=Value.bool y from rx);exact MR PySem.W.kitx_bool I.kIn NI e (λz=>nomatch z) h
 | int i=>obtain⟨t,q⟩:=(show ∃t,u=Value.int i t from rx);cases q;exact MR PySem.W.kitx_int I.kIn NI e (λz=>nomatch z) h
 | str y=>obtain⟨t,q⟩:=(show ∃t,u=Value.str y t from rx);cases q;exact MR PySem.W.kitx_str I.kIn NI e (λz=>nomatch z) h
 | flt y=>obtain⟨t,q⟩:=(show ∃t,u=Value.float y t from rx);cases q;exact MR PySem.W.kitx_float I.kIn NI e (λz=>nomatch z) h
 | @lst a xs ea=>
  cases (show u=JD a from rx)
  obtain⟨_,_,n,_,h1⟩:=(show Cz X.prog X.w H s.heap a (.lst xs) from I.hok a _ ea)
  exact MR PySem.W.kitx_list I.kIn ⟨_,h1,rfl⟩ e (λz=>nomatch z) h
 | @frz a ob xs ea=>
  cases (show u=JD a from rx)
  obtain⟨_,_,_,n,_,h1⟩:=(show Cz X.prog X.w H s.heap a (.frz ob (.lst xs)) from I.hok a _ ea)
  exact MR PySem.W.kitx_list I.kIn ⟨_,h1,rfl⟩ e (λz=>nomatch z) h
 | @tup a xs ea=>
  cases (show u=JD a from rx)
  obtain⟨_,_,_,p⟩:=(show Cz X.prog X.w H s.heap a (.tup xs) from I.hok a _ ea)
  obtain⟨o,h1,h2,_⟩:=p
  exact MR PySem.W.kitx_tuple I.kIn ⟨o,h1,h2⟩ e (λz=>nomatch z) h
 | @dK a kvs ea=>
  cases (show u=JD a from rx)
  obtain⟨_,_,vs,_,p⟩:=(show Cz X.prog X.w H s.heap a (.dK kvs) from I.hok a _ ea)
  obtain⟨o,es,ep,h1,h2,_⟩:=p
  exact MR PySem.W.kitx_dict I.kIn ⟨o,h1,h2.1⟩ e (λz=>nomatch z) h
 | @dT a kvs ea=>
  cases (show u=JD a from rx)
  obtain⟨_,_,xs,_,o,es,ep,h1,h2,_⟩:=(show Cz X.prog X.w H s.heap a (.dT kvs) from I.hok a _ ea)
  exact MR PySem.W.kitx_dict I.kIn ⟨o,h1,h2.1⟩ e (λz=>nomatch z) h
 | @ins a C dx fs ea cl ha hn htk hm=>
  cases (show u=JD a from rx)
  obtain⟨mA,O,_⟩:=Ob I.hok ea
  obtain⟨od,J,_⟩:=O.look
  exact MR (PySem.W.kitx_own (cl.get _) cl.hd ha hn htk hm) I.kIn J e (λz=>nomatch z) h
end
structure Cj(k:Nat)(A:KG):Prop where
 dp:A.depth+3 * k+5 < recursionLimit
 un:A.units+16 * k+200 < cLine
theorem Cj.mono{j k:Nat}{A:KG}(r:Cj k A)(h:j<=k):Cj j A:=⟨by have:=r.dp;omega,by have:=r.un;omega⟩
theorem Cj.deeper{k:Nat}{A:KG}(r:Cj (k+1) A)(env:Env):Cj k (A.deeper env):=
 ⟨by have:=r.dp;show A.depth+1+3 * k+5 < _;omega,by have:=r.un;show A.units+3+16 * k+200 < _;omega⟩
theorem Zw{A:KG}{C:IN}{us:List II}{kw:List (Str×II)}:(A.under (.builtin "type.__call__" ⟨.ref C::us,kw⟩)).depth=A.depth+1:=by
 first | rfl | simp[Around.under,Code.weight,Code.isCreation,Code.isGuard,Code.isCaller,Code.frames,Code.isFrame,guardIds]
theorem Zb{A:KG}{C:IN}{us:List II}{kw:List (Str×II)}:(A.under (.builtin "type.__call__" ⟨.ref C::us,kw⟩)).units=A.units+1:=by
 first | rfl | simp[Around.under,Code.cUnits,Code.frames,Code.isFrame]
theorem Cj.make{k:Nat}{A:KG}(r:Cj (k+1) A)(C:IN)(us:List II)(kw:List (Str×II)):Cj k (A.under (.builtin "type.__call__" ⟨.ref C::us,kw⟩)):=
 ⟨by have:=r.dp;rw[Zw];omega,by have:=r.un;rw[Zb];omega⟩
theorem Cj.depth{k:Nat}{A:KG}(r:Cj k A):A.depth < recursionLimit:=by have:=r.dp;omega
theorem Cj.units{k:Nat}{A:KG}(r:Cj k A):A.units+64 < cLine:=by have:=r.un;omega
def Wk:TA:=λ_ H Q=>Q [] H
def Jc(ta:TE)(tr:TA):TA:=λσ H Q=>ta σ H λx H1=>tr σ H1 λxs H2=>Q (x::xs) H2
section
variable {X:Cx} {e:Expr} {es:List Expr} {te:TE} {t:TA} {pos:Pos}
theorem Hn:PA X [] Wk:=λ_ _ _ _ H Q I h=>Calls.spliced_nil ⟨[],H,I,.nil,h⟩
theorem Er(ha:PE X e te)(hr:PA X es t)(hs:JS (e::es) X.env=(false,OA e X.env)::JS es X.env:=by rfl):PA X (e::es) (Jc te t):=by
 intro pos pins s σ H Q I h
 rw[hs]
 show JT _ _ (spliced ((false,OA e X.env)::PD pos (JS es X.env))) _ _ s
 refine OR (Bx (ha pins s σ H _ I h) λu s1 ⟨x,H1,I1,r1,q1⟩=>?_)
 exact Bx (hr pos pins s1 σ H1 _ I1 q1) λus s2 ⟨xs,H2,I2,r2,q2⟩=>⟨x::xs,H2,I2,.cons r1 r2,q2⟩
def FN(t:TA):TE:=λσ H Q=>t σ H λxs H1=>xs.length<=IK/\∀p,H1 p=none->Q (.ref p) (upd H1 p (.tup xs))
def oS(t:TA):TE:=λσ H Q=>t σ H λxs H1=>xs.length<=IK/\∀p,H1 p=none->Q (.ref p) (upd H1 p (.lst xs))
theorem Bb{x1}(h:PA X es t):PE X (.Tuple es x1 pos) (FN t):=by
 intro pins s σ H Q I hq
 refine wpAny_Tuple_spliced (Bx (h pos pins s σ H _ I hq) λus s1 ⟨xs,H1,I1,r,z,q⟩=>⟨by rw[<- r.length];exact z,?_⟩)
 have hf:H1 s1.heap.objs.size=none:=I1.hok.fresh (IP _)
 refine⟨.ref s1.heap.objs.size,upd H1 s1.heap.objs.size (.tup xs),I1.laid (t':=s1.toks) (λb u e=>IJ _ e) (IP _) ?_,rfl,q _ hf⟩
 exact⟨z,us,r,⟨_,JI _ rfl,rfl,_,rfl⟩⟩
theorem Bt(h:PA X es t):PE X (.List es pos) (oS t):=by
 intro pins s σ H Q I hq
 refine wpAny_List_spliced (Bx (h pos pins s σ H _ I hq) λus s1 ⟨xs,H1,I1,r,z,q⟩=>⟨by rw[<- r.length];exact z,?_⟩)
 have hf:H1 s1.heap.objs.size=none:=I1.hok.fresh (IP _)
 refine⟨.ref s1.heap.objs.size,upd H1 s1.heap.objs.size (.lst xs),I1.laid (t':=s1.toks) (λb u e=>IJ _ e) (IP _) ?_,rfl,q _ hf⟩
 exact⟨z,us,0,r,JI _ rfl⟩
end
abbrev Sp:=List V->Hp->VK->XK->Prop
structure Vj where
 f:List Env->Hp->IL->XK->II->IL->Prop
 st:Bool
structure Wl(CX:Vj)(base:LO)(k:Nat)(A:KG):Prop where
 rm:Cj k A
 st:CX.st=true->A.handled=none
 hd:Bm A base
theorem Wl.mono{CX:Vj}{base:LO}{j k:Nat}{A:KG}(r:Wl CX base k A)(h:j<=k):Wl CX base j A:=⟨r.rm.mono h,r.st,r.hd⟩
structure Uu(P:JJ)(w:KL)(K:IG)(mg:Str->Option II)(base:LO)(A:KG)(outer:List Env)(s:IL)(H:Hp):Prop where
 frames:A.frames=some outer
 mod:Mod K mg base
 bs:∀b o,base.get? b=some o->s.heap.get? b=some o/\H b=none
 bsz:base.objs.size<=s.heap.objs.size
 funs:s.heap.FunFrames base outer
 frf:∀b∈Qy outer,H b=none
 hok:Km P w H s.heap
 bare:AllBare s.gens
def CE(outer:List Env)(P:JJ)(w:KL)(H:Hp)(s:IL)(Q:VK)(u:II)(s':IL):Prop:=
 ∃v H',s'.os=s.os/\AllBare s'.gens/\Un (Qy outer) [] H H' s.heap s'.heap/\Km P w H' s'.heap/\RelV v u/\Q v H'
def CR(CX:Vj)(outer:List Env)(P:JJ)(w:KL)(H:Hp)(s:IL)(Q:VK)(E:XK)(r:Result)(s':IL):Prop:=
 match r with
 | .ok (.ret u)=>CE outer P w H s Q u s'
 | .ok _=>False
 | .error e=>CX.f outer H s E e s'
structure Aj(P:JJ)(w:KL)(K:IG)(mg:Str->Option II)(base:LO)(CX:Vj)(k:Nat)(f:IN)(fd:JW)(ps:List Str)(sp:Sp):Prop where
 len:∀vs H Q E,sp vs H Q E->vs.length=ps.length
 run:∀(A:KG)(outer:List Env)(s:IL)(H:Hp)(args:Args)(us:List II)(vs:List V)(Q:VK)(E:XK),Wl CX base k A->Uu P w K mg base A outer s H->BindsTo s fd args (ps.zip us)->Be vs us->sp vs H Q E ->
  RE (JV P w) A (.call (.ref f) args) (CR CX outer P w H s Q E) s
theorem Aj.mono{P:JJ}{w:KL}{K:IG}{mg:Str->Option II}{base:LO}{CX:Vj}{j k:Nat}{f:IN}{fd:JW}{ps:List Str}{sp:Sp}(F:Aj P w K mg base CX j f fd ps sp)(h:j<=k):
 Aj P w K mg base CX k f fd ps sp:=⟨F.len,λA outer s H args us vs Q E hr=>F.run A outer s H args us vs Q E (hr.mono h)⟩
theorem Uu.make{P:JJ}{w:KL}{K:IG}{mg:Str->Option II}{base:LO}{A:KG}{outer:List Env}{s:IL}{H:Hp}(e:Uu P w K mg base A outer s H)(C:IN)(us:List II)(kw:List (Str×II)):
 Uu P w K mg base (A.under (.builtin "type.__call__" ⟨.ref C::us,kw⟩)) outer s H:=⟨by first | exact e.frames | (simpa [Around.under,Code.envs,Code.isFrame,pushEnvs] using e.frames),e.mod,e.bs,e.bsz,e.funs,e.frf,e.hok,e.bare⟩
section
variable {X:Cx} {pins:List (IN×Obj)} {σ:St} {H:Hp} {s s':IL}
theorem Inv.env0(I:Inv X pins σ H s):Uu X.prog X.w X.K X.mg X.base X.A X.stack s H:=
 ⟨I.ok.frames,I.ok.mod,I.bs,JR I.ok.bsz I.sz,I.stack,I.stkFree,I.hok,I.bare⟩
theorem Inv.after{Q:VK}{u:II}(I:Inv X pins σ H s)(h:CE X.stack X.prog X.w H s Q u s'):EP X pins σ Q u s':=by
 obtain⟨v,H',os,bare,un,hok,r,q⟩:=h
 obtain⟨hh,g,d,t,os'⟩:=s'
 obtain rfl:os'=s.os:=os
 exact⟨v,H',I.call (h':=hh) (g':=g) (d':=d) (t':=t) (ch:=[]) un hok bare (λb z=>absurd z (by simp)),r,q⟩
end
def wM(sp:Sp)(dvs:List V)(E:XK)(t:TA):TE:=λσ H Q=>t σ H λvs H1=>sp (vs++dvs) H1 Q E
def qI(C:IN)(m:Str)(sp:Sp)(dvs:List V)(E:XK)(ta:TE)(t:TA):TE:=λσ H Q=>ta σ H λx H1=>∃a dx fs,x=.ref a/\H1 a=some (.ins C dx fs)/\fs.lookup m=none /\
 t σ H1 λvs H2=>sp (x::(vs++dvs)) H2 Q E
def wV(C:IN)(sp:Sp)(dvs:List V)(E:XK)(t:TA):TE:=λσ H Q=>t σ H λvs H1=>∀x dx,H1 x=none->H1 dx=none->dx≠x ->
 sp (.ref x::(vs++dvs)) (upd (upd H1 dx (.own x)) x (.ins C dx [])) (λv H2=>v=.non/\Q (.ref x) H2) E
def Binds(K:IG)(fd:JW)(ps:List Str)(ds:List II):Prop:=
 ∀(s:IL)(us:List II),K.In s.heap->(us++ds).length=ps.length->BindsTo s fd ⟨us,[]⟩ (ps.zip (us++ds))
theorem Binds.all{K:IG}{fd:JW}{ps:List Str}(h:∀us:List II,us.length=ps.length->bindArgs fd ⟨us,[]⟩=pure (ps.zip us)):Binds K fd ps []:=λs us _ hl=>by
 rw[LA] at hl ⊢
 exact .of_eq (h us hl)
structure Ho(CX:Vj)(X:Cx)(E:XK):Prop where
 cl:X.calm=true
 st:CX.st=true->X.sx=true
 go:∀(pins:List (IN×Obj))(σ:St)(H:Hp)(s:IL)(e:II)(s':IL),Inv X pins σ H s->CX.f X.stack H s E e s'->X.xe e s'
theorem Ho.room{CX:Vj}{X:Cx}{E:XK}{pins:List (IN×Obj)}{σ:St}{H:Hp}{s:IL}{k:Nat}(p:Ho CX X E)(I:Inv X pins σ H s)(r:Cj k X.A):Wl CX X.base k X.A:=⟨r,λz=>I.ok.st (p.st z),I.ok.hd p.cl⟩
section
variable {X:Cx} {CX:Vj} {k:Nat} {f C:IN} {fd:JW} {ps:List Str} {sp:Sp} {dvs:List V} {ds:List II} {E:XK} {x m:Str} {p pos apos:Pos} {e o:Expr} {es:List Expr} {ta:TE} {t:TA}
theorem pB{pins:List (IN×Obj)}{σ:St}{H:Hp}{s:IL}{Q:VK}{us:List II}{vs:List V}(F:Aj X.prog X.w X.K X.mg X.base CX k f fd ps sp)(hr:Cj k X.A)(hb:Binds X.K fd ps ds)(hd:Be dvs ds)(hx:Ho CX X E)(I:Inv X pins σ H s)(r:Be vs us)(h:sp (vs++dvs) H Q E):JT (JV X.prog X.w) X.A (call (.ref f) us) (EP X pins σ Q) X.xe s:=by
 have r2:Be (vs++dvs) (us++ds):=r.append hd
 have hl:(us++ds).length=ps.length:=by rw[<- r2.length];exact F.len _ _ _ _ h
 refine QZ (OL (F.run X.A X.stack s H ⟨us,[]⟩ (us++ds) (vs++dvs) Q E (hx.room I hr) I.env0 (hb s us I.kIn hl) r2 h) λr s' hq=>?_)
 cases r with
 | error e=>exact hx.go pins σ H s e s' I hq
 | ok fl=>
  cases fl with
  | ret u=>exact I.after hq
  | next=>exact LF hq
  | brk=>exact LF hq
  | cont=>exact LF hq
theorem Dl(F:Aj X.prog X.w X.K X.mg X.base CX k f fd ps sp)(hr:Cj k X.A)(hg:Gl X x)(hm:X.mg x=some (.ref f))(hk:IR X.K (.ref f)=true)(hb:Binds X.K fd ps ds)(hd:Be dvs ds)(hx:Ho CX X E)(ha:PA X (e::es) t)(hdb:(x == ("__debug__" : Str))=false:=by decide)(he:JS (e::es) X.env=(false,OA e X.env)::JS es X.env:=by rfl)(hpl:(PD pos (JS es X.env)).any (·.1)=false:=by rfl):
 PE X (.Call (.Name x p) (e::es) [] pos) (wM sp dvs E t):=by
 intro pins s σ H Q I h
 refine NQ (Hg I hg hm ?_ hdb)
 refine MS (h₀:=X.base) I.ok.mod.kin hk (Bx (ha pos pins s σ H _ I h) λus s1 ⟨vs,H1,I1,r,q⟩=>⟨I1.kIn,?_⟩) he hpl
 exact pB F hr hb hd hx I1 r q
theorem Dv{pl:Sem Bool}(he:PE X o ta)(c:Vk X.K C)(hm:Cr X.K C m f)(F:Aj X.prog X.w X.K X.mg X.base CX k f fd ps sp)(hr:Cj k X.A)(hb:Binds X.K fd ps ds)(hd:Be dvs ds)(hx:Ho CX X E)(ha:PA X (e::es) t)(hst:JS (e::es) X.env=(false,OA e X.env)::JS es X.env:=by rfl)(hpl:(PD pos (JS es X.env)).any (·.1)=false:=by rfl)(ht:OA (.Call (.Attribute o m apos) (e::es) [] pos) X.env=(do
  let ov <- OA o X.env
  standAt apos.atName
  let (f,first) <- holding [ov] (getMethod ov m pl)
  callWith pos f first (PD pos (JS (e::es) X.env)) (backToKw pos (QC [] X.env))):=by rfl):
 PE X (.Call (.Attribute o m apos) (e::es) [] pos) (qI C m sp dvs E ta t):=by
 intro pins s σ H Q I h
 refine OD (pl:=pl) (Bx (he pins s σ H _ I h) λu s1 ⟨x,H1,I1,rx,a,dx,fs,ex,ea,l,q⟩=>?_) ht
 subst ex
 obtain rfl:u=JD a:=rx
 refine Fu I1 ea c hm l ?_
 refine MS (first:=[.ref a]) (h₀:=X.base) I.ok.mod.kin hm.kp (Bx (ha pos pins s1 σ H1 _ I1 q) λus s2 ⟨vs,H2,I2,r,q2⟩=>⟨I2.kIn,?_⟩) hst hpl
 exact pB (us:=.ref a::us) (vs:=.ref a::vs) F hr hb hd hx I2 (.cons rfl r) q2
structure Mk(K:IG)(C f:IN):Prop where
 makes:PySem.W.makesIn K C=true
 init:LH K (.ref C) "__init__" = some (some (.ref f))
 fn:PySem.W.isFn K (.ref f)=true
 kp:IR K (.ref C)=true
theorem Wm{pins:List (IN×Obj)}{σ:St}{H:Hp}{s:IL}{Q:VK}{us:List II}{vs:List V}(M:Mk X.K C f)(F:Aj X.prog X.w X.K X.mg X.base CX k f fd ps sp)(hr:Cj (k+1) X.A)(hb:Binds X.K fd ps ds)(hd:Be dvs ds)(hx:Ho CX X E)(I:Inv X pins σ H s)(r:Be vs us)(h:∀x dx,H x=none->H dx=none->dx≠x->sp (.ref x::(vs++dvs)) (upd (upd H dx (.own x)) x (.ins C dx [])) (λv H2=>v=.non/\Q (.ref x) H2) E):
 JT (JV X.prog X.w) X.A (call (.ref C) us) (EP X pins σ Q) X.xe s:=by
 have hq:=h (s.heap.objs.size+1) s.heap.objs.size (I.hok.fresh (OU _)) (I.hok.fresh (IP _)) (JP (QJ _))
 have I2:=Inv.made (C:=C) I
 have r2:Be (V.ref (s.heap.objs.size+1)::(vs++dvs)) (JD (s.heap.objs.size+1)::(us++ds)):=.cons rfl (r.append hd)
 have hl:(JD (s.heap.objs.size+1)::us++ds).length=ps.length:=by
  have e:=r2.length
  rw[F.len _ _ _ _ hq] at e
  exact e.symm
 refine QZ (lA (f:=f) I.kIn M.makes M.init (beq_iff_eq.mp M.fn) (OL (F.run _ X.stack _ _ ⟨JD (s.heap.objs.size+1)::us,[]⟩ (JD (s.heap.objs.size+1)::(us++ds)) _ _ E ⟨hr.make C us [],λz=>I2.ok.st (hx.st z),I2.ok.hd hx.cl⟩
  (I2.env0.make C us []) (hb _ (JD (s.heap.objs.size+1)::us) I2.kIn hl) r2 hq) λr s' hq'=>?_))
 cases r with
 | error e=>exact hx.go pins σ _ _ e s' I2 hq'
 | ok fl=>
  cases fl with
  | ret u=>
   obtain⟨v,H',I3,rv,ev,q3⟩:=I2.after hq'
   subst ev
   exact⟨rv,⟨V.ref (s.heap.objs.size+1),H',I3,rfl,q3⟩⟩
  | next=>exact LF hq'
  | brk=>exact LF hq'
  | cont=>exact LF hq'
theorem Oc(M:Mk X.K C f)(F:Aj X.prog X.w X.K X.mg X.base CX k f fd ps sp)(hr:Cj (k+1) X.A)(hg:Gl X x)(hm:X.mg x=some (.ref C))(hb:Binds X.K fd ps ds)(hd:Be dvs ds)(hx:Ho CX X E)(ha:PA X (e::es) t)(hdb:(x == ("__debug__" : Str))=false:=by decide)(he:JS (e::es) X.env=(false,OA e X.env)::JS es X.env:=by rfl)(hpl:(PD pos (JS es X.env)).any (·.1)=false:=by rfl):
 PE X (.Call (.Name x p) (e::es) [] pos) (wV C sp dvs E t):=by
 intro pins s σ H Q I h
 refine NQ (Hg I hg hm ?_ hdb)
 refine MS (h₀:=X.base) I.ok.mod.kin M.kp (Bx (ha pos pins s σ H _ I h) λus s1 ⟨vs,H1,I1,r,q⟩=>⟨I1.kIn,?_⟩) he hpl
 exact Wm M F hr hb hd hx I1 r q
theorem oJ(M:Mk X.K C f)(F:Aj X.prog X.w X.K X.mg X.base CX k f fd ps sp)(hr:Cj (k+1) X.A)(hg:Gl X x)(hm:X.mg x=some (.ref C))(hb:Binds X.K fd ps ds)(hd:Be dvs ds)(hx:Ho CX X E)(hdb:(x == ("__debug__" : Str))=false:=by decide):PE X (.Call (.Name x p) [] [] pos) (wV C sp dvs E Wk):=by
 intro pins s σ H Q I h
 refine NQ (Hg I hg hm ?_ hdb)
 exact PySem.W.callWith_K0 I.kIn M.kp (Wm (us:=[]) M F hr hb hd hx I .nil h)
end
section
variable {X:Cx} {CX:Vj} {k:Nat} {f C:IN} {fd:JW} {ps ks:List Str} {sp:Sp} {E:XK} {x m:Str} {p pos apos kpos:Pos} {e o:Expr} {es:List Expr} {kws:List Keyword} {te ta:TE} {t tk:TA} {nm:Option Str}
variable {g:List II->List II->List II} {gV:List V->List V->List V}
end
structure Ap(N P:List Str)(sc:Scope):Prop where
 kind:sc.kind=.function
 co:sc.isCoroutine=false
 gen:sc.isGenerator=false
 nd:N.Nodup
 pre:N.take P.length=P
 par:∀x∈P,sc.names.lookup x=some .local∨sc.names.lookup x=some .cell
 nofree:∀y∈sc.names,y.2 ≠ .free
theorem Rp{kindOf:Str->Option NameKind}{x:Str}:∀ {binds:List (Str×II)} {m:Str->Option II},(∀v,(x,v)∉binds)->bindL kindOf binds m x=m x
 | [],_,_=>rfl
 | (n,v)::r,m,h=>by
  unfold bindL
  rw[Rp λw hw=>h w (JC _ hw)]
  split
  ·have:x≠n:=by rintro rfl;exact h v JM
   simp[this]
  ·rfl
theorem Sa{kindOf:Str->Option NameKind}{x:Str}:∀ {binds:List (Str×II)} {m:Str->Option II},(∀v,(x,v)∉binds)->bindC kindOf binds m x=m x
 | [],_,_=>rfl
 | (n,v)::r,m,h=>by
  unfold bindC
  rw[Sa λw hw=>h w (JC _ hw)]
  split
  ·rfl
  ·have:x≠n:=by rintro rfl;exact h v JM
   simp[this]
theorem Sl{kindOf:Str->Option NameKind}{x:Str}{v:II}:∀ {P:List Str} {vs:List II} {i:Nat} {m:Str->Option II},P.Nodup->P[i]? = some x->vs[i]? = some v->kindOf x=some .local ->
 bindL kindOf (P.zip vs) m x=some v
 | [],_,_,_,_,h,_,_=>by simp at h
 | _::_,[],_,_,_,_,h,_=>by simp at h
 | p::P,w::vs,0,m,nd,h1,h2,hk=>by
  simp at h1 h2;subst h1;subst h2
  show bindL kindOf ((p,w)::P.zip vs) m p=_
  unfold bindL
  rw[Rp λv hv=>(LJ.mp nd).1 (List.of_mem_zip hv).1,if_pos hk]
  simp
 | p::P,w::vs,i+1,m,nd,h1,h2,hk=>by
  show bindL kindOf ((p,w)::P.zip vs) m x=_
  unfold bindL
  exact Sl (i:=i) (LJ.mp nd).2 (by simpa using h1) (by simpa using h2) hk
theorem Sn{kindOf:Str->Option NameKind}{x:Str}{v:II}:∀ {P:List Str} {vs:List II} {i:Nat} {m:Str->Option II},P.Nodup->P[i]? = some x->vs[i]? = some v->kindOf x≠some .local ->
 bindC kindOf (P.zip vs) m x=some v
 | [],_,_,_,_,h,_,_=>by simp at h
 | _::_,[],_,_,_,_,h,_=>by simp at h
 | p::P,w::vs,0,m,nd,h1,h2,hk=>by
  simp at h1 h2;subst h1;subst h2
  show bindC kindOf ((p,w)::P.zip vs) m p=_
  unfold bindC
  rw[Sa λv hv=>(LJ.mp nd).1 (List.of_mem_zip hv).1,if_neg hk]
  simp
 | p::P,w::vs,i+1,m,nd,h1,h2,hk=>by
  show bindC kindOf ((p,w)::P.zip vs) m x=_
  unfold bindC
  exact Sn (i:=i) (LJ.mp nd).2 (by simpa using h1) (by simpa using h2) hk
def start(N:List Str)(vs:List V):St:=vs.map some++JQ (N.length-vs.length) none
def Em(CX:Vj)(P:JJ)(w:KL)(K:IG)(mg:Str->Option II)(base:LO)(N:List Str)(qual:Str)(scope:Scope)(f:IN)(cd:II)(A:KG)(outer:List Env)(s:IL)(H:Hp)(E:XK):Cx where
 prog:=P
 w:=w
 K:=K
 mg:=mg
 base:=base
 A:=A.deeper (envOfC qual scope s.heap.objs.size f cd)
 N:=N
 s₀:=s
 H₀:=H
 env:=envOfC qual scope s.heap.objs.size f cd
 outer:=outer
 stack:=envOfC qual scope s.heap.objs.size f cd::outer
 ex:=[]
 calm:=true
 sx:=CX.st
 fn:=λ_=>true
 pn:=[]
 xe:=λe s'=>JT (JV P w) (A.deeper (envOfC qual scope s.heap.objs.size f cd)) (leaving (envOfC qual scope s.heap.objs.size f cd) e) (λ_ s''=>CX.f outer H s E e s'') (λe' s''=>CX.f outer H s E e' s'') s'
theorem Xz{sc:Scope}{n:Nat}{x:Str}(h:sc.names.lookup x=some .cell):∃c,(cellsFrom n sc.names []).lookup x=some c:=by
 have q:=PySem.W.cellsFrom_some sc.names n [] (.inl h)
 exact Option.isSome_iff_exists.mp q
theorem Se{CX:Vj}{P:JJ}{w:KL}{K:IG}{mg:Str->Option II}{base:LO}{N ps:List Str}{qual:Str}{scope:Scope}{f:IN}{cd:II}{A:KG}{outer:List Env}{s s1:IL}{H:Hp}{E:XK}{us:List II}{vs:List V}(S:Ap N ps scope)(hd:CX.st=true->A.handled=none)(hc:Bm A base)(e0:Uu P w K mg base A outer s H)(hl:vs.length=ps.length)(r:Be vs us)(x:InCallC s s.heap.objs.size (bindL (envOfC qual scope s.heap.objs.size f cd).kindOf (ps.zip us) λ_=>none) (cellsFrom (s.heap.objs.size+1) scope.names []) (bindC (envOfC qual scope s.heap.objs.size f cd).kindOf (ps.zip us) λ_=>none) s1):
 Inv (Em CX P w K mg base N qual scope f cd A outer s H E) [] (start N vs) H s1:=by
 have hpl:ps.length<=N.length:=by have:=congrArg List.length S.pre;rw[OB] at this;omega
 obtain⟨h1,tk,rfl,hk⟩:=x.done
 have noA:∀b:IN,b∉(Em CX P w K mg base N qual scope f cd A outer s H E).ex:=λb z=>absurd (show b∈([]:List IN) from z) (by simp)
 refine⟨⟨e0.mod,S.kind,rfl,rfl,IP _,λy z c h1 h2=>?_,λy hy=>?_,λy c _ h=>?_,λ_=>hc,hd,Around.frames_deeper e0.frames,.inr ⟨rfl,rfl⟩,λb z=>absurd z (noA b),e0.bs,e0.bsz,λb _ _=>noA b,λb z=>absurd z (noA b),e0.funs,e0.frf⟩,
  rfl,e0.bare,Un.kept hk,⟨_,x.toInCall.ns,λi y v h1 h2 h3=>?_⟩,λy c h=>⟨_,x.cell y c h⟩,e0.hok.fresh (IP _),λy c h=>?_,λp hp=>absurd (show p∈([]:List (IN×Obj)) from hp) (by simp),e0.hok.kept hk,?_⟩
 ·exact name_of_addr x.apart (QL h1) (QL h2)
 ·have hy:scope.names.lookup y=some .cell∨scope.names.lookup y=some .free:=hy
  rcases hy with hy | hy
  ·exact Xz hy
  ·exact absurd rfl (S.nofree _ (QL hy))
 ·exact Nat.le_of_lt (x.above y c (QL h))
 ·have hi:i < vs.length:=by
   unfold start at h2
   by_cases hi:i < vs.length
   ·exact hi
   ·rw[List.getElem?_append_right (by simpa using hi)] at h2
    rw[OV] at h2
    split at h2<;>cases h2
  have ha:vs[i]? = some v:=by
   unfold start at h2
   rw[KA (by simpa using hi),JU] at h2
   cases e:vs[i]? with
   | none=>rw[e] at h2;cases h2
   | some a=>rw[e] at h2;cases h2;rfl
  obtain⟨u,hu,rv⟩:=r.get ha
  have hp:ps[i]? = some y:=by
   rw[<- S.pre,List.getElem?_take_of_lt (by omega)];exact h1
  have ndP:ps.Nodup:=by rw[<- S.pre];exact S.nd.sublist (List.take_sublist _ _)
  refine⟨u,rv,?_⟩
  rcases S.par y (IY hp) with k | k
  ·exact .inl ⟨k,Sl ndP hp hu k⟩
  ·obtain⟨c,e⟩:=Xz (n:=s.heap.objs.size+1) k
   refine .inr ⟨.inl k,c,e,?_⟩
   have q:=x.cell y c e
   rw[Sn ndP hp hu (by show scope.names.lookup y≠_;rw[k];decide)] at q
   exact q
 ·exact e0.hok.fresh (Nat.le_of_lt (x.above y c (QL h)))
 ·unfold start
  show _=N.length
  rw[IV,IM,LV]
  omega
theorem Wn{CX:Vj}{P:JJ}{w:KL}{K:IG}{mg:Str->Option II}{base:LO}{k:Nat}{f:IN}{name qual:Str}{params:Arguments}{body:List NW}{scope:Scope}{dV kV doc pm cdv ct oc:II}{an od:Option IN}{osl:Array (Option II)}{N ps:List Str}{sp:Sp}(lk:K.lookup f=some ⟨oc,od,.func (OS name qual params body scope dV kV doc pm an cdv ct),osl⟩)(hcd:PySem.W.codeIn K cdv qual=true)(S:Ap N ps scope)(len:∀vs H Q E,sp vs H Q E->vs.length=ps.length)(hbody:∀(A:KG)(outer:List Env)(s:IL)(H:Hp)(vs:List V)(Q:VK)(E:XK),Cj k (A.deeper (envOfC qual scope s.heap.objs.size f cdv))->sp vs H Q E ->
  ∃t,Hs (Em CX P w K mg base N qual scope f cdv A outer s H E) body t/\t { nx:=λ_ H'=>Q .non H',rt:=Q } (start N vs) H):
 Aj P w K mg base CX (k+1) f (OS name qual params body scope dV kV doc pm an cdv ct) ps sp:=by
 refine⟨len,λA outer s H args us vs Q E hr e0 hb r hsp=>?_⟩
 have hl:=len _ _ _ _ hsp
 have KX:K.In s.heap:=e0.mod.kin.keeps λb o e=>(e0.bs b o e).1
 have lim:s.heap.NoLimit:=e0.mod.nolimit.keeps λb o e=>(e0.bs b o e).1
 have hkind:∀y∈ps.zip us,scope.names.lookup y.1=some .local∨(scope.names.lookup y.1=some .cell/\((cellsFrom (s.heap.objs.size+1) scope.names []).lookup y.1).isSome=true):=λ⟨n,v⟩ hy=>by
  rcases S.par n (List.of_mem_zip hy).1 with q | q
  ·exact .inl q
  ·exact .inr ⟨q,PySem.W.cellsFrom_some _ _ _ (.inl q)⟩
 refine codeAny_call_function hr.rm.depth (KX _ _ lk) rfl S.co S.gen rfl (PySem.W.codeRec_of KX hcd) (hb _ _ _ _ ?_)
 refine wpAny_newFunctionEnv_cells S.kind hkind λenv he s1 x=>?_
 subst he
 refine⟨lim.keeps x.toInCall.keep,codeAny_func ?_⟩
 obtain⟨t,ht,hq⟩:=hbody A outer s H vs Q E (hr.rm.deeper _) hsp
 have I:Inv (Em CX P w K mg base N qual scope f cdv A outer s H E) [] (start N vs) H s1:=Se S hr.st hr.hd e0 hl r x
 refine MI (ht [] s1 (start N vs) H _ I hq) (λfl s' hs=>?_) λe s' hs=>hs
 have fin:∀ {σ':St} {H':Hp} {v:V} {u:II},Inv (Em CX P w K mg base N qual scope f cdv A outer s H E) [] σ' H' s'->RelV v u->Q v H'->CE outer P w H s Q u s':=
  λ{σ' H' v u} J rv q=>⟨v,H',J.os,J.bare,J.base,J.hok,rv,q⟩
 cases fl with
 | ret u=>
  obtain⟨v,σ',H',J,rv,q⟩:=hs
  exact fin J rv q
 | next=>
  obtain⟨σ',H',J,q⟩:=hs
  exact fin (v:=V.non) (u:=LX) J rfl q
 | brk=>
  obtain⟨_,_,_,q⟩:=hs
  exact LF q
 | cont=>
  obtain⟨_,_,_,q⟩:=hs
  exact LF q
section
variable {X:Cx} {x:Str} {p pos:Pos} {e:Expr} {es:List Expr} {t:TA} {id T:String} {r:List V->Hp->VK->Prop}
def ED(r:List V->Hp->VK->Prop)(t:TA):TE:=λσ H Q=>t σ H λvs H1=>r vs H1 Q
theorem Bq(hc:Gv X (.builtin id) r)(hg:Gl X x)(hm:X.mg x=none)(hv:OM x=some (.builtin id))(ha:PA X (e::es) t)(hn:x ≠ "__name__" := by decide)(hdb:(x == ("__debug__" : Str))=false:=by decide)(he:JS (e::es) X.env=(false,OA e X.env)::JS es X.env:=by rfl)(hpl:(PD pos (JS es X.env)).any (·.1)=false:=by rfl):PE X (.Call (.Name x p) (e::es) [] pos) (ED r t):=by
 intro pins s σ H Q I h
 refine NQ (Ib I hg hm hv ?_ hn hdb)
 exact PyProof.Rows.callWith_builtin1 (Bx (ha pos pins s σ H _ I h) λus s1 ⟨vs,H1,I1,r1,q1⟩=>hc pins s1 σ H1 vs us Q I1 r1 q1) he hpl
theorem Dm(hc:Gv X (.type T) r)(hg:Gl X x)(hm:X.mg x=none)(hv:OM x=some (.type T))(ha:PA X (e::es) t)(hn:x ≠ "__name__" := by decide)(hdb:(x == ("__debug__" : Str))=false:=by decide)(he:JS (e::es) X.env=(false,OA e X.env)::JS es X.env:=by rfl)(hpl:(PD pos (JS es X.env)).any (·.1)=false:=by rfl):PE X (.Call (.Name x p) (e::es) [] pos) (ED r t):=by
 intro pins s σ H Q I h
 refine NQ (Ib I hg hm hv ?_ hn hdb)
 exact MG (Bx (ha pos pins s σ H _ I h) λus s1 ⟨vs,H1,I1,r1,q1⟩=>hc pins s1 σ H1 vs us Q I1 r1 q1) he hpl
end
end L2
namespace HT
open PySem PyProof.Rows
section
open PySem.SeqAt
open PySem.AutoSeq1 (wpAny_loadPart')
open PySem.MeetsSeq PySem.MeetsSeq2 PySem.MeetsSeq3
end
section
variable {prog:JJ} {w:KL} {A:KG} {E:II->IL->Prop} {s:IL}
def sIx(n d:Nat):Option Int->Nat
 | none=>d
 | some v=>if v < 0 then (v+(n:Int)).toNat else min v.toNat n
theorem sIx_none(n d:Nat):sIx n d none=d:=rfl
theorem sIx_nat(n d k:Nat):sIx n d (some (k:Int))=min k n:=by
 show (if (k:Int) < 0 then ((k:Int)+(n:Int)).toNat else min (k:Int).toNat n)=min k n
 rw[if_neg (by omega),LR]
theorem zX(n d:Nat)(hd:d<=n)(o:Option Int):sIx n d o<=n:=by
 cases o with
 | none=>exact hd
 | some v=>
  show (if v < 0 then (v+(n:Int)).toNat else min v.toNat n)<=n
  by_cases hv:v < 0
  ·rw[if_pos hv];omega
  ·rw[if_neg hv];exact Nat.min_le_right _ _
theorem dU(v:Int)(n d:Nat):(if v < 0 then max (v+(n:Int)) 0 else min v (n:Int))=((sIx n d (some v):Nat):Int):=by
 show (if v < 0 then max (v+(n:Int)) 0 else min v (n:Int))=(((if v < 0 then (v+(n:Int)).toNat else min v.toNat n):Nat):Int)
 by_cases hv:v < 0
 ·simp only[if_pos hv];omega
 ·simp only[if_neg hv];omega
theorem Zi(lo hi:Option Int)(n:Nat):Builtin.Slice.sliceAdjust lo hi 1 (n:Int)=(((sIx n 0 lo:Nat):Int),((sIx n n hi:Nat):Int)):=by
 have h1:¬ ((1:Int) < 0):=by omega
 unfold Builtin.Slice.sliceAdjust
 simp only[h1,if_false]
 refine Prod.ext ?_ ?_
 ·cases lo with
  | none=>rfl
  | some v=>exact dU v n 0
 ·cases hi with
  | none=>rfl
  | some v=>exact dU v n n
theorem aA(i j:Nat):QV (i:Int) (j:Int) 1=j-i:=by
 unfold QV
 have h1:(1:Int) > 0:=by omega
 simp only[h1,if_true,Int.ediv_one]
 split<;>omega
theorem Pm{v:II}{o:Option Int}{Q:Option Int->IL->Prop}(p:IsPart v o)(h:Q o s):JT (JV prog w) A (Builtin.Slice.slicePartIndex v) Q E s:=by
 cases p with
 | none=>exact slicePart_none h
 | int i t=>exact slicePart_int h
theorem Mt{sl:IN}{vl vu:II}{lo hi:Option Int}{n:Nat}{Q:Int×Int×Nat->IL->Prop}(hs:s.heap.IsSliceOf sl vl vu .none)(pl:IsPart vl lo)(pu:IsPart vu hi)(h:Q (((sIx n 0 lo:Nat):Int),1,sIx n n hi-sIx n 0 lo) s):JT (JV prog w) A (Builtin.Slice.sliceApplied (.ref sl) (pure (n:Int))) Q E s:=by
 obtain⟨os,hos,hcs,hds⟩:=id hs
 unfold Builtin.Slice.sliceApplied Builtin.Slice.sliceFields
 refine IF (IF (JX hos hds (x:=vl) rfl (IF (JX hos hds (x:=vu) rfl (IF (JX hos hds (x:=.none) rfl (JA ?_)))))))
 refine IF (slicePart_none ?_)
 show JT _ _ (if ((1:Int) == 0)=true then _ else _) _ _ s
 rw[if_neg (by decide)]
 refine IF (Pm pl (IF (Pm pu (IF (JA ?_)))))
 show JT _ _ (match Builtin.Slice.sliceAdjust lo hi 1 (n:Int) with | (lo,hi)=>pure (lo,(1:Int),QV lo hi 1)) _ _ s
 rw[Zi lo hi n]
 show JT _ _ (pure (((sIx n 0 lo:Nat):Int),(1:Int),QV ((sIx n 0 lo:Nat):Int) ((sIx n n hi:Nat):Int) 1)) _ _ s
 rw[aA]
 exact JA h
theorem nY(xs:Array II)(i k:Nat):((List.range k).filterMap λ(m:Nat)=>xs[((i:Int)+(m:Int) * 1).toNat]?).toArray=((xs.toList.drop i).take k).toArray:=by
 have e:(λ(m:Nat)=>xs[((i:Int)+(m:Int) * 1).toNat]?)=λm=>xs[i+m]?:=by
  funext m
  have:((i:Int)+(m:Int) * 1).toNat=i+m:=by omega
  rw[this]
 rw[e]
 have:=pick_run xs i k
 rw[List.filterMap_map] at this
 have e2:((λx=>xs[x]?) ∘ λx=>i+x)=λm=>xs[i+m]?:=rfl
 rw[e2] at this
 rw[this]
theorem getItem_tuple_cut{t sl:IN}{items:Array II}{vl vu:II}{lo hi:Option Int}{Q:II->IL->Prop}(ht:IsTup s.heap t items)(hs:s.heap.IsSliceOf sl vl vu .none)(pl:IsPart vl lo)(pu:IsPart vu hi)(hw:¬ (sIx items.size 0 lo=0/\sIx items.size items.size hi=items.size))(h:Q (.ref s.heap.objs.size) { s with heap:=s.heap.push { cls:=.type "tuple", data:=.seq ((items.toList.drop (sIx items.size 0 lo)).take (sIx items.size items.size hi-sIx items.size 0 lo)).toArray } })(hsz:items.size<=IK):JT (JV prog w) A (getItem (.ref t) (.ref sl)) Q E s:=by
 have htake:sizeOk (.seq ((items.toList.drop (sIx items.size 0 lo)).take (sIx items.size items.size hi-sIx items.size 0 lo)).toArray):=by
  show ((items.toList.drop (sIx items.size 0 lo)).take (sIx items.size items.size hi-sIx items.size 0 lo)).toArray.size<=IK
  rw[JN,OB,LP,Array.length_toList]
  omega
 have hj:sIx items.size items.size hi<=items.size:=zX _ _ (IP _) hi
 obtain⟨os,hos,hcs,hds⟩:=id hs
 have hTs:s.TypeIs (.ref sl) "slice" := ⟨os,hos,hcs⟩
 unfold getItem
 try with_reducible refine LI ?_
 first | refine IF (JA ?_) | skip
 refine IF (wpAny_sequenceKey ht.typeIs (by decide) ?_)
 refine IF (KU (name:=MQ "__getitem__") ht.typeIs RC
  (LU RC ht.typeIs entry_tuple_getitem ?_ (args_tuple_getitem _ _)))
 show JT _ _ (Builtin.Tuple.tupleItemsOf (.ref t) >>= _) _ _ s
 refine IF (tupleItemsOf_ ht ?_)
 refine IF (wpAny_typeOf hTs ?_)
 rw[if_pos (by decide)]
 refine IF (Mt hs pl pu ?_)
 have hno:¬ ((((sIx items.size 0 lo:Nat):Int) == 0 && (1:Int) == 1 && (sIx items.size items.size hi-sIx items.size 0 lo) == items.size)=true):=by
  intro q
  rw[LC,LC] at q
  have q1:((sIx items.size 0 lo:Nat):Int)=0:=eq_of_beq q.1.1
  have q2:sIx items.size items.size hi-sIx items.size 0 lo=items.size:=eq_of_beq q.2
  exact hw ⟨by omega,by omega⟩
 show JT _ _ (if (((sIx items.size 0 lo:Nat):Int) == 0 && (1:Int) == 1 && (sIx items.size items.size hi-sIx items.size 0 lo) == items.size)=true then _ else _) _ _ s
 rw[if_neg hno,nY]
 first
  | exact IF (m:=RB _) (NZ (JA ⟨_,rfl,JA h⟩) htake)
  | exact IF (m:=RB _) (NZ (IF (JA (JA ⟨_,rfl,JA h⟩))) htake)
  | exact IF (IF (m:=RB _) (NZ (JA (JA ⟨_,rfl,JA h⟩)) htake))
  | exact IF (IF (m:=RB _) (NZ (JA ⟨_,rfl,JA h⟩) htake))
end
end HT
namespace L2
open PySem PySem.Spec PyProof.Rows
abbrev TO:=St->Hp->(Option Int->Hp->Prop)->Prop
def PO(X:Cx)(e:Option Expr)(t:TO):Prop:=
 ∀(pins:List (IN×Obj))(s:IL)(σ:St)(H:Hp)(Q:Option Int->Hp->Prop),Inv X pins σ H s->t σ H Q ->
  JT (JV X.prog X.w) X.A (evalPart e X.env) (λu s'=>∃o H',Inv X pins σ H' s'/\IsPart u o/\Q o H') X.xe s
def tW:TO:=λ_ H Q=>Q none H
def BW(t:TE):TO:=λσ H Q=>t σ H λx H1=>∃i,x=.int i/\Q (some i) H1
section
variable {X:Cx} {e:Expr} {te:TE} {lo hi:Option Expr} {tl th:TO} {pos p2:Pos}
theorem Dy:PO X none tW:=by
 intro pins s σ H Q I h
 rw[evalPart_none]
 exact JA ⟨none,H,I,.none,h⟩
theorem Cy(h:PE X e te):PO X (some e) (BW te):=by
 intro pins s σ H Q I hw
 rw[evalPart_some]
 refine Bx (h pins s σ H _ I hw) λu s1 ⟨x,H1,I1,r1,q1⟩=>?_
 obtain⟨i,rfl,q⟩:=q1
 obtain⟨t,rfl⟩:=r1
 exact⟨some i,H1,I1,.int i t,q⟩
def DE(X:Cx)(r:V->Option Int->Option Int->Hp->VK->Prop):Prop:=
 ∀(pins:List (IN×Obj))(s:IL)(σ:St)(H:Hp)(x:V)(v vl vu:II)(lo hi:Option Int)(sl:IN)(Q:VK),Inv X pins σ H s->RelV x v->s.heap.IsSliceOf sl vl vu .none->IsPart vl lo->IsPart vu hi->r x lo hi H Q ->
  ∃T id,typeLookup (.type T) "__getitem__" = pure (some (.builtin id))/\s.TypeIs v T/\JT (JV X.prog X.w) X.A (getItem v (.ref sl)) (EP X pins σ Q) X.xe s
def IA(r:V->Option Int->Option Int->Hp->VK->Prop)(te:TE)(tl th:TO):TE:=λσ H Q=>te σ H λx H1=>tl σ H1 λl H2=>th σ H2 λu H3=>r x l u H3 Q
theorem Co{r:V->Option Int->Option Int->Hp->VK->Prop}(hr:DE X r)(he:PE X e te)(hl:PO X lo tl)(hu:PO X hi th):PE X (.Subscript e (.Slice lo hi none p2) pos) (IA r te tl th):=by
 intro pins s σ H Q I h
 refine Subscript_ (Bx (he pins s σ H _ I h) λv s1 ⟨x,H1,I1,r1,q1⟩=>?_)
 refine wpAny_Slice (Bx (hl pins s1 σ H1 _ I1 q1) λvl s2 ⟨l,H2,I2,pl,q2⟩=>Bx (hu pins s2 σ H2 _ I2 q2) λvu s3 ⟨u,H3,I3,pu,q3⟩=>?_)
 rw[evalPart_none]
 refine JA ?_
 have I4:Inv X pins σ H3 { s3 with heap:=s3.heap.push { cls:=.type "slice", data:=.fields #[vl,vu,.none] } }:=I3.kept (t':=s3.toks) λb ob q=>IJ _ q
 obtain⟨T,id,hT,ht,hg⟩:=hr pins { s3 with heap:=s3.heap.push { cls:=.type "slice", data:=.fields #[vl,vu,.none] } } σ H3 x v vl vu l u s3.heap.objs.size Q I4 r1 (Heap.IsSliceOf.new ..) pl pu q3
 show JT (JV X.prog X.w) X.A (subscriptTail e (.Slice lo hi none p2) v (.ref s3.heap.objs.size)) (EP X pins σ Q) X.xe { s3 with heap:=s3.heap.push { cls:=.type "slice", data:=.fields #[vl,vu,.none] } }
 exact tail_any (ops:=[.ref s3.heap.objs.size,v]) ht hT hg (by with_unfolding_all rfl)
def Gj(xs:List V)(lo hi:Option Int):List V:=(xs.drop (HT.sIx xs.length 0 lo)).take (HT.sIx xs.length xs.length hi-HT.sIx xs.length 0 lo)
theorem Nb(xs:List V)(lo hi:Option Int):(Gj xs lo hi).length<=xs.length:=by
 unfold Gj
 rw[OB,LP]
 omega
def EA(K:IG):V->Option Int->Option Int->Hp->VK->Prop:=λx lo hi H Q=>∃a xs,x=.ref a/\Cc K H a xs /\
 ¬ (HT.sIx xs.length 0 lo=0/\HT.sIx xs.length xs.length hi=xs.length)/\∀p,H p=none->Q (.ref p) (upd H p (.tup (Gj xs lo hi)))
theorem xY:DE X (EA X.K):=by
 intro pins s σ H x v vl vu lo hi sl Q I rx hs pl pu h
 obtain⟨a,xs,rfl,hx,hw,q⟩:=h
 cases rx
 obtain⟨its,r,ht,hz⟩:=I.tuple hx
 have hlen:its.toArray.size=xs.length:=by rw[JN];exact r.length.symm
 refine⟨"tuple", _,RC.lookup,ht.typeIs,?_⟩
 refine HT.getItem_tuple_cut ht hs pl pu (by rw[hlen];exact hw) ?_ (by rw[hlen];exact hz)
 rw[hlen]
 refine⟨.ref s.heap.objs.size,_,I.laid (t':=s.toks) (o:=.tup (Gj xs lo hi)) (λb ob q=>IJ _ q) (IP _) ?_,rfl,q _ (I.hok.fresh (IP _))⟩
 exact⟨JR (Nb xs lo hi) hz,_,(r.drop (HT.sIx xs.length 0 lo)).take (HT.sIx xs.length xs.length hi-HT.sIx xs.length 0 lo),IsTup.new _ _⟩
end
def mZ(n:Nat)(i:Int):Option Nat:=if 0<=i then (if i < n then some i.toNat else none) else if -(n:Int)<=i then some (i+n).toNat else none
def Hx{α:Type}(xs:List α)(i:Int):Option α:=(mZ xs.length i).bind λj=>xs[j]?
theorem dY{n:Nat}{i:Int}{j:Nat}(h:mZ n i=some j):seqIndex? i n=some j/\j < n /\ -(n:Int)<=i/\i < n:=by
 unfold mZ at h
 by_cases h0:0<=i
 ·rw[if_pos h0] at h
  by_cases h1:i < n
  ·rw[if_pos h1] at h
   have e:i.toNat=j:=KC h
   exact⟨by rw[seqIndex_of h0 h1,e],by omega,by omega,h1⟩
  ·rw[if_neg h1] at h;cases h
 ·rw[if_neg h0] at h
  by_cases h1 : -(n:Int)<=i
  ·rw[if_pos h1] at h
   have e:(i+n).toNat=j:=KC h
   exact⟨by rw[seqIndex_neg (by omega) h1,e],by omega,h1,by omega⟩
  ·rw[if_neg h1] at h;cases h
theorem Ub{α:Type}{xs:List α}{i:Int}{v:α}(h:Hx xs i=some v):∃j,seqIndex? i xs.length=some j/\xs[j]? = some v/\j < xs.length /\ -(xs.length:Int)<=i/\i < xs.length:=by
 unfold Hx at h
 cases e:mZ xs.length i with
 | none=>rw[e] at h;cases h
 | some j=>
  rw[e] at h
  obtain⟨h1,h2,h3,h4⟩:=dY e
  exact⟨j,h1,h,h2,h3,h4⟩
theorem Ba{α:Type}{xs:List α}{j:Nat}{v:α}(h:xs[j]? = some v):Hx xs (j:Int)=some v:=by
 have hj:j < xs.length:=(IH.mp h).1
 have e:mZ xs.length (j:Int)=some j:=by
  unfold mZ
  rw[if_pos (by omega),if_pos (by omega)];simp
 unfold Hx;rw[e];exact h
theorem Pd{α:Type}(xs:List α)(v:α):Hx (xs++[v]) (-1)=some v:=by
 have hl:(xs++[v]).length=xs.length+1:=by simp
 have e:mZ (xs++[v]).length (-1)=some xs.length:=by
  unfold mZ
  rw[hl,if_neg (by decide),if_pos (by omega)]
  congr 1
  omega
 unfold Hx
 rw[e]
 show (xs++[v])[xs.length]? = some v
 simp
def rG(b:Expr):Prop:=∀o i,subscripted b false o i=operate [o,i] (getItem o i)
def AO(X:Cx)(r:R2):Prop:=
 ∀(value slice:Expr)(pins:List (IN×Obj))(s:IL)(σ:St)(H:Hp)(x y:V)(v u:II)(Q:VK),Inv X pins σ H s->RelV x v->RelV y u->r x y H Q ->
  subscripted slice false v u=operate [v,u] (getItem v u)->JT (JV X.prog X.w) X.A (subscriptTail value slice v u) (EP X pins σ Q) X.xe s
def EM(X:Cx)(id:String)(r:V->List V->Hp->VK->Prop):Prop:=
 ∀(pins:List (IN×Obj))(s:IL)(σ:St)(H:Hp)(x:V)(xs:List V)(v:II)(us:List II)(Q:VK),Inv X pins σ H s->RelV x v->Be xs us->r x xs H Q ->
  JT (JV X.prog X.w) X.A (call (.builtin id) (v::us)) (EP X pins σ Q) X.xe s
section
variable {X:Cx} {a b:Expr} {ta tb:TE} {pos:Pos}
theorem Aq{r:R2}(hr:AO X r)(ha:PE X a ta)(hb:PE X b tb)(hs:rG b):PE X (.Subscript a b pos) (AJ r ta tb):=by
 intro pins s σ H Q I h
 exact Subscript_ (zV ha hb I h λv u s2 x y H2 I2 rx ry q=>hr a b pins s2 σ H2 x y v u Q I2 rx ry q (hs _ _))
def gX(K:IG):R2:=λx y H Q=>∃p xs i v,x=.ref p/\y=.int i/\Av K H p xs/\Hx xs i=some v/\Q v H
def AY(K:IG):R2:=λx y H Q=>∃p xs i v,x=.ref p/\y=.int i/\Cc K H p xs/\Hx xs i=some v/\Q v H
def GU:R2:=λx y H Q=>∃z i c,x=.str z/\y=.int i/\z.length<=IK/\Hx z.cps.toList i=some c/\Q (.str ⟨#[c]⟩) H
theorem Bc:AO X (gX X.K):=by
 intro value slice pins s σ H x y v u Q I rx ry h hs
 obtain⟨p,xs,i,z,rfl,rfl,hq,he,q⟩:=h
 cases rx
 obtain⟨t,rfl⟩:=ry
 obtain⟨its,r,pl,hz⟩:=I.list hq
 obtain⟨j,h1,h2,h3,h4,h5⟩:=Ub he
 obtain⟨w,ew,rw'⟩:=r.get h2
 have hl:=r.length
 have hn:=Jx
 have fin:EP X pins σ Q w s:=⟨z,H,I,rw',q⟩
 by_cases h0:0<=i
 ·have hj:i.toNat=j:=by
   rw[seqIndex_of h0 h5] at h1
   exact KC h1
  exact item_listR pl.isList h0 (by omega) (by rw[hj];simpa using ew) fin hs
 ·have hj:(i+(its.toArray.size:Int)).toNat=j:=by
   rw[seqIndex_neg (by omega) h4] at h1
   rw[JN,<- hl]
   exact KC h1
  exact subscriptTail_builtinR (x:=w) pl.isList.typeIs slot_list_getitem.lookup
   (wpAny_getItem_list_neg (Q:=λr s'=>r=w/\EP X pins σ Q r s') pl.isList (by omega) (by rw[JN]<;>omega) (by omega) (by rw[hj];simpa using ew) ⟨rfl,fin⟩) hs
theorem Au:AO X (AY X.K):=by
 intro value slice pins s σ H x y v u Q I rx ry h hs
 obtain⟨p,xs,i,z,rfl,rfl,hq,he,q⟩:=h
 cases rx
 obtain⟨t,rfl⟩:=ry
 obtain⟨its,r,pl,hz⟩:=I.tuple hq
 obtain⟨j,h1,h2,h3,h4,h5⟩:=Ub he
 obtain⟨w,ew,rw'⟩:=r.get h2
 have hl:=r.length
 have hn:=Jx
 have fin:EP X pins σ Q w s:=⟨z,H,I,rw',q⟩
 exact subscriptTail_builtinR (x:=w) pl.typeIs slot_tuple_getitem.lookup
  (getItem_tuple (j:=j) (Q:=λr s'=>r=w/\EP X pins σ Q r s') pl (by omega) (by omega) (by rw[JN,<- hl];exact h1) (by simpa using ew) ⟨rfl,fin⟩) hs
theorem lT:AO X GU:=by
 intro value slice pins s σ H x y v u Q I rx ry h hs
 obtain⟨z,i,c,rfl,rfl,hz,he,q⟩:=h
 obtain⟨t,rfl⟩:=rx
 obtain⟨t',rfl⟩:=ry
 obtain⟨j,h1,h2,h3,h4,h5⟩:=Ub he
 have hl:z.cps.toList.length=z.length:=by simp[Str.length]
 rw[hl] at h1 h4 h5
 have hn:=Jx
 exact tail_any (typeIs_str s z t) slot_str_getitem.lookup (getItem_str (c:=c) (by
  have e1:decide (i < -(2 ^ 63:Int))=false:=decide_eq_false (by omega)
  have e2:decide (i ≥ 2 ^ 63)=false:=decide_eq_false (by omega)
  rw[e1,e2,Bool.or_false]) (by rw[h1];simpa using h2) ⟨.str ⟨#[c]⟩,H,I.tok _,⟨_,rfl⟩,q⟩) hs
theorem cU(its:List II)(n j:Nat)(u:II):RA (·.setIfInBounds j u) { cls:=.type "list", data:=.seq its.toArray n }={ cls:=.type "list", data:=.seq (its.set j u).toArray n }:=by
 simp[RA]
theorem Inv.lst{pins:List (IN×Obj)}{σ:St}{H:Hp}{s:IL}{p:IN}{xs:List V}(I:Inv X pins σ H s)(h:H p=some (.lst xs)):
 ∃(its:List II)(n:Nat),Be xs its/\s.heap.get? p=some { cls:=.type "list", data:=.seq its.toArray n }/\xs.length<=IK:=by
 obtain⟨z,its,n,r,e⟩:=I.hok p _ h
 exact⟨its,n,r,e,z⟩
theorem Inv.lstUpd{pins:List (IN×Obj)}{σ:St}{H:Hp}{s:IL}{p:IN}{xs ys:List V}{its its':List II}{n n':Nat}{f:Obj->Obj}(I:Inv X pins σ H s)(h:H p=some (.lst xs))(ho:s.heap.get? p=some { cls:=.type "list", data:=.seq its.toArray n })(hf:f { cls:=.type "list", data:=.seq its.toArray n }={ cls:=.type "list", data:=.seq its'.toArray n' })(r:Be ys its')(hz:ys.length<=IK)(t:Nat):
 Inv X pins σ (upd H p (.lst ys)) { s with heap:=s.heap.update p f,toks:=t }:=by
 have e:(s.heap.update p f).get? p=some { cls:=.type "list", data:=.seq its'.toArray n' }:=by
  rw[LM f ho (by rw[hf]<;>rfl),hf]
 refine I.write (x:=p) (e:=p) (by rw[h];trivial) (.inl rfl) (λb u hb q=>(KP _ _ (KO hb)).trans q) ⟨_,e⟩ ?_
 exact⟨hz,its',n',r,e⟩
def DH:V->V->V->Hp->(Hp->Prop)->Prop:=λo i v H Q=>∃p xs k j,o=.ref p/\i=.int k/\H p=some (.lst xs)/\mZ xs.length k=some j/\Q (upd H p (.lst (xs.set j v)))
theorem set_list:BZ X DH:=by
 intro pins s σ H o i v ov iv u Q I ro ri rv h
 obtain⟨p,xs,k,j,rfl,rfl,hp,hj,q⟩:=h
 cases ro
 obtain⟨t,rfl⟩:=ri
 obtain⟨its,n,r,ho,hz⟩:=I.lst hp
 obtain⟨h1,h2,h3,h4⟩:=dY hj
 have hl:=r.length
 have hn:=Jx
 have I':Inv X pins σ (upd H p (.lst (xs.set j v))) { s with heap:=s.heap.update p (RA (·.setIfInBounds j u)) }:=
  I.lstUpd hp ho (cU its n j u) (r.set rv j) (by rw[List.length_set];exact hz) s.toks
 by_cases h0:0<=k
 ·have hk:k.toNat=j:=by
   rw[seqIndex_of h0 h4] at h1
   exact KC h1
  exact PySem.W.ki_setAt ho h0 (by omega) (by rw[JN,<- hl];exact h4) (by rw[hk];exact⟨_,I',q⟩)
 ·have hk:(k+(its.toArray.size:Int)).toNat=j:=by
   rw[seqIndex_neg (by omega) h3] at h1
   rw[JN,<- hl]
   exact KC h1
  exact PySem.W.ki_setBack ho (by omega) (by rw[JN,<- hl];exact h3) (by omega) (by rw[hk];exact⟨_,I',q⟩)
theorem Va(lo hi:Option Int)(n:Nat):(sliceBounds lo hi none n).1=((HT.sIx n 0 lo:Nat):Int)/\(sliceBounds lo hi none n).2.1=((HT.sIx n n hi:Nat):Int)/\(sliceBounds lo hi none n).2.2=1:=by
 refine⟨?_,?_,rfl⟩
 ·cases lo with
  | none=>simp[sliceBounds,HT.sIx]
  | some i=>
   simp only[sliceBounds,HT.sIx,Option.getD_none,show (1:Int) > 0 by decide,if_true]
   by_cases h:i < 0
   ·simp only[h,if_true]<;>omega
   ·simp only[h,if_false]<;>omega
 ·cases hi with
  | none=>simp[sliceBounds,HT.sIx]
  | some i=>
   simp only[sliceBounds,HT.sIx,Option.getD_none,show (1:Int) > 0 by decide,if_true]
   by_cases h:i < 0
   ·simp only[h,if_true]<;>omega
   ·simp only[h,if_false]<;>omega
theorem Rm(its:List II)(lo hi:Option Int):slicePick its.toArray lo hi none=((its.drop (HT.sIx its.length 0 lo)).take (HT.sIx its.length its.length hi-HT.sIx its.length 0 lo)).toArray:=by
 obtain⟨h1,h2,h3⟩:=Va lo hi its.toArray.size
 unfold slicePick
 rw[h1,h2,h3]
 simp only[sliceRange_one,pick_run,JN]<;>rfl
def lM(K:IG):V->Option Int->Option Int->Hp->VK->Prop:=λx lo hi H Q=>∃a xs,x=.ref a/\Av K H a xs/\∀p,H p=none->Q (.ref p) (upd H p (.lst (Gj xs lo hi)))
theorem En:DE X (lM X.K):=by
 intro pins s σ H x v vl vu lo hi sl Q I rx hs pl pu h
 obtain⟨a,xs,rfl,hx,q⟩:=h
 cases rx
 obtain⟨its,r,ht,hz⟩:=I.list hx
 have hlen:=r.length
 refine⟨"list", _,slot_list_getitem.lookup,ht.isList.typeIs,?_⟩
 refine wpAny_getItem_list_slice ht.isList hs pl pu .none (by simp) ?_ (by rw[JN]<;>omega)
 rw[Rm,<- hlen]
 refine⟨.ref s.heap.objs.size,_,I.laid (t':=s.toks) (o:=.lst (Gj xs lo hi)) (λb ob q=>IJ _ q) (IP _) ?_,rfl,q _ (I.hok.fresh (IP _))⟩
 exact⟨JR (Nb xs lo hi) hz,_,0,(r.drop (HT.sIx xs.length 0 lo)).take (HT.sIx xs.length xs.length hi-HT.sIx xs.length 0 lo),JI _ rfl⟩
def Jf:V->Bool
 | .non=>true
 | .bl _=>true
 | .int _=>true
 | .str _=>true
 | _=>false
def fZ:V->V->Bool
 | .non,.non=>true
 | .bl a,.bl b=>a == b
 | .bl a,.int b=>(if a then 1 else 0) == b
 | .int a,.bl b=>a == (if b then 1 else 0)
 | .int a,.int b=>a == b
 | .str a,.str b=>a == b
 | _,_=>false
theorem xF{A:KG}{s:IL}{y x:V}{u v:II}(ry:RelV y u)(rx:RelV x v)(fy:Jf y=true)(fx:Jf x=true):MN A s u v (fZ y x):=by
 cases y with
 | non=>
  cases ry
  cases x with
  | non=>cases rx;exact SeqAt.EqAt.same _
  | bl b=>cases rx;exact SeqAt.EqAt.none_bool b
  | int b=>obtain⟨t,rfl⟩:=rx;exact SeqAt.EqAt.none_int b t
  | str b=>obtain⟨t,rfl⟩:=rx;exact SeqAt.EqAt.none_str b t
  | _=>exact absurd (show false=true from fx) IZ
 | bl a=>
  cases ry
  cases x with
  | non=>cases rx;exact SeqAt.EqAt.bool_none a
  | bl b=>cases rx;exact SeqAt.EqAt.bool_bool a b
  | int b=>obtain⟨t,rfl⟩:=rx;exact SeqAt.EqAt.bool_int a b t
  | str b=>obtain⟨t,rfl⟩:=rx;exact SeqAt.EqAt.bool_str a b t
  | _=>exact absurd (show false=true from fx) IZ
 | int a=>
  obtain⟨t',rfl⟩:=ry
  cases x with
  | non=>cases rx;exact SeqAt.EqAt.int_none a t'
  | bl b=>cases rx;exact SeqAt.EqAt.int_bool a t' b
  | int b=>obtain⟨t,rfl⟩:=rx;exact SeqAt.EqAt.int_int a t' b t
  | str b=>obtain⟨t,rfl⟩:=rx;exact SeqAt.EqAt.int_str a t' b t
  | _=>exact absurd (show false=true from fx) IZ
 | str a=>
  obtain⟨t',rfl⟩:=ry
  cases x with
  | non=>cases rx;exact SeqAt.EqAt.str_none a t'
  | bl b=>cases rx;exact SeqAt.EqAt.str_bool a t' b
  | int b=>obtain⟨t,rfl⟩:=rx;exact SeqAt.EqAt.str_int a t' b t
  | str b=>obtain⟨t,rfl⟩:=rx;exact SeqAt.EqAt.str_str a t' b t
  | _=>exact absurd (show false=true from fx) IZ
 | _=>exact absurd (show false=true from fy) IZ
def pU(x:V)(u:II):Bool:=match u with
 | .none=>fZ .non x
 | .bool b=>fZ (.bl b) x
 | .int i _=>fZ (.int i) x
 | .str z _=>fZ (.str z) x
 | _=>false
theorem cM{x y:V}{u:II}(r:RelV y u)(f:Jf y=true):pU x u=fZ y x:=by
 cases y with
 | non=>cases r;rfl
 | bl b=>cases r;rfl
 | int i=>obtain⟨t,rfl⟩:=r;rfl
 | str z=>obtain⟨t,rfl⟩:=r;rfl
 | _=>exact absurd (show false=true from f) IZ
theorem Uk{x:V}:∀ {xs:List V} {us:List II},Be xs us->xs.all Jf=true->us.any (pU x)=xs.any λy=>fZ y x
 | _,_,.nil,_=>rfl
 | y::xs,u::us,.cons r t,f=>by
  rw[List.all_cons,LC] at f
  rw[List.any_cons,List.any_cons,cM r f.1,Uk t f.2]
theorem Lk{A:KG}{s:IL}{x:V}{v:II}(rx:RelV x v)(fx:Jf x=true):∀ {xs:List V} {us:List II},Be xs us->xs.all Jf=true->∀u∈us,MN A s u v (pU x u)
 | _,_,.nil,_=>λu hu=>by cases hu
 | y::xs,u::us,.cons r t,f=>λu' hu=>by
  rw[List.all_cons,LC] at f
  rcases IQ.mp hu with rfl | hu
  ·rw[cM r f.1];exact xF r rx f.1 fx
  ·exact Lk rx fx t f.2 u' hu
def BE(x:V)(xs:List V):Bool:=xs.any λy=>fZ y x
def HG(K:IG)(neg:Bool):R2:=λx y H Q=>∃p xs,y=.ref p/\(Av K H p xs∨Cc K H p xs)/\Jf x=true/\xs.all Jf=true/\Q (.bl (if neg then !BE x xs else BE x xs)) H
theorem Kb:Kl X (OJ .In) (HG X.K false):=by
 intro pins s σ H x y v u Q I rx ry h
 obtain⟨p,xs,rfl,hq,fx,fs,q⟩:=h
 cases ry
 rcases hq with hq | hq
 ·obtain⟨its,r,pl,hz⟩:=I.list hq
  refine SeqAt.in_listAt (pU x) pl.isList (λw hw=>Lk rx fx r fs w (by simpa using hw)) ⟨.bl _,H,I,rfl,?_⟩
  rw[show its.toArray.any (pU x)=its.any (pU x) by simp,Uk r fs]
  exact q
 ·obtain⟨its,r,pl,hz⟩:=I.tuple hq
  refine SeqAt.in_tupleAt (pU x) pl (λw hw=>Lk rx fx r fs w (by simpa using hw)) ⟨.bl _,H,I,rfl,?_⟩
  rw[show its.toArray.any (pU x)=its.any (pU x) by simp,Uk r fs]
  exact q
theorem Ue:Gv X (.builtin "len") (λxs H Q=>∃p ys,xs=[.ref p]/\(Av X.K H p ys∨Cc X.K H p ys)/\Q (.int ys.length) H):=by
 intro pins s σ H xs us Q I r h
 obtain⟨p,ys,rfl,hq,q⟩:=h
 obtain⟨u,rfl,rx⟩:=vals1 r
 cases rx
 have hn:=Jx
 rcases hq with hq | hq
 ·obtain⟨its,r',pl,hz⟩:=I.list hq
  have hlen:=r'.length
  exact Calls.call_len_list pl.isList (by simp only[JN]<;>omega) ⟨.int ys.length,H,I.tok _,⟨s.toks+1,by rw[JN,hlen]⟩,q⟩
 ·obtain⟨its,r',pl,hz⟩:=I.tuple hq
  have hlen:=r'.length
  exact len_tuple pl (by simp only[JN]<;>omega) ⟨.int ys.length,H,I.tok _,⟨s.toks+1,by rw[JN,hlen]⟩,q⟩
theorem Ih:Gv X (.builtin "len") (λxs H Q=>∃z,xs=[.str z]/\z.length<=IK/\Q (.int z.length) H):=by
 intro pins s σ H xs us Q I r h
 obtain⟨z,rfl,hz,q⟩:=h
 obtain⟨u,rfl,t,rfl⟩:=vals1 r
 have hn:=Jx
 exact len_str (by omega) ⟨.int z.length,H,I.tok _,⟨_,rfl⟩,q⟩
theorem Ef:Gv X (.type "list") (λxs H Q=>∃p ys,xs=[.ref p]/\(Av X.K H p ys∨Cc X.K H p ys)/\∀l,H l=none->Q (.ref l) (upd H l (.lst ys))):=by
 intro pins s σ H xs us Q I r h
 obtain⟨p,ys,rfl,hq,q⟩:=h
 obtain⟨u,rfl,rx⟩:=vals1 r
 cases rx
 have fin:∀(its:List II),Be ys its->ys.length<=IK->∀(h':LO)(c':Nat),(∀b o',s.heap.get? b=some o'->h'.get? b=some o') ->
  h'.get? s.heap.objs.size=some { cls:=.type "list", dict:=none,data:=.seq its.toArray c',slots:=#[] }->EP X pins σ Q (.ref s.heap.objs.size) { s with heap:=h' }:=λits r' hz h' c' kp e=>
  ⟨.ref s.heap.objs.size,_,I.laid (t':=s.toks) kp (IP _) (show Cz X.prog X.w _ h' _ (.lst ys) from ⟨hz,its,c',r',e⟩),rfl,q _ (I.hok.fresh (IP _))⟩
 rcases hq with hq | hq
 ·obtain⟨its,r',pl,hz⟩:=I.list hq
  have hlen:=r'.length
  obtain⟨o,ho,hc,n,hd⟩:=pl.isList
  exact call_list_seq p (.inl rfl) ho hc hd (λh' c' kp e=>fin its r' hz h' c' kp e) (by simp only[JN]<;>omega)
 ·obtain⟨its,r',pl,hz⟩:=I.tuple hq
  have hlen:=r'.length
  obtain⟨o,ho,hc,n,hd⟩:=pl
  exact call_list_seq p (.inr rfl) ho hc hd (λh' c' kp e=>fin its r' hz h' c' kp e) (by simp only[JN]<;>omega)
def EG(K:IG)(T:String)(x:V)(H:Hp):Prop:=match x with
 | .str _=>T = "str"
 | .int _=>T = "int"
 | .ref p=>(T = "list" /\ ∃xs,Av K H p xs)∨(T = "tuple" /\ ∃o,K.lookup p=some o/\o.cls=.type "tuple" /\ o.dict=none) ∨
  (T = "dict" /\ ((∃kvs,H p=some (.dK kvs)) ∨ ∃kvs,H p=some (.dT kvs)))∨(T = "set" /\ ∃S n,H p=some (.set S n))
 | _=>False
theorem qV{pins:List (IN×Obj)}{σ:St}{H:Hp}{s:IL}{T:String}{x:V}{v:II}(I:Inv X pins σ H s)(r:RelV x v)(ty:EG X.K T x H):
 s.TypeIs v T/\∀a,v=.ref a->∃ob,s.heap.get? a=some ob/\ob.dict=none:=by
 cases x with
 | str z=>
  obtain⟨t,rfl⟩:=r
  cases (show T = "str" from ty)
  exact⟨typeIs_str s z t,λ_ e=>nomatch e⟩
 | int i=>
  obtain⟨t,rfl⟩:=r
  cases (show T = "int" from ty)
  exact⟨typeIs_int s i t,λ_ e=>nomatch e⟩
 | ref p=>
  cases r
  rcases ty with ⟨rfl,xs,hq⟩ | ⟨rfl,o,hk,hc,hd⟩ | ⟨rfl,hk⟩ | ⟨rfl,S,n,hk⟩
  ·obtain⟨its,_,pl,_⟩:=I.list hq
   refine⟨pl.isList.typeIs,λa e=>?_⟩
   cases e
   obtain⟨o,n,e,c,hd,_⟩:=pl
   exact⟨o,e,hd⟩
  ·refine⟨⟨o,I.kIn p o hk,hc⟩,λa e=>?_⟩
   cases e
   exact⟨o,I.kIn _ o hk,hd⟩
  ·have z:∃o,s.heap.get? p=some o/\o.ExactDict:=by
    rcases hk with ⟨kvs,hk⟩ | ⟨kvs,hk⟩
    ·obtain⟨_,_,_,_,o,_,_,e,ex,_⟩:=I.hok p _ hk
     exact⟨o,e,ex⟩
    ·obtain⟨_,_,_,_,o,_,_,e,ex,_⟩:=I.hok p _ hk
     exact⟨o,e,ex⟩
   obtain⟨o,e,ex⟩:=z
   refine⟨⟨o,e,ex.1⟩,λa e2=>?_⟩
   cases e2
   exact⟨o,e,ex.2.1⟩
  ·obtain⟨o,_,_,_,e,ex,_⟩:=I.hok p _ hk
   refine⟨⟨o,e,ex.1⟩,λa e2=>?_⟩
   cases e2
   exact⟨o,e,ex.2.1⟩
 | _=>exact LF ty
def FR(K:IG)(T:String)(r:V->List V->Hp->VK->Prop)(to:TE):TE:=λσ H Q=>to σ H λx H1=>EG K T x H1/\r x [] H1 Q
def HY(K:IG)(T:String)(r:V->List V->Hp->VK->Prop)(to:TE)(t:TA):TE:=λσ H Q=>to σ H λx H1=>EG K T x H1/\t σ H1 λxs H2=>r x xs H2 Q
variable {o e:Expr} {es:List Expr} {to:TE} {t:TA} {name:Str} {apos cpos:Pos} {T id:String} {r:V->List V->Hp->VK->Prop}
theorem aI(pa:PlainAttrs T)(slot:Slot T name id)(hty:typeOf (.builtin id)=pure (.type "method_descriptor"))(hm:EM X id r)(ho:PE X o to)(hbase:RG o name X.env (OA o X.env)=OA o X.env:=by rfl)(hline:(apos.endLine == cpos.line)=true:=by rfl):PE X (.Call (.Attribute o name apos) [] [] cpos) (FR X.K T r to):=by
 intro pins s σ H Q I h
 refine wpAny_Call_method0_late hbase hline (Bx (ho pins s σ H _ I h) λv s1 ⟨x,H1,I1,r1,ty,q1⟩=>?_)
 obtain⟨h1,h2⟩:=qV I1 r1 ty
 exact⟨T,id,pa,slot,hty,h1,h2,OG rfl (PySem.evalArgs_none (hm pins s1 σ H1 x [] v [] Q I1 r1 .nil q1))⟩
theorem Kq(pa:PlainAttrs T)(slot:Slot T name id)(hty:typeOf (.builtin id)=pure (.type "method_descriptor"))(hm:EM X id r)(ho:PE X o to)(ha:PA X (e::es) t)(hbase:RG o name X.env (OA o X.env)=OA o X.env:=by rfl)(hfew:((PD cpos (JS (e::es) X.env)).all (λx=>!x.1) && (backToKw cpos (QC [] X.env)).all (λx=>x.1.isSome)
  && decide ((e::es).length+([]:List Keyword).length+(if ([]:List Keyword).isEmpty then 0 else 1) < 30))=true:=by rfl)(hline:(apos.endLine == cpos.line)=true:=by rfl)(hs:JS (e::es) X.env=(false,OA e X.env)::JS es X.env:=by rfl)(hplain:(PD cpos (JS es X.env)).any (·.1)=false:=by rfl):
 PE X (.Call (.Attribute o name apos) (e::es) [] cpos) (HY X.K T r to t):=by
 intro pins s σ H Q I h
 refine wpAny_Call_method_late hbase hfew hline rfl (Bx (ho pins s σ H _ I h) λv s1 ⟨x,H1,I1,r1,ty,q1⟩=>?_)
 obtain⟨h1,h2⟩:=qV I1 r1 ty
 refine⟨T,id,pa,slot,hty,h1,h2,?_⟩
 have hA:=ha cpos pins s1 σ H1 _ I1 q1
 rw[hs] at hA ⊢
 refine OG (by show (false || (PD cpos (JS es X.env)).any (·.1))=false;rw[hplain]<;>rfl) (QO ?_)
 exact Bx hA λus s2 ⟨vs,H2,I2,r2,q2⟩=>hm pins s2 σ H2 x vs v us Q I2 r1 r2 q2
end
def HM(X:Cx)(id:String)(r:V->List V->Hp->VK->Prop):Prop:=
 ∀(pins:List (IN×Obj))(s:IL)(σ:St)(H:Hp)(x:V)(xs:List V)(v:II)(us:List II)(Q:VK),Inv X pins σ H s->RelV x v->Be xs us->r x xs H Q ->
  JT (JV X.prog X.w) X.A (call (.builtin id) (v::us)) (EP X pins σ Q) X.xe s
theorem Be.one:∀ {x:V} {us:List II},Be [x] us->∃u,us=[u]/\RelV x u
 | _,_,.cons r .nil=>⟨_,rfl,r⟩
theorem Be.zero:∀ {us:List II},Be [] us->us=[]
 | _,.nil=>rfl
theorem Be.dropLast{xs:List V}{us:List II}(h:Be xs us):Be xs.dropLast us.dropLast:=by
 induction h with
 | nil=>exact .nil
 | cons r t ih=>
  cases t with
  | nil=>exact .nil
  | cons q t'=>exact .cons r ih
theorem Be.reverse{xs:List V}{us:List II}(h:Be xs us):Be xs.reverse us.reverse:=by
 induction h with
 | nil=>exact .nil
 | cons r t ih=>rw[NE,NE];exact Be.append ih (.cons r .nil)
theorem aV{α:Type}(l:List α):l.eraseIdx (l.length-1)=l.dropLast:=by
 induction l with
 | nil=>rfl
 | cons a r ih=>
  cases r with
  | nil=>rfl
  | cons b r=>
   have e:(a::b::r).length-1=((b::r).length-1)+1:=by
    have h1:(a::b::r).length=r.length+2:=rfl
    have h2:(b::r).length=r.length+1:=rfl
    omega
   rw[e,List.eraseIdx_cons_succ,ih]
   all_goals rfl
section
variable {X:Cx} {pins:List (IN×Obj)} {σ:St} {H:Hp} {s:IL} {l b:IN} {xs ys zs:List V}
theorem Inv.lset{its its':List II}{n:Nat}{f:Array II->Array II}{t':Nat}(I:Inv X pins σ H s)(hH:H l=some (.lst xs))(e:s.heap.get? l=some { cls:=.type "list", data:=.seq its.toArray n })(hf:f its.toArray=its'.toArray)(hv:Be ys its')(hz:ys.length<=IK):
 Inv X pins σ (upd H l (.lst ys)) { s with heap:=s.heap.update l (RA f),toks:=t' }:=by
 have q:=PySem.IsL.update e f
 rw[hf] at q
 refine I.write (x:=l) (e:=l) (by rw[hH];exact trivial) (.inl rfl) (λb' u hb hu=>(KP s.heap (RA f) (KO hb)).trans hu) ⟨_,q⟩ ?_
 exact⟨hz,its',_,hv,q⟩
theorem Inv.lnew{its:List II}{t':Nat}(I:Inv X pins σ H s)(hv:Be ys its)(hz:ys.length<=IK):
 Inv X pins σ (upd H s.heap.objs.size (.lst ys)) { s with heap:=s.heap.push { cls:=.type "list", data:=.seq its.toArray },toks:=t' }:=
 I.laid (λ_ _ q=>IJ _ q) (IP _) ⟨hz,its,0,hv,JI _ rfl⟩
theorem Inv.fresh(I:Inv X pins σ H s):H s.heap.objs.size=none:=I.hok.fresh (IP _)
theorem Inv.lstM(I:Inv X pins σ H s)(hH:H l=some (.lst xs)):xs.length<=IK/\∃(its:List II)(n:Nat),Be xs its/\xs.length=its.length/\s.heap.get? l=some { cls:=.type "list", data:=.seq its.toArray n }:=by
 obtain⟨z,its,n,r,e⟩:=I.hok l _ hH
 exact⟨z,its,n,r,r.length,e⟩
end
section
variable {X:Cx}
def vA:V->List V->Hp->VK->Prop:=λx vs H Q=>∃l xs y,x=.ref l/\vs=[y]/\H l=some (.lst xs)/\xs.length < IK/\Q .non (upd H l (.lst (xs++[y])))
theorem Et:HM X "list.append" vA:=by
 intro pins s σ H x vs v us Q I rx rv h
 obtain⟨l,xs,y,rfl,rfl,hH,hz,q⟩:=h
 cases rx
 obtain⟨u,rfl,ru⟩:=rv.one
 obtain⟨z,its,n,r,hl,e⟩:=I.lstM hH
 refine call_meets F.slot_list_append ⟨_,e,rfl⟩ F.entry_list_append (F.args_list_append_2 _ _) (PySem.list_append l its.toArray n u (by rw[JN];omega)) ⟨e,?_⟩
 refine⟨.non,_,I.lset (its':=its++[u]) hH e (by simp) (r.append (.cons ru .nil)) ?_,rfl,q⟩
 rw[IV,JH]
 omega
def DW:V->List V->Hp->VK->Prop:=λx vs H Q=>∃l xs y,x=.ref l/\vs=[]/\H l=some (.lst xs)/\xs[xs.length-1]? = some y/\Q y (upd H l (.lst xs.dropLast))
theorem aS:HM X "list.pop" DW:=by
 intro pins s σ H x vs v us Q I rx rv h
 obtain⟨l,xs,y,rfl,rfl,hH,hy,q⟩:=h
 cases rx
 have hus:=rv.zero
 subst hus
 obtain⟨z,its,n,r,hl,e⟩:=I.lstM hH
 obtain⟨u,hu,ru⟩:=r.get hy
 have hy':its.toArray[its.toArray.size-1]? = some u:=by
  show its.toArray[its.length-1]? = some u
  rw[<- Array.getElem?_toList,<- hl]
  exact hu
 refine call_meets F.slot_list_pop ⟨_,e,rfl⟩ F.entry_list_pop (F.args_list_pop_1 _) (MeetsSeq.list_pop_last l its.toArray n u hy' (by rw[JN];omega)) ⟨e,?_⟩
 refine⟨y,_,I.lset (its':=its.dropLast) hH e ?_ r.dropLast ?_,ru,q⟩
 ·show its.toArray.eraseIdxIfInBounds (its.toArray.size-1)=its.dropLast.toArray
  rw[JN,List.eraseIdxIfInBounds_toArray,aV]
 ·rw[List.length_dropLast]
  omega
def zH:R2:=λx y H Q=>∃l b xs zs,x=.ref l/\y=.ref b/\H l=some (.lst xs)/\H b=some (.lst zs)/\xs.length+zs.length<=IK/\∀p,H p=none->Q (.ref p) (upd H p (.lst (xs++zs)))
theorem Fa:Kl X (PM .Add) zH:=by
 intro pins s σ H x y v u Q I rx ry h
 obtain⟨l,b,xs,zs,rfl,rfl,hH,hB,hz,q⟩:=h
 cases rx
 cases ry
 obtain⟨z,its,n,r,hl,e⟩:=I.lstM hH
 obtain⟨z2,its2,n2,r2,hl2,e2⟩:=I.lstM hB
 refine PySem.P.add_list e e2 ?_ (by rw[JN,JN];omega)
 have ea:its.toArray++its2.toArray=(its++its2).toArray:=by simp
 rw[ea]
 exact⟨.ref _,_,I.lnew (t':=s.toks) (r.append r2) (by rw[IV];omega),rfl,q _ I.fresh⟩
end
section
variable {prog:JJ} {w:KL} {A:KG} {E:II->IL->Prop} {s:IL}
end
section
variable {X:Cx}
end
section
variable {κ:Type} [DecidableEq κ]
def valV(kvs:List (κ×V))(k:κ):Option V:=(kvs.find? λkv=>decide (kv.1=k)).map (·.2)
def putK(kvs:List (κ×V))(k:κ)(v:V):List (κ×V):=
 if (kvs.any λkv=>decide (kv.1=k))=true then kvs.map (λkv=>if kv.1=k then (kv.1,v) else kv) else kvs++[(k,v)]
def Ci(kvs:List (κ×V))(k:κ):List (κ×V):=kvs.filter λkv=>decide (kv.1≠k)
theorem Cu{p:κ×V}{r:List (κ×V)}{k:κ}(e:p.1=k):valV (p::r) k=some p.2:=by simp[valV,QS,e]
theorem Cm{p:κ×V}{r:List (κ×V)}{k:κ}(e:¬ p.1=k):valV (p::r) k=valV r k:=by simp[valV,QS,e]
theorem Fy(k:κ):∀kvs:List (κ×V),(kvs.any λkv=>decide (kv.1=k))=(valV kvs k).isSome
 | []=>rfl
 | p::r=>by
  rw[List.any_cons]
  by_cases e:p.1=k
  ·simp only[Cu e,decide_eq_true e,Bool.true_or,Option.isSome_some]
  ·rw[Cm e,decide_eq_false e,Bool.false_or];exact Fy k r
theorem Xf(k j:κ)(y:V):∀kvs:List (κ×V),valV (kvs.map λkv=>if kv.1=k then (kv.1,y) else kv) j=(valV kvs j).map λx=>if j=k then y else x
 | []=>rfl
 | p::r=>by
  have ih:=Xf k j y r
  rw[KR]
  by_cases h:p.1=k
  ·rw[if_pos h]
   by_cases e:p.1=j
   ·rw[Cu (p:=(p.1,y)) e,Cu e,Option.map_some,if_pos (e.symm.trans h)]
   ·rw[Cm (p:=(p.1,y)) e,Cm e,ih]
  ·rw[if_neg h]
   by_cases e:p.1=j
   ·rw[Cu (p:=p) e,Cu e,Option.map_some,if_neg (λz=>h (e.trans z))]
   ·rw[Cm (p:=p) e,Cm e,ih]
theorem Ry(k j:κ)(y:V):∀kvs:List (κ×V),valV kvs k=none->valV (kvs++[(k,y)]) j=if j=k then some y else valV kvs j
 | [],_=>by
  by_cases e:k=j
  ·rw[if_pos e.symm];exact Cu (p:=(k,y)) e
  ·rw[if_neg (λz=>e z.symm)];exact Cm (p:=(k,y)) e
 | p::r,hn=>by
  rw[List.cons_append]
  have hk:¬ p.1=k:=λz=>by rw[Cu z] at hn;cases hn
  rw[Cm hk] at hn
  have ih:=Ry k j y r hn
  by_cases e:p.1=j
  ·rw[Cu e,Cu e,if_neg (λz=>hk (e.trans z))]
  ·rw[Cm e,Cm e,ih]
theorem Ec(kvs:List (κ×V))(k j:κ)(y:V):valV (putK kvs k y) j=if j=k then some y else valV kvs j:=by
 unfold putK
 by_cases a:(kvs.any λkv=>decide (kv.1=k))=true
 ·rw[if_pos a,Xf]
  rw[Fy] at a
  by_cases e:j=k
  ·obtain⟨x,hx⟩:=Option.isSome_iff_exists.mp a
   rw[if_pos e,e,hx,Option.map_some,if_pos rfl]
  ·rw[if_neg e]
   cases valV kvs j with
   | none=>rfl
   | some x=>rw[Option.map_some,if_neg e]
 ·rw[if_neg a]
  refine Ry k j y kvs ?_
  rw[Fy] at a
  cases q:valV kvs k with
  | none=>rfl
  | some x=>rw[q] at a;exact(a rfl).elim
theorem Dq(kvs:List (κ×V))(k:κ)(v:V):(putK kvs k v).length<=kvs.length+1:=by
 unfold putK
 split
 ·rw[IM];omega
 ·rw[IV,KH,List.length_nil];omega
theorem lZ{kvs:List (κ×V)}{k:κ}(v:V)(h:valV kvs k=none):putK kvs k v=kvs++[(k,v)]:=by
 unfold putK
 rw[Fy,h]
 exact if_neg (by decide)
theorem Hu.isSome_eq{o:Option V}{u:Option II}(r:Hu o u):o.isSome=u.isSome:=by
 cases o with
 | none=>cases u with
  | none=>rfl
  | some _=>exact(show False from r).elim
 | some _=>cases u with
  | none=>exact(show False from r).elim
  | some _=>rfl
theorem Hu.getD{o:Option V}{u:Option II}{d:V}{d':II}(r:Hu o u)(rd:RelV d d'):RelV (o.getD d) (u.getD d'):=by
 cases o with
 | none=>cases u with
  | none=>exact rd
  | some _=>exact(show False from r).elim
 | some _=>cases u with
  | none=>exact(show False from r).elim
  | some _=>exact r
theorem KV.val{kvs:List (κ×V)}{vs:List (κ×II)}(r:KV kvs vs)(k:κ):Hu (valV kvs k) (valueAt vs k):=by
 unfold KV at r
 induction r with
 | nil=>exact NI
 | @cons p q ps qs h t ih=>
  obtain⟨h1,h2⟩:=h
  by_cases e:p.1=k
  ·have e':q.1=k:=h1.symm.trans e
   have b:valueAt (q::qs) k=some q.2:=by simp[valueAt,QS,e']
   rw[Cu e,b];exact h2
  ·have e':¬ q.1=k:=λz=>e (h1.trans z)
   have b:valueAt (q::qs) k=valueAt qs k:=by simp[valueAt,QS,e']
   rw[Cm e,b];exact ih
theorem KV.any{kvs:List (κ×V)}{vs:List (κ×II)}(r:KV kvs vs)(k:κ):(kvs.any λkv=>decide (kv.1=k))=vs.any λkv=>decide (kv.1=k):=by
 unfold KV at r
 induction r with
 | nil=>rfl
 | cons h t ih=>rw[List.any_cons,List.any_cons,ih,h.1]
theorem KV.repl{kvs:List (κ×V)}{vs:List (κ×II)}(r:KV kvs vs)(k:κ){y:V}{u:II}(ry:RelV y u):
 KV (kvs.map λkv=>if kv.1=k then (kv.1,y) else kv) (vs.map λkv=>if kv.1=k then (kv.1,u) else kv):=by
 unfold KV at r ⊢
 induction r with
 | nil=>exact .nil
 | @cons p q ps qs h t ih=>
  rw[KR,KR]
  refine .cons ?_ ih
  obtain⟨h1,h2⟩:=h
  by_cases e:p.1=k
  ·rw[if_pos e,if_pos (h1.symm.trans e)];exact⟨h1,ry⟩
  ·rw[if_neg e,if_neg (λz=>e (h1.trans z))];exact⟨h1,h2⟩
theorem KV.put{kvs:List (κ×V)}{vs:List (κ×II)}(r:KV kvs vs)(k:κ){y:V}{u:II}(ry:RelV y u):KV (putK kvs k y) (stored vs k u):=by
 unfold putK stored
 rw[r.any k]
 by_cases e:(vs.any λkv=>decide (kv.1=k))=true
 ·rw[if_pos e,if_pos e];exact r.repl k ry
 ·rw[if_neg e,if_neg e];exact Paired.snoc r ⟨rfl,ry⟩
theorem KV.drop{kvs:List (κ×V)}{vs:List (κ×II)}(r:KV kvs vs)(k:κ):KV (Ci kvs k) (without vs k):=by
 unfold KV at r ⊢
 unfold Ci without
 induction r with
 | nil=>exact .nil
 | @cons p q ps qs h t ih=>
  obtain⟨h1,h2⟩:=h
  rw[List.filter_cons,List.filter_cons]
  by_cases e:p.1=k
  ·have a:¬ decide (p.1≠k)=true:=by simp[e]
   have b:¬ decide (q.1≠k)=true:=by simp[h1.symm.trans e]
   rw[if_neg a,if_neg b];exact ih
  ·have e':¬ q.1=k:=λz=>e (h1.trans z)
   have a:decide (p.1≠k)=true:=by simp[e]
   have b:decide (q.1≠k)=true:=by simp[e']
   rw[if_pos a,if_pos b];exact .cons ⟨h1,h2⟩ ih
theorem KV.length{kvs:List (κ×V)}{vs:List (κ×II)}(r:KV kvs vs):kvs.length=vs.length:=NK r
theorem Wu(kvs:List (κ×V))(k:κ):(Ci kvs k).length<=kvs.length:=List.length_filter_le _ _
end
theorem Lv{P:JJ}{w:KL}{k:Key}{u:II}(r:RelV (kV k) u):(Bz P w).is k u=true:=by
 cases k with
 | inl i=>obtain⟨t,e⟩:=(show ∃t,u=Value.int i t from r);subst e;exact Ya P w i t
 | inr x=>obtain⟨t,e⟩:=(show ∃t,u=Value.str x t from r);subst e;exact Xd P w x t
theorem So{P:JJ}{w:KL}:∀ {ks:List Key} {us:List II},Be (ks.map kV) us->ItemsAre (Bz P w) ks us
 | [],_,r=>by rw[List.map_nil] at r;cases r;exact .nil
 | k::ks,_,r=>by
  rw[KR] at r
  cases r with
  | cons h t=>exact .cons (Lv h) (So t)
abbrev KT(H:Hp):List (List Key×V)->List (List Key×IN×II)->Prop:=PF λp q=>p.1=q.1/\H q.2.1=some (.tup (p.1.map kV))/\RelV p.2 q.2.2
theorem KT.val{H:Hp}{kvs:List (List Key×V)}{xs:List (List Key×IN×II)}(r:KT H kvs xs)(k:List Key):Hu (valV kvs k) ((atKey xs k).map (·.2)):=by
 induction r with
 | nil=>exact NI
 | @cons p q ps qs h t ih=>
  obtain⟨h1,_,h2⟩:=h
  by_cases e:p.1=k
  ·have e':q.1=k:=h1.symm.trans e
   have b:atKey (q::qs) k=some q.2:=by simp[atKey,QS,e']
   rw[Cu e,b];exact h2
  ·have e':¬ q.1=k:=λz=>e (h1.trans z)
   have b:atKey (q::qs) k=atKey qs k:=by simp[atKey,QS,e']
   rw[Cm e,b];exact ih
theorem KT.repl{H:Hp}{kvs:List (List Key×V)}{xs:List (List Key×IN×II)}(r:KT H kvs xs)(k:List Key){y:V}{u:II}(ry:RelV y u):
 KT H (kvs.map λkv=>if kv.1=k then (kv.1,y) else kv) (xs.map (putAt k u)):=by
 induction r with
 | nil=>exact .nil
 | @cons p q ps qs h t ih=>
  rw[KR,KR]
  refine .cons ?_ ih
  obtain⟨h1,h2,h3⟩:=h
  unfold putAt
  by_cases e:p.1=k
  ·rw[if_pos e,if_pos (h1.symm.trans e)];exact⟨h1,h2,ry⟩
  ·rw[if_neg e,if_neg (λz=>e (h1.trans z))];exact⟨h1,h2,h3⟩
theorem KT.put{H:Hp}{kvs:List (List Key×V)}{xs:List (List Key×IN×II)}(r:KT H kvs xs)(k:List Key){b:IN}{y:V}{u:II}(hb:H b=some (.tup (k.map kV)))(ry:RelV y u):
 KT H (putK kvs k y) (storedH xs k b u):=by
 have e:(kvs.any λkv=>decide (kv.1=k))=(atKey xs k).isSome:=by
  rw[Fy,(r.val k).isSome_eq,Option.isSome_map]
 unfold putK storedH
 rw[e]
 by_cases q:(atKey xs k).isSome=true
 ·rw[if_pos q,if_pos q];exact r.repl k ry
 ·rw[if_neg q,if_neg q];exact Paired.snoc r ⟨rfl,hb,ry⟩
theorem KT.keeps{H H':Hp}{kvs:List (List Key×V)}{xs:List (List Key×IN×II)}(r:KT H kvs xs)(ht:∀b ys,H b=some (.tup ys)->H' b=some (.tup ys)):KT H' kvs xs:=
 Paired.mapP r λ_ _ z=>⟨z.1,ht _ _ z.2.1,z.2.2⟩
section
variable {P:JJ} {w:KL} {H:Hp} {h:LO} {a:IN}
theorem wH{u:HO}(ok:Km P w H h)(e:Rd H a u):Cz P w H h a u:=e.ok ok
theorem Oz{kvs:List (Key×V)}(ok:Km P w H h)(e:Rd H a (.dK kvs)):kvs.length<=IK/\(a == NG)=false/\∃vs,KV kvs vs/\h.DictOf (Bz P w) a vs:=
 show Cz P w H h a (.dK kvs) from wH ok e
theorem lS{kvs:List (Key×V)}(ok:Km P w H h)(e:H a=some (.dK kvs)):kvs.length<=IK/\(a == NG)=false/\∃vs,KV kvs vs/\h.DictOf (Bz P w) a vs:=Oz ok (.inl e)
theorem Ld{ks:List Key}(ok:Km P w H h)(e:H a=some (.tup (ks.map kV))):(tupleKind (Bz P w)).is h ks a:=by
 obtain⟨_,its,r,o,h1,h2,n,h3⟩:=(show Cz P w H h a (.tup (ks.map kV)) from ok a _ e)
 exact⟨o,its.toArray,n,h1,h2,h3,by simpa using So r⟩
theorem Qd{kvs:List (List Key×V)}(ok:Km P w H h)(e:Rd H a (.dT kvs)):kvs.length<=IK/\(a == NG)=false /\
 ∃xs,KT H kvs xs/\h.DictOfH (tupleKind (Bz P w)) a xs:=by
 obtain⟨z,y,xs,r,o,es,ep,h1,h2,h3,h4,h5⟩:=(show Cz P w H h a (.dT kvs) from wH ok e)
 refine⟨z,y,xs,r,o,es,ep,h1,h2,h3,h4,λx hx=>?_,h5⟩
 have all:∀ {l:List (List Key×V)} {m:List (List Key×IN×II)},KT H l m->∀x∈m,(tupleKind (Bz P w)).is h x.1 x.2.1:=by
  intro l m q
  induction q with
  | nil=>intro x hx;exact nomatch hx
  | @cons p q ps qs hq t ih=>
   intro x hx
   rcases IQ.mp hx with e | hx
   ·subst e
    exact Ld ok (by rw[<- hq.1];exact hq.2.1)
   ·exact ih x hx
 exact all r x hx
theorem wD{kvs:List (List Key×V)}(ok:Km P w H h)(e:H a=some (.dT kvs)):kvs.length<=IK/\(a == NG)=false /\
 ∃xs,KT H kvs xs/\h.DictOfH (tupleKind (Bz P w)) a xs:=Qd ok (.inl e)
end
def Fc(H:Hp)(a:IN)(y:V)(r:Option V):Prop:=
 (∃kvs k,Rd H a (.dK kvs)/\y=kV k/\r=valV kvs k) ∨ ∃kvs k b,Rd H a (.dT kvs)/\y=.ref b/\H b=some (.tup (k.map kV))/\r=valV kvs k
def Kt(H:Hp)(a:IN)(y v:V)(H':Hp):Prop:=
 (∃kvs k,H a=some (.dK kvs)/\y=kV k/\kvs.length < IK/\H'=upd H a (.dK (putK kvs k v))) ∨
 ∃kvs k b,H a=some (.dT kvs)/\y=.ref b/\H b=some (.tup (k.map kV))/\kvs.length < IK/\H'=upd H a (.dT (putK kvs k v))
theorem Fc.k{H:Hp}{a:IN}{kvs:List (Key×V)}{k:Key}(e:H a=some (.dK kvs)):Fc H a (kV k) (valV kvs k):=.inl ⟨kvs,k,.inl e,rfl,rfl⟩
theorem Fc.t{H:Hp}{a b:IN}{kvs:List (List Key×V)}{k:List Key}(e:H a=some (.dT kvs))(eb:H b=some (.tup (k.map kV))):Fc H a (.ref b) (valV kvs k):=.inr ⟨kvs,k,b,.inl e,rfl,eb,rfl⟩
theorem Kt.k{H:Hp}{a:IN}{kvs:List (Key×V)}{k:Key}{v:V}(e:H a=some (.dK kvs))(hl:kvs.length < IK):Kt H a (kV k) v (upd H a (.dK (putK kvs k v))):=.inl ⟨kvs,k,e,rfl,hl,rfl⟩
theorem Kt.t{H:Hp}{a b:IN}{kvs:List (List Key×V)}{k:List Key}{v:V}(e:H a=some (.dT kvs))(eb:H b=some (.tup (k.map kV)))(hl:kvs.length < IK):
 Kt H a (.ref b) v (upd H a (.dT (putK kvs k v))):=.inr ⟨kvs,k,b,e,rfl,eb,hl,rfl⟩
section
variable {X:Cx} {pins:List (IN×Obj)} {σ:St} {H:Hp} {s:IL} {a:IN} {y v:V} {u r:II} {o:Option V} {A:KG} {E:II->IL->Prop}
theorem Inv.big(I:Inv X pins σ H s):NG < s.heap.objs.size:=by
 have h:KE < s.heap.objs.size:=(I.mod.glob.keeps I.bk).lt
 exact Nat.lt_trans (by decide) h
theorem gL{Q:II->IL->Prop}(hu:A.units+1 < cLine)(I:Inv X pins σ H s)(g:Fc H a y (some v))(ry:RelV y u)(h:∀w' s',Inv X pins σ H s'->RelV v w'->Q w' s'):
 JT (JV X.prog X.w) A (getItem (.ref a) u) Q E s:=by
 rcases g with ⟨kvs,k,e,ey,l⟩ | ⟨kvs,k,b,e,ey,eb,l⟩
 ·subst ey
  obtain⟨z,hd,vs,rel,dd⟩:=Oz I.hok e
  obtain⟨w',hw,rw'⟩:=Hu.some_of (v:=v) (o:=valueAt vs k) (by rw[l];exact rel.val k)
  exact wpAny_getItem_of (Lv ry) dd.mapOf hw (h w' _ (I.tok _) rw')
 ·subst ey
  cases (show u=JD b from ry)
  obtain⟨z,hd,xs,rel,dd⟩:=Qd I.hok e
  obtain⟨w',hw,rw'⟩:=Hu.some_of (v:=v) (o:=(atKey xs k).map (·.2)) (by rw[l];exact rel.val k)
  obtain⟨p,hp,hp2⟩:=Option.map_eq_some_iff.mp hw
  refine wpAny_getItem_heap (PU hu) (Ld I.hok eb) dd hp ?_
  rw[hp2]
  exact h w' _ (I.tok _) rw'
theorem EH{Q:II->IL->Prop}(hu:A.units+1 < cLine)(I:Inv X pins σ H s)(g:Fc H a y o)(ry:RelV y u)(h:∀s',Inv X pins σ H s'->Q (.bool o.isSome) s'):
 JT (JV X.prog X.w) A (OJ .In u (.ref a)) Q E s:=by
 rcases g with ⟨kvs,k,e,ey,l⟩ | ⟨kvs,k,b,e,ey,eb,l⟩
 ·subst ey
  obtain⟨z,hd,vs,rel,dd⟩:=Oz I.hok e
  refine wpAny_in_of (Lv ry) hd dd.mapOf ?_
  rw[<- (rel.val k).isSome_eq,<- l]
  exact h _ (I.tok _)
 ·subst ey
  cases (show u=JD b from ry)
  obtain⟨z,hd,xs,rel,dd⟩:=Qd I.hok e
  refine wpAny_in_heap (PU hu) (Ld I.hok eb) hd dd ?_
  have q:=(rel.val k).isSome_eq
  rw[Option.isSome_map] at q
  rw[<- q,<- l]
  exact h _ (I.tok _)
theorem sS{Q:II->IL->Prop}(hu:A.units+1 < cLine)(I:Inv X pins σ H s)(g:Fc H a y o)(ry:RelV y u)(h:∀s',Inv X pins σ H s'->Q (.bool (!o.isSome)) s'):
 JT (JV X.prog X.w) A (OJ .NotIn u (.ref a)) Q E s:=by
 rcases g with ⟨kvs,k,e,ey,l⟩ | ⟨kvs,k,b,e,ey,eb,l⟩
 ·subst ey
  obtain⟨z,hd,vs,rel,dd⟩:=Oz I.hok e
  refine wpAny_notIn_of (Lv ry) hd dd.mapOf ?_
  rw[<- (rel.val k).isSome_eq,<- l]
  exact h _ (I.tok _)
 ·subst ey
  cases (show u=JD b from ry)
  obtain⟨z,hd,xs,rel,dd⟩:=Qd I.hok e
  refine wpAny_notIn_heap (PU hu) (Ld I.hok eb) hd dd ?_
  have q:=(rel.val k).isSome_eq
  rw[Option.isSome_map] at q
  rw[<- q,<- l]
  exact h _ (I.tok _)
theorem Lr{h':LO}{t':Nat}{ob:HO}(I:Inv X pins σ H s)(mu:DC (H a))(hs:OQ a s.heap h')(he:∃q,h'.get? a=some q)(new:Cz X.prog X.w (upd H a ob) h' a ob):
 Inv X pins σ (upd H a ob) { s with heap:=h',toks:=t' }:=
 I.write (x:=a) (e:=a) mu (.inl rfl) (λb q hb z=>(hs.2 b hb).trans z) he new
theorem cR{P:JJ}{w:KL}{H':Hp}{h':LO}{kvs:List (Key×V)}{vs:List (Key×II)}(z:kvs.length<=IK)(hd:(a == NG)=false)(rel:KV kvs vs)(dd:h'.DictOf (Bz P w) a vs):
 Cz P w H' h' a (.dK kvs):=⟨z,hd,vs,rel,dd⟩
theorem jB{H':Hp}{Q:Unit->IL->Prop}(hu:A.units+1 < cLine)(I:Inv X pins σ H s)(g:Kt H a y v H')(ry:RelV y u)(rv:RelV v r)(h:∀s',Inv X pins σ H' s'->Q () s'):
 JT (JV X.prog X.w) A (setItem (.ref a) u r) Q E s:=by
 rcases g with ⟨kvs,k,e,ey,l,eH⟩ | ⟨kvs,k,b,e,ey,eb,l,eH⟩
 ·subst ey eH
  obtain⟨z,hd,vs,rel,dd⟩:=lS I.hok e
  have hz:vs.length<=IK:=by rw[<- rel.length];exact z
  have hl:(putK kvs k v).length<=IK:=by have:=Dq kvs k v;omega
  refine wpAny_setItem_pairs (hsz:=hz) (Lv ry) dd λh' dd' hs=>h _ ?_
  have he:∃q,h'.get? a=some q:=let ⟨q,_,_,hq,_⟩:=dd';⟨q,hq⟩
  exact Lr I (by rw[e];exact NI) hs he (cR hl hd (rel.put k rv) dd')
 ·subst ey eH
  cases (show u=JD b from ry)
  obtain⟨z,hd,xs,rel,dd⟩:=wD I.hok e
  have hz:xs.length<=IK:=by rw[<- NK rel];exact z
  have hl:(putK kvs k v).length<=IK:=by have:=Dq kvs k v;omega
  refine wpAny_setItem_heap (hsz:=hz) (PU hu) (Ld I.hok eb) dd λh' dd' hs=>h _ ?_
  obtain⟨q,es,ep,hq,h2,h3,h4,_,h5⟩:=dd'
  refine Lr I (by rw[e];exact NI) hs ⟨q,hq⟩ ⟨hl,hd,_,(rel.put k eb rv).keeps λc ys ec=>?_,q,es,ep,hq,h2,h3,h4,h5⟩
  rw[Ai (Cd ec e (λz=>nomatch z))]
  exact ec
end
section
variable {X:Cx} {pins:List (IN×Obj)} {σ:St} {H:Hp} {s:IL} {a:IN} {kvs:List (Key×V)} {k:Key} {u:II} {A:KG} {E:II->IL->Prop}
theorem AH{Q:Unit->IL->Prop}(I:Inv X pins σ H s)(e:H a=some (.dK kvs))(ry:RelV (kV k) u)(l:(valV kvs k).isSome=true)(h:∀s',Inv X pins σ (upd H a (.dK (Ci kvs k))) s'->Q () s'):
 JT (JV X.prog X.w) A (delItem (.ref a) u) Q E s:=by
 obtain⟨z,hd,vs,rel,dd⟩:=lS I.hok e
 refine wpAny_delItem_slot dd.typeIs (by decide) PySem.F.slot_dict_delitem
  (call_meetsIn PySem.F.slot_dict_delitem dd.typeIs PySem.F.entry_dict_delitem (PySem.F.args_dict_delitem_2 _ _) (meets_dict_delitem_pairs (Bz X.prog X.w) a (Lv ry)) ⟨vs,dd,by rw[<- rel.length];exact z,by rw[<- (rel.val k).isSome_eq];exact l,λh' dd' hs=>h _ ?_⟩)
 have he:∃q,h'.get? a=some q:=let ⟨q,_,_,hq,_⟩:=dd';⟨q,hq⟩
 exact Lr I (by rw[e];exact NI) hs he (cR (JR (Wu kvs k) z) hd (rel.drop k) dd')
theorem CY{v:V}{more:List II}{Q:II->IL->Prop}(I:Inv X pins σ H s)(e:H a=some (.dK kvs))(ry:RelV (kV k) u)(l:valV kvs k=some v)(hm:more=[] ∨ ∃x,more=[x])(h:∀w' s',Inv X pins σ (upd H a (.dK (Ci kvs k))) s'->RelV v w'->Q w' s'):JT (JV X.prog X.w) A (call (.builtin "dict.pop") (.ref a::u::more)) Q E s:=by
 obtain⟨z,hd,vs,rel,dd⟩:=lS I.hok e
 obtain⟨w',hw,rw'⟩:=Hu.some_of (v:=v) (o:=valueAt vs k) (by rw[<- l];exact rel.val k)
 have hp:(keyPart u).isSome=true:=by
  cases k with
  | inl i=>obtain⟨t,q⟩:=(show ∃t,u=Value.int i t from ry);subst q;rfl
  | inr x=>obtain⟨t,q⟩:=(show ∃t,u=Value.str x t from ry);subst q;rfl
 have ha:argsOk "dict.pop" ⟨.ref a::u::more,[]⟩:=by
  rcases hm with q | ⟨x,q⟩
  ·subst q;exact PySem.F.args_dict_pop_2 _ _
  ·subst q;exact PySem.F.args_dict_pop_3 _ _ _
 refine call_meetsIn RI dd.typeIs PySem.F.entry_dict_pop ha (meets_dict_pop_there (Bz X.prog X.w) a (Lv ry) more hm hp)
  ⟨vs,w',dd,by rw[<- rel.length];exact z,hw,λh' dd' hs=>h w' _ ?_ rw'⟩
 have he:∃q,h'.get? a=some q:=let ⟨q,_,_,hq,_⟩:=dd';⟨q,hq⟩
 exact Lr I (by rw[e];exact NI) hs he (cR (JR (Wu kvs k) z) hd (rel.drop k) dd')
end
def BF(i:Expr):Prop:=∀ov iv,subscripted i false ov iv=operate [ov,iv] (getItem ov iv)
theorem uQ{prog:JJ}{w:KL}{A:KG}{E:II->IL->Prop}{s:IL}{env:Env}{value slice:Expr}{pos:Pos}{T id:String}{Q:II->IL->Prop}(hl:typeLookup (.type T) "__getitem__" = pure (some (.builtin id)))(hs:BF slice)(h:JT (JV prog w) A (OA value env) (λo s₁=>JT (JV prog w) A (OA slice env) (λi s₂=>s₂.TypeIs o T/\JT (JV prog w) A (getItem o i) Q E s₂) E s₁) E s):
 JT (JV prog w) A (OA (.Subscript value slice pos) env) Q E s:=by
 refine Subscript_ (MI h (λo s₁ h₁=>MI h₁ (λi s₂ h₂=>?_) λ_ _ x=>x) λ_ _ x=>x)
 obtain⟨hT,h₂⟩:=h₂
 unfold subscriptTail
 refine IF ?_
 rw[getitemInPython_of_ne hT.not_modules]
 refine IF (wpAny_specialOf hT hl ?_)
 have fin:JT (JV prog w) A (subscripted slice false o i) (λr s₃=>JT (JV prog w) A (letTemporaryGo value o r >>= λ_=>pure r) Q E s₃) E s₂:=by
  rw[hs o i]
  exact wpAny_operating (MI h₂ (λr s₃ h₃=>IF (wpAny_letTemporaryGo (JA h₃))) λ_ _ x=>x)
 first
  | exact JA (IF fin)
  | exact IF (JA (IF fin))
  | exact IF fin
theorem Vq{X:Cx}{pins:List (IN×Obj)}{σ:St}{H:Hp}{s:IL}{a:IN}{y:V}{o:Option V}(I:Inv X pins σ H s)(g:Fc H a y o):s.TypeIs (.ref a) "dict" := by
 rcases g with ⟨kvs,k,e,_,_⟩ | ⟨kvs,k,b,e,_,_,_⟩
 ·obtain⟨_,_,vs,_,dd⟩:=Oz I.hok e
  exact dd.typeIs
 ·obtain⟨_,_,xs,_,dd⟩:=Qd I.hok e
  exact dd.typeIs
def BO(td ty:TE):TE:=λσ H Q=>td σ H λx H1=>ty σ H1 λy H2=>∃a v,x=.ref a/\Fc H2 a y (some v)/\Q v H2
def FS(ty td:TE):TE:=λσ H Q=>ty σ H λy H1=>td σ H1 λx H2=>∃a o,x=.ref a/\Fc H2 a y o/\Q (.bl o.isSome) H2
def vP(ty td:TE):TE:=λσ H Q=>ty σ H λy H1=>td σ H1 λx H2=>∃a o,x=.ref a/\Fc H2 a y o/\Q (.bl (!o.isSome)) H2
def BS(td ty tv:TE):TS:=λD σ H=>tv σ H λv H1=>td σ H1 λx H2=>ty σ H2 λy H3=>∃a H4,x=.ref a/\Kt H3 a y v H4/\D.nx σ H4
section
variable {X:Cx} {o i e value:Expr} {pos pos' tpos:Pos} {td ty tv:TE}
theorem Iw(hu:X.A.units+1 < cLine)(ho:PE X o td)(hi:PE X i ty)(hs:BF i):PE X (.Subscript o i pos) (BO td ty):=by
 intro pins s σ H Q I h
 refine uQ PySem.F.slot_dict_getitem.lookup hs (Bx (ho pins s σ H _ I h) λu s1 ⟨x,H1,I1,rx,q1⟩=>Bx (hi pins s1 σ H1 _ I1 q1) λiv s2 ⟨y,H2,I2,ry,a,v,ex,g,q2⟩=>?_)
 subst ex
 obtain rfl:u=JD a:=rx
 exact⟨Vq I2 g,gL hu I2 g ry λw' s3 I3 rw'=>⟨v,H2,I3,rw',q2⟩⟩
theorem cN(hu:X.A.units+1 < cLine)(hi:PE X i ty)(ho:PE X o td):PC X .In i o (FS ty td):=by
 intro pins s σ H Q I h
 refine Bx (hi pins s σ H _ I h) λiv s1 ⟨y,H1,I1,ry,q1⟩=>Bx (ho pins s1 σ H1 _ I1 q1) λu s2 ⟨x,H2,I2,rx,a,ov,ex,g,q2⟩=>?_
 subst ex
 obtain rfl:u=JD a:=rx
 exact EH hu I2 g ry λs3 I3=>⟨.bl ov.isSome,H2,I3,rfl,q2⟩
theorem Ki(hu:X.A.units+1 < cLine)(hi:PE X i ty)(ho:PE X o td):PC X .NotIn i o (vP ty td):=by
 intro pins s σ H Q I h
 refine Bx (hi pins s σ H _ I h) λiv s1 ⟨y,H1,I1,ry,q1⟩=>Bx (ho pins s1 σ H1 _ I1 q1) λu s2 ⟨x,H2,I2,rx,a,ov,ex,g,q2⟩=>?_
 subst ex
 obtain rfl:u=JD a:=rx
 exact sS hu I2 g ry λs3 I3=>⟨.bl (!ov.isSome),H2,I3,rfl,q2⟩
theorem Gh(hu:X.A.units+1 < cLine)(ho:PE X o td)(hi:PE X i ty)(hv:PE X value tv)(hs:swapsWith value (some (.Subscript o i pos')) pos.line X.env=pure false):
 PS X (.Assign [.Subscript o i pos'] value pos) (BS td ty tv):=by
 intro pins s σ H D I h
 refine wpAny_Assign_Subscript (Bx (hv pins s σ H _ I h) λr s1 ⟨v,H1,I1,rv,q1⟩=>Bx (ho pins s1 σ H1 _ I1 q1) λu s2 ⟨x,H2,I2,rx,q2⟩=>Bx (hi pins s2 σ H2 _ I2 q2) λiv s3 ⟨y,H3,I3,ry,a,H4,ex,g,q3⟩=>?_) hs
 subst ex
 obtain rfl:u=JD a:=rx
 exact jB hu I3 g ry rv λs4 I4=>⟨σ,H4,I4,q3⟩
end
theorem mJ{P:JJ}{w:KL}{H:Hp}(h:LO)(hb:NG < h.objs.size):Cz P w H (h.push { cls:=.type "dict", data:=.dict #[] }) h.objs.size (.dK []):=
 ⟨KI _,beq_eq_false_iff_ne.mpr (KO (JP hb)),[],.nil,Heap.DictOf.new h⟩
theorem qO{P:JJ}{w:KL}{H:Hp}(h:LO)(hb:NG < h.objs.size):Cz P w H (h.push { cls:=.type "dict", data:=.dict #[] }) h.objs.size (.dT []):=
 ⟨KI _,beq_eq_false_iff_ne.mpr (KO (JP hb)),[],.nil,_,#[],0,JI _ rfl,⟨rfl,rfl,rfl⟩,rfl,rfl,QG⟩
def yZ:TE:=λ_ H Q=>∀p,H p=none->Q (.ref p) (upd H p (.dK []))
def yH:TE:=λ_ H Q=>∀p,H p=none->Q (.ref p) (upd H p (.dT []))
section
variable {X:Cx} {pos:Pos}
theorem Mh:PE X (.Dict [] [] pos) yZ:=λpins s σ H Q I h=>
 wpAny_Dict_empty ⟨.ref s.heap.objs.size,_,I.laid (a:=s.heap.objs.size) (o:=.dK []) (t':=s.toks) (λ_ _ q=>IJ _ q) (IP _) (mJ s.heap I.big),rfl,h _ (I.hok.fresh (IP _))⟩
theorem qF:PE X (.Dict [] [] pos) yH:=λpins s σ H Q I h=>
 wpAny_Dict_empty ⟨.ref s.heap.objs.size,_,I.laid (a:=s.heap.objs.size) (o:=.dT []) (t':=s.toks) (λ_ _ q=>IJ _ q) (IP _) (qO s.heap I.big),rfl,h _ (I.hok.fresh (IP _))⟩
end
structure M1(X:Cx)(o:Expr)(m:Str)(apos:Pos)(e:Expr)(cpos:Pos):Prop where
 base:RG o m X.env (OA o X.env)=OA o X.env
 few:((PD cpos (JS [e] X.env)).all (λx=>!x.1) && (backToKw cpos (QC [] X.env)).all (λx=>x.1.isSome)
  && decide (([e]:List Expr).length+([]:List Keyword).length+(if ([]:List Keyword).isEmpty then 0 else 1) < 30))=true
 line:(apos.endLine == cpos.line)=true
 trees:PD cpos (JS [e] X.env)=[(false,OA e X.env)]
structure M2(X:Cx)(o:Expr)(m:Str)(apos:Pos)(e f:Expr)(cpos:Pos):Prop where
 base:RG o m X.env (OA o X.env)=OA o X.env
 few:((PD cpos (JS [e,f] X.env)).all (λx=>!x.1) && (backToKw cpos (QC [] X.env)).all (λx=>x.1.isSome)
  && decide (([e,f]:List Expr).length+([]:List Keyword).length+(if ([]:List Keyword).isEmpty then 0 else 1) < 30))=true
 line:(apos.endLine == cpos.line)=true
 trees:PD cpos (JS [e,f] X.env)=[(false,OA e X.env),(false,OA f X.env)]
def DQ(H:Hp)(a:IN):Prop:=(∃kvs,Rd H a (.dK kvs)) ∨ ∃kvs,Rd H a (.dT kvs)
theorem bJ{X:Cx}{pins:List (IN×Obj)}{σ:St}{H:Hp}{s:IL}{a:IN}(I:Inv X pins σ H s)(d:DQ H a):
 s.TypeIs (.ref a) "dict" /\ (∀b,JD a=.ref b->∃ob,s.heap.get? b=some ob/\ob.dict=none)/\(a == NG)=false:=by
 rcases d with ⟨kvs,e⟩ | ⟨kvs,e⟩
 ·obtain⟨_,hd,vs,_,dd⟩:=Oz I.hok e
  refine⟨dd.typeIs,λb q=>?_,hd⟩
  cases q
  obtain⟨ob,_,_,h1,h2,_⟩:=dd
  exact⟨ob,h1,h2.2.1⟩
 ·obtain⟨_,hd,xs,_,dd⟩:=Qd I.hok e
  refine⟨dd.typeIs,λb q=>?_,hd⟩
  cases q
  obtain⟨ob,_,_,h1,h2,_⟩:=dd
  exact⟨ob,h1,h2.2.1⟩
section
variable {X:Cx} {pins:List (IN×Obj)} {σ:St} {H:Hp} {s:IL} {a:IN} {y d:V} {u r:II} {o:Option V} {A:KG} {E:II->IL->Prop}
theorem AD{Q:II->IL->Prop}(hu:A.units+1 < cLine)(I:Inv X pins σ H s)(g:Fc H a y o)(ry:RelV y u)(rd:RelV d r)(h:∀w' s',Inv X pins σ H s'->RelV (o.getD d) w'->Q w' s'):
 JT (JV X.prog X.w) A (call (.builtin "dict.get") [.ref a,u,r]) Q E s:=by
 rcases g with ⟨kvs,k,e,ey,l⟩ | ⟨kvs,k,b,e,ey,eb,l⟩
 ·subst ey
  obtain⟨z,hd,vs,rel,dd⟩:=Oz I.hok e
  refine call_meetsIn PN dd.typeIs PySem.F.entry_dict_get (PySem.F.args_dict_get_3 _ _ _) (meets_dict_get_default (Bz X.prog X.w) a (Lv ry) hd r) ⟨_,dd.mapOf,h _ _ (I.tok _) ?_⟩
  rw[l]
  exact(rel.val k).getD rd
 ·subst ey
  cases (show u=JD b from ry)
  obtain⟨z,hd,xs,rel,dd⟩:=Qd I.hok e
  refine call_meetsIn PN dd.typeIs PySem.F.entry_dict_get (PySem.F.args_dict_get_3 _ _ _) (meetsH_dict_get_default (tupleKind (Bz X.prog X.w)) a b hd r) ⟨PU hu,k,xs,Ld I.hok eb,dd,h _ _ (I.tok _) ?_⟩
  rw[l]
  exact(rel.val k).getD rd
end
def zL(td ty tx:TE):TE:=λσ H Q=>td σ H λx H1=>∃a,x=.ref a/\DQ H1 a/\ty σ H1 λy H2=>tx σ H2 λz H3=>∃o,Fc H3 a y o/\Q (o.getD z) H3
def yG(td ty:TE):TE:=λσ H Q=>td σ H λx H1=>∃a,x=.ref a/\DQ H1 a/\ty σ H1 λy H2=>∃kvs k v,H2 a=some (.dK kvs)/\y=kV k/\valV kvs k=some v/\Q v (upd H2 a (.dK (Ci kvs k)))
section
variable {X:Cx} {o e f:Expr} {apos cpos:Pos} {td ty tx:TE}
theorem Wd(hu:X.A.units+1 < cLine)(ho:PE X o td)(he:PE X e ty)(hf:PE X f tx)(m:M2 X o "get" apos e f cpos):PE X (.Call (.Attribute o "get" apos) [e,f] [] cpos) (zL td ty tx):=by
 intro pins s σ H Q I h
 refine wpAny_Call_method m.base m.few m.line QP PN PySem.F.type_dict_get (Bx (ho pins s σ H _ I h) λu s1 ⟨x,H1,I1,rx,a,ex,d,q1⟩=>?_)
 subst ex
 obtain rfl:u=JD a:=rx
 obtain⟨t1,t2,_⟩:=bJ I1 d
 refine⟨t1,t2,?_⟩
 rw[m.trees]
 refine OG rfl (QO (OR (Bx (he pins s1 σ H1 _ I1 q1) λiv s2 ⟨y,H2,I2,ry,q2⟩=>
  OR (Bx (hf pins s2 σ H2 _ I2 q2) λfv s3 ⟨z,H3,I3,rz,ov,g,q3⟩=>Calls.spliced_nil ?_))))
 exact AD hu I3 g ry rz λw' s4 I4 rw'=>⟨_,H3,I4,rw',q3⟩
theorem qL(ho:PE X o td)(he:PE X e ty)(m:M1 X o "pop" apos e cpos):PE X (.Call (.Attribute o "pop" apos) [e] [] cpos) (yG td ty):=by
 intro pins s σ H Q I h
 refine wpAny_Call_method m.base m.few m.line QP RI PySem.F.type_dict_pop (Bx (ho pins s σ H _ I h) λu s1 ⟨x,H1,I1,rx,a,ex,d,q1⟩=>?_)
 subst ex
 obtain rfl:u=JD a:=rx
 obtain⟨t1,t2,_⟩:=bJ I1 d
 refine⟨t1,t2,?_⟩
 rw[m.trees]
 refine OG rfl (QO (OR (Bx (he pins s1 σ H1 _ I1 q1) λiv s2 ⟨y,H2,I2,ry,kvs,k,v,ea,ey,l,q2⟩=>Calls.spliced_nil ?_)))
 subst ey
 exact CY I2 ea ry l (.inl rfl) λw' s3 I3 rw'=>⟨v,_,I3,rw',q2⟩
end
section
variable {X:Cx} {pins:List (IN×Obj)} {σ:St} {H:Hp} {s:IL} {a:IN} {kvs:List (Key×V)} {A:KG} {E:II->IL->Prop}
end
section
variable {X:Cx} {pins:List (IN×Obj)} {σ:St} {H:Hp} {s:IL} {a:IN} {y:V} {u:II} {A:KG} {E:II->IL->Prop}
end
end L2
namespace Att
open PySem PySem.W PySem.Calls PyProof.Rows
theorem Nl{P:Params}{h:LO}:∀(ns:List Int)(vs:List II),WellAll P h vs (ns.map WData.int)->IntsAre vs ns:=by
 intro ns
 induction ns with
 | nil=>
  intro vs w
  rw[List.map_nil] at w
  cases w
  exact .nil
 | cons n ns ih=>
  intro vs w
  rw[KR] at w
  cases w with
  | cons a b=>
   cases a
   exact .cons _ _ (ih _ b)
theorem iR{l:OpenLaw}{n:Nat}(hn:l.most=some n){P:Params}{h:LO}{args:List WData}{vals:List II}(hpre:l.row.toRowW.claim.pre args=true)(hwl:WellAll P h vals args):
 ∃a vs ns,vals=[JD a]/\args=[WData.list (ns.map WData.int)]/\h.get? a=some { cls:=.type "list", data:=.seq vs.toArray }/\IntsAre vs ns/\ns.length<=n:=by
 have hsh:WShape.hasAll [] args [.list .int]=true:=(pre_splitW hpre).1
 have hc:l.pre.holds [] { args:=args }=true:=(pre_splitW hpre).2
 obtain⟨d,r,rfl,h1,h2⟩:=hasAllW_cons hsh
 obtain rfl:=hasAllW_nil h2
 obtain⟨xs,rfl,h3⟩:=hasW_list h1
 obtain⟨ns,rfl⟩:=items_int h3
 have hlen:ns.length<=n:=by
  unfold OpenLaw.pre at hc
  have h4:(WTm.not (.lt (.lit (.int (n:Int))) (.len (.arg 0)))).holds [] { args:=[.list (ns.map .int)] }=true:=by
   have h4:=(holds_andW hc).1
   rw[hn] at h4
   exact h4
  have h5:=condW_of h4 (w_not (w_lt w_lit (w_len_list (w_arg rfl))))
  rw[IM] at h5
  refine Nat.le_of_not_lt λq=>?_
  have q':(n:Int) < ((ns.length:Nat):Int):=by omega
  first
   | (rw[decide_eq_true q'] at h5;exact absurd h5 (by decide))
   | (simp at h5;omega)
 cases hwl with
 | cons w1 w2=>
  cases w2
  cases w1 with
  | list ho hall=>exact⟨_,_,ns,rfl,rfl,ho,Nl ns _ hall,hlen⟩
theorem iJ(l:OpenLaw)(args:List WData):l.row.toRowW.claim.post args (.bool true) args=true:=
 postW_of (r:=l.row.toRowW) (X:=(true == true))
  (show WShape.has [] (.bool true) .bool=true by first | rfl | decide | simp[WShape.has,WShape.arms,WShape.armsAll])
  (show (WTm.eq .res (.lit (.bool true))).value [] { args:=args,res:=some (.bool true),after:=args }=some (.bool (true == true)) from w_eq_bool (w_res rfl) w_lit) rfl
theorem attach_call{l:OpenLaw}{n:Nat}{q:JJ}{loose:List Str}{XP:(Str->Option II)->LO->Prop}{YP:KL->LO->Prop}{d:DefRec}(hn:l.most=some n)(hdf:d.params.defaults=[])(call:∀(w:KL)(s₀ s₁:IL)(mg mb:Str->Option II)(fa:IN)(o:Obj)(pm cd doc:II)(a:IN)(vs:List II)(ns:List Int),
  Ground q loose [] XP w s₀ mg mb s₁.heap->YP w s₁.heap ->
  s₁.heap.get? fa=some o->o.data=.func (docDef d.name d.params d.body d.scope pm cd doc)->s₁.heap.CodeRec cd d.name->mg d.name=some (.ref fa) ->
  s₁.heap.get? a=some { cls:=.type "list", data:=.seq vs.toArray }->IntsAre vs ns->ns.length<=n->s₁.gens = #[] ->
  RE (JV l.prog w) callerA (.call (.ref fa) ⟨[.ref a],[]⟩) (λr s'=>r=.ok (.ret (.bool true))/\OldK s₁.heap s'.heap/\s'.os=s₁.os/\AllBare s'.gens) s₁):
 WalkO q loose XP YP l.row.toRowW d [] (λf vs=>PySem.call f vs):=by
 intro w s₀ s₁ mg mb G Y fa o pm cd doc dV kV ho hd hcd hD hmg hg args vals as hpre hlay hrd hwl hlo
 obtain rfl:dV=.none:=Dflts.none hD hdf
 obtain rfl:kV=.none:=Dflts.noKw hD
 obtain⟨a,vs,ns,rfl,rfl,hobj,hints,hlen⟩:=iR hn hpre hwl
 refine enter_call (OL (call w s₀ s₁ mg mb fa o pm cd doc a vs ns G Y ho (fd_plain hd) hcd hmg hobj hints hlen hg) λr s' hq=>?_)
 obtain⟨rfl,h2,h3,h4⟩:=hq
 exact⟨.inl ⟨.bool true,.bool true,[],rfl,λ_=>rfl,.bool true,iJ l _,λ_=>⟨List.Pairwise.nil,λ_ hm=>(nomatch hm)⟩⟩,h2,h3,h4⟩
section
variable {prog:JJ} {w:KL} {A:KG} {E:II->IL->Prop} {s:IL} {K:Frag}
end
end Att
namespace L2
open PySem PySem.Spec PyProof.Rows
theorem Sh:∀ {vs:List II} {ns:List Int},IntsAre vs ns->Be (ns.map V.int) vs
 | _,_,.nil=>.nil
 | _,_,.cons n t h=>.cons ⟨t,rfl⟩ (Sh h)
def xQ(H:Hp):Prop:=∀b,H b=none ∨ ∃o xs,H b=some (.frz o (.lst xs))
theorem qC{P:JJ}{w:KL}{K:IG}{mg mb:Str->Option II}{CX:Vj}{k:Nat}{fa a:IN}{fd:JW}{x:Str}{sp:Sp}{s₁:IL}{vs:List II}{ns:List Int}(KX:K.In s₁.heap)(hns:s₁.heap.Ns KE mg)(hb:s₁.heap.Ns builtinsNs mb)(hbb:∀x:Str,x ≠ "__name__" -> mb x=OM x)(hlim:s₁.heap.NoLimit)(hg:s₁.gens = #[])(ha:s₁.heap.get? a=some { cls:=.type "list", data:=.seq vs.toArray })(hi:IntsAre vs ns)(hl:ns.length<=IK)(hr:Cj k callerA)(F:∀base:LO,K.In base->base.Ns KE mg->Aj P w K mg base CX k fa fd [x] sp)(hbind:∀(s:IL)(u:II),BindsTo s fd ⟨[u],[]⟩ [(x,u)])(hsp:∀H:Hp,xQ H->Av K H a (ns.map V.int)->sp [.ref a] H (λv _=>v=.bl true) λ_ _ _=>False)(hCX:∀H e s',CX.f [] H s₁ (λ_ _ _=>False) e s'->False):
 RE (JV P w) callerA (.call (.ref fa) ⟨[.ref a],[]⟩) (λr s'=>r=.ok (.ret (.bool true))/\OldK s₁.heap s'.heap/\s'.os=s₁.os/\AllBare s'.gens) s₁:=by
 have rv:=Sh hi
 have lenV:=hi.length
 -- from an abstract heap in which nothing but the script may be tracked
 have core:∀H:Hp,xQ H->Av K H a (ns.map V.int)->Km P w H s₁.heap->(∀b,H b≠none->b=a)->(H a≠none->K.lookup a=none) ->
  RE (JV P w) callerA (.call (.ref fa) ⟨[.ref a],[]⟩) (λr s'=>r=.ok (.ret (.bool true))/\OldK s₁.heap s'.heap/\s'.os=s₁.os/\AllBare s'.gens) s₁:=by
  intro H hO hS hok hA hK
  have base_of:∀ {b:IN} {o:Obj},s₁.heap.get? b=some o->H b=none->(Mc s₁.heap H).get? b=some o:=λe n=>Pa e n
  have noA:∀ {b:IN} {o:Obj} {es:Array DictEntry} {ep:Nat},s₁.heap.get? b=some o->o.data=.dict es ep->H b=none:=λ{b o es ep} e d=>by
   cases q:H b with
   | none=>rfl
   | some u=>
    have e':b=a:=hA b (by rw[q];simp)
    subst e'
    rw[ha] at e;cases e
    have d':Data.seq vs.toArray _=Data.dict es ep:=d
    cases d'
  have nsK:∀ {b:IN} {m:Str->Option II},s₁.heap.Ns b m->(Mc s₁.heap H).Ns b m:=λ{b m} ⟨o,es,ep,e,d,r⟩=>⟨o,es,ep,base_of e (noA e d),d,r⟩
  have hKb:K.In (Mc s₁.heap H):=λb o e=>base_of (KX b o e) (by
   cases q:H b with
   | none=>rfl
   | some u=>
    have e':b=a:=hA b (by rw[q];simp)
    subst e'
    rw[hK (by rw[q];simp)] at e;cases e)
  have hM:Mod K mg (Mc s₁.heap H):=⟨hKb,nsK hns,⟨mb,nsK hb,hbb⟩,let ⟨mc,h1,h2⟩:=hlim;⟨mc,nsK h1,h2⟩⟩
  have e0:Uu P w K mg (Mc s₁.heap H) callerA [] s₁ H:=⟨rfl,hM,λb o e=>gA e,PP (Sg _ _),trivial,λb hb=>absurd (show b∈([]:List IN) from hb) (by simp),hok,.of_eq hg⟩
  refine OL ((F _ hKb (nsK hns)).run callerA [] s₁ H ⟨[.ref a],[]⟩ [.ref a] [.ref a] _ _ ⟨hr,λ_=>rfl,.inl rfl⟩ e0 (hbind s₁ (.ref a)) (.cons rfl .nil) (hsp H hO hS)) λr s' h=>?_
  cases r with
  | error e=>exact(hCX H e s' h).elim
  | ok fl=>
   cases fl with
   | next=>exact LF h
   | brk=>exact LF h
   | cont=>exact LF h
   | ret u=>
    obtain⟨v,H',os,bare,un,hok',r',q⟩:=h
    have q':v=.bl true:=q
    subst q'
    obtain rfl:u=Value.bool true:=r'
    refine⟨rfl,OldK.of_keep λb o e=>?_,os,bare⟩
    cases q:H b with
    | none=>exact un.keep b o e q (by intro z;exact absurd (show b∈([]:List IN) from z) (by simp)) (by simp)
    | some u=>
     rcases hO b with z | ⟨ob,xs,z⟩
     ·rw[q] at z;cases z
     ·have z2:=un.frzs b ob _ z
      obtain⟨e1,_⟩:=hok b _ z
      obtain⟨e2,_⟩:=hok' b _ z2
      rw[e] at e1;cases e1
      exact e2
 cases hk:K.lookup a with
 | some o=>
  -- the script is one of the module's own objects
  have e:=KX a o hk
  rw[ha] at e
  cases e
  refine core (λ_=>none) (λ_=>.inl rfl) (.inr ⟨_,vs.toArray,_,hk,rfl,rfl,rfl,by rw[JN,lenV];exact hl,by simpa using rv⟩) (λb u z=>by have z':(none:Option HO)=some u:=z;cases z') (λb z=>absurd rfl z) λz=>absurd rfl z
 | none=>
  refine core (λb=>if b=a then some (.frz { cls:=.type "list", data:=.seq vs.toArray } (.lst (ns.map V.int))) else none) (λb=>?_) (.inl (.inr ⟨{ cls:=.type "list", data:=.seq vs.toArray },if_pos rfl⟩)) (λb u z=>?_) (λb z=>?_) λ_=>hk
  ·by_cases hb:b=a
   ·exact .inr ⟨_,_,if_pos hb⟩
   ·exact .inl (if_neg hb)
  ·by_cases hb:b=a
   ·have z':=(if_pos hb).symm.trans z
    cases z'
    subst hb
    exact⟨ha,by rw[IM];exact hl,vs,_,rv,ha⟩
   ·have z':=(if_neg hb).symm.trans z
    cases z'
  ·by_cases hb:b=a
   ·exact hb
   ·exact absurd (if_neg hb) z
theorem uU{l:PySem.W.OpenLaw}{n k:Nat}{q:JJ}{loose:List Str}{XP:(Str->Option II)->LO->Prop}{YP:KL->LO->Prop}{d:DefRec}{K:Params->IG}{CX:KL->Vj}{sp:KL->Sp}{x:Str}(hn:l.most=some n)(hn2:n<=IK)(hdf:d.params.defaults=[])(hr:Cj k callerA)(hY:∀(w:KL)(h:LO),YP w h->(K w.params).In h)(F:∀(w:KL)(mg:Str->Option II)(fa:IN)(h:LO),(K w.params).In h->h.Ns KE mg->mg d.name=some (.ref fa) ->
  ∃fd:JW,(∀(s:IL)(u:II),BindsTo s fd ⟨[u],[]⟩ [(x,u)]) /\
   ∀base:LO,(K w.params).In base->base.Ns KE mg->Aj l.prog w (K w.params) mg base (CX w) k fa fd [x] (sp w))(hsp:∀(w:KL)(H:Hp)(a:IN)(ns:List Int),ns.length<=n->xQ H->Av (K w.params) H a (ns.map V.int)->sp w [.ref a] H (λv _=>v=.bl true) λ_ _ _=>False)(hCX:∀(w:KL)(H:Hp)(s:IL)(e:II)(s':IL),(CX w).f [] H s (λ_ _ _=>False) e s'->False):
 PySem.W.WalkO q loose XP YP l.row.toRowW d [] (λf vs=>PySem.call f vs):=by
 refine Att.attach_call hn hdf λw s₀ s₁ mg mb fa o pm cd doc a vs ns G Y ho hd hcd hmg hobj hints hlen hg=>?_
 have KX:=hY w _ Y
 obtain⟨fd,hb,hF⟩:=F w mg fa _ KX G.T.g hmg
 exact qC KX G.T.g G.T.b G.T.builtins G.T.nolimit hg hobj hints (JR hlen hn2) hr hF hb (λH hO hS=>hsp w H a ns hlen hO hS) λH e s'=>hCX w H s₁ e s'
def inClass(s:NW)(j:Nat):NW:=match s with
 | .ClassDef _ _ _ body _ _ _ _ _ _ _=>body.getD j (.Pass ⟨0,0,0,0⟩)
 | _=>.Pass ⟨0,0,0,0⟩
def Dz(s:NW):Arguments:=match s with
 | .FunctionDef _ a _ _ _ _ _ _ _ _=>a
 | _=>{ posonlyargs:=[],args:=[],vararg:=none,kwonlyargs:=[],kw_defaults:=[],kwarg:=none,defaults:=[] }
def Bg(s:NW):List NW:=match s with
 | .FunctionDef _ _ b _ _ _ _ _ _ _=>b
 | _=>[]
def Ae(s:NW):Scope:=match s with
 | .FunctionDef _ _ _ _ _ _ sc _ _ _=>sc
 | _=>{ kind:=.function,names:=[],isGenerator:=false,isCoroutine:=false }
abbrev Bh:Vj:=⟨λ_ _ _ _ _ _=>False,false⟩
abbrev Jh:Vj:=⟨λ_ _ _ _ _ _=>False,true⟩
abbrev E0:XK:=λ_ _ _=>False
theorem Cw{X:Cx}(hc:X.calm=true:=by rfl):Ho Bh X E0:=⟨hc,(λz=>nomatch z),λ_ _ _ _ _ _ _ h=>h.elim⟩
theorem Wy{X:Cx}(hc:X.calm=true:=by rfl)(hs:X.sx=true:=by rfl):Ho Jh X E0:=⟨hc,(λ_=>hs),λ_ _ _ _ _ _ _ h=>h.elim⟩
structure Dp(K:IG)(x qual:Str)(st:NW)(f:IN)(fd:JW):Prop where
 ex:∃(oc:II)(od:Option IN)(kV doc pm:II)(an:Option IN)(cdv ct:II)(osl:Array (Option II)),
  fd=OS x qual (Dz st) (Bg st) (Ae st) .none kV doc pm an cdv ct/\K.lookup f=some ⟨oc,od,.func fd,osl⟩/\PySem.W.codeIn K cdv qual=true
 kp:IR K (.ref f)=true
section
variable {P:JJ} {w:KL} {K:IG} {mg:Str->Option II} {base:LO}
theorem Dp.ok{x qual:Str}{st:NW}{f:IN}{fd:JW}{N ps:List Str}{k:Nat}{sp:Sp}(F:Dp K x qual st f fd)(S:Ap N ps (Ae st))(len:∀vs H Q E,sp vs H Q E->vs.length=ps.length)(hbody:∀(cdv:II)(A:KG)(outer:List Env)(s:IL)(H:Hp)(vs:List V)(Q:VK)(E:XK),Cj k (A.deeper (envOfC qual (Ae st) s.heap.objs.size f cdv))->sp vs H Q E ->
  ∃t,Hs (Em Bh P w K mg base N qual (Ae st) f cdv A outer s H E).nox (Bg st) t/\t { nx:=λ_ H'=>Q .non H',rt:=Q } (start N vs) H):Aj P w K mg base Bh (k+1) f fd ps sp:=by
 obtain⟨oc,od,kV,doc,pm,an,cdv,ct,osl,rfl,lk,hcd⟩:=F.ex
 refine Wn lk hcd S len λA outer s H vs Q E hr hsp=>?_
 obtain⟨t,h,q⟩:=hbody cdv A outer s H vs Q E hr hsp
 exact⟨t,h.nox,q⟩
theorem Dp.ok1{x qual:Str}{st:NW}{f:IN}{fd:JW}{N ps:List Str}{k:Nat}{sp:Sp}(F:Dp K x qual st f fd)(S:Ap N ps (Ae st))(len:∀vs H Q E,sp vs H Q E->vs.length=ps.length)(hbody:∀(cdv:II)(A:KG)(outer:List Env)(s:IL)(H:Hp)(vs:List V)(Q:VK)(E:XK),Cj k (A.deeper (envOfC qual (Ae st) s.heap.objs.size f cdv))->sp vs H Q E ->
  ∃t,Hs (Em Jh P w K mg base N qual (Ae st) f cdv A outer s H E).nox (Bg st) t/\t { nx:=λ_ H'=>Q .non H',rt:=Q } (start N vs) H):Aj P w K mg base Jh (k+1) f fd ps sp:=by
 obtain⟨oc,od,kV,doc,pm,an,cdv,ct,osl,rfl,lk,hcd⟩:=F.ex
 refine Wn lk hcd S len λA outer s H vs Q E hr hsp=>?_
 obtain⟨t,h,q⟩:=hbody cdv A outer s H vs Q E hr hsp
 exact⟨t,h.nox,q⟩
theorem Dp.binds{x qual:Str}{st:NW}{f:IN}{fd:JW}{ps:List Str}(F:Dp K x qual st f fd)(h:∀(kV doc pm:II)(an:Option IN)(cdv ct:II)(us:List II),us.length=ps.length->bindArgs (OS x qual (Dz st) (Bg st) (Ae st) .none kV doc pm an cdv ct) ⟨us,[]⟩=pure (ps.zip us)):Binds K fd ps []:=by
 obtain⟨oc,od,kV,doc,pm,an,cdv,ct,osl,rfl,lk,hcd⟩:=F.ex
 exact .all (h kV doc pm an cdv ct)
theorem lK{x qual:Str}{st:NW}{f:IN}{oc:II}{od an:Option IN}{osl:Array (Option II)}{kV doc pm cdv ct:II}(l:K.lookup f=some ⟨oc,od,.func (OS x qual (Dz st) (Bg st) (Ae st) .none kV doc pm an cdv ct),osl⟩)(c:PySem.W.codeIn K cdv qual=true)(k:IR K (.ref f)=true):Dp K x qual st f (OS x qual (Dz st) (Bg st) (Ae st) .none kV doc pm an cdv ct):=⟨⟨oc,od,kV,doc,pm,an,cdv,ct,osl,rfl,l,c⟩,k⟩
end
theorem Gd{A:KG}{k:Nat}(hr:Cj k A):A.units+1 < cLine:=PJ (Nat.add_le_add_left (by decide:1<=64) _) hr.units
section
variable {X:Cx}
theorem pv(i:Nat){x:Str}{pos:Pos}(hN:X.N[i]? = some x:=by rfl)(hv:FD X.env.scope x:=by first | exact Or.inl rfl | exact Or.inr (Or.inl rfl) | exact Or.inr (Or.inr rfl))(hd:(x == ("__debug__" : Str))=false:=by decide)(hcd:(x == ("__classdict__" : Str))=false:=by decide):PE X (.Name x pos) (CJ i):=yN hN hv hd hcd
end
theorem Di{A B:Prop}(h:B):if false=true then A else B:=by
 rw[if_neg IZ]
 exact h
theorem He{A B:Prop}(h:A):if true=true then A else B:=by
 rw[if_pos rfl]
 exact h
theorem Br{c A B:Prop}[Decidable c](h1:c->A)(h2:¬ c->B):if c then A else B:=by
 by_cases h:c
 ·rw[if_pos h]
  exact h1 h
 ·rw[if_neg h]
  exact h2 h
theorem DB{c A B:Prop}[Decidable c](hc:c)(h:B):if (!decide c)=true then A else B:=by
 rw[decide_eq_true hc]
 exact Di h
def Am(H H':Hp):Prop:=∀b o,H b=some o->H' b=some o
theorem Am.refl(H:Hp):Am H H:=λ_ _ h=>h
theorem Am.trans{H H1 H2:Hp}(a:Am H H1)(b:Am H1 H2):Am H H2:=λc o h=>b c o (a c o h)
theorem Am.free{H H':Hp}(e:Am H H'){l:IN}(h:H' l=Option.none):H l=Option.none:=by
 cases q:H l with
 | none=>rfl
 | some o=>
  rw[e l o q] at h
  cases h
theorem Am.seq{K:IG}{H H':Hp}{a:IN}{xs:List V}(e:Am H H')(h:Av K H a xs):Av K H' a xs:=by
 rcases h with (h | ⟨o,h⟩) | h
 ·exact .inl (.inl (e _ _ h))
 ·exact .inl (.inr ⟨o,e _ _ h⟩)
 ·exact .inr h
section
variable {X:Cx}
end
section
variable {κ:Type} [DecidableEq κ]
end
section
variable {X:Cx} {pins:List (IN×Obj)} {σ:St} {H:Hp} {s:IL} {h':LO}
theorem Inv.adopt{D:IN}{o:HO}(I:Inv X pins σ H s)(hn:H D=none)(hL:D≠X.env.locals)(h0:X.s₀.heap.objs.size<=D)(hc:∀x c,X.env.cells.lookup x=some c->c≠D)(hp:∀p∈X.pn++pins,p.1≠D)(new:Cz X.prog X.w (upd H D o) s.heap D o):Inv X pins σ (upd H D o) s:=by
 have ne:∀b u,H b=some u->b≠D:=λb u e=>Ah e hn
 refine⟨I.ok,I.os,I.bare,⟨I.base.keep,I.base.slot,λb u e n hx=>?_,I.base.there,λb xs e=>?_,λb u v e=>?_,λb ps e=>?_⟩,I.loc,I.cell,?_,λx c e=>?_,λp hp'=>?_,λb u e=>?_,I.len⟩
 ·rw[Ai (JP (KD (JF e) h0))];exact I.base.free b u e n hx
 ·have q:=I.base.tups b xs e
  rw[Ai (ne _ _ q)];exact q
 ·have q:=I.base.frzs b u v e
  rw[Ai (ne _ _ q)];exact q
 ·obtain⟨m,q⟩:=I.base.tbls b ps e
  exact⟨m,by rw[Ai (ne _ _ q)];exact q⟩
 ·rw[Ai (KO hL)];exact I.free
 ·rw[Ai (hc x c e)];exact I.freeC x c e
 ·obtain⟨e,n,r⟩:=I.pin p hp'
  exact⟨e,by rw[Ai (hp p hp')];exact n,r⟩
 ·by_cases hb:b=D
  ·subst hb;rw[Aa] at e;cases e;exact new
  ·rw[Ai hb] at e
   exact(I.hok b u e).stay (λ_ _ _ q=>q) (λc q=>by rw[Ai (ne _ _ q)];exact q) λc xs q=>by rw[Ai (ne _ _ q)];exact q
theorem Inv.turns{t':Nat}{ch:List IN}(I:Inv X pins σ H s)(k:∀b o,b∉ch->s.heap.get? b=some o->h'.get? b=some o)(hf:∀b∈ch,Dk X pins H b):
 Inv X pins σ H { s with heap:=h',toks:=t' }:=by
 have nit:∀b u,H b=some u->b∉ch:=λb u e z=>by rw[(hf b z).1] at e;cases e
 refine I.step (g':=s.gens) (d':=s.drawn) (ch:=ch) (λb hb=>?_) (λb o _ _ hc e _=>k b o hc e) (λb o _ _ hc e _=>⟨o.slots,k b o hc e⟩) (λ_ _ _ _ n=>n)
  (λb o hc e=>⟨o,k b o hc e⟩) (λ_ _ e=>e) (λ_ _ _ e=>e) (λb ps e=>⟨#[],by rw[e];simp⟩) (λm hm=>?_) (λb u e=>?_) I.bare
 ·obtain⟨f0,f1,f2,f3,f4,f5⟩:=hf b hb
  exact⟨f3,f1,f4,f5⟩
 ·obtain⟨o,es,ep,ho,r⟩:=hm
  exact⟨o,es,ep,k _ o (λz=>(hf _ z).2.1 rfl) ho,r⟩
 ·refine(I.hok b u e).stay (λc v hc q=>k c v ?_ q) (λ_ q=>q) λ_ _ q=>q
  rcases hc with z | z
  ·rw[z];exact nit b u e
  ·exact nit c _ z
end
theorem Kv{env:Env}(f:Str×NameKind->List (Str×IN)->Sem (ForInStep (List (Str×IN))))(hf:∀name kind cs,f (name,kind) cs=if kind == .free then (do let a <- cellOf env name;pure (.yield ((name,a)::cs))) else pure (.yield cs)):
 ∀(names:List (Str×NameKind))(cs:List (Str×IN)),(∀n,(n,LS)∈names->∃c,env.cells.lookup n=some c)->(∀x c,cs.lookup x=some c->env.cells.lookup x=some c) ->
  ∃cl,forIn names cs f=pure cl/\(∀x c,cl.lookup x=some c->env.cells.lookup x=some c)/\(∀x,(∃c,cs.lookup x=some c)∨(x,LS)∈names->∃c,cl.lookup x=some c)
 | [],cs,_,h=>⟨cs,rfl,h,λx hx=>hx.elim (λz=>z) λz=>nomatch z⟩
 | (n,k)::r,cs,hn,h=>by
  by_cases hk:k=.free
  ·subst hk
   obtain⟨c,hc⟩:=hn n JM
   obtain⟨cl,e,h1,h2⟩:=Kv f hf r ((n,c)::cs) (λm hm=>hn m (JC _ hm)) (λx d hx=>by
    by_cases hxn:x=n
    ·subst hxn
     rw[JL,beq_self_eq_true] at hx
     cases hx
     exact hc
    ·rw[JL,beq_eq_false_iff_ne.mpr hxn] at hx
     exact h x d hx)
   refine⟨cl,?_,h1,λx hx=>?_⟩
   ·rw[List.forIn_cons,hf]
    have e1:cellOf env n=pure c:=by unfold cellOf;rw[hc]
    rw[e1]
    exact e
   ·rcases hx with ⟨d,hd⟩ | hx
    ·refine h2 x (.inl ?_)
     by_cases hxn:x=n
     ·subst hxn
      exact⟨c,by rw[JL,beq_self_eq_true]⟩
     ·exact⟨d,by rw[JL,beq_eq_false_iff_ne.mpr hxn];exact hd⟩
    ·rcases IQ.mp hx with e2 | hx
     ·obtain rfl:x=n:=(Prod.mk.inj e2).1
      exact h2 x (.inl ⟨c,by rw[JL,beq_self_eq_true]⟩)
     ·exact h2 x (.inr hx)
  ·have hkb:(k == LS)=false:=beq_eq_false_iff_ne.mpr hk
   obtain⟨cl,e,h1,h2⟩:=Kv f hf r cs (λm hm=>hn m (JC _ hm)) h
   refine⟨cl,?_,h1,λx hx=>h2 x ?_⟩
   ·rw[List.forIn_cons,hf,hkb]
    exact e
   ·rcases hx with hx | hx
    ·exact .inl hx
    ·rcases IQ.mp hx with e2 | hx
     ·cases e2
      exact absurd rfl hk
     ·exact .inr hx
theorem aQ{env:Env}{scope:Scope}(hn:∀n,(n,LS)∈scope.names->∃c,env.cells.lookup n=some c):
 ∃cl,closureFor scope env=pure cl/\(∀x c,cl.lookup x=some c->env.cells.lookup x=some c)/\∀x,(x,LS)∈scope.names->∃c,cl.lookup x=some c:=by
 obtain⟨cl,e,h1,h2⟩:=Kv (env:=env) (λx cs=>match x with | (name,kind)=>if kind == .free then (do let a <- cellOf env name;pure (.yield ((name,a)::cs))) else pure (.yield cs)) (λ_ _ _=>rfl) scope.names [] hn (λx c z=>nomatch z)
 refine⟨cl,?_,h1,λx hx=>h2 x (.inr hx)⟩
 unfold closureFor
 exact Eq.trans (congrArg (λt:Sem (List (Str×IN))=>t >>= λr=>pure r) e) rfl
def IC(scope sc:Scope):Scope:=
 { scope with names:=scope.names.map λ(n,k)=>if (k == .free && sc.kind == .function && sc.names.lookup n == some .cell) then (n,.cell) else (n,k) }
def Pt(sc scope:Scope):Bool:=
 decide (scope.kind=.function) && (scope.names.all (λp=>decide (p.2 ≠ .cell)) && (scope.names.all (λp=>decide (p.2=.local->scope.names.lookup p.1=some .local)) &&
 scope.names.all (λp=>decide (p.2=.free->(sc.names.lookup p.1=some .cell∨sc.names.lookup p.1=some .free)))))
def sL(N:List Str)(scope:Scope)(fr:List (Str×Nat)):Bool:=fr.all λp=>decide (N[p.2]? = some p.1) && decide (scope.names.lookup p.1=some .free)
structure Px(sc scope:Scope):Prop where
 kind:scope.kind=.function
 cell:∀p∈scope.names,p.2 ≠ .cell
 loc:∀p∈scope.names,p.2=.local->scope.names.lookup p.1=some .local
 free:∀n,(n,LS)∈scope.names->sc.names.lookup n=some .cell∨sc.names.lookup n=some .free
theorem gM{sc scope:Scope}(h:Pt sc scope=true):Px sc scope:=by
 unfold Pt at h
 rw[LC,LC,LC,NL,NL,NL] at h
 obtain⟨h1,h2,h3,h4⟩:=h
 exact⟨of_decide_eq_true h1,λp hp=>of_decide_eq_true (h2 p hp),λp hp=>of_decide_eq_true (h3 p hp),λn hn=>of_decide_eq_true (h4 (n,.free) hn) rfl⟩
theorem lookup_mem{α:Type}{x:Str}{v:α}:∀ {l:List (Str×α)},l.lookup x=some v->(x,v)∈l
 | [],h=>nomatch h
 | (n,k)::r,h=>by
  rw[JL] at h
  by_cases hx:x=n
  ·subst hx
   rw[beq_self_eq_true] at h
   cases h
   exact JM
  ·rw[beq_eq_false_iff_ne.mpr hx] at h
   exact JC _ (lookup_mem h)
theorem Jj{env:Env}{x:Str}:∀ {names:List (Str×NameKind)} {k:NameKind},
 (names.map λ(n,k)=>if (k == LS && env.scope.kind == .function && env.kindOf n == some .cell) then (n,NameKind.cell) else (n,k)).lookup x=some k ->
 (k=.cell/\((x,LS)∈names∨(x,NameKind.cell)∈names))∨(x,k)∈names
 | [],_,h=>nomatch h
 | (n,j)::r,k,h=>by
  have ih:=@Jj env x r k
  rw[KR] at h
  by_cases hc:(j == LS && env.scope.kind == .function && env.kindOf n == some .cell)=true
  ·simp only[hc,if_true] at h
   rw[JL] at h
   by_cases hx:x=n
   ·subst hx
    rw[beq_self_eq_true] at h
    cases h
    have hj:j=.free:=by
     rw[LC,LC] at hc
     exact beq_iff_eq.mp hc.1.1
    subst hj
    exact .inl ⟨rfl,.inl JM⟩
   ·rw[beq_eq_false_iff_ne.mpr hx] at h
    rcases ih h with ⟨e,z | z⟩ | z
    ·exact .inl ⟨e,.inl (JC _ z)⟩
    ·exact .inl ⟨e,.inr (JC _ z)⟩
    ·exact .inr (JC _ z)
  ·simp only[hc] at h
   rw[if_neg IZ,JL] at h
   by_cases hx:x=n
   ·subst hx
    rw[beq_self_eq_true] at h
    cases h
    exact .inr JM
   ·rw[beq_eq_false_iff_ne.mpr hx] at h
    rcases ih h with ⟨e,z | z⟩ | z
    ·exact .inl ⟨e,.inl (JC _ z)⟩
    ·exact .inl ⟨e,.inr (JC _ z)⟩
    ·exact .inr (JC _ z)
theorem Lm{env:Env}{x:Str}:∀ {names:List (Str×NameKind)},names.lookup x=some .free ->
 (names.map λ(n,k)=>if (k == LS && env.scope.kind == .function && env.kindOf n == some .cell) then (n,NameKind.cell) else (n,k)).lookup x=some .cell ∨
 (names.map λ(n,k)=>if (k == LS && env.scope.kind == .function && env.kindOf n == some .cell) then (n,NameKind.cell) else (n,k)).lookup x=some .free
 | [],h=>nomatch h
 | (n,j)::r,h=>by
  have ih:=@Lm env x r
  rw[KR]
  rw[JL] at h
  by_cases hx:x=n
  ·subst hx
   rw[beq_self_eq_true] at h
   cases h
   by_cases hc:(LS == LS && env.scope.kind == .function && env.kindOf x == some .cell)=true
   ·simp only[hc,if_true]
    rw[JL,beq_self_eq_true]
    exact .inl rfl
   ·simp only[hc]
    rw[if_neg IZ,JL,beq_self_eq_true]
    exact .inr rfl
  ·rw[beq_eq_false_iff_ne.mpr hx] at h
   by_cases hc:(j == LS && env.scope.kind == .function && env.kindOf n == some .cell)=true
   ·simp only[hc,if_true]
    rw[JL,beq_eq_false_iff_ne.mpr hx]
    exact ih h
   ·simp only[hc]
    rw[if_neg IZ,JL,beq_eq_false_iff_ne.mpr hx]
    exact ih h
theorem Wz{prog:JJ}{w:KL}{A:KG}{R:Result->IL->Prop}{s:IL}{elt target iter:Expr}{ifs:List Expr}{scope:Scope}{pos:Pos}{it acc:II}{env:Env}(EW:II->IL->Prop)(hE:∀x s',EW x s'->notedBy (JV prog w) A env (λy s''=>R (.error y) s'') x s')(I:Nat->IL->Prop)(turn:∀n s,I n s->JT (JV prog w) A (OX it) (λr s₁=>match r with
  | none=>R (.ok .next) s₁
  | some v=>JT (JV prog w) A (letOwnedTupleGo target it v) (λ_ s₀=>JT (JV prog w) A (assign target env v) (λ_ s₂=>
   JT (JV prog w) A (forIn ifs true λc r=>if r=true then do let ok <- isTrue c env (OA c env);pure (ForInStep.yield ok) else pure (ForInStep.yield r)) (λok s₃=>
    if ok=true then JT (JV prog w) A (OA elt env) (λx s₄=>
     JT (JV prog w) A (call (.builtin "list.append") [acc,x]) (λ_ s₅=>∃m,m < n/\I m s₅) (λ_ _=>False) s₄) EW s₃
    else ∃m,m < n/\I m s₃) EW s₂) EW s₀) (λ_ _=>False) s₁) (λ_ _=>False) s)(n:Nat)(h:I n s):RE (JV prog w) A (.compLoop (.ListComp elt [⟨target,iter,ifs,0⟩] scope pos) 0 it acc env) R s:=by
 refine codeAny_loop rfl I (λn s hI=>?_) n h
 show JT _ A ((compTurn (.ListComp elt [⟨target,iter,ifs,0⟩] scope pos) 0 it acc env).onRaise (λx=>do noteFrame x env;theTreesLotGoes x)) _ _ s
 refine wpAny_noted ?_
 rw[compTurn_list]
 refine IF (PK (IF (MI (turn n s hI) (λr s₁ h₁=>?_) λ_ _ h'=>h'.elim)))
 cases r with
 | none=>exact JA h₁
 | some v=>
  refine IF (MI h₁ (λ_ s₀ h₀=>?_) λ_ _ h'=>h'.elim)
  refine IF (MI h₀ (λ_ s₂ h₂=>IF (MI h₂ (λok s₃ h₃=>?_) hE)) hE)
  cases ok with
  | false=>exact JA ⟨rfl,h₃⟩
  | true=>
   exact IF (IF (MI h₃ (λx s₄ h₄=>IF (MI h₄ (λ_ s₅ h₅=>JA (JA ⟨rfl,h₅⟩)) λ_ _ h'=>h'.elim)) hE))
def Jy(X:Cx)(scope:Scope)(N:List Str)(cl:List (Str×IN))(C:IN)(s:IL)(H:Hp)(fp:List IN)(pins:List (IN×Obj)):Cx where
 prog:=X.prog
 w:=X.w
 K:=X.K
 mg:=X.mg
 base:=X.base
 A:=X.A
 N:=N
 s₀:=s
 H₀:=H
 env:=compEnvC scope cl C X.env
 outer:=X.stack
 stack:=X.stack
 ex:=fp
 fn:=λ_=>false
 calm:=X.calm
 sx:=X.sx
 pn:=X.pn++pins
 xe:=λ_ _=>False
def DX(Y:Cx)(ifs:List Expr)(tc:TT):Prop:=
 ∀(pins:List (IN×Obj))(s:IL)(σ:St)(H:Hp)(Q:Bool->Hp->Prop),Inv Y pins σ H s->tc σ H Q ->
  JT (JV Y.prog Y.w) Y.A (forIn ifs true λc r=>if r=true then do let ok <- isTrue c Y.env (OA c Y.env);pure (ForInStep.yield ok) else pure (ForInStep.yield r)) (TP Y pins σ Q) Y.xe s
def Sd:TT:=λ_ H Q=>Q true H
theorem Dx{Y:Cx}:DX Y [] Sd:=λpins s σ H Q I h=>wpAny_tests_nil ⟨H,I,h⟩
theorem Th{Y:Cx}{c:Expr}{tc:TT}(h:PT Y c tc):DX Y [c] tc:=λpins s σ H Q I hw=>wpAny_tests_one (h pins s σ H Q I hw)
def Zv(n:Nat)(g:TG):Prop:=∀v σ H (Q Q':St->Hp->Prop),(∀σ2 H2,Q σ2 H2->σ2.length=σ.length->(∀j,n<=j->σ2[j]? = σ[j]?)->Q' σ2 H2)->g v σ H Q->g v σ H Q'
def eQ(n:Nat)(g:jK):Prop:=∀v σ H (Q Q':St->Hp->Prop),(∀σ2 H2,Q σ2 H2->σ2.length=σ.length->(∀j,n<=j->σ2[j]? = σ[j]?)->Q' σ2 H2)->g v σ H Q->g v σ H Q'
theorem Bs{n i:Nat}(h:i < n):Zv n (Ko i):=λv σ H Q Q' f q=>f _ _ q (by simp) λj hj=>MM (by omega)
theorem Mb{n:Nat}:eQ n CN:=λv σ H Q Q' f q=>⟨q.1,f _ _ q.2 rfl λ_ _=>rfl⟩
theorem Ew{n:Nat}{t:TG}{u:jK}(h1:Zv n t)(h2:eQ n u):eQ n (wG t u):=λvs σ H Q Q' f q=>by
 obtain⟨v,r,e,q⟩:=q
 exact⟨v,r,e,h1 _ _ _ _ _ (λσ' H' q1 l1 k1=>h2 _ _ _ _ _ (λσ2 H2 q2 l2 k2=>f σ2 H2 q2 (l2.trans l1) λj hj=>(k2 j hj).trans (k1 j hj)) q1) q⟩
theorem Nz{K:IG}{n m:Nat}{t:jK}(h:eQ n t):Zv n (DG K m t):=λv σ H Q Q' f q=>by
 obtain⟨a,xs,e,hq,hl,q⟩:=q
 exact⟨a,xs,e,hq,hl,h _ _ _ _ _ f q⟩
structure fX(Y:Cx)(tg:Expr)(ifs:List Expr)(elt:Expr)(g:TG)(tc:TT)(te:TE):Prop where
 tg:PG Y tg g
 ts:DX Y ifs tc
 el:PE Y elt te
def stC(n:Nat)(fr:List (Str×Nat))(σ:St):St:=JQ n none++fr.map λp=>(σ[p.2]?).join
def Fq(n:Nat)(fr:List (Str×Nat))(g:TG)(tc:TT)(te:TE)(σ:St)(J:It)(H:Hp)(F:List V->Hp->Prop):Prop:=
 ∃W:Nat->Nat->List V->Hp->Prop,(∃m,W 0 m [] H)/\∀i m ys H,W i m ys H ->
  (J.stop i H/\F ys H)∨(J.go i H/\∃Nx:List V->Hp->Prop,(∀ys' H',Nx ys' H'->∃m',m' < m/\W (i+1) m' ys' H')/\∀x H',J.yld i H x H'->g x (stC n fr σ) H' λσ2 H2=>tc σ2 H2 λb H3=>
   if b=true then te σ2 H3 λy H4=>ys.length < IK/\Nx (ys++[y]) H4 else Nx ys H3)
def vY(n:Nat)(fr:List (Str×Nat))(wi:TI)(g:TG)(tc:TT)(te:TE):TE:=λσ H Q=>wi σ H λJ H1=>Fq n fr g tc te σ J H1 λys H2=>∀p,H2 p=none->Q (.ref p) (upd H2 p (.lst ys))
abbrev lobj(its:List II)(n:Nat):Obj:={ cls:=.type "list", data:=.seq its.toArray n }
section
variable {X:Cx} {elt iter tg:Expr} {ifs:List Expr} {scope sc:Scope} {pos:Pos} {own N:List Str} {fr:List (Str×Nat)} {g:TG} {tc:TT} {te:TE} {wi:TI}
theorem iH{pins:List (IN×Obj)}{σ:St}{H:Hp}{s:IL}{cl:List (Str×IN)}{C:IN}{fp:List IN}{N':List Str}(I:Inv X pins σ H s)(ho:Px X.env.scope scope)(h1:∀x c,cl.lookup x=some c->X.env.cells.lookup x=some c)(h2:∀x,(x,LS)∈scope.names->∃c,cl.lookup x=some c)(hf:∀b∈fp,Dk X pins H b)(hlt:∀b∈fp,b < s.heap.objs.size)(hC:s.heap.objs.size<=C):
 (Jy X scope N' cl C s H fp pins).Ok where
 mod:=I.ok.mod
 kind:=ho.kind
 glob:=I.ok.glob
 blt:=I.ok.blt
 above:=hC
 inj:=λx y c e1 e2=>I.ok.inj x y c (h1 x c e1) (h1 y c e2)
 has:=λx hx=>by
  have go:∀k,(k=.cell∨k=.free)->(relabel scope X.env).names.lookup x=some k->∃c,cl.lookup x=some c:=λk hk e=>by
   rcases Jj (env:=X.env) e with ⟨_,z | z⟩ | z
   ·exact h2 x z
   ·exact absurd rfl (ho.cell _ z)
   ·rcases hk with rfl | rfl
    ·exact absurd rfl (ho.cell _ z)
    ·exact h2 x z
  rcases hx with hx | hx
  ·exact go _ (.inl rfl) hx
  ·exact go _ (.inr rfl) hx
 cab:=λx c e=>absurd e IZ
 hd:=I.ok.hd
 st:=I.ok.st
 frames:=I.ok.frames
 stk:=.inl rfl
 exf:=λb hb=>⟨JP (KD (hlt b hb) hC),λx c e=>(hf b hb).2.2.2.2.1 x c (h1 x c e)⟩
 bs:=I.bs
 bsz:=JR I.ok.bsz I.sz
 noex:=λb o e hb=>by
  rcases (hf b hb).2.2.2.1 with z | z
  ·exact I.ok.noex b o e z
  ·exact absurd (KD (KD (JF e) I.ok.bsz) z) (OT _)
 exfs:=λb hb z=>by
  rcases IQ.mp (I.stkSub b z) with e | e
  ·exact(hf b hb).2.1 e
  ·exact(hf b hb).2.2.1 e
 funs:=I.stack
 frf:=I.stkFree
theorem Yf{pins:List (IN×Obj)}{σ:St}{H2:Hp}{s2:IL}{cl:List (Str×IN)}{fp:List IN}{it:IN}{tn:Nat->LO->Prop}{J:It}{F:List V->Hp->Prop}{RR:II->IN->Result->IL->Prop}{E:II->IL->Prop}(xw:Cx->II->IL->Prop)(hcalm:X.calm=true)(ho:Px X.env.scope scope)(hfr:∀p∈fr,X.N[p.2]? = some p.1/\scope.names.lookup p.1=some .free)(hG:Zv own.length g)(hY:∀cl C s H fp pins,fX ((Jy X scope (own++fr.map (·.1)) cl C s H fp pins).wish (xw (Jy X scope (own++fr.map (·.1)) cl C s H fp pins))) tg ifs elt g tc te)(I2:Inv X pins σ H2 s2)(T:Turn X.prog X.w X.K tg J fp it tn)(st2:tn 0 s2.heap)(f2:∀b∈fp,Dk X pins H2 b)(rd:Fq own.length fr g tc te σ J H2 F)(h1:∀x c,cl.lookup x=some c->X.env.cells.lookup x=some c)(h2:∀x,(x,LS)∈scope.names->∃c,cl.lookup x=some c)(fin:∀D C s' H' ys its n' m,Inv X pins σ H' s'->Dk X pins H' D->X.s₀.heap.objs.size<=D->s'.heap.get? D=some (lobj its n')->Be ys its->ys.length<=IK->Dk X pins H' C->X.s₀.heap.objs.size<=C->C≠D->s'.heap.Ns C m->F ys H'->RR (.ref D) C (.ok .next) s')(hE:∀D C x s',s2.heap.objs.size<=C->xw (Jy X scope (own++fr.map (·.1)) cl C s2 H2 fp pins) x s'->notedBy (JV X.prog X.w) X.A (compEnvC scope cl C X.env) (λy s''=>RR (.ref D) C (.error y) s'') x s'):
 JT (JV X.prog X.w) X.A (newList []) (λacc s₃=>JT (JV X.prog X.w) X.A (newFunctionEnv scope X.env.globals cl [] X.env.qual none .none (some X.env)) (λcenv s₄=>
  RE (JV X.prog X.w) X.A (.compStart (.ListComp elt [⟨tg,iter,ifs,0⟩] scope pos) 0 (.ref it) acc { cenv with scope:=relabel scope X.env }) (RR acc cenv.locals) s₄) E s₃) E s2:=by
 refine NZ (wpAny_newFunctionEnv ho.cell (by intro y hy;simp at hy) (λh₁ hns₁ hsb₁=>?_) ho.kind)
 dsimp only at hns₁ hsb₁ ⊢
 generalize hHH:s2.heap.push { cls:=.type "list", dict:=none,data:=.seq ([]:List II).toArray }=HH at hns₁ hsb₁ ⊢
 have hC:HH.objs.size=s2.heap.objs.size+1:=by rw[<- hHH,NM]
 have hDC:s2.heap.objs.size≠HH.objs.size:=by rw[hC];exact JP (QJ _)
 have hCle:s2.heap.objs.size<=HH.objs.size:=by rw[hC];exact OU _
 have below:∀b,b < s2.heap.objs.size->b≠HH.objs.size:=λb hb=>by rw[hC];exact JP (Nat.lt_succ_of_lt hb)
 have old:∀b o,s2.heap.get? b=some o->h₁.get? b=some o:=λb o e=>hsb₁.extBut b o (below b (JF e)) (IJ _ (hHH ▸ IJ _ e))
 have hacc:h₁.get? s2.heap.objs.size=some (lobj [] 0):=hsb₁.extBut _ _ hDC (IJ _ (hHH ▸ JI _ rfl))
 have hlt:∀b∈fp,b < s2.heap.objs.size:=λb hb=>by
  obtain⟨o,e,_⟩:=T.obj 0 _ st2 b hb
  exact JF e
 have okY:=iH (N':=own++fr.map (·.1)) I2 ho h1 h2 f2 hlt hCle
 have hD0:H2 s2.heap.objs.size=none:=I2.hok.fresh (IP _)
 have hC0:H2 HH.objs.size=none:=I2.hok.fresh hCle
 have R':=hY cl HH.objs.size s2 H2 fp pins
 have hE':=hE s2.heap.objs.size HH.objs.size
 generalize hYe:Jy X scope (own++fr.map (·.1)) cl HH.objs.size s2 H2 fp pins=Y at okY R' hE'
 -- the cells of the block
 have cellY:∀x c,cl.lookup x=some c->∃v,h₁.IsCell c v:=λx c e=>by
  obtain⟨v,o,q,d⟩:=I2.cell x c (h1 x c e)
  exact⟨v,o,old c o q,d⟩
 have pinY:∀p∈X.pn++pins,h₁.get? p.1=some p.2/\H2 p.1=none/\p.1≠HH.objs.size/\p.1∉Qy X.stack/\∀v,p.2.data ≠ .cell v:=λp hp=>by
  obtain⟨e,n,ne,nf,d⟩:=I2.pin p hp
  refine⟨old _ _ e,n,below _ (JF e),λz=>?_,d⟩
  rcases IQ.mp (I2.stkSub _ z) with q | q
  ·exact ne q
  ·exact nf q
 have I0:Inv Y [(s2.heap.objs.size,lobj [] 0)] (stC own.length fr σ) H2 { s2 with heap:=h₁,toks:=s2.toks+([]:List (Str×II)).length }:=by
  subst hYe
  refine⟨okY,rfl,I2.bare,Un.kept old,⟨_,hns₁,λi x v e1 e2 e3=>?_⟩,cellY,hC0,λx c e=>I2.freeC x c (h1 x c e),λp hp=>?_,I2.hok.kept old,?_⟩
  ·-- a slot that is set is a free name's
   have hi:own.length<=i:=by
    rcases Nat.lt_or_ge i own.length with z | z
    ·have q:(stC own.length fr σ)[i]? = some none:=by
      unfold stC
      rw[KA (by simpa using z),OV,if_pos z]
     rw[q] at e2
     cases e2
    ·exact z
   have e1':(fr.map (·.1))[i-own.length]? = some x:=by
    have:(own++fr.map (·.1))[i]? = some x:=e1
    rwa [List.getElem?_append_right hi] at this
   have e2':(fr.map λp=>(σ[p.2]?).join)[i-own.length]? = some (some v):=by
    unfold stC at e2
    rwa [List.getElem?_append_right (by simpa using hi),LV] at e2
   rw[JU] at e1' e2'
   cases hp:fr[i-own.length]? with
   | none=>rw[hp] at e1';cases e1'
   | some p=>
    rw[hp] at e1' e2'
    have ep:p.1=x:=KC e1'
    have ev:(σ[p.2]?).join=some v:=KC e2'
    obtain⟨hN,hl⟩:=hfr p (IY hp)
    rw[ep] at hN hl
    have hσ:σ[p.2]? = some (some v):=by
     cases q:σ[p.2]? with
     | none=>rw[q] at ev;cases ev
     | some y=>rw[q] at ev;exact congrArg some ev
    obtain⟨m,hn,hloc⟩:=I2.loc
    have hk:=ho.free x (lookup_mem hl)
    obtain⟨u,r,l⟩:=hloc p.2 x v hN hσ (by rcases hk with z | z;exact .inr (.inl z);exact .inr (.inr z))
    refine⟨u,r,?_⟩
    rcases l with ⟨k,_⟩ | ⟨k,c,ec,hcell⟩
    ·rcases hk with z | z
     ·have k':X.env.scope.names.lookup x=some .local:=k
      rw[z] at k';cases k'
     ·have k':X.env.scope.names.lookup x=some .local:=k
      rw[z] at k';cases k'
    ·obtain⟨c',ec'⟩:=h2 x (lookup_mem hl)
     have:c'=c:=KC ((h1 x c' ec').symm.trans ec)
     subst this
     obtain⟨o,qo,qd⟩:=hcell
     exact .inr ⟨Lm (env:=X.env) hl,c',ec',o,old _ _ qo,qd⟩
  ·rcases JO.mp hp with z | z
   ·exact pinY p z
   ·have ep:p=(s2.heap.objs.size,lobj [] 0):=by simpa using z
    subst ep
    refine⟨hacc,hD0,hDC,λz=>?_,λv z=>nomatch z⟩
    rcases IQ.mp (I2.stkSub _ z) with q | q
    ·exact absurd I2.lt (by rw[<- q];exact OT _)
    ·exact I2.nofs (IP _) q
  ·show (JQ own.length none++fr.map λp:Str×Nat=>(σ[p.2]?).join).length=(own++fr.map (·.1)).length
   simp
 have Yp:Y.prog=X.prog/\Y.w=X.w/\Y.K=X.K/\Y.calm=true/\Y.A=X.A/\Y.env=compEnvC scope cl HH.objs.size X.env/\(Y.xe=λ_ _=>False):=by
  subst hYe
  exact⟨rfl,rfl,rfl,hcalm,rfl,rfl,rfl⟩
 obtain⟨y1,y2,y3,y4,y5,y6,y7⟩:=Yp
 have fpY:∀ {H':Hp} {its:List II} {n':Nat},(∀b∈fp,H' b=none)->∀b∈fp,Dk Y [(s2.heap.objs.size,lobj its n')] H' b:=λ{H' its n'} hn b hb=>by
  subst hYe
  obtain⟨f0,f1,f3,f4,f5,f6⟩:=f2 b hb
  refine⟨hn b hb,below b (hlt b hb),okY.exfs b hb,.inl hb,λx c e=>f5 x c (h1 x c e),λp hp=>?_⟩
  rcases JO.mp hp with z | z
  ·exact f6 p z
  ·have ep:p=(s2.heap.objs.size,lobj its n'):=by simpa using z
   subst ep
   exact OF (hlt b hb)
 have hYlen:∀ {H':Hp} {s':IL} {pl:List (IN×Obj)} {σ':St},Inv Y pl σ' H' s'->σ'.length=(stC own.length fr σ).length->(∀j,own.length<=j->σ'[j]? = (stC own.length fr σ)[j]?)->Inv Y pl (stC own.length fr σ) H' s':=λI hl hk=>by
  refine I.weak hl.symm λi v e=>?_
  rcases Nat.lt_or_ge i own.length with z | z
  ·have q:(stC own.length fr σ)[i]? = some none:=by
    unfold stC
    rw[KA (by simpa using z),OV,if_pos z]
   rw[q] at e
   cases e
  ·rw[hk i z];exact e
 obtain⟨W,⟨m0,w0⟩,turn⟩:=rd
 have loop:∀s₃:IL,s₃={ s2 with heap:=h₁,toks:=s2.toks+([]:List (Str×II)).length } ->
  RE (JV X.prog X.w) X.A (.compLoop (.ListComp elt [⟨tg,iter,ifs,0⟩] scope pos) 0 (.ref it) (.ref s2.heap.objs.size) (compEnvC scope cl HH.objs.size X.env)) (RR (.ref s2.heap.objs.size) HH.objs.size) s₃:=by
  rintro s₃ rfl
  refine Wz (xw Y) (λx s' h=>hE' x s' hCle h) (λn s'=>∃i ys its n' H',Inv Y [(s2.heap.objs.size,lobj its n')] (stC own.length fr σ) H' s'/\tn i s'.heap/\(∀b∈fp,H' b=none)/\Be ys its/\ys.length<=IK/\W i n ys H') ?_ m0
   ⟨0,[],[],0,H2,I0,T.keep _ _ _ st2 λb _ o e=>old b o e,λb hb=>(f2 b hb).1,.nil,KI _,w0⟩
  rintro n s3 ⟨i,ys,its,n',H3,I3,st3,fr3,rv,hz,w3⟩
  have pinD:=I3.pin (s2.heap.objs.size,lobj its n') (JK _ (by simp))
  rcases turn i n ys H3 w3 with ⟨stop,qn⟩ | ⟨go,Nx,hNx,step⟩
  ·have q:=T.done Y y1 y2 y3 y4 i _ s3 _ H3 (λ_ _=>False) I3 (fpY fr3) st3 stop
   rw[y5] at q
   refine Bx q λr s4 ⟨hr,I4⟩=>?_
   subst hr
   have pinD4:=I4.pin (s2.heap.objs.size,lobj its n') (JK _ (by simp))
   obtain⟨m,hm,_⟩:=I4.loc
   have IX:Inv X pins σ H3 s4:=by
    subst hYe
    exact I2.call' (ch:=fp) I4.os I4.base I4.hok I4.bare λb hb=>⟨(f2 b hb).2.2.2.1,(f2 b hb).2.1,(f2 b hb).2.2.2.2.1,(f2 b hb).2.2.2.2.2⟩
   rw[y6] at hm
   have hCf:H3 HH.objs.size=none:=by
    have z:=I4.free
    rw[y6] at z
    exact z
   refine fin s2.heap.objs.size HH.objs.size s4 H3 ys its n' m IX (I2.fpOk (IP _) pinD4.2.1) I2.sz pinD4.1 rv hz (I2.fpOk hCle hCf) (JR I2.sz hCle) (KO hDC) hm qn
  ·have q:=T.item Y y1 y2 y3 y4 i _ s3 _ H3 (λ_ _=>False) I3 (fpY fr3) st3 go
   rw[y5] at q
   refine Bx q λr s4 ⟨u,hr,h4⟩=>?_
   subst hr
   refine Bx h4 λ_ s5 ⟨x,H5,I5,r5,y5',st5,fr5⟩=>?_
   have I5':=I5.pinned (fpY fr5) (T.obj _ _ st5)
   have q6:JT (JV Y.prog Y.w) Y.A (assign tg Y.env u) _ (xw Y) s5:=R'.tg _ s5 _ H5 x u _ (I5'.wish _) r5 (hG _ _ _ _ _ (λσ2 H2' qq l k=>(⟨qq,l,k⟩:_/\_/\_)) (step x H5 y5'))
   rw[y1,y2,y5,y6] at q6
   refine Bx q6 λ_ s6 ⟨σ6,H6,I6,qt,hl6,hk6⟩=>?_
   have q7:JT (JV Y.prog Y.w) Y.A (forIn ifs true λc r=>if r=true then do let ok <- isTrue c Y.env (OA c Y.env);pure (ForInStep.yield ok) else pure (ForInStep.yield r)) _ (xw Y) s6:=R'.ts _ s6 _ H6 _ I6 qt
   rw[y1,y2,y5,y6] at q7
   refine Bx q7 λok s7 ⟨H7,I7,q7⟩=>?_
   -- a turn's end: the iterator's records and the list are pinned as they were
   have again:∀ {s8:IL} {H8:Hp} {ys8:List V} {its8:List II} {n8:Nat},Inv Y [(s2.heap.objs.size,lobj its8 n8)] σ6 H8 s8->(∀b∈fp,∀o,s5.heap.get? b=some o->s8.heap.get? b=some o)->(∀b∈fp,H8 b=none)->Be ys8 its8->ys8.length<=IK->Nx ys8 H8 ->
    ∃m,m < n/\∃i ys its n' H',Inv Y [(s2.heap.objs.size,lobj its n')] (stC own.length fr σ) H' s8/\tn i s8.heap/\(∀b∈fp,H' b=none)/\Be ys its/\ys.length<=IK/\W i m ys H':=λ{s8 H8 ys8 its8 n8} I8 kp fr8 rv8 hz8 nx=>by
    obtain⟨m',hm,w8⟩:=hNx ys8 H8 nx
    exact⟨m',hm,i+1,ys8,its8,n8,H8,hYlen I8 hl6 hk6,T.keep _ _ _ st5 kp,fr8,rv8,hz8,w8⟩
   cases ok with
   | false=>
    rw[if_neg IZ] at q7 ⊢
    refine again I7.unwish.unpinned (λb hb o e=>(I7.pin (b,o) (JK _ (JK _ (Fp hb e)))).1) (λb hb=>?_) rv hz q7
    obtain⟨o,e,d⟩:=T.obj _ _ st5 b hb
    exact(I7.pin (b,o) (JK _ (JK _ (Fp hb e)))).2.1
   | true=>
    rw[if_pos rfl] at q7 ⊢
    have q8:JT (JV Y.prog Y.w) Y.A (OA elt Y.env) _ (xw Y) s7:=R'.el _ s7 _ H7 _ I7 q7
    rw[y1,y2,y5,y6] at q8
    refine Bx q8 λv s8 ⟨yv,H8,I8,r8,hsz,nx⟩=>?_
    have pin8:=I8.pin (s2.heap.objs.size,lobj its n') (JK _ (MU _ (by simp)))
    refine wpAny_list_append_plain (hsz:=by have:=rv.length;simp only[JN];omega) ⟨n',pin8.1⟩ λh9 ⟨n9,e9⟩ sb=>?_
    have Iu:=I8.unwish.pins_of (pins':=[]) (λp hp=>nomatch hp)
    have DF:Dk Y [] H8 s2.heap.objs.size:=by
     subst hYe
     refine⟨pin8.2.1,hDC,pin8.2.2.2.1,.inr (IP _),λx c e=>?_,λp hp=>?_⟩
     ·obtain⟨w',o,qo,_⟩:=I2.cell x c (h1 x c e)
      exact JP (JF qo)
     ·have hp':p∈X.pn++pins:=by
       rw[LA] at hp
       exact hp
      exact JP (JF (I2.pin p hp').1)
    have I9:Inv Y [] σ6 H8 { s8 with heap:=h9 }:=Iu.turns (t':=s8.toks) (ch:=[s2.heap.objs.size]) (λb o hb e=>(sb.2 b (by simpa using hb)).trans e) (λb hb=>by
     have e:b=s2.heap.objs.size:=by simpa using hb
     subst e
     exact DF)
    have e9':h9.get? s2.heap.objs.size=some (lobj (its++[v]) n9):=by
     rw[e9]
     simp
    have I10:Inv Y [(s2.heap.objs.size,lobj (its++[v]) n9)] σ6 H8 { s8 with heap:=h9 }:=I9.pins_of λp hp=>by
     have ep:p=(s2.heap.objs.size,lobj (its++[v]) n9):=by simpa using hp
     subst ep
     exact⟨e9',pin8.2.1,pin8.2.2.1,pin8.2.2.2.1,λw' z=>nomatch z⟩
    refine again I10 (λb hb o e=>(sb.2 b (JP (hlt b hb))).trans (I8.pin (b,o) (JK _ (JK _ (Fp hb e)))).1) (λb hb=>?_) (rv.append (.cons r8 .nil)) (by simp;omega) nx
    obtain⟨o,e,d⟩:=T.obj _ _ st5 b hb
    exact(I8.pin (b,o) (JK _ (JK _ (Fp hb e)))).2.1
 exact codeAny_compStart_list (loop _ rfl) (T.self _ 0 _ _ _ (T.keep _ _ _ st2 λb _ o e=>old b o e) (loop _ rfl))
theorem Pf{pins:List (IN×Obj)}{σ:St}{H2:Hp}{s2:IL}{cl:List (Str×IN)}{fp:List IN}{it:IN}{tn:Nat->LO->Prop}{J:It}{F:List V->Hp->Prop}{RR:II->IN->Result->IL->Prop}{E:II->IL->Prop}(hcalm:X.calm=true)(ho:Px X.env.scope scope)(hfr:∀p∈fr,X.N[p.2]? = some p.1/\scope.names.lookup p.1=some .free)(hG:Zv own.length g)(hY:∀cl C s H fp pins,fX (Jy X scope (own++fr.map (·.1)) cl C s H fp pins) tg ifs elt g tc te)(I2:Inv X pins σ H2 s2)(T:Turn X.prog X.w X.K tg J fp it tn)(st2:tn 0 s2.heap)(f2:∀b∈fp,Dk X pins H2 b)(rd:Fq own.length fr g tc te σ J H2 F)(h1:∀x c,cl.lookup x=some c->X.env.cells.lookup x=some c)(h2:∀x,(x,LS)∈scope.names->∃c,cl.lookup x=some c)(fin:∀D C s' H' ys its n' m,Inv X pins σ H' s'->Dk X pins H' D->X.s₀.heap.objs.size<=D->s'.heap.get? D=some (lobj its n')->Be ys its->ys.length<=IK->Dk X pins H' C->X.s₀.heap.objs.size<=C->C≠D->s'.heap.Ns C m->F ys H'->RR (.ref D) C (.ok .next) s'):
 JT (JV X.prog X.w) X.A (newList []) (λacc s₃=>JT (JV X.prog X.w) X.A (newFunctionEnv scope X.env.globals cl [] X.env.qual none .none (some X.env)) (λcenv s₄=>
  RE (JV X.prog X.w) X.A (.compStart (.ListComp elt [⟨tg,iter,ifs,0⟩] scope pos) 0 (.ref it) acc { cenv with scope:=relabel scope X.env }) (RR acc cenv.locals) s₄) E s₃) E s2:=
 Yf (λ_ _ _=>False) hcalm ho hfr hG hY I2 T st2 f2 rd h1 h2 fin λ_ _ _ _ _ h=>h.elim
theorem Qb{pins:List (IN×Obj)}{σ:St}{H:Hp}{s:IL}(I:Inv X pins σ H s)(hsc:X.env.scope=sc)(hok:Pt sc scope=true)(hNN:X.N=N)(hfr:sL N scope fr=true):
 Px X.env.scope scope/\(∀p∈fr,X.N[p.2]? = some p.1/\scope.names.lookup p.1=some .free) /\
 ∃cl,closureFor scope X.env=pure cl/\(∀x c,cl.lookup x=some c->X.env.cells.lookup x=some c)/\∀x,(x,LS)∈scope.names->∃c,cl.lookup x=some c:=by
 subst hsc hNN
 have ho:=gM hok
 refine⟨ho,λp hp=>?_,aQ λn hn=>I.ok.has n (ho.free n hn)⟩
 unfold sL at hfr
 rw[NL] at hfr
 have q:=hfr p hp
 rw[LC] at q
 exact⟨of_decide_eq_true q.1,of_decide_eq_true q.2⟩
theorem Gi(sc:Scope)(N own:List Str)(fr:List (Str×Nat))(hcalm:X.calm=true)(hi:PI X tg iter wi)(hG:Zv own.length g)(hY:∀cl C s H fp pins,fX (Jy X scope (own++fr.map (·.1)) cl C s H fp pins) tg ifs elt g tc te)(hsc:X.env.scope=sc:=by rfl)(hok:Pt sc scope=true:=by decide +kernel)(hNN:X.N=N:=by rfl)(hfr:sL N scope fr=true:=by decide +kernel)(hs:∀x,foldedSetIterable iter X.env x=pure x:=by intro _;rfl):
 PE X (.ListComp elt [⟨tg,iter,ifs,0⟩] scope pos) (vY own.length fr wi g tc te):=by
 intro pins s σ H Q I h
 obtain⟨ho,hfr',cl,hcl,c1,c2⟩:=Qb I hsc hok hNN hfr
 rw[eval_ListComp]
 refine wpAny_comprehension_free (use:=none) rfl hs hcl ho.kind ho.loc (Bx (hi pins s σ H _ I h) λv s1 q1=>Bx q1 λitv s2 q2=>?_)
 obtain⟨it,fp,tn,J,H2,e,I2,T,st2,f2,rd⟩:=q2
 subst e
 refine Pf (RR:=λacc C=>compPost (JV X.prog X.w) X.A X.xe none (EP X pins σ Q) acc C) hcalm ho hfr' hG hY I2 T st2 f2 rd c1 c2 ?_
 intro D C s' H' ys its n' m I' fD zD eD rv hz fC zC hCD hm hF
 refine⟨m,hm,λh' sb=>?_⟩
 have I3:Inv X pins σ H' { s' with heap:=h' }:=I'.turns (t':=s'.toks) (ch:=[C]) (λb o hb e=>(sb.2 b (by simpa using hb)).trans e) (λb hb=>by
  have e:b=C:=by simpa using hb
  subst e
  exact fC)
 exact⟨.ref D,_,I3.adopt (o:=.lst ys) fD.1 fD.2.1 zD fD.2.2.2.2.1 fD.2.2.2.2.2 ⟨hz,its,n',rv,(sb.2 D (KO hCD)).trans eD⟩,rfl,hF D fD.1⟩
theorem Ed{i:Nat}{x:Str}{pos' spos:Pos}(sc:Scope)(N own:List Str)(fr:List (Str×Nat))(hcalm:X.calm=true)(hN:X.N.Nodup)(hx':X.N[i]? = some x)(hx:X.env.scope.names.lookup x=some .local)(hi:PI X tg iter wi)(hG:Zv own.length g)(hY:∀cl C s H fp pins,fX (Jy X scope (own++fr.map (·.1)) cl C s H fp pins) tg ifs elt g tc te)(hsw:swapsWith (.ListComp elt [⟨tg,iter,ifs,0⟩] scope pos) (some (.Name x pos')) spos.line X.env=pure true:=by rfl)(hsc:X.env.scope=sc:=by rfl)(hok:Pt sc scope=true:=by decide +kernel)(hNN:X.N=N:=by rfl)(hfr:sL N scope fr=true:=by decide +kernel)(hs:∀x,foldedSetIterable iter X.env x=pure x:=by intro _;rfl):
 PS X (.Assign [.Name x pos'] (.ListComp elt [⟨tg,iter,ifs,0⟩] scope pos) spos) (Xn (vY own.length fr wi g tc te) (Ko i)):=by
 intro pins s σ H D0 I h
 obtain⟨ho,hfr',cl,hcl,c1,c2⟩:=Qb I hsc hok hNN hfr
 rw[exec_Assign_Name_used _ _ _ _ hsw]
 refine IF (PK (IF ?_))
 show JT _ X.A (do let _ <- comprehension (.ListComp elt [⟨tg,iter,ifs,0⟩] scope pos) scope X.env _ (newList []) false (OA iter X.env) (some (assign (.Name x pos') X.env))) _ _ s
 refine IF (MI (wpAny_comprehension_free (use:=some (assign (.Name x pos') X.env)) (Q:=λ_ s'=>SP X pins D0 .next s') rfl hs hcl ho.kind ho.loc
  (Bx (hi pins s σ H _ I h) λv s1 q1=>Bx q1 λitv s2 q2=>?_)) (λ_ s' hq=>JA (JA hq)) λ_ _ e=>e)
 obtain⟨it,fp,tn,J,H2,e,I2,T,st2,f2,rd⟩:=q2
 subst e
 refine Pf (RR:=λacc C=>compPost (JV X.prog X.w) X.A X.xe (some (assign (.Name x pos') X.env)) (λ_ s'=>SP X pins D0 .next s') acc C) hcalm ho hfr' hG hY I2 T st2 f2 rd c1 c2 ?_
 intro D C s' H' ys its n' m I' fD zD eD rv hz fC zC hCD hm hF
 show JT _ X.A (assign (.Name x pos') X.env (.ref D)) _ _ _
 have I3:Inv X pins σ (upd H' D (.lst ys)) s':=I'.adopt (o:=.lst ys) fD.1 fD.2.1 zD fD.2.2.2.2.1 fD.2.2.2.2.2 ⟨hz,its,n',rv,eD⟩
 obtain⟨oC,es,ep,hoC,dC,rC⟩:=id hm
 have nC:(upd H' D (.lst ys)) C=none:=by rw[Ai hCD];exact fC.1
 have I4:Inv X (pins++[(C,oC)]) σ (upd H' D (.lst ys)) s':=I3.pins_of λp hp=>by
  rcases JO.mp hp with z | z
  ·exact I3.pin p (JK _ z)
  ·have e:p=(C,oC):=by simpa using z
   subst e
   exact⟨hoC,nC,fC.2.1,fC.2.2.1,λv z=>by rw[dC] at z;cases z⟩
 refine wpAny_assign_Name (Qh I4 hN hx' (.inl hx) (v:=.ref D) rfl (λs5 I5=>?_) (.inr hx))
 have p5:=I5.pin (C,oC) (JK _ (JK _ (by simp)))
 refine⟨m,⟨oC,es,ep,p5.1,dC,rC⟩,λh' sb=>?_⟩
 have I6:Inv X pins (σ.set i (some (.ref D))) (upd H' D (.lst ys)) { s5 with heap:=h' }:=I5.unpinned.turns (t':=s5.toks) (ch:=[C]) (λb o hb e=>(sb.2 b (by simpa using hb)).trans e) (λb hb=>by
  have e:b=C:=by simpa using hb
  subst e
  exact⟨nC,fC.2⟩)
 exact⟨_,_,I6,hF D fD.1⟩
end
theorem Ol{K:IG}{a:IN}{xs:List V}{n:Nat}{fr:List (Str×Nat)}{g:TG}{tc:TT}{te:TE}{σ:St}{H:Hp}{F:List V->Hp->Prop}(Pv:Nat->List V->Hp->Prop)(h0:Pv 0 [] H)(hl:∀i ys H,i<=xs.length->Pv i ys H->Av K H a xs)(hs:∀i x ys H,xs[i]? = some x->Pv i ys H->g x (stC n fr σ) H λσ2 H2=>tc σ2 H2 λb H3=>if b=true then te σ2 H3 λy H4=>ys.length < IK/\Pv (i+1) (ys++[y]) H4 else Pv (i+1) ys H3)(hd:∀ys H,Pv xs.length ys H->F ys H):Fq n fr g tc te σ (yK K a) H F:=by
 refine⟨λi m ys H=>m=xs.length-i/\i<=xs.length/\Pv i ys H,⟨xs.length,by simp,KI _,h0⟩,?_⟩
 rintro i m ys H ⟨rfl,hi,p⟩
 have q:=hl i ys H hi p
 by_cases hlt:i < xs.length
 ·refine .inr ⟨⟨xs,xs[i],q,by simp[hlt]⟩,Pv (i+1),λys' H' p'=>⟨xs.length-(i+1),by omega,rfl,hlt,p'⟩,λx H' y=>?_⟩
  obtain⟨e,y⟩:=y
  subst e
  exact hs i x ys _ (y xs q) p
 ·have e:i=xs.length:=by omega
  subst e
  exact .inl ⟨⟨xs,q,IP _⟩,hd ys H p⟩
theorem Xi{lo:Int}{k n:Nat}{fr:List (Str×Nat)}{g:TG}{tc:TT}{te:TE}{σ:St}{H:Hp}{F:List V->Hp->Prop}(Pv:Nat->List V->Hp->Prop)(h0:Pv 0 [] H)(hs:∀i ys H,i < k->Pv i ys H->g (.int (lo+i)) (stC n fr σ) H λσ2 H2=>tc σ2 H2 λb H3=>if b=true then te σ2 H3 λy H4=>ys.length < IK/\Pv (i+1) (ys++[y]) H4 else Pv (i+1) ys H3)(hd:∀ys H,Pv k ys H->F ys H):Fq n fr g tc te σ (rH lo k) H F:=by
 refine⟨λi m ys H=>m=k-i/\i<=k/\Pv i ys H,⟨k,by simp,KI _,h0⟩,?_⟩
 rintro i m ys H ⟨rfl,hi,p⟩
 by_cases hlt:i < k
 ·refine .inr ⟨hlt,Pv (i+1),λys' H' p'=>⟨k-(i+1),by omega,rfl,hlt,p'⟩,λx H' y=>?_⟩
  obtain⟨e,y⟩:=y
  subst e y
  exact hs i ys _ hlt p
 ·have e:i=k:=by omega
  subst e
  exact .inl ⟨IP _,hd ys H p⟩
def yS(K:IG)(a b:IN):It:=
 ⟨λi H=>∃xs ys x y,Av K H a xs/\Av K H b ys/\xs[i]? = some x/\ys[i]? = some y,
  λi H v H'=>∃T x y,H T=none/\v=.ref T/\H'=upd H T (.tup [x,y])/\(∀xs,Av K H a xs->xs[i]? = some x)/\∀ys,Av K H b ys->ys[i]? = some y,
  λi H=>∃xs ys,Av K H a xs/\Av K H b ys/\(xs.length<=i∨ys.length<=i)⟩
theorem ap(n i j:Nat)(h:i≠j):n+i≠n+j:=λe=>h (Nat.add_left_cancel e)
theorem jO(n i:Nat):n<=n+i:=Nat.le_add_right n i
theorem Kr{h:LO}{a b:IN}{o u:Obj}(e:h.get? a=some o)(e':h.get? b=some u)(d:o.cls≠u.cls):a≠b:=by
 intro z
 subst z
 rw[e] at e'
 cases e'
 exact d rfl
theorem Si{h:LO}{n a b:IN}{i:Nat}{f0:II}{pa pb:II}{xs ys:Array II}(hz:IsZip h (n+4) (n+2) (n+3) f0)(hTO:OZ h (n+3) pa pb)(h1:h.IsListIter n a i)(h2:h.IsListIter (n+1) b i)(l1:h.IsList a xs)(l2:h.IsList b ys):
 ZipApart (n+4) (n+2) (n+3) n (n+1) a b:=by
 obtain⟨o1,e1,c1,_⟩:=l1
 obtain⟨o2,e2,c2,_⟩:=l2
 obtain⟨p1,q1,d1,_⟩:=h1
 obtain⟨p2,q2,d2,_⟩:=h2
 have nz:∀ {c:IN} {o:Obj},h.get? c=some o->o.cls=.type "list" -> c≠n+4/\c≠n+3/\c≠n/\c≠n+1:=λ{c o} e z=>
  ⟨Kr e hz (by rw[z];show NR "list" ≠ NR "zip"; decide),Kr e hTO (by rw[z];show NR "list" ≠ NR "tuple"; decide),Kr e q1 (by rw[z,d1];decide),Kr e q2 (by rw[z,d2];decide)⟩
 obtain⟨a1,a2,a3,a4⟩:=nz e1 c1
 obtain⟨b1,b2,b3,b4⟩:=nz e2 c2
 exact⟨ap n 2 4 (by decide),ap n 3 4 (by decide),ap n 0 4 (by decide),ap n 1 4 (by decide),ap n 2 3 (by decide),ap n 2 0 (by decide),ap n 2 1 (by decide),ap n 3 0 (by decide),ap n 3 1 (by decide),ap n 0 1 (by decide),a1,a2,a3,a4,b1,b2,b3,b4⟩
theorem kY{P:JJ}{w:KL}{K:IG}{elts:List Expr}{kk:Nat}{tpos:Pos}(n a b:IN):Turn P w K (.Tuple elts kk tpos) (yS K a b) [n+4,n+2,n+3,n,n+1] (n+4)
 (λi h=>IsZip h (n+4) (n+2) (n+3) .none/\OZ h (n+2) (.ref n) (.ref (n+1))/\(∃p q,OZ h (n+3) p q)/\h.IsListIter n a i/\h.IsListIter (n+1) b i) where
 mem:=by simp
 obj:=λi h st c hc=>by
  obtain⟨hz,hTI,⟨p,q,hTO⟩,⟨o1,e1,c1,d1⟩,⟨o2,e2,c2,d2⟩⟩:=st
  simp only[IQ,JG,or_false] at hc
  rcases hc with rfl | rfl | rfl | rfl | rfl
  ·exact⟨_,hz,λv z=>nomatch z⟩
  ·exact⟨_,hTI,λv z=>nomatch z⟩
  ·exact⟨_,hTO,λv z=>nomatch z⟩
  ·exact⟨_,e1,λv z=>by rw[d1] at z;cases z⟩
  ·exact⟨_,e2,λv z=>by rw[d2] at z;cases z⟩
 keep:=λi h h' st k=>by
  obtain⟨hz,hTI,⟨p,q,hTO⟩,h1,h2⟩:=st
  exact⟨k _ (by simp) _ hz,k _ (by simp) _ hTI,⟨p,q,k _ (by simp) _ hTO⟩,h1.at λo e=>k _ (by simp) o e,h2.at λo e=>k _ (by simp) o e⟩
 item:=by
  intro X hP hw hK hc i pins s σ H E I hf st hg
  subst hP hw hK
  obtain⟨xs,ys,x,y,hq1,hq2,hx,hy⟩:=hg
  obtain⟨its1,rv1,p1,_⟩:=I.list hq1
  obtain⟨its2,rv2,p2,_⟩:=I.list hq2
  obtain⟨u1,hu1,ru1⟩:=rv1.get hx
  obtain⟨u2,hu2,ru2⟩:=rv2.get hy
  obtain⟨hz,hTI,⟨pa,pb,hTO⟩,h1,h2⟩:=st
  have D:=Si hz hTO h1 h2 p1.isList p2.isList
  refine wpAny_pyNext_zip_item D hz hTI hTO h1 h2 p1.isList p2.isList (x:=u1) (y:=u2) (by simpa using hu1) (by simpa using hu2) λh' a1 a2 a3 a4 a5 a6 k=>?_
  refine⟨_,rfl,wpAny_letOwnedTupleGo_zip a1 λh2' hz2 sb=>?_⟩
  have lt:∀c∈[n+4,n+2,n+3,n,n+1],c≠s.heap.objs.size:=λc hc=>by
   simp only[IQ,JG,or_false] at hc
   obtain⟨_,q1,_,_⟩:=id h1
   obtain⟨_,q2,_,_⟩:=id h2
   rcases hc with rfl | rfl | rfl | rfl | rfl
   ·exact JP (JF hz)
   ·exact JP (JF hTI)
   ·exact JP (JF hTO)
   ·exact JP (JF q1)
   ·exact JP (JF q2)
  have kk2:∀c o,c∉[n+4,n+3,n,n+1]->s.heap.get? c=some o->h2'.get? c=some o:=λc o hc e=>by
   simp only[IQ,JG,or_false,not_or] at hc
   exact(sb.2 c hc.1).trans (k c o hc.1 hc.2.1 hc.2.2.1 hc.2.2.2 e)
  have I1:Inv X pins σ H { s with heap:=h2' }:=I.turns (t':=s.toks) (ch:=[n+4,n+3,n,n+1]) kk2 λc hc=>by
   simp only[IQ,JG,or_false] at hc
   exact hf c (by simp only[IQ,JG,or_false];rcases hc with z | z | z | z<;>simp[z])
  have fT:Dk X pins H s.heap.objs.size:=I.fpOk (IP _) (I.hok.fresh (IP _))
  have eT:h2'.get? s.heap.objs.size=some { cls:=.type "tuple", data:=.seq #[u1,u2] }:=(sb.2 _ (KO (lt (n+4) (by simp)))).trans a5
  refine⟨.ref s.heap.objs.size,_,I1.adopt (o:=.tup [x,y]) fT.1 fT.2.1 I.sz fT.2.2.2.2.1 fT.2.2.2.2.2 ⟨by show 2<=IK;decide,[u1,u2],.cons ru1 (.cons ru2 .nil),⟨_,eT,rfl,0,rfl⟩⟩,rfl,⟨_,x,y,fT.1,rfl,rfl,λzs hzs=>?_,λzs hzs=>?_⟩,?_,λc hc=>?_⟩
  ·rw[I.list_inj hzs hq1];exact hx
  ·rw[I.list_inj hzs hq2];exact hy
  ·refine⟨hz2,(sb.2 _ (ap n 2 4 (by decide))).trans (k _ _ (ap n 2 4 (by decide)) (ap n 2 3 (by decide)) (ap n 2 0 (by decide)) (ap n 2 1 (by decide)) hTI),⟨u1,u2,(sb.2 _ (ap n 3 4 (by decide))).trans a2⟩,a3.at λo e=>(sb.2 _ (ap n 0 4 (by decide))).trans e,a4.at λo e=>(sb.2 _ (ap n 1 4 (by decide))).trans e⟩
  ·rw[Ai (lt c hc)]
   exact(hf c hc).1
 done:=by
  intro X hP hw hK hc i pins s σ H E I hf st hg
  subst hP hw hK
  obtain⟨xs,ys,hq1,hq2,hx⟩:=hg
  obtain⟨its1,rv1,p1,_⟩:=I.list hq1
  obtain⟨its2,rv2,p2,_⟩:=I.list hq2
  obtain⟨hz,hTI,⟨pa,pb,hTO⟩,h1,h2⟩:=st
  have D:=Si hz hTO h1 h2 p1.isList p2.isList
  have l1:=rv1.length
  have l2:=rv2.length
  refine zQ (I.calmS hc) D hz hTI hTO h1 h2 p1.isList p2.isList (by
   rcases hx with z | z
   ·exact .inl (by simp;omega)
   ·exact .inr (by simp;omega)) λh' k=>⟨rfl,?_⟩
  refine I.turns (t':=s.toks) (ch:=[n+4,n+3,n,n+1]) (λc o hc e=>?_) λc hc=>?_
  ·simp only[IQ,JG,or_false,not_or] at hc
   exact k c o hc.1 hc.2.1 hc.2.2.1 hc.2.2.2 e
  ·simp only[IQ,JG,or_false] at hc
   exact hf c (by simp only[IQ,JG,or_false];rcases hc with z | z | z | z<;>simp[z])
 self:=λ_ _ _ _ _ st h=>wpAny_pyIter_zip st.1 h
def EO(K:IG)(ta:TA):TI:=λσ H R=>ta σ H λvs H1=>∃a b,vs=[.ref a,.ref b]/\(∃xs,Av K H1 a xs)/\(∃ys,Av K H1 b ys)/\R (yS K a b) H1
theorem Tz{X:Cx}{elts:List Expr}{kk:Nat}{tpos:Pos}{a b:Expr}{ta:TA}{p pos:Pos}(hg:Gl X "zip")(hm:X.mg "zip" = none)(ha:PA X [a,b] ta)(hs:JS [a,b] X.env=[(false,OA a X.env),(false,OA b X.env)]:=by rfl)(hs2:JS [b] X.env=[(false,OA b X.env)]:=by rfl):
 PI X (.Tuple elts kk tpos) (.Call (.Name "zip" p) [a,b] [] pos) (EO X.K ta):=by
 intro pins s σ H R I h
 refine Call_ (Ib I hg hm boot_zip (MG (Bx (ha pos pins s σ H _ I h) λus s1 ⟨vs,H1,I1,r1,q1⟩=>?_) (by rw[hs,hs2]) (by rw[hs2];rfl)))
 obtain⟨a',b',e,⟨xs,hq1⟩,⟨ys,hq2⟩,q⟩:=q1
 subst e
 obtain⟨u,w',rfl,r,r'⟩:=vals2 r1
 cases r
 cases r'
 obtain⟨its1,rv1,p1,_⟩:=I1.list hq1
 obtain⟨its2,rv2,p2,_⟩:=I1.list hq2
 refine call_zip_2 p1.isList p2.isList λh' z1 z2 z3 z4 z5 z6 k=>wpAny_pyIter_zip (s:={ s1 with heap:=h' }) z1 ?_
 refine⟨s1.heap.objs.size+4,[s1.heap.objs.size+4,s1.heap.objs.size+2,s1.heap.objs.size+3,s1.heap.objs.size,s1.heap.objs.size+1],_,_,H1,rfl,I1.kept (t':=s1.toks) k,kY s1.heap.objs.size a' b',⟨z1,z2,⟨_,_,z3⟩,z4,z5⟩,λc hc=>?_,q⟩
 have hle:s1.heap.objs.size<=c:=by
  simp only[IQ,JG,or_false] at hc
  rcases hc with rfl | rfl | rfl | rfl | rfl
  ·exact jO _ 4
  ·exact jO _ 2
  ·exact jO _ 3
  ·exact jO _ 0
  ·exact jO _ 1
 exact I1.fpOk hle (I1.hok.fresh hle)
def AF(K:IG)(a:IN):It:=
 ⟨λi H=>∃xs x,Av K H a xs/\xs[i]? = some x,
  λi H v H'=>∃T x,H T=none/\v=.ref T/\H'=upd H T (.tup [.int i,x])/\∀xs,Av K H a xs->xs[i]? = some x,
  λi H=>∃xs,Av K H a xs/\xs.length<=i⟩
theorem gU{P:JJ}{w:KL}{K:IG}{elts:List Expr}{kk:Nat}{tpos:Pos}(n a:IN):Turn P w K (.Tuple elts kk tpos) (AF K a) [n+1,n] (n+1)
 (λi h=>(∃old,IsEnum h (n+1) n i old)/\h.IsListIter n a i) where
 mem:=by simp
 obj:=λi h st c hc=>by
  obtain⟨⟨old,he⟩,⟨o1,e1,c1,d1⟩⟩:=st
  simp only[IQ,JG,or_false] at hc
  rcases hc with rfl | rfl
  ·exact⟨_,he,λv z=>nomatch z⟩
  ·exact⟨_,e1,λv z=>by rw[d1] at z;cases z⟩
 keep:=λi h h' st k=>by
  obtain⟨⟨old,he⟩,h1⟩:=st
  exact⟨⟨old,k _ (by simp) _ he⟩,h1.at λo e=>k _ (by simp) o e⟩
 item:=by
  intro X hP hw hK hc i pins s σ H E I hf st hg
  subst hP hw hK
  obtain⟨xs,x,hq,hx⟩:=hg
  obtain⟨its,rv,p,_⟩:=I.list hq
  obtain⟨u,hu,ru⟩:=rv.get hx
  obtain⟨⟨old,he⟩,h1⟩:=st
  refine wpAny_pyNext_enum_item he h1 p.isList (x:=u) (by simpa using hu) (ap n 1 0 (by decide)) λh' a1 a2 a3 a4 k=>?_
  refine⟨_,rfl,wpAny_letOwnedTupleGo_enum a1 λh2' he2 sb=>?_⟩
  have lt:∀c∈[n+1,n],c≠s.heap.objs.size:=λc hc=>by
   simp only[IQ,JG,or_false] at hc
   obtain⟨_,q1,_,_⟩:=id h1
   rcases hc with rfl | rfl
   ·exact JP (JF he)
   ·exact JP (JF q1)
  have I1:Inv X pins σ H { s with heap:=h2',toks:=s.toks+1 }:=I.turns (ch:=[n+1,n]) (λc o hc e=>by
   simp only[IQ,JG,or_false,not_or] at hc
   exact(sb.2 c hc.1).trans (k c o hc.1 hc.2 e)) hf
  have fT:Dk X pins H s.heap.objs.size:=I.fpOk (IP _) (I.hok.fresh (IP _))
  have eT:h2'.get? s.heap.objs.size=some { cls:=.type "tuple", data:=.seq #[.int i s.toks,u] }:=(sb.2 _ (KO (lt (n+1) (by simp)))).trans a3
  refine⟨.ref s.heap.objs.size,_,I1.adopt (o:=.tup [.int i,x]) fT.1 fT.2.1 I.sz fT.2.2.2.2.1 fT.2.2.2.2.2 ⟨by show 2<=IK;decide,[.int i s.toks,u],.cons ⟨_,rfl⟩ (.cons ru .nil),⟨_,eT,rfl,0,rfl⟩⟩,rfl,⟨_,x,fT.1,rfl,rfl,λzs hzs=>?_⟩,?_,λc hc=>?_⟩
  ·rw[I.list_inj hzs hq];exact hx
  ·exact⟨⟨_,he2⟩,a2.at λo e=>(sb.2 _ (ap n 0 1 (by decide))).trans e⟩
  ·rw[Ai (lt c hc)]
   exact(hf c hc).1
 done:=by
  intro X hP hw hK hc i pins s σ H E I hf st hg
  subst hP hw hK
  obtain⟨xs,hq,hx⟩:=hg
  obtain⟨its,rv,p,_⟩:=I.list hq
  obtain⟨⟨old,he⟩,h1⟩:=st
  have l1:=rv.length
  refine tT (I.calmS hc) he h1 p.isList (by simp;omega) λh' k=>⟨rfl,?_⟩
  exact I.turns (t':=s.toks) (ch:=[n]) (λc o hc e=>k c o (by simpa using hc) e) λc hc=>hf c (by simp at hc ⊢;exact .inr hc)
 self:=λA i s Q E st h=>by
  obtain⟨⟨old,he⟩,_⟩:=st
  have hT:s.TypeIs (.ref (n+1)) "enumerate" := ⟨_,he,rfl⟩
  refine wpAny_pyIter_slot hT F.slot_enumerate_iter (LU F.slot_enumerate_iter hT F.entry_enumerate_iter ?_ (F.args_enumerate_iter_1 _))
  show JT _ _ (ret (.ref (n+1))) _ _ s
  exact JA ⟨_,rfl,"enumerate", _,hT,F.slot_enumerate_next.lookup,h⟩
theorem iI:OM "enumerate" = some (.type "enumerate"):=by decide +kernel
def AQ(K:IG)(ta:TA):TI:=λσ H R=>ta σ H λvs H1=>∃a,vs=[.ref a]/\(∃xs,Av K H1 a xs)/\R (AF K a) H1
theorem tU{X:Cx}{elts:List Expr}{kk:Nat}{tpos:Pos}{a:Expr}{ta:TA}{p pos:Pos}(hg:Gl X "enumerate")(hm:X.mg "enumerate" = none)(ha:PA X [a] ta)(hs:JS [a] X.env=[(false,OA a X.env)]:=by rfl):
 PI X (.Tuple elts kk tpos) (.Call (.Name "enumerate" p) [a] [] pos) (AQ X.K ta):=by
 intro pins s σ H R I h
 refine Call_ (Ib I hg hm iI (MG (Bx (ha pos pins s σ H _ I h) λus s1 ⟨vs,H1,I1,r1,q1⟩=>?_) hs rfl))
 obtain⟨a',e,⟨xs,hq1⟩,q⟩:=q1
 subst e
 obtain⟨u,rfl,r⟩:=vals1 r1
 cases r
 obtain⟨its1,rv1,p1,_⟩:=I1.list hq1
 refine call_enumerate_list p1.isList λh' z1 z2 z3 k=>?_
 have T:Turn X.prog X.w X.K (.Tuple elts kk tpos) (AF X.K a') _ _ _:=gU s1.heap.objs.size a'
 refine T.self _ 0 { s1 with heap:=h' } _ _ ⟨⟨_,z1⟩,z2⟩ ?_
 refine⟨s1.heap.objs.size+1,[s1.heap.objs.size+1,s1.heap.objs.size],_,_,H1,rfl,I1.kept (t':=s1.toks) k,T,⟨⟨_,z1⟩,z2⟩,λc hc=>?_,q⟩
 have hle:s1.heap.objs.size<=c:=by
  simp only[IQ,JG,or_false] at hc
  rcases hc with rfl | rfl
  ·exact jO _ 1
  ·exact jO _ 0
 exact I1.fpOk hle (I1.hok.fresh hle)
abbrev Cx.in1(X:Cx):Cx:={ X with A:=X.A.in1 }
theorem Inv.in1{X:Cx}{pins:List (IN×Obj)}{σ:St}{H:Hp}{s:IL}(I:Inv X pins σ H s):Inv X.in1 pins σ H s:=
 ⟨⟨I.ok.mod,I.ok.kind,I.ok.glob,I.ok.blt,I.ok.above,I.ok.inj,I.ok.has,I.ok.cab,I.ok.hd,I.ok.st,I.ok.frames,I.ok.stk,I.ok.exf,I.ok.bs,I.ok.bsz,I.ok.noex,I.ok.exfs,I.ok.funs,I.ok.frf⟩,I.os,I.bare,I.base,I.loc,I.cell,I.free,I.freeC,I.pin,I.hok,I.len⟩
theorem Inv.out1{X:Cx}{pins:List (IN×Obj)}{σ:St}{H:Hp}{s:IL}(I:Inv X.in1 pins σ H s):Inv X pins σ H s:=
 ⟨⟨I.ok.mod,I.ok.kind,I.ok.glob,I.ok.blt,I.ok.above,I.ok.inj,I.ok.has,I.ok.cab,I.ok.hd,I.ok.st,I.ok.frames,I.ok.stk,I.ok.exf,I.ok.bs,I.ok.bsz,I.ok.noex,I.ok.exfs,I.ok.funs,I.ok.frf⟩,I.os,I.bare,I.base,I.loc,I.cell,I.free,I.freeC,I.pin,I.hok,I.len⟩
def Xv(K:IG)(H:Hp)(ys:List V)(ks:List Bool):Prop:=PF (λy k=>tZ K y H k) ys ks
theorem Kw{α β:Type}{F:α->β->Prop}:∀ {l₁:List α} {l₂:List β} {i:Nat} {a:α},PF F l₁ l₂->l₁[i]? = some a->∃b,l₂[i]? = some b/\F a b
 | _,_,_,_,.nil,e=>by simp at e
 | _,_,0,_,.cons r _,e=>by simp at e;subst e;exact⟨_,rfl,r⟩
 | _,_,i+1,a,.cons _ t,e=>by
  obtain⟨b,h1,h2⟩:=Kw (i:=i) (a:=a) t (by simpa using e)
  exact⟨b,by simpa using h1,h2⟩
section
variable {X:Cx} {pins:List (IN×Obj)} {σ:St} {H:Hp} {R:Result->IL->Prop} {a it:IN} {ys:List V} {ks:List Bool}
theorem oG(hc:X.calm=true)(hq:Av X.K H a ys)(ht:Xv X.K H ys ks)(hR:∀s',Inv X pins σ H s'->R (.ok (.ret (.bool (ks.any id)))) s'):∀(k i:Nat)(s:IL),ys.length-i=k->i<=ys.length->(ks.take i).any id=false ->
 Inv X pins σ H s->Dk X pins H it->s.heap.IsListIter it a i->RE (JV X.prog X.w) X.A (.builtin "any.loop" ⟨[.ref it],[]⟩) R s:=by
 have hlen:ys.length=ks.length:=NK ht
 intro k
 induction k with
 | zero=>
  intro i s hk hi hn I hf st
  have hin:i=ys.length:=by omega
  refine OY F.entry_any_loop ?_
  rw[OW F.plain_any_loop _]
  show JT _ X.A.in1 (OX (.ref it) >>= _) _ _ s
  have T:=Mu (P:=X.prog) (w:=X.w) (K:=X.K) (tg:=.Name "x" ⟨0,0,0,0⟩) a it
  refine IF (Bx (T.done X.in1 rfl rfl rfl hc i pins s σ H _ I.in1 (λb hb=>by
   have e:b=it:=by simpa using hb
   subst e
   exact hf) st ⟨ys,hq,by omega⟩) λr s1 ⟨hr,I1⟩=>?_)
  subst hr
  refine IF (NF (JA ?_))
  have:=hR s1 I1.out1
  rw[<- KW (l:=ks) (i:=i) (by omega),hn] at this
  exact this
 | succ k ih=>
  intro i s hk hi hn I hf st
  have hlt:i < ys.length:=by omega
  have hx:ys[i]? = some ys[i]:=IU hlt
  obtain⟨b,hb,htv⟩:=Kw ht hx
  refine OY F.entry_any_loop ?_
  rw[OW F.plain_any_loop _]
  show JT _ X.A.in1 (OX (.ref it) >>= _) _ _ s
  obtain⟨its,rv,p,_⟩:=I.list hq
  obtain⟨u,hu,ru⟩:=rv.get hx
  refine IF (PQ st p.isList (x:=u) (by simpa using hu) λh' st' sb=>?_)
  have I1:Inv X pins σ H { s with heap:=h' }:=I.turns (t':=s.toks) (ch:=[it]) (λc o hc' e=>(sb.2 c (by simpa using hc')).trans e) (λc hc'=>by
   have e:c=it:=by simpa using hc'
   subst e
   exact hf)
  obtain⟨oi,ei,ci,di⟩:=id st'
  have I1':Inv X.in1 (pins++[(it,oi)]) σ H { s with heap:=h' }:=I1.in1.pins_of λq hq'=>by
   rcases JO.mp hq' with z | z
   ·exact I1.pin q (JK _ z)
   ·have e:q=(it,oi):=by simpa using z
    subst e
    exact⟨ei,hf.1,hf.2.1,hf.2.2.1,λv z=>by rw[di] at z;cases z⟩
  refine IF (LI (MI (aD (X:=X.in1.nox) _ _ σ H ys[i] u (λk' H'=>k'=b/\H'=H) (I1'.wish _) ru ⟨b,htv,rfl,rfl⟩) (λkb s2 ⟨H2,I2',e1,e2⟩=>?_) (λ_ _ z=>z.elim)))
  subst e1 e2
  have I2:=I2'.unwish
  have st2:s2.heap.IsListIter it a (i+1):=⟨oi,(I2.pin (it,oi) (JK _ (JK _ (by simp)))).1,ci,di⟩
  refine IF (QA ?_)
  have hbk:ks[i]? = some kb:=hb
  cases kb with
  | false=>
   simp only[LZ,if_false]
   refine JA ⟨plainId_quiet F.plain_any_loop _,ih (i+1) s2 (by omega) hlt ?_ I2.unpinned.out1 hf st2⟩
   rw[ND,hbk,List.any_append,hn]
   rfl
  | true=>
   simp only[if_true]
   refine IF (NF (JA ?_))
   have:=hR s2 I2.unpinned.out1
   have e:ks.any id=true:=List.any_eq_true.mpr ⟨true,IY hbk,rfl⟩
   rw[e] at this
   exact this
theorem qN(hc:X.calm=true)(hq:Av X.K H a ys)(ht:Xv X.K H ys ks)(hR:∀s',Inv X pins σ H s'->R (.ok (.ret (.bool (ks.all id)))) s'):∀(k i:Nat)(s:IL),ys.length-i=k->i<=ys.length->(ks.take i).all id=true ->
 Inv X pins σ H s->Dk X pins H it->s.heap.IsListIter it a i->RE (JV X.prog X.w) X.A (.builtin "all.loop" ⟨[.ref it],[]⟩) R s:=by
 have hlen:ys.length=ks.length:=NK ht
 intro k
 induction k with
 | zero=>
  intro i s hk hi hn I hf st
  have hin:i=ys.length:=by omega
  refine OY F.entry_all_loop ?_
  rw[OW F.plain_all_loop _]
  show JT _ X.A.in1 (OX (.ref it) >>= _) _ _ s
  have T:=Mu (P:=X.prog) (w:=X.w) (K:=X.K) (tg:=.Name "x" ⟨0,0,0,0⟩) a it
  refine IF (Bx (T.done X.in1 rfl rfl rfl hc i pins s σ H _ I.in1 (λb hb=>by
   have e:b=it:=by simpa using hb
   subst e
   exact hf) st ⟨ys,hq,by omega⟩) λr s1 ⟨hr,I1⟩=>?_)
  subst hr
  refine IF (NF (JA ?_))
  have:=hR s1 I1.out1
  rw[<- KW (l:=ks) (i:=i) (by omega),hn] at this
  exact this
 | succ k ih=>
  intro i s hk hi hn I hf st
  have hlt:i < ys.length:=by omega
  have hx:ys[i]? = some ys[i]:=IU hlt
  obtain⟨b,hb,htv⟩:=Kw ht hx
  refine OY F.entry_all_loop ?_
  rw[OW F.plain_all_loop _]
  show JT _ X.A.in1 (OX (.ref it) >>= _) _ _ s
  obtain⟨its,rv,p,_⟩:=I.list hq
  obtain⟨u,hu,ru⟩:=rv.get hx
  refine IF (PQ st p.isList (x:=u) (by simpa using hu) λh' st' sb=>?_)
  have I1:Inv X pins σ H { s with heap:=h' }:=I.turns (t':=s.toks) (ch:=[it]) (λc o hc' e=>(sb.2 c (by simpa using hc')).trans e) (λc hc'=>by
   have e:c=it:=by simpa using hc'
   subst e
   exact hf)
  obtain⟨oi,ei,ci,di⟩:=id st'
  have I1':Inv X.in1 (pins++[(it,oi)]) σ H { s with heap:=h' }:=I1.in1.pins_of λq hq'=>by
   rcases JO.mp hq' with z | z
   ·exact I1.pin q (JK _ z)
   ·have e:q=(it,oi):=by simpa using z
    subst e
    exact⟨ei,hf.1,hf.2.1,hf.2.2.1,λv z=>by rw[di] at z;cases z⟩
  refine IF (LI (MI (aD (X:=X.in1.nox) _ _ σ H ys[i] u (λk' H'=>k'=b/\H'=H) (I1'.wish _) ru ⟨b,htv,rfl,rfl⟩) (λkb s2 ⟨H2,I2',e1,e2⟩=>?_) (λ_ _ z=>z.elim)))
  subst e1 e2
  have I2:=I2'.unwish
  have st2:s2.heap.IsListIter it a (i+1):=⟨oi,(I2.pin (it,oi) (JK _ (JK _ (by simp)))).1,ci,di⟩
  refine IF (QA ?_)
  have hbk:ks[i]? = some kb:=hb
  cases kb with
  | true=>
   simp only[if_true]
   refine JA ⟨plainId_quiet F.plain_all_loop _,ih (i+1) s2 (by omega) hlt ?_ I2.unpinned.out1 hf st2⟩
   rw[ND,hbk,List.all_append,hn]
   rfl
  | false=>
   simp only[LZ,if_false]
   refine IF (NF (JA ?_))
   have:=hR s2 I2.unpinned.out1
   have e:ks.all id=false:=by
    rw[List.all_eq_false]
    exact⟨false,IY hbk,by simp⟩
   rw[e] at this
   exact this
end
section
variable {X:Cx}
theorem Mn:OM "any" = some (.builtin "any"):=by decide +kernel
theorem Mq:OM "all" = some (.builtin "all"):=by decide +kernel
theorem Qv(hc:X.calm=true):Gv X (.builtin "any") (λxs H Q=>∃p ys ks,xs=[.ref p]/\Av X.K H p ys/\Xv X.K H ys ks/\Q (.bl (ks.any id)) H):=by
 intro pins s σ H xs us Q I r h
 obtain⟨p,ys,ks,rfl,hq,ht,q⟩:=h
 obtain⟨u,rfl,ru⟩:=vals1 r
 cases ru
 refine call_function_tree F.kind_any F.plain_any F.entry_any (F.args_any1 _) ?_
 unfold Builtin.«any»
 refine IF (m:=oneArg "any" _) (JA ?_)
 obtain⟨its,rv,pl,hz⟩:=I.list hq
 refine IF (wpAny_pyIter_list pl.isList ?_)
 refine JA ⟨plainId_quiet F.plain_any_loop _,oG (it:=s.heap.objs.size) hc hq ht ?_ ys.length 0 _ rfl (KI _) rfl (I.kept (t':=s.toks) λb o e=>IJ _ e) (I.fpOk (IP _) (I.hok.fresh (IP _))) ⟨_,JI _ rfl,rfl,rfl⟩⟩
 exact λs' I'=>⟨.bl _,H,I',rfl,q⟩
theorem Qq(hc:X.calm=true):Gv X (.builtin "all") (λxs H Q=>∃p ys ks,xs=[.ref p]/\Av X.K H p ys/\Xv X.K H ys ks/\Q (.bl (ks.all id)) H):=by
 intro pins s σ H xs us Q I r h
 obtain⟨p,ys,ks,rfl,hq,ht,q⟩:=h
 obtain⟨u,rfl,ru⟩:=vals1 r
 cases ru
 refine call_function_tree F.kind_all F.plain_all F.entry_all (F.args_all1 _) ?_
 unfold Builtin.«all»
 refine IF (m:=oneArg "all" _) (JA ?_)
 obtain⟨its,rv,pl,hz⟩:=I.list hq
 refine IF (wpAny_pyIter_list pl.isList ?_)
 refine JA ⟨plainId_quiet F.plain_all_loop _,qN (it:=s.heap.objs.size) hc hq ht ?_ ys.length 0 _ rfl (KI _) rfl (I.kept (t':=s.toks) λb o e=>IJ _ e) (I.fpOk (IP _) (I.hok.fresh (IP _))) ⟨_,JI _ rfl,rfl,rfl⟩⟩
 exact λs' I'=>⟨.bl _,H,I',rfl,q⟩
theorem Dn:Gv X (.builtin "isinstance") (λxs H Q=>∃x T t b,xs=[x,.ty T]/\Lg X.K H x t/\NT X.K t (.type T)=some b/\Q (.bl b) H):=by
 intro pins s σ H xs us Q I r h
 obtain⟨x,T,t,b,rfl,ty,e,q⟩:=h
 obtain⟨u,w',rfl,ru,rw'⟩:=vals2 r
 cases rw'
 exact gS I ru ty e λtk=>⟨.bl b,H,I.tok _,rfl,q⟩
theorem cO:DE X (λx lo hi H Q=>∃z,x=.str z/\z.length<=IK/\Q (.str (RH z lo hi)) H):=by
 intro pins s σ H x v vl vu lo hi sl Q I rx hs pl pu h
 obtain⟨z,rfl,hz,q⟩:=h
 obtain⟨t,rfl⟩:=rx
 obtain⟨o,ho,hc,hd⟩:=hs
 have fin:∀(l u:Option (Int×Tok)),vl=partValue l->vu=partValue u->lo=l.map (·.1)->hi=u.map (·.1)->JT (JV X.prog X.w) X.A (getItem (.str z t) (.ref sl)) (EP X pins σ Q) X.xe s:=λl u e1 e2 e3 e4=>by
  subst e1 e2 e3 e4
  exact wpAny_getItem_str_slice (l:=l) (u:=u) (st:=none) ⟨o,ho,hc,hd⟩ rfl (post_val_or_str ⟨JR (Txt.slice_le z _ _) hz,λt' k=>⟨.str _,H,I.tok _,⟨_,rfl⟩,q⟩⟩)
 refine⟨"str", _,F.slot_str_getitem.lookup,typeIs_str _ _ _,?_⟩
 cases pl with
 | none=>
  cases pu with
  | none=>exact fin none none rfl rfl rfl rfl
  | int j tj=>exact fin none (some (j,tj)) rfl rfl rfl rfl
 | int i ti=>
  cases pu with
  | none=>exact fin (some (i,ti)) none rfl rfl rfl rfl
  | int j tj=>exact fin (some (i,ti)) (some (j,tj)) rfl rfl rfl rfl
end
theorem uL{K:IG}{a b:IN}{xs ys:List V}{g:TG}{tb:TS}{D:Ends}{σ:St}{H:Hp}(hlen:xs.length=ys.length)(Pv:Nat->St->Hp->Prop)(h0:Pv 0 σ H)(hl:∀i σ H,i<=xs.length->Pv i σ H->Av K H a xs/\Av K H b ys)(hs:∀i x y σ H T,xs[i]? = some x->ys[i]? = some y->Pv i σ H->H T=none->g (.ref T) σ (upd H T (.tup [x,y])) λσ2 H2=>tb { D with nx:=Pv (i+1),ct:=Pv (i+1),bk:=D.nx } σ2 H2)(hd:∀σ H,Pv xs.length σ H->D.nx σ H):
 ∃W:Nat->Nat->St->Hp->Prop,(∃m,W 0 m σ H)/\∀i m σ H,W i m σ H ->
  ((yS K a b).stop i H/\D.nx σ H)∨((yS K a b).go i H/\∃N:St->Hp->Prop,(∀σ' H',N σ' H'->∃m',m' < m/\W (i+1) m' σ' H')/\∀x H',(yS K a b).yld i H x H'->g x σ H' λσ2 H2=>tb { D with nx:=N,ct:=N,bk:=D.nx } σ2 H2):=by
 refine⟨λi m σ H=>m=xs.length-i/\i<=xs.length/\Pv i σ H,⟨xs.length,by simp,KI _,h0⟩,?_⟩
 rintro i m σ H ⟨rfl,hi,p⟩
 obtain⟨q1,q2⟩:=hl i σ H hi p
 by_cases hlt:i < xs.length
 ·have hlt2:i < ys.length:=by omega
  refine .inr ⟨⟨xs,ys,xs[i],ys[i],q1,q2,by simp[hlt],by simp[hlt2]⟩,Pv (i+1),λσ' H' p'=>⟨xs.length-(i+1),by omega,rfl,hlt,p'⟩,λx H' y=>?_⟩
  obtain⟨T,x',y',hT,rfl,rfl,e1,e2⟩:=y
  exact hs i x' y' σ _ T (e1 xs q1) (e2 ys q2) p hT
 ·have e:i=xs.length:=by omega
  subst e
  exact .inl ⟨⟨xs,ys,q1,q2,.inl (IP _)⟩,hd σ H p⟩
theorem pW{K:IG}{a:IN}{xs:List V}{g:TG}{tb:TS}{D:Ends}{σ:St}{H:Hp}(Pv:Nat->St->Hp->Prop)(h0:Pv 0 σ H)(hl:∀i σ H,i<=xs.length->Pv i σ H->Av K H a xs)(hs:∀i x σ H T,xs[i]? = some x->Pv i σ H->H T=none->g (.ref T) σ (upd H T (.tup [.int i,x])) λσ2 H2=>tb { D with nx:=Pv (i+1),ct:=Pv (i+1),bk:=D.nx } σ2 H2)(hd:∀σ H,Pv xs.length σ H->D.nx σ H):
 ∃W:Nat->Nat->St->Hp->Prop,(∃m,W 0 m σ H)/\∀i m σ H,W i m σ H ->
  ((AF K a).stop i H/\D.nx σ H)∨((AF K a).go i H/\∃N:St->Hp->Prop,(∀σ' H',N σ' H'->∃m',m' < m/\W (i+1) m' σ' H')/\∀x H',(AF K a).yld i H x H'->g x σ H' λσ2 H2=>tb { D with nx:=N,ct:=N,bk:=D.nx } σ2 H2):=by
 refine⟨λi m σ H=>m=xs.length-i/\i<=xs.length/\Pv i σ H,⟨xs.length,by simp,KI _,h0⟩,?_⟩
 rintro i m σ H ⟨rfl,hi,p⟩
 have q:=hl i σ H hi p
 by_cases hlt:i < xs.length
 ·refine .inr ⟨⟨xs,xs[i],q,by simp[hlt]⟩,Pv (i+1),λσ' H' p'=>⟨xs.length-(i+1),by omega,rfl,hlt,p'⟩,λx H' y=>?_⟩
  obtain⟨T,x',hT,rfl,rfl,e1⟩:=y
  exact hs i x' σ _ T (e1 xs q) p hT
 ·have e:i=xs.length:=by omega
  subst e
  exact .inl ⟨⟨xs,q,IP _⟩,hd σ H p⟩
theorem Sz{K:IG}{a b:IN}{xs zs:List V}{n:Nat}{fr:List (Str×Nat)}{g:TG}{tc:TT}{te:TE}{σ:St}{H:Hp}{F:List V->Hp->Prop}(hlen:xs.length=zs.length)(Pv:Nat->List V->Hp->Prop)(h0:Pv 0 [] H)(hl:∀i ys H,i<=xs.length->Pv i ys H->Av K H a xs/\Av K H b zs)(hs:∀i x z ys H T,xs[i]? = some x->zs[i]? = some z->Pv i ys H->H T=none->g (.ref T) (stC n fr σ) (upd H T (.tup [x,z])) λσ2 H2=>tc σ2 H2 λb H3=>if b=true then te σ2 H3 λy H4=>ys.length < IK/\Pv (i+1) (ys++[y]) H4 else Pv (i+1) ys H3)(hd:∀ys H,Pv xs.length ys H->F ys H):Fq n fr g tc te σ (yS K a b) H F:=by
 refine⟨λi m ys H=>m=xs.length-i/\i<=xs.length/\Pv i ys H,⟨xs.length,by simp,KI _,h0⟩,?_⟩
 rintro i m ys H ⟨rfl,hi,p⟩
 obtain⟨q1,q2⟩:=hl i ys H hi p
 by_cases hlt:i < xs.length
 ·have hlt2:i < zs.length:=by omega
  refine .inr ⟨⟨xs,zs,xs[i],zs[i],q1,q2,by simp[hlt],by simp[hlt2]⟩,Pv (i+1),λys' H' p'=>⟨xs.length-(i+1),by omega,rfl,hlt,p'⟩,λx H' y=>?_⟩
  obtain⟨T,x',y',hT,rfl,rfl,e1,e2⟩:=y
  exact hs i x' y' ys _ T (e1 xs q1) (e2 zs q2) p hT
 ·have e:i=xs.length:=by omega
  subst e
  exact .inl ⟨⟨xs,zs,q1,q2,.inl (IP _)⟩,hd ys H p⟩
theorem Dr{K:IG}{a:IN}{xs:List V}{n:Nat}{fr:List (Str×Nat)}{g:TG}{te:TE}{σ:St}{H:Hp}{F:List V->Hp->Prop}(Pv:Nat->List V->Hp->Prop)(h0:Pv 0 [] H)(hl:∀i ys H,i<=xs.length->Pv i ys H->Av K H a xs)(hs:∀i x ys H,xs[i]? = some x->Pv i ys H->g x (stC n fr σ) H λσ2 H2=>te σ2 H2 λy H4=>ys.length < IK/\Pv (i+1) (ys++[y]) H4)(hd:∀ys H,Pv xs.length ys H->F ys H):Fq n fr g Sd te σ (yK K a) H F:=Ol Pv h0 hl (λi x ys H hx p=>hs i x ys H hx p) hd
theorem Il{lo:Int}{k n:Nat}{fr:List (Str×Nat)}{g:TG}{te:TE}{σ:St}{H:Hp}{F:List V->Hp->Prop}(Pv:Nat->List V->Hp->Prop)(h0:Pv 0 [] H)(hs:∀i ys H,i < k->Pv i ys H->g (.int (lo+i)) (stC n fr σ) H λσ2 H2=>te σ2 H2 λy H4=>ys.length < IK/\Pv (i+1) (ys++[y]) H4)(hd:∀ys H,Pv k ys H->F ys H):Fq n fr g Sd te σ (rH lo k) H F:=Xi Pv h0 (λi ys H hi p=>hs i ys H hi p) hd
theorem Qj{K:IG}{a b:IN}{xs zs:List V}{n:Nat}{fr:List (Str×Nat)}{g:TG}{te:TE}{σ:St}{H:Hp}{F:List V->Hp->Prop}(hlen:xs.length=zs.length)(Pv:Nat->List V->Hp->Prop)(h0:Pv 0 [] H)(hl:∀i ys H,i<=xs.length->Pv i ys H->Av K H a xs/\Av K H b zs)(hs:∀i x z ys H T,xs[i]? = some x->zs[i]? = some z->Pv i ys H->H T=none->g (.ref T) (stC n fr σ) (upd H T (.tup [x,z])) λσ2 H2=>te σ2 H2 λy H4=>ys.length < IK/\Pv (i+1) (ys++[y]) H4)(hd:∀ys H,Pv xs.length ys H->F ys H):Fq n fr g Sd te σ (yS K a b) H F:=Sz hlen Pv h0 hl (λi x z ys H T hx hz p hT=>hs i x z ys H T hx hz p hT) hd
abbrev DI(l:List Env):List IN:=l.filterMap (·.frame)
structure Flew(S ch:List IN)(h h':LO):Prop where
 keep:∀b o,b∉S->b∉ch->h.get? b=some o->h'.get? b=some o
 slot:∀b o,b∉ch->h.get? b=some o->∃sl,h'.get? b=some { o with slots:=sl }
 size:h.objs.size<=h'.objs.size
theorem Flew.trans{S c1 c2:List IN}{h h1 h2:LO}(a:Flew S c1 h h1)(b:Flew S c2 h1 h2):Flew S (c1++c2) h h2 where
 keep:=λx o hs hc e=>by
  rw[JO,not_or] at hc
  exact b.keep x o hs hc.2 (a.keep x o hs hc.1 e)
 slot:=λx o hc e=>by
  rw[JO,not_or] at hc
  obtain⟨s1,e1⟩:=a.slot x o hc.1 e
  obtain⟨s2,e2⟩:=b.slot x _ hc.2 e1
  exact⟨s2,e2⟩
 size:=JR a.size b.size
theorem Flew.mono{S c1 c2:List IN}{h h1:LO}(a:Flew S c1 h h1)(k:∀b∈c1,b∈c2):Flew S c2 h h1:=
 ⟨λx o hs hc e=>a.keep x o hs (λz=>hc (k x z)) e,λx o hc e=>a.slot x o (λz=>hc (k x z)) e,a.size⟩
structure pN(h:LO)(e:IN)(cls:II)(dx:Option IN)(oe:Obj)(vs:Array II):Prop where
 get:h.get? e=some oe
 cls:oe.cls=cls
 dict:oe.dict=dx
 data:oe.data=.fields vs
 tb:vs[1]? = some .none
 cx:vs[2]? = some .none
structure ExcAt(h:LO)(e:IN)(cls:II)(dx:Option IN)(T:IN)(fl:II)(oe oT:Obj)(vs ts:Array II):Prop where
 get:h.get? e=some oe
 cls:oe.cls=cls
 dict:oe.dict=dx
 data:oe.data=.fields vs
 tb:vs[1]? = some (.ref T)
 ne:T≠e
 getT:h.get? T=some oT
 dataT:oT.data=.fields ts
 fl:ts[3]? = some fl
 cx:vs[2]? = some .none
theorem jG(o:Obj)(f:Array II->Array II):(o.mapFields f).dict=o.dict:=by
 obtain⟨c,d,dt,sl⟩:=o
 cases dt<;>rfl
section
variable {M:Model} {A:KG} {E:II->IL->Prop} {s:IL} {base:LO} {env:Env} {outer:List Env} {L e:IN} {cls:II} {dx:Option IN} {Q:Unit->IL->Prop}
theorem Sk(hl:s.heap.FunFrames base (env::outer)){b:IN}{o:Obj}{vs:Array II}(e1:s.heap.get? b=some o)(d:o.data=.fields vs):b∉DI (env::outer):=λhm=>by
 obtain⟨_,o',ho,hnf⟩:=hl.mem hm
 rw[e1] at ho
 cases ho
 exact hnf vs d
theorem oZ{oe:Obj}{vs:Array II}{head:II}{hn:Bool}(hfr:A.frames=some (env::outer))(hl:s.heap.FunFrames base (env::outer))(hf:env.frame=some L)(he:s.heap.get? e=some oe)(hc:oe.cls=cls)(hx:oe.dict=dx)(hd:oe.data=.fields vs)(hsz:1 < vs.size)(hcx:vs[2]? = some .none)(h:∀h' T oe' oT vs' ts,s.heap.objs.size<=T->Flew (DI (env::outer)) [e] s.heap h'->ExcAt h' e cls dx T (PB L) oe' oT vs' ts->Q () { s with heap:=h' }):
 JT M A (do let a <- frameOf env;let pl <- entryPlaceOf L hn;let b <- EntryCells.newEntry head a .none (PB L) .none pl;setField (.ref e) 1 b) Q E s:=by
 have ne:=Sk hl he hd
 refine IF (wpAny_frameOf_fun hfr hl hf λh1 so=>IF (wpAny_entryPlaceOf λpl hpl=>?_))
 unfold EntryCells.newEntry newFields
 refine IF (NZ ?_ (hpl.sizeOk5 _ _ _ _ _))
 have e1:h1.get? e=some oe:=(so.2.1 e ne).trans he
 generalize hto:({ cls:=.type "traceback", dict:=none,data:=.fields ([head,.ref L,.none,PB L,.none]++(if pl.isEmpty then JQ 6 LX else pl)).toArray }:Obj)=tobj
 have hT3:∃ts,tobj.data=.fields ts/\ts[3]? = some (PB L)/\tobj.isFreed=false:=by
  subst hto
  exact⟨_,rfl,by first | (simp;done) | (rcases hpl with rfl | ⟨_,_,_,_,_,_,_,rfl⟩<;>simp),rfl⟩
 obtain⟨ts,td,t3,tf⟩:=hT3
 have e2:(h1.push tobj).get? e=some oe:=IJ tobj e1
 have sz1:h1.objs.size=s.heap.objs.size:=so.1
 have nT:h1.objs.size≠e:=OF (JF e1)
 have d3:=PY hd (·.setIfInBounds 1 (JD h1.objs.size))
 refine MO e2 hd hsz (h _ h1.objs.size _ tobj _ ts (PP sz1.symm) ⟨λb o hs hc' q=>?_,λb o hc' q=>?_,?_⟩ ⟨LM _ e2 (QF d3),(Obj.cls_mapFields _ _).trans hc,(jG _ _).trans hx,d3,by simp[hsz],nT,?_,td,t3,by rw[Array.getElem?_setIfInBounds_ne (by decide)];exact hcx⟩)
 ·rw[KP _ _ (KO (show b≠e by simpa using hc'))]
  exact IJ _ ((so.2.1 b hs).trans q)
 ·obtain⟨sl,q1⟩:=so.2.2 b o q
  refine⟨sl,?_⟩
  rw[KP _ _ (KO (show b≠e by simpa using hc'))]
  exact IJ _ q1
 ·have z:=NM h1 tobj
  have z2:((h1.push tobj).update e (OO (·.setIfInBounds 1 (JD h1.objs.size)))).objs.size=(h1.push tobj).objs.size:=(NH (a:=e) (h1.push tobj) (OO (·.setIfInBounds 1 (JD h1.objs.size)))).1
  exact JR (PP sz1.symm) (JR (by rw[z];exact OU _) (PP z2.symm))
 ·rw[KP _ _ (KO nT)]
  exact JI h1 tf
theorem Ws{oe:Obj}{vs:Array II}(hfr:A.frames=some (env::outer))(hl:s.heap.FunFrames base (env::outer))(hf:env.frame=some L)(x:pN s.heap e cls dx oe vs)(h:∀h' T oe' oT vs' ts,s.heap.objs.size<=T->Flew (DI (env::outer)) [e] s.heap h'->ExcAt h' e cls dx T (PB L) oe' oT vs' ts->Q () { s with heap:=h' }):JT M A (noteFrame (.ref e) env) Q E s:=by
 unfold noteFrame
 simp only[hf]
 refine IF (JX x.get x.data x.tb ?_)
 rw[if_neg (by decide)]
 exact oZ hfr hl hf x.get x.cls x.dict x.data (MK.mp x.tb).1 x.cx h
theorem jT{T:IN}{fl:II}{oe oT:Obj}{vs ts:Array II}(x:ExcAt s.heap e cls dx T fl oe oT vs ts)(S:List IN):
 Flew S [T] s.heap (s.heap.update T (OO (·.setIfInBounds 3 .none)))/\∃oT' ts',ExcAt (s.heap.update T (OO (·.setIfInBounds 3 .none))) e cls dx T .none oe oT' vs ts':=by
 have hsz:3 < ts.size:=(MK.mp x.fl).1
 have d3:=PY x.dataT (·.setIfInBounds 3 LX)
 have oth:∀b,b≠T->(s.heap.update T (OO (·.setIfInBounds 3 .none))).get? b=s.heap.get? b:=λb hb=>KP _ _ (KO hb)
 refine⟨⟨λb o _ hc q=>(oth b (by simpa using hc)).trans q,λb o hc q=>⟨o.slots,(oth b (by simpa using hc)).trans q⟩,PP (NH (a:=T) s.heap _).1.symm⟩,_,_,(oth e (KO x.ne)).trans x.get,x.cls,x.dict,x.data,x.tb,x.ne,LM _ x.getT (QF d3),d3,by simp[hsz],x.cx⟩
theorem eX{T:IN}{fl:II}{oe oT:Obj}{vs ts:Array II}(x:ExcAt s.heap e cls dx T fl oe oT vs ts)(S:List IN)(h:∀h' oT' ts',Flew S [T] s.heap h'->ExcAt h' e cls dx T .none oe oT' vs ts'->Q () { s with heap:=h' }):JT M A (setFlight (.ref e) none) Q E s:=by
 obtain⟨k1,oT',ts',k2⟩:=jT (s:=s) x S
 unfold setFlight
 refine IF (JX x.get x.data x.tb ?_)
 rw[if_pos (show (JD T != LX)=true from by simp)]
 exact MO x.getT x.dataT (MK.mp x.fl).1 (h _ _ _ k1 k2)
theorem aW{T:IN}{fl:II}{oe oT:Obj}{vs ts:Array II}(hfr:A.frames=some (env::outer))(hl:s.heap.FunFrames base (env::outer))(hf:env.frame=some L)(x:ExcAt s.heap e cls dx T fl oe oT vs ts)(hne:(fl == PB L)=false)(h:∀h' T' oe' oT' vs' ts',s.heap.objs.size<=T'->Flew (DI (env::outer)) [e,T] s.heap h'->ExcAt h' e cls dx T' (PB L) oe' oT' vs' ts'->Q () { s with heap:=h' }):JT M A (noteFrame (.ref e) env) Q E s:=by
 unfold noteFrame
 simp only[hf]
 refine IF (JX x.get x.data x.tb ?_)
 rw[if_pos (show (JD T != LX)=true from by simp)]
 refine IF (JX x.getT x.dataT x.fl ?_)
 rw[if_neg (show ¬ ((fl == PB L)=true) by rw[hne];exact IZ)]
 refine IF (MO x.getT x.dataT (MK.mp x.fl).1 ?_)
 obtain⟨k1,oT',ts',k2⟩:=jT (s:=s) x (DI (env::outer))
 have nfT:=Sk hl x.getT x.dataT
 have hl2:(s.heap.update T (OO (·.setIfInBounds 3 .none))).FunFrames base (env::outer):=hl.of_keeps λb o q hnf=>by
  obtain⟨sl,q'⟩:=k1.slot b o (λz=>by
   have z':b=T:=by simpa using z
   subst z'
   rw[x.getT] at q
   cases q
   exact hnf ts x.dataT) q
  exact⟨_,q',rfl⟩
 refine oZ (s:={ s with heap:=s.heap.update T (OO (·.setIfInBounds 3 .none)) }) hfr hl2 hf k2.get k2.cls k2.dict k2.data (MK.mp x.tb).1 x.cx λh' T' oe' oT2 vs' ts2 hT' fl at'=>?_
 exact h h' T' oe' oT2 vs' ts2 (JR k1.size hT') ((k1.trans fl).mono (by intro b hb;simp at hb ⊢;rcases hb with z | z<;>simp[z])) at'
end
end L2
namespace L2
open PySem PySem.Spec PyProof.Rows
theorem Fv{N P:List Str}{sc:Scope}(h:N.Nodup/\(∀x∈P,sc.names.lookup x=some .local∨sc.names.lookup x=some .cell)/\∀y∈sc.names,y.2 ≠ .free)(h1:sc.kind=.function:=by rfl)(h2:sc.isCoroutine=false:=by rfl)(h3:sc.isGenerator=false:=by rfl)(h4:N.take P.length=P:=by rfl):Ap N P sc:=⟨h1,h2,h3,h.1,h4,h.2.1,h.2.2⟩
section
variable {X:Cx} {k:Nat} {f:IN} {fd:JW} {ps:List Str} {sp:Sp} {x:Str} {e a b c d:Expr} {es:List Expr} {t:TA} {ta tb tc td:TE} {p pos pos':Pos}
theorem Dc(ha:PE X a ta)(h1:JS [a] X.env=[(false,OA a X.env)]:=by rfl):PA X [a] (Jc ta Wk):=Er ha Hn h1
theorem Ea(ha:PE X a ta)(hb:PE X b tb)(h1:JS [b] X.env=[(false,OA b X.env)]:=by rfl)(h2:JS [a,b] X.env=(false,OA a X.env)::JS [b] X.env:=by rfl):PA X [a,b] (Jc ta (Jc tb Wk)):=Er ha (Dc hb h1) h2
theorem Ge(ha:PE X a ta)(hb:PE X b tb)(hc:PE X c tc)(h0:JS [c] X.env=[(false,OA c X.env)]:=by rfl)(h1:JS [b,c] X.env=(false,OA b X.env)::JS [c] X.env:=by rfl)(h2:JS [a,b,c] X.env=(false,OA a X.env)::JS [b,c] X.env:=by rfl):PA X [a,b,c] (Jc ta (Jc tb (Jc tc Wk))):=Er ha (Ea hb hc h0 h1) h2
theorem Qz(ha:PE X a ta)(hb:PE X b tb)(hc:PE X c tc)(hd:PE X d td)(h3:JS [d] X.env=[(false,OA d X.env)]:=by rfl)(h0:JS [c,d] X.env=(false,OA c X.env)::JS [d] X.env:=by rfl)(h1:JS [b,c,d] X.env=(false,OA b X.env)::JS [c,d] X.env:=by rfl)(h2:JS [a,b,c,d] X.env=(false,OA a X.env)::JS [b,c,d] X.env:=by rfl):PA X [a,b,c,d] (Jc ta (Jc tb (Jc tc (Jc td Wk)))):=Er ha (Ge hb hc hd h3 h0 h1) h2
theorem Ck(F:Aj X.prog X.w X.K X.mg X.base Bh k f fd ps sp)(hr:Cj k X.A)(hm:X.mg x=some (.ref f))(hk:IR X.K (.ref f)=true)(hb:Binds X.K fd ps [])(ha:PA X (e::es) t)(hg:Gl X x:=by rfl)(hc:X.calm=true:=by rfl)(hdb:(x == ("__debug__" : Str))=false:=by decide)(he:JS (e::es) X.env=(false,OA e X.env)::JS es X.env:=by rfl)(hpl:(PD pos (JS es X.env)).any (·.1)=false:=by rfl):
 PE X (.Call (.Name x p) (e::es) [] pos) (wM sp [] E0 t):=Dl F hr hg hm hk hb .nil (Cw hc) ha hdb he hpl
theorem Bj(i:Nat){x:Str}{e:Expr}{te:TE}(hN:X.N.Nodup)(he:PE X e te)(hi:X.N[i]? = some x:=by rfl)(hx:Loc X.env.scope x:=by exact .inl rfl)(hs:swapsWith e (some (.Name x pos')) pos.line X.env=pure false:=by rfl)(hf:X.fn x=true∨X.env.scope.names.lookup x=some .local:=by first | exact .inl rfl | exact .inr rfl | assumption):
 PS X (.Assign [.Name x pos'] e pos) (Xn te (Ko i)):=Ot hN hi hx he hs hf
theorem Cq(i:Nat){x:Str}(hN:X.N.Nodup)(hi:X.N[i]? = some x:=by rfl)(hx:Loc X.env.scope x:=by exact .inl rfl)(hf:X.fn x=true∨X.env.scope.names.lookup x=some .local:=by first | exact .inl rfl | exact .inr rfl | assumption):PG X (.Name x pos) (Ko i):=rM hN hi hx hf
theorem Cg(hm:X.mg "len" = none)(ha:PE X a ta)(hg:Gl X "len" := by rfl)(h1:JS [a] X.env=[(false,OA a X.env)]:=by rfl):PE X (.Call (.Name "len" p) [a] [] pos) (ED (λxs H Q=>∃p ys,xs=[.ref p]/\(Av X.K H p ys∨Cc X.K H p ys)/\Q (.int ys.length) H) (Jc ta Wk)):=Bq Ue hg hm RD (Dc ha h1) (by decide) (by decide) h1 rfl
end
end L2
namespace L2
open PySem PySem.Spec PyProof.Rows PySem.W
section
variable {prog:JJ} {w:KL} {A:KG} {R:Result->IL->Prop} {E:II->IL->Prop} {h:LO} {g:Array GenState} {d:Drawn} {t:Nat} {os:OsState}
variable {nm q:Str} {C N f:IN} {bs bm bmB:List II} {hdct:Bool} {sn:List Str} {sub:List II} {ab:Bool} {col:Option Bool} {dd:Option IN} {k0 k1 k2 k3 k5:Option II} {B Bn newId nid initId inN:String} {bmN:List II}
abbrev Du(C t:IN):Obj:={ cls:=.ref C,data:=.fields #[.ref t,.none,.none,.none,.bool false,.none] }
abbrev Ee(rest:List II):Obj:={ cls:=.type "tuple", data:=.seq rest.toArray }
theorem rP(Fn:ExcBaseFacts Bn newId inN bmN)(hBn:bmB.contains (.type Bn)=true)(F:ExcBaseFacts B nid initId bmB)(T:OwnTail h bmB bm){rest:List II}(hC:h.get? C=some (excClassObj nm q C N bs bm hdct sn sub ab col dd k0 k1 k2 k3 k5 newId))(hi:OE (JV prog w) h (typeLookup (.ref C) "__init__") (some (.ref f)))(hb:∀self,OE (JV prog w) h (bindSpecial (.ref f) self) (.ref f,[self]))(hrest:rest.length<=IK)(hq:RE (JV prog w) (A.under (.builtin "type.__call__" ⟨.ref C::rest,[]⟩)) (.call (.ref f) ⟨.ref (h.objs.size+1)::rest,[]⟩) (PySem.W.InitBack (h.objs.size+1) R) ⟨(h.push (Ee rest)).push (Du C h.objs.size),g,d,t,os⟩):
 RE (JV prog w) A (.call (.ref C) ⟨rest,[]⟩) R ⟨h,g,d,t,os⟩:=by
 have f1:=tc_lookup
 have f2:=tc_bind (.ref C)
 have hT:(⟨h,g,d,t,os⟩:IL).TypeIs (.ref C) "type" := ⟨_,hC,rfl⟩
 refine codeAny_of_tree ?_
 show JT _ _ (callAny (.ref C) _) _ _ _
 repeat (any_goals (first | assumption | with_reducible refine QK hC ?_ | wp_step))
 refine⟨rfl,codeAny_call_builtin_at (RN _ (by decide +kernel)) entry_typeCall (wpAny_check_type_call_sub hC ?_)⟩
 repeat (first | with_reducible refine QK hC ?_ | with_reducible refine wpAny_madeBy_exc hC ?_ | wp_step)
 refine codeAny_call_builtin_code (RN _ Fn.quiet) (wpAny_check_new_subU Fn hBn T hC (codeAny_exc_new_subU Fn hBn F T hC ?_ hrest))
 show JT _ _ _ _ _ _
 have k:∀b o,h.get? b=some o->((h.push (Ee rest)).push (Du C h.objs.size)).get? b=some o:=λb o e=>IJ _ (IJ _ e)
 have hx:((h.push (Ee rest)).push (Du C h.objs.size)).get? (h.objs.size+1)=some (Du C h.objs.size):=by heap_get
 have c1:=k _ _ hC
 have hcC:(JD C::bm).contains (.ref C)=true:=by simp
 have i1:=hi.keeps k
 have b1:=(hb (.ref (h.objs.size+1))).keeps k
 have t1:OE (JV prog w) ((h.push (Ee rest)).push (Du C h.objs.size)) (typeOf (.ref (h.objs.size+1))) (.ref C):=(PySem.W.Looks.ld hx).andThen .now
 have t2:OE (JV prog w) ((h.push (Ee rest)).push (Du C h.objs.size)) (isSubtype (.ref C) (.ref C)) true:=λA' Q' E' s' k' q'=>by
  obtain⟨h',g',d',tk',os'⟩:=s'
  refine wpAny_isSubtype_exc (k' _ _ c1) ?_
  rw[hcC]
  exact q'
 show JT (JV prog w) _ (isInstance (.ref (h.objs.size+1)) (.ref C) >>= _) _ _ ⟨(h.push (Ee rest)).push (Du C h.objs.size),g,d,t,os⟩
 unfold isInstance callSpecial? specialOf
 repeat (first | with_reducible refine QZ ?_ | lk)
 refine OL hq λr s' z=>?_
 rcases r with e | (v | _ | _ | _)<;>first | exact z | exact z.elim | skip
 obtain⟨rfl,z⟩:=z
 exact JA (JA z)
end
end L2
namespace L2
open PySem PySem.Spec PyProof.Rows
structure yC(P:JJ)(w:KL)(outer:List Env)(H:Hp)(s:IL)(cls:II)(dx:Option IN)(H':Hp)(x:IN)(s':IL):Prop where
 os:s'.os=s.os
 bare:AllBare s'.gens
 un:Un (Qy outer) [] H H' s.heap s'.heap
 hok:Km P w H' s'.heap
 hx:H' x=none
 nx:s.heap.objs.size<=x
 fly:∃T oe oT vs ts,H' T=none/\s.heap.objs.size<=T/\ExcAt s'.heap x cls dx T .none oe oT vs ts
def Hc(P:JJ)(w:KL):Vj:=⟨λouter H s E e s'=>∃x cls dx H',e=.ref x/\yC P w outer H s cls dx H' x s'/\E cls dx H',true⟩
section
variable {X:Cx} {pins:List (IN×Obj)} {σ:St} {H:Hp} {s:IL} {h':LO} {ch:List IN}
theorem Inv.flew{g:Array GenState}(I:Inv X pins σ H s)(fl:Flew (Qy X.stack) ch s.heap h')(hc:∀b∈ch,H b=none):Km X.prog X.w H h':=λa o e=>
 (I.hok a o e).stay (λb u hb q=>fl.keep b u (λz=>by
  rcases hb with rfl | hb
  ·rw[I.stkFree b z] at e;cases e
  ·rw[I.stkFree b z] at hb;cases hb) (λz=>by
  rcases hb with rfl | hb
  ·rw[hc b z] at e;cases e
  ·rw[hc b z] at hb;cases hb) q) (λ_ q=>q) λ_ _ q=>q
theorem Inv.unFlew(I:Inv X pins σ H s)(hx:X.ex=[])(hst:X.stack=X.env::X.outer)(hfr:X.env.frame=some X.env.locals)(fl:Flew (Qy X.stack) ch s.heap h')(hc:∀b∈ch,X.s₀.heap.objs.size<=b):Un (Qy X.outer) [] X.H₀ H X.s₀.heap h':=by
 have old:∀ {b:IN} {o:Obj},X.s₀.heap.get? b=some o->b∉ch/\b≠X.env.locals:=λ{b o} e=>⟨λz=>absurd (KD (JF e) (hc b z)) (OT _),JP (KD (JF e) I.ok.above)⟩
 have nex:∀b:IN,b∉X.ex:=λb z=>by rw[hx] at z;cases z
 have nst:∀ {b:IN},b∉Qy X.outer->b≠X.env.locals->b∉Qy X.stack:=λ{b} h1 h2 z=>by
  rcases IQ.mp (I.stkSub b z) with q | q
  ·exact h2 q
  ·exact h1 q
 refine⟨λb o e n hb _=>fl.keep b o (nst hb (old e).2) (old e).1 (I.base.keep b o e n hb (nex b)),λb o e n hb _=>?_,λb o e n _=>I.base.free b o e n (nex b),λb o e _=>?_,I.base.tups,I.base.frzs,I.base.tbls⟩
 ·obtain⟨sl,q⟩:=I.base.slot b o e n hb (nex b)
  obtain⟨sl2,q2⟩:=fl.slot b _ (old e).1 q
  exact⟨sl2,q2⟩
 ·obtain⟨o',q⟩:=I.base.there b o e (nex b)
  obtain⟨sl,q2⟩:=fl.slot b o' (old e).1 q
  exact⟨_,q2⟩
end
section
variable {P:JJ} {w:KL} {K:IG} {mg:Str->Option II} {base:LO} {N:List Str} {qual:Str} {scope:Scope} {f:IN} {cd:II} {A:KG} {outer:List Env} {s₀:IL} {H₀:Hp} {E:XK}
end
theorem Dp.okE{P:JJ}{w:KL}{K:IG}{mg:Str->Option II}{base:LO}{x qual:Str}{st:NW}{f:IN}{fd:JW}{N ps:List Str}{k:Nat}{sp:Sp}(F:Dp K x qual st f fd)(S:Ap N ps (Ae st))(len:∀vs H Q E,sp vs H Q E->vs.length=ps.length)(hbody:∀(cdv:II)(A:KG)(outer:List Env)(s:IL)(H:Hp)(vs:List V)(Q:VK)(E:XK),Cj k (A.deeper (envOfC qual (Ae st) s.heap.objs.size f cdv))->sp vs H Q E ->
  ∃t,Hs (Em (Hc P w) P w K mg base N qual (Ae st) f cdv A outer s H E) (Bg st) t/\t { nx:=λ_ H'=>Q .non H',rt:=Q } (start N vs) H):
 Aj P w K mg base (Hc P w) (k+1) f fd ps sp:=by
 obtain⟨oc,od,kV,doc,pm,an,cdv,ct,osl,rfl,lk,hcd⟩:=F.ex
 exact Wn lk hcd S len λA outer s H vs Q E hr hsp=>hbody cdv A outer s H vs Q E hr hsp
def wF(X:Cx)(h:LO)(H:Hp)(x:IN)(cls:II)(dx:Option IN):Prop:=
 (∃oe vs,pN h x cls dx oe vs) ∨ ∃T fl oe oT vs ts,Dk X [] H T/\ExcAt h x cls dx T fl oe oT vs ts
abbrev XS:=St->II->Option IN->Hp->Prop
def Wx(X:Cx)(E:XS)(e:II)(s:IL):Prop:=∃x cls dx H σ,e=.ref x/\Inv X [] σ H s/\Dk X [] H x/\wF X s.heap H x cls dx/\E σ cls dx H
structure Own(X:Cx):Prop where
 ex:X.ex=[]
 st:X.stack=X.env::X.outer
 fr:X.env.frame=some X.env.locals
theorem Dk.old{X:Cx}{pins:List (IN×Obj)}{H:Hp}{b:IN}(f:Dk X pins H b)(o:X.ex=[]):X.s₀.heap.objs.size<=b:=by
 rcases f.2.2.2.1 with z | z
 ·rw[o] at z;cases z
 ·exact z
section
variable {X:Cx} {pins:List (IN×Obj)} {σ:St} {H:Hp} {s:IL} {h':LO} {ch:List IN}
theorem Inv.fly(I:Inv X [] σ H s)(fl:Flew (Qy X.stack) ch s.heap h')(hf:∀b∈ch,Dk X [] H b):Inv X [] σ H { s with heap:=h' }:=by
 have nst:∀ {b:IN},b≠X.env.locals->b∉X.fs->b∉Qy X.stack:=λ{b} h1 h2 z=>by
  rcases IQ.mp (I.stkSub b z) with q | q
  ·exact h1 q
  ·exact h2 q
 refine I.step (g':=s.gens) (d':=s.drawn) (t':=s.toks) (ch:=ch) (λb hb=>?_) (λb o h1 h2 hc e _=>fl.keep b o (nst h1 h2) hc e) (λb o _ _ hc e _=>fl.slot b o hc e) (λ_ _ _ _ n=>n)
  (λb o hc e=>?_) (λ_ _ e=>e) (λ_ _ _ e=>e) (λb ps e=>⟨#[],by rw[e];simp⟩) (λm hm=>?_) (I.flew (g:=s.gens) fl λb hb=>(hf b hb).1) I.bare
 ·obtain⟨f0,f1,f2,f3,f4,f5⟩:=hf b hb
  exact⟨f3,f1,f4,f5⟩
 ·obtain⟨sl,q⟩:=fl.slot b o hc e
  exact⟨_,q⟩
 ·obtain⟨o,es,ep,ho,r⟩:=hm
  obtain⟨sl,q⟩:=fl.slot _ o (λz=>(hf _ z).2.1 rfl) ho
  exact⟨_,es,ep,q,r⟩
end
section
variable {X:Cx} {σ:St} {H:Hp} {s:IL} {x:IN} {cls:II} {dx:Option IN} {Q:Unit->IL->Prop} {E:II->IL->Prop} {A:KG}
theorem qR(ow:Own X)(hA:A.frames=some X.stack)(I:Inv X [] σ H s)(fx:Dk X [] H x)(f:wF X s.heap H x cls dx)(h:∀h' T oe oT vs ts,Inv X [] σ H { s with heap:=h' }->Dk X [] H T->ExcAt h' x cls dx T (PB X.env.locals) oe oT vs ts->Q () { s with heap:=h' }):JT (JV X.prog X.w) A (noteFrame (.ref x) X.env) Q E s:=by
 have hst:=I.stack
 rw[ow.st] at hst hA
 have hone:∀b∈[x],Dk X [] H b:=λb hb=>by rw[IT.mp hb];exact fx
 rcases f with ⟨oe,vs,n⟩ | ⟨T,fl,oe,oT,vs,ts,fT,a⟩
 ·refine Ws hA hst ow.fr n λh' T oe' oT vs' ts hT flw at'=>?_
  exact h h' T oe' oT vs' ts (I.fly (by rw[ow.st];exact flw) hone) (I.fpOk hT (I.hok.fresh hT)) at'
 ·by_cases hfl:fl=PB X.env.locals
  rotate_left
  ·refine aW hA hst ow.fr a (beq_eq_false_iff_ne.mpr hfl) λh' T' oe' oT' vs' ts' hT flw at'=>?_
   refine h h' T' oe' oT' vs' ts' (I.fly (by rw[ow.st];exact flw) λb hb=>?_) (I.fpOk hT (I.hok.fresh hT)) at'
   simp only[IQ,JG,or_false] at hb
   rcases hb with rfl | rfl
   ·exact fx
   ·exact fT
  ·subst hfl
   unfold noteFrame
   simp only[ow.fr]
   refine IF (JX a.get a.data a.tb ?_)
   rw[if_pos (show (JD T != LX)=true from by simp)]
   refine IF (JX a.getT a.dataT a.fl ?_)
   rw[if_pos (show (PB X.env.locals == PB X.env.locals)=true from by first | (simp;done) | exact beq_self_eq_true _)]
   exact JA (h s.heap T oe oT vs ts I fT a)
theorem wO{T:IN}{fl:II}{oe oT:Obj}{vs ts:Array II}(I:Inv X [] σ H s)(fT:Dk X [] H T)(a:ExcAt s.heap x cls dx T fl oe oT vs ts)(h:∀h' oT' ts',Inv X [] σ H { s with heap:=h' }->ExcAt h' x cls dx T .none oe oT' vs ts'->Q () { s with heap:=h' }):JT (JV X.prog X.w) A (setFlight (.ref x) none) Q E s:=
 eX a (Qy X.stack) λh' oT' ts' flw at'=>h h' oT' ts' (I.fly flw λb hb=>by rw[IT.mp hb];exact fT) at'
theorem AX{T:IN}{fl:II}{oe oT:Obj}{vs ts:Array II}(ow:Own X)(I:Inv X [] σ H s)(fT:Dk X [] H T)(a:ExcAt s.heap x cls dx T fl oe oT vs ts)(h:∀h' oT' ts',Inv X [] σ H { s with heap:=h' }->ExcAt h' x cls dx T (PB X.env.locals) oe oT' vs ts'->Q () { s with heap:=h' }):
    JT (JV X.prog X.w) A (do if (<- field (.ref x) 1) == .none then unsupported "frame.own-activation:exception-without-traceback"
                                   setFlight (.ref x) X.env.frame) Q E s:=by
  refine IF (JX a.get a.data a.tb ?_)
  rw[if_neg (show ¬ ((JD T == LX)=true) from by simp)]
  unfold setFlight
  refine IF (JX a.get a.data a.tb ?_)
  rw[if_pos (show (JD T != LX)=true from by simp),ow.fr]
  have hsz:3 < ts.size:=(MK.mp a.fl).1
  have d3:=PY a.dataT (·.setIfInBounds 3 (PB X.env.locals))
  have oth:∀b,b≠T->(s.heap.update T (OO (·.setIfInBounds 3 (PB X.env.locals)))).get? b=s.heap.get? b:=λb hb=>KP _ _ (KO hb)
  refine MO a.getT a.dataT hsz (h _ _ _ (I.fly (ch:=[T]) ⟨λb o _ hc q=>(oth b (by simpa using hc)).trans q,λb o hc q=>⟨o.slots,(oth b (by simpa using hc)).trans q⟩,PP (NH (a:=T) s.heap _).1.symm⟩ λb hb=>by rw[IT.mp hb];exact fT)
    ⟨(oth x (KO a.ne)).trans a.get,a.cls,a.dict,a.data,a.tb,a.ne,LM _ a.getT (QF d3),d3,by simp[hsz],a.cx⟩)
theorem Wx.passesOwn{EX:XS}(ow:Own X):PassesOwn (JV X.prog X.w) X.A X.env (Wx X EX):=by
 intro e s' ⟨x,cls,dx,H,σ,he,I,fx,f,hE⟩
 subst he
 refine qR ow I.ok.frames I fx f λh1 T oe oT vs ts I1 fT a1=>?_
 refine AX ow I1 fT a1 λh2 oT' ts' I2 a2=>?_
 exact⟨x,cls,dx,H,σ,rfl,I2,fx,.inr ⟨T,_,oe,oT',vs,ts',fT,a2⟩,hE⟩
end
section
variable {P:JJ} {w:KL} {K:IG} {mg:Str->Option II} {base:LO} {N:List Str} {qual:Str} {scope:Scope} {f:IN} {cd:II} {A:KG} {outer:List Env} {s₀:IL} {H₀:Hp} {E:XK}
theorem Ks{CX:Vj}:Own (Em CX P w K mg base N qual scope f cd A outer s₀ H₀ E):=⟨rfl,rfl,rfl⟩
theorem Wx.leaves{e:II}{s:IL}(h:Wx (Em (Hc P w) P w K mg base N qual scope f cd A outer s₀ H₀ E) (λ_=>E) e s):(Em (Hc P w) P w K mg base N qual scope f cd A outer s₀ H₀ E).xe e s:=by
 obtain⟨x,cls,dx,H,σ,he,I,fx,fly,hE⟩:=h
 subst he
 have ow:Own (Em (Hc P w) P w K mg base N qual scope f cd A outer s₀ H₀ E):=Ks
 show JT _ _ (leaving _ _) _ _ _
 unfold leaving
 refine IF (qR ow I.ok.frames I fx fly λh1 T oe oT vs ts I1 fT a1=>?_)
 refine eX (s:={ s with heap:=h1 }) a1 (Qy (Em (Hc P w) P w K mg base N qual scope f cd A outer s₀ H₀ E).stack) λh2 oT' ts' flw a2=>?_
 have hch:∀b∈[T],Dk (Em (Hc P w) P w K mg base N qual scope f cd A outer s₀ H₀ E) [] H b:=λb hb=>by rw[IT.mp hb];exact fT
 refine⟨x,cls,dx,H,rfl,⟨I1.os,I1.bare,I1.unFlew rfl rfl rfl flw (λb hb=>(hch b hb).old rfl),I1.flew (g:=s.gens) flw (λb hb=>(hch b hb).1),fx.1,fx.old rfl,T,oe,oT',vs,ts',fT.1,fT.old rfl,a2⟩,hE⟩
end
abbrev Cx.thrown(X:Cx)(E:XS):Cx:=X.wish (Wx X E)
theorem Dp.okX{P:JJ}{w:KL}{K:IG}{mg:Str->Option II}{base:LO}{x qual:Str}{st:NW}{f:IN}{fd:JW}{N ps:List Str}{k:Nat}{sp:Sp}(F:Dp K x qual st f fd)(S:Ap N ps (Ae st))(len:∀vs H Q E,sp vs H Q E->vs.length=ps.length)(hbody:∀(cdv:II)(A:KG)(outer:List Env)(s:IL)(H:Hp)(vs:List V)(Q:VK)(E:XK),Cj k (A.deeper (envOfC qual (Ae st) s.heap.objs.size f cdv))->sp vs H Q E ->
  ∃t,Hs ((Em (Hc P w) P w K mg base N qual (Ae st) f cdv A outer s H E).thrown λ_=>E) (Bg st) t/\t { nx:=λ_ H'=>Q .non H',rt:=Q } (start N vs) H):
 Aj P w K mg base (Hc P w) (k+1) f fd ps sp:=by
 refine F.okE S len λcdv A outer s H vs Q E hr hsp=>?_
 obtain⟨t,h,q⟩:=hbody cdv A outer s H vs Q E hr hsp
 refine⟨t,λpins s' σ' H' D I hw=>?_,q⟩
 exact MI (h pins s' σ' H' D (I.wish _) hw) (λ_ _ z=>z.unwish) λe s2 z=>z.leaves
theorem Wx.passes{X:Cx}{EX:XS}{pins:List (IN×Obj)}{σ:St}{H:Hp}{s s':IL}{e:II}(I:Inv X pins σ H s)(h:(Hc X.prog X.w).f X.stack H s (EX σ) e s'):Wx X EX e s':=by
 obtain⟨x,cls,dx,H',he,O,hE⟩:=h
 obtain⟨T,oe,oT,vs,ts,hT,zT,a⟩:=O.fly
 have I0:=I.pins_of (pins':=[]) (λp hp=>nomatch hp)
 have I':=I0.call' (ch:=[]) O.os O.un O.hok O.bare (λb z=>nomatch z)
 exact⟨x,cls,dx,H',σ,he,I',I0.fpOk O.nx O.hx,.inr ⟨T,_,oe,oT,vs,ts,I0.fpOk zT hT,a⟩,hE⟩
def zE(sp:Sp)(dvs:List V)(EX:XS)(t:TA):TE:=λσ H Q=>t σ H λvs H1=>sp (vs++dvs) H1 Q (EX σ)
section
variable {X:Cx} {EX:XS} {k:Nat} {f C:IN} {fd:JW} {ps:List Str} {sp:Sp} {dvs:List V} {ds:List II} {x m:Str} {p pos apos:Pos} {e o:Expr} {es:List Expr} {ta:TE} {t:TA}
theorem Ut{pins:List (IN×Obj)}{σ:St}{H:Hp}{s:IL}{Q:VK}{us:List II}{vs:List V}(F:Aj X.prog X.w X.K X.mg X.base (Hc X.prog X.w) k f fd ps sp)(hr:Cj k X.A)(hb:Binds X.K fd ps ds)(hd:Be dvs ds)(hcs:X.calm=true/\X.sx=true)(I:Inv (X.thrown EX) pins σ H s)(r:Be vs us)(h:sp (vs++dvs) H Q (EX σ)):JT (JV X.prog X.w) X.A (call (.ref f) us) (EP (X.thrown EX) pins σ Q) (Wx X EX) s:=by
 have r2:Be (vs++dvs) (us++ds):=r.append hd
 have hl:(us++ds).length=ps.length:=by rw[<- r2.length];exact F.len _ _ _ _ h
 refine QZ (OL (F.run X.A X.stack s H ⟨us,[]⟩ (us++ds) (vs++dvs) Q (EX σ) ⟨hr,λ_=>I.ok.st hcs.2,I.ok.hd hcs.1⟩ I.env0 (hb s us I.kIn hl) r2 h) λr s' hq=>?_)
 cases r with
 | error e=>exact Wx.passes I.unwish hq
 | ok fl=>
  cases fl with
  | ret u=>exact I.after hq
  | next=>exact LF hq
  | brk=>exact LF hq
  | cont=>exact LF hq
theorem Lp(F:Aj X.prog X.w X.K X.mg X.base (Hc X.prog X.w) k f fd ps sp)(hr:Cj k X.A)(hg:Gl X x)(hm:X.mg x=some (.ref f))(hk:IR X.K (.ref f)=true)(hb:Binds X.K fd ps ds)(hd:Be dvs ds)(ha:PA (X.thrown EX) (e::es) t)(hdb:(x == ("__debug__" : Str))=false:=by decide)(he:JS (e::es) X.env=(false,OA e X.env)::JS es X.env:=by rfl)(hpl:(PD pos (JS es X.env)).any (·.1)=false:=by rfl)(hcs:X.calm=true/\X.sx=true:=by exact⟨rfl,rfl⟩):
 PE (X.thrown EX) (.Call (.Name x p) (e::es) [] pos) (zE sp dvs EX t):=by
 intro pins s σ H Q I h
 refine NQ (Hg I hg hm ?_ hdb)
 refine MS (h₀:=X.base) I.ok.mod.kin hk (Bx (ha pos pins s σ H _ I h) λus s1 ⟨vs,H1,I1,r,q⟩=>⟨I1.kIn,?_⟩) he hpl
 exact Ut F hr hb hd hcs I1 r q
end
end L2
namespace L2
open PySem PySem.Spec PyProof.Rows PySem.W
abbrev Np:List II:=[.type "ValueError", .type "Exception", .type "BaseException", .type "object"]
abbrev Mj(C:IN)(dx:Option IN)(t:IN):Obj:={ cls:=.ref C,dict:=dx,data:=.fields #[.ref t,.none,.none,.none,.bool false,.none] }
def Tv(es:List DictEntry):Bool:=es.all λe=>match e.key with | .str _ _=>true | _=>false
theorem Tf{K:IG}{h:LO}{N:IN}{oc:II}{od:Option IN}{es:Array DictEntry}{ep:Nat}{sl:Array (Option II)}(X:K.In h)(l:K.lookup N=some ⟨oc,od,.dict es ep,sl⟩)(k:Tv es.toList=true):h.Ns N (λx=>nsFind es x):=
 ⟨_,es,ep,X N _ l,rfl,λe he=>by
  unfold Tv at k
  rw[NL] at k
  have q:=k e (Array.mem_toList_iff.mpr he)
  cases hk:e.key with
  | str n t=>exact⟨n,t,rfl⟩
  | _=>rw[hk] at q;exact absurd q IZ,λ_=>rfl⟩
structure Lc(K:IG)(C:IN)(bm:List II):Prop where
 obj:∃nm q N bs hdct sn sub ab col dd k0 k1 k2 k3 k5,K.lookup C=some (excClassObj nm q C N bs bm hdct sn sub ab col dd k0 k1 k2 k3 k5 "ValueError.__new__")
 tail:∀h,K.In h->OwnTail h Np bm
 kp:IR K (.ref C)=true
section
variable {prog:JJ} {w:KL} {A:KG} {R:Result->IL->Prop} {E:II->IL->Prop} {s:IL} {K:IG} {C:IN} {bm:List II}
theorem aB(self:II):bindSpecial (.builtin "ValueError.__init__") self=pure (.builtin "ValueError.__init__", [self]):=PX.init.bind self
theorem pE(X:K.In s.heap)(c:Lc K C bm)(hi:LH K (.ref C) "__init__" = some (some (.builtin "ValueError.__init__"))){rest:List II}(hrest:rest.length<=IK){Q:II->IL->Prop}(h:∀h' t,(∀b o,s.heap.get? b=some o->h'.get? b=some o)->h'.get? (s.heap.objs.size+1)=some (Mj C none t)->Q (.ref (s.heap.objs.size+1)) { s with heap:=h' }):
 JT (JV prog w) A (call (.ref C) rest) Q E s:=by
 obtain⟨nm,q,N,bs,hdct,sn,sub,ab,col,dd,k0,k1,k2,k3,k5,lk⟩:=c.obj
 obtain⟨hh,g,d,t,os⟩:=s
 have hC:=X C _ lk
 have F:=PX
 have T:=c.tail _ X
 have f1:=tc_lookup
 have f2:=tc_bind (.ref C)
 have hT:(⟨hh,g,d,t,os⟩:IL).TypeIs (.ref C) "type" := ⟨_,hC,rfl⟩
 refine QZ (codeAny_of_tree ?_)
 show JT _ _ (callAny (.ref C) _) _ _ _
 repeat (any_goals (first | assumption | with_reducible refine QK hC ?_ | wp_step))
 refine⟨rfl,codeAny_call_builtin_at (RN _ (by decide +kernel)) entry_typeCall (wpAny_check_type_call_sub hC ?_)⟩
 repeat (first | with_reducible refine QK hC ?_ | with_reducible refine wpAny_madeBy_exc hC ?_ | wp_step)
 refine codeAny_call_builtin_code (RN _ F.quiet) (wpAny_check_new_subU F (by decide +kernel) T hC (codeAny_exc_new_subU F (by decide +kernel) F T hC ?_ hrest))
 show JT _ _ _ _ _ _
 have k:∀b o,hh.get? b=some o->((hh.push (Ee rest)).push (Du C hh.objs.size)).get? b=some o:=λb o e=>IJ _ (IJ _ e)
 have hx:((hh.push (Ee rest)).push (Du C hh.objs.size)).get? (hh.objs.size+1)=some (Du C hh.objs.size):=by heap_get
 have c1:=k _ _ hC
 have hcC:(JD C::bm).contains (.ref C)=true:=by simp
 have i1:=(PySem.W.looks_findIn (M:=JV prog w) X hi).keeps k
 have b1:OE (JV prog w) ((hh.push (Ee rest)).push (Du C hh.objs.size)) (bindSpecial (.builtin "ValueError.__init__") (.ref (hh.objs.size+1))) (.builtin "ValueError.__init__", [.ref (hh.objs.size+1)]):=.of_pure (aB _)
 have t1:OE (JV prog w) ((hh.push (Ee rest)).push (Du C hh.objs.size)) (typeOf (.ref (hh.objs.size+1))) (.ref C):=(PySem.W.Looks.ld hx).andThen .now
 have t2:OE (JV prog w) ((hh.push (Ee rest)).push (Du C hh.objs.size)) (isSubtype (.ref C) (.ref C)) true:=λA' Q' E' s' k' q'=>by
  obtain⟨h',g',d',tk',os'⟩:=s'
  refine wpAny_isSubtype_exc (k' _ _ c1) ?_
  rw[hcC]
  exact q'
 show JT (JV prog w) _ (isInstance (.ref (hh.objs.size+1)) (.ref C) >>= _) _ _ ⟨(hh.push (Ee rest)).push (Du C hh.objs.size),g,d,t,os⟩
 unfold isInstance callSpecial? specialOf
 repeat (first | with_reducible refine QZ ?_ | lk)
 refine codeAny_call_builtin F.init.plain F.initEntry (wpAny_check_init_subU F (T.keeps k) c1 hx rfl ?_)
 wp_walk
 refine h _ ((hh.push (Ee rest)).push (Du C hh.objs.size)).objs.size (λb o e=>?_) ?_
 ·show (Heap.update _ _ _).get? b=_
  rw[KP _ _ (OF (Nat.lt_succ_of_lt (JF (h:=hh) e)))]
  exact IJ _ (k b o e)
 ·show (Heap.update _ _ _).get? _=_
  rw[LM _ (IJ _ hx) rfl]
  rfl
end
section
variable {M:Model} {A:KG} {E:II->IL->Prop} {s:IL} {env:Env} {K:IG} {C:IN} {bm:List II}
theorem qQ{x:Sem II}{Q:Flow->IL->Prop}(c:Lc K C bm)(hbase:bm.contains (.type "BaseException")=true)(hh:A.handled=none)(h:JT M A x (λv s₁=>∃e dx t,v=.ref e/\K.In s₁.heap/\s₁.heap.get? e=some (Mj C dx t)/\E (.ref e) s₁) E s):JT M A (raiseStmt env (some x) none) Q E s:=by
 obtain⟨nm,q,N,bs,hdct,sn,sub,ab,col,dd,k0,k1,k2,k3,k5,lk⟩:=c.obj
 have hcB:(JD C::bm).contains (.type "BaseException")=true:=by rw[List.contains_cons,hbase,Bool.or_true]
 unfold raiseStmt
 refine IF (MI h (λv s₁ h₁=>?_) λ_ _ x=>x)
 obtain⟨e,dx,t,rfl,X,he,hE⟩:=h₁
 have hC:=X C _ lk
 obtain⟨hp,g,d,tk,os⟩:=s₁
 repeat (first | with_reducible refine QK he ?_ | with_reducible refine QK hC ?_ | (with_reducible refine wpAny_isSubtype_exc hC ?_;rw[hcB]) | wp_step)
 exact wpAny_raiseNew_none hh hE
end
section
variable {X:Cx} {EX:XS} {C:IN} {bm:List II} {x:Str} {p pos cpos:Pos} {e:Expr} {es:List Expr} {t:TA}
def zG(C:IN)(EX:XS)(t:TA):TS:=λ_ σ H=>t σ H λvs H1=>vs.length<=IK/\EX σ (.ref C) none H1
theorem cW(c:Lc X.K C bm)(hbase:bm.contains (.type "BaseException")=true)(hi:LH X.K (.ref C) "__init__" = some (some (.builtin "ValueError.__init__"))){pins:List (IN×Obj)}{σ:St}{H:Hp}{s:IL}{us:List II}(I:Inv X pins σ H s)(hz:us.length<=IK)(hE:EX σ (.ref C) none H):
 JT (JV X.prog X.w) X.A (call (.ref C) us) (λv s₁=>∃e dx t,v=.ref e/\X.K.In s₁.heap/\s₁.heap.get? e=some (Mj C dx t)/\Wx X EX (.ref e) s₁) (Wx X EX) s:=by
 refine pE I.kIn c hi hz λh' t k g=>?_
 have I0:=I.pins_of (pins':=[]) (λp hp=>nomatch hp)
 have I1:Inv X [] σ H { s with heap:=h' }:=I0.kept (t':=s.toks) k
 have le:s.heap.objs.size<=s.heap.objs.size+1:=OU _
 exact⟨_,none,t,rfl,I1.kIn,g,_,_,none,H,σ,rfl,I1,I0.fpOk le (I0.hok.fresh le),.inl ⟨_,_,⟨g,rfl,rfl,rfl,rfl,rfl⟩⟩,hE⟩
theorem Wv(hcalm:X.sx=true)(c:Lc X.K C bm)(hbase:bm.contains (.type "BaseException")=true)(hi:LH X.K (.ref C) "__init__" = some (some (.builtin "ValueError.__init__")))(hg:Gl X x)(hm:X.mg x=some (.ref C))(ha:PA (X.thrown EX) (e::es) t)(hdb:(x == ("__debug__" : Str))=false:=by decide)(he:JS (e::es) X.env=(false,OA e X.env)::JS es X.env:=by rfl)(hpl:(PD cpos (JS es X.env)).any (·.1)=false:=by rfl):
 PS (X.thrown EX) (.Raise (some (.Call (.Name x p) (e::es) [] cpos)) none pos) (zG C EX t):=by
 intro pins s σ H D I h
 rw[arm_exec_Raise]
 refine IF (PK ?_)
 show JT _ _ (raiseStmt _ (some (do let v <- OA (.Call (.Name x p) (e::es) [] cpos) X.env;standAt pos;pure v)) none) _ _ _
 refine qQ c hbase (I.ok.st hcalm) (IF (Bx ?_ λv s1 z=>IF (PK (JA z))))
 refine NQ (Hg I hg hm ?_ hdb)
 refine MS (h₀:=X.base) I.ok.mod.kin c.kp (Bx (ha cpos pins s σ H _ I h) λus s1 ⟨vs,H1,I1,r,z,hE⟩=>⟨I1.kIn,?_⟩) he hpl
 exact cW (us:=us) c hbase hi I1.unwish (by rw[<- r.length];exact z) hE
end
end L2
namespace L2
open PySem PySem.Spec PyProof.Rows
abbrev Cx.pinned(X:Cx)(pins:List (IN×Obj)):Cx:={ X with pn:=pins }
section
variable {X:Cx} {pins:List (IN×Obj)} {σ:St} {H:Hp} {s:IL}
theorem Inv.intoPn(I:Inv X pins σ H s):Inv (X.pinned (X.pn++pins)) [] σ H s:=
 ⟨⟨I.ok.mod,I.ok.kind,I.ok.glob,I.ok.blt,I.ok.above,I.ok.inj,I.ok.has,I.ok.cab,I.ok.hd,I.ok.st,I.ok.frames,I.ok.stk,I.ok.exf,I.ok.bs,I.ok.bsz,I.ok.noex,I.ok.exfs,I.ok.funs,I.ok.frf⟩,I.os,I.bare,I.base,I.loc,I.cell,I.free,I.freeC,λp hp=>I.pin p (by rw[LA] at hp;exact hp),I.hok,I.len⟩
theorem Inv.outPn(I:Inv (X.pinned (X.pn++pins)) [] σ H s):Inv X pins σ H s:=
 ⟨⟨I.ok.mod,I.ok.kind,I.ok.glob,I.ok.blt,I.ok.above,I.ok.inj,I.ok.has,I.ok.cab,I.ok.hd,I.ok.st,I.ok.frames,I.ok.stk,I.ok.exf,I.ok.bs,I.ok.bsz,I.ok.noex,I.ok.exfs,I.ok.funs,I.ok.frf⟩,I.os,I.bare,I.base,I.loc,I.cell,I.free,I.freeC,λp hp=>I.pin p (by rw[LA];exact hp),I.hok,I.len⟩
theorem Dk.outPn{b:IN}(f:Dk (X.pinned (X.pn++pins)) [] H b):Dk X [] H b:=
 ⟨f.1,f.2.1,f.2.2.1,f.2.2.2.1,f.2.2.2.2.1,λp hp=>f.2.2.2.2.2 p (by rw[LA] at hp ⊢;exact MU _ hp)⟩
theorem Wx.outPn{EX:XS}{e:II}(h:Wx (X.pinned (X.pn++pins)) EX e s):Wx X EX e s:=by
 obtain⟨x,cls,dx,H,σ,he,I,fx,f,hE⟩:=h
 refine⟨x,cls,dx,H,σ,he,I.outPn.pins_of (λp hp=>nomatch hp),fx.outPn,?_,hE⟩
 rcases f with f | ⟨T,fl,oe,oT,vs,ts,fT,r⟩
 ·exact .inl f
 ·exact .inr ⟨T,fl,oe,oT,vs,ts,fT.outPn,r⟩
theorem SP.outPn{D:Ends}{f:Flow}(h:SP (X.pinned (X.pn++pins)) [] D f s):SP X pins D f s:=by
 cases f with
 | next=>obtain⟨σ',H',I,q⟩:=h;exact⟨σ',H',I.outPn,q⟩
 | brk=>obtain⟨σ',H',I,q⟩:=h;exact⟨σ',H',I.outPn,q⟩
 | cont=>obtain⟨σ',H',I,q⟩:=h;exact⟨σ',H',I.outPn,q⟩
 | ret u=>obtain⟨v,σ',H',I,r,q⟩:=h;exact⟨v,σ',H',I.outPn,r,q⟩
end
def Io(X:Cx)(x:IN)(oe:Obj):Cx:={ X with A:=X.A.mark (some (.ref x)),calm:=false,sx:=false,pn:=(x,oe)::X.pn,xe:=λ_ _=>False }
section
variable {X:Cx} {σ:St} {H:Hp} {s:IL} {x:IN} {oe:Obj}
theorem Inv.suite(I:Inv X [] σ H s)(fx:Dk X [] H x)(g:s.heap.get? x=some oe)(d:∀v,oe.data ≠ .cell v):Inv (Io X x oe) [] σ H s:=
 ⟨⟨I.ok.mod,I.ok.kind,I.ok.glob,I.ok.blt,I.ok.above,I.ok.inj,I.ok.has,I.ok.cab,λz=>absurd z IZ,λz=>absurd z IZ,I.ok.frames,I.ok.stk,I.ok.exf,I.ok.bs,I.ok.bsz,I.ok.noex,I.ok.exfs,I.ok.funs,I.ok.frf⟩,I.os,I.bare,I.base,I.loc,I.cell,I.free,I.freeC,λp hp=>by
  rw[LA] at hp
  rcases IQ.mp hp with rfl | hp
  ·exact⟨g,fx.1,fx.2.1,fx.2.2.1,d⟩
  ·exact I.pin p (by rw[LA];exact hp),I.hok,I.len⟩
theorem Inv.unsuite(I:Inv (Io X x oe) [] σ H s)(hd:X.calm=true->Bm X.A X.base)(ok:X.Ok):Inv X [] σ H s:=
 ⟨ok,I.os,I.bare,I.base,I.loc,I.cell,I.free,I.freeC,λp hp=>I.pin p (by rw[LA] at hp ⊢;exact JC _ hp),I.hok,I.len⟩
end
def PH(X:Cx)(hs:List RM)(EX:XS)(th:Ends->XS):Prop:=
 ∀(σ:St)(H:Hp)(s:IL)(x:IN)(cls:II)(dx:Option IN)(T:IN)(oe oT:Obj)(vs ts:Array II)(D:Ends),Inv X [] σ H s->Dk X [] H x->Dk X [] H T->ExcAt s.heap x cls dx T .none oe oT vs ts->th D σ cls dx H ->
  JT (JV X.prog X.w) X.A (handleBy (.ref x) X.env hs) (SP X [] D) (Wx X EX) s
section
variable {X:Cx} {EX:XS} {th:Ends->XS} {hs:List RM} {C:IN} {c:Str} {np pos:Pos} {b₀:NW} {suite:List NW} {ts':IN->Obj->TS}
theorem cA(ow:Own X):PH X [] EX (λ_=>EX):=by
 intro σ H s x cls dx T oe oT vs ts D I fx fT a hE
 refine wpAny_handleBy_nil ?_
 unfold PySem.passOn
 refine IF (JX a.get a.data a.tb ?_)
 rw[if_neg (show ¬ ((JD T == LX)=true) from by simp)]
 unfold setFlight
 refine IF (IF (JX a.get a.data a.tb ?_))
 rw[if_pos (show (JD T != LX)=true from by simp),ow.fr]
 have hsz:3 < ts.size:=(MK.mp a.fl).1
 have d3:=PY a.dataT (·.setIfInBounds 3 (PB X.env.locals))
 have oth:∀b,b≠T->(s.heap.update T (OO (·.setIfInBounds 3 (PB X.env.locals)))).get? b=s.heap.get? b:=λb hb=>KP _ _ (KO hb)
 refine MO a.getT a.dataT hsz (wpAny_throw ⟨x,cls,dx,H,σ,rfl,I.fly (ch:=[T]) ⟨λb o _ hc q=>(oth b (by simpa using hc)).trans q,λb o hc q=>⟨o.slots,(oth b (by simpa using hc)).trans q⟩,PP (NH (a:=T) s.heap _).1.symm⟩ (λb hb=>by rw[IT.mp hb];exact fT),fx,
  .inr ⟨T,PB X.env.locals,oe,_,vs,_,fT,⟨(oth x (KO a.ne)).trans a.get,a.cls,a.dict,a.data,a.tb,a.ne,LM _ a.getT (QF d3),d3,by simp[hsz],a.cx⟩⟩,hE⟩)
theorem eP(hcls:Gl X c)(hm:X.mg c=some (.ref C))(hsu:∀x oe,Hs (Io X x oe) (b₀::suite) (ts' x oe))(hr:PH X hs EX th)(hdb:(c == ("__debug__" : Str))=false:=by decide):
 PH X (.ExceptHandler (some (.Name c np)) none (b₀::suite) pos::hs) EX (λD σ cls dx H=>∃b,QD X.K cls (.ref C)=some b/\if b=true then ∀x oe,H x=none->oe.cls=cls->oe.dict=dx->(∃ws,oe.data=.fields ws/\ws[2]? = some .none)->ts' x oe D σ H else th D σ cls dx H):=by
 intro σ H s x cls dx T oe oT vs ts D I fx fT a h
 obtain⟨b,hb,h⟩:=h
 have dn:∀v,oe.data ≠ .cell v:=λv z=>by rw[a.data] at z;cases z
 have IS:=I.suite fx a.get dn
 have mk:(X.A.mark (some (.ref x)))=(Io X x oe).A:=rfl
 refine wpAny_handleBy_cons (codeAny_handlers_test ?_) (by intro q;cases q)
 refine Hg (X:=Io X x oe) IS hcls hm ?_ hdb
 have lt:OE (JV X.prog X.w) s.heap (typeOf (.ref x)) cls:=by
  have q:OE (JV X.prog X.w) s.heap (typeOf (.ref x)) oe.cls:=(PySem.W.Looks.ld a.get).andThen .now
  rw[a.cls] at q
  exact q
 obtain⟨hh,g,d,tk,os⟩:=s
 refine(PySem.W.exm_one I.kIn lt hb).at ?_
 cases b with
 | false=>
  rw[if_neg IZ] at h
  exact hr σ H _ x cls dx T oe oT vs ts D I fx fT a h
 | true=>
  rw[if_pos rfl] at h
  refine codeAny_handlers_suite ?_
  refine wO (A:=X.A.mark (some (.ref x))) I fT a λh1 oT1 ts1 I1 a1=>?_
  have I2:=I1.suite fx a1.get dn
  refine MI (hsu x oe [] _ σ H D I2 (h x oe fx.1 a.cls a.dict ⟨vs,a.data,a.cx⟩)) (λf s2 q=>?_) (λ_ _ z=>z.elim)
  cases f with
  | next=>obtain⟨σ',H',J,q⟩:=q;exact⟨σ',H',J.unsuite I.ok.hd I.ok,q⟩
  | brk=>obtain⟨σ',H',J,q⟩:=q;exact⟨σ',H',J.unsuite I.ok.hd I.ok,q⟩
  | cont=>obtain⟨σ',H',J,q⟩:=q;exact⟨σ',H',J.unsuite I.ok.hd I.ok,q⟩
  | ret u=>obtain⟨v,σ',H',J,r,q⟩:=q;exact⟨v,σ',H',J.unsuite I.ok.hd I.ok,r,q⟩
end
def EJ(tb:XS->TS)(th:Ends->XS):TS:=λD σ H=>tb (λσ' cls dx H'=>th D σ' cls dx H') D σ H
theorem Zl{X:Cx}{W:II->IL->Prop}{EX:XS}{body:List NW}{h₀:RM}{hs:List RM}{pos:Pos}{tb:XS->TS}{th:Ends->XS}(ow:Own X)(hW:∀e s,Wx X EX e s->W e s)(hb:∀pn EX1,Hs ((X.pinned pn).thrown EX1) body (tb EX1))(hh:∀pn,PH (X.pinned pn) (h₀::hs) EX th):PS (X.wish W) (.Try body (h₀::hs) [] [] pos) (EJ tb th):=by
 intro pins s σ H D I h
 have Ip:=I.unwish.intoPn
 have owp:Own (X.pinned (X.pn++pins)):=⟨ow.ex,ow.st,ow.fr⟩
 refine wpAny_Try_except (MI (hb (X.pn++pins) _ [] s σ H D (Ip.wish _) h) (λf s1 q=>?_) λe s1 z=>?_)
 ·have q':=q.unwish.outPn
  cases f with
  | next=>
   obtain⟨σ',H',J,q⟩:=q'
   exact wpAny_execs_nil ⟨σ',H',J.wish _,q⟩
  | brk=>obtain⟨σ',H',J,q⟩:=q';exact⟨σ',H',J.wish _,q⟩
  | cont=>obtain⟨σ',H',J,q⟩:=q';exact⟨σ',H',J.wish _,q⟩
  | ret u=>obtain⟨v,σ',H',J,r,q⟩:=q';exact⟨v,σ',H',J.wish _,r,q⟩
 ·obtain⟨x,cls,dx,H1,σ1,he,I1,fx,fly,hE⟩:=z
  subst he
  refine qR (X:=X.pinned (X.pn++pins)) owp I1.ok.frames I1 fx fly λh1 T oe oT vs ts I2 fT a1=>?_
  refine wO (X:=X.pinned (X.pn++pins)) (A:=X.A) I2 fT a1 λh2 oT2 ts2 I3 a2=>?_
  refine MI (hh (X.pn++pins) σ1 H1 _ x cls dx T oe oT2 vs ts2 D I3 fx fT a2 hE) (λf s2 q=>?_) λe s2 z=>hW e s2 z.outPn
  have q':=q.outPn
  cases f with
  | next=>obtain⟨σ',H',J,q⟩:=q';exact⟨σ',H',J.wish _,q⟩
  | brk=>obtain⟨σ',H',J,q⟩:=q';exact⟨σ',H',J.wish _,q⟩
  | cont=>obtain⟨σ',H',J,q⟩:=q';exact⟨σ',H',J.wish _,q⟩
  | ret u=>obtain⟨v,σ',H',J,r,q⟩:=q';exact⟨v,σ',H',J.wish _,r,q⟩
end L2
namespace L2
open PySem PySem.Spec PyProof.Rows PySem.W
def rem(H:Hp)(x:IN):Hp:=λb=>if b=x then none else H b
theorem Vf{H:Hp}{x b:IN}(h:b≠x):rem H x b=H b:=if_neg h
theorem Jn{H:Hp}{x:IN}:rem H x x=none:=if_pos rfl
theorem Jl{H:Hp}{x b:IN}(h:H b=none):rem H x b=none:=by
 unfold rem
 split
 ·rfl
 ·exact h
theorem Inv.drop{X:Cx}{pins:List (IN×Obj)}{σ:St}{H:Hp}{s:IL}{x:IN}{φ:LO->Prop}(I:Inv X pins σ H s)(hx:H x=some (.ext φ)):Inv X pins σ (rem H x) s:=by
 have ne:∀b o,H b=some o->(∀ψ,o ≠ .ext ψ)->b≠x:=λb o e n z=>by
  subst z
  rw[hx] at e
  exact n φ (KC e).symm
 have ne':∀ {b o},H b=some o->(∀ψ,o ≠ .ext ψ)->rem H x b=some o:=λ{b o} e n=>by rw[Vf (ne b o e n)];exact e
 refine⟨I.ok,I.os,I.bare,⟨I.base.keep,I.base.slot,λb u e n hx'=>Jl (I.base.free b u e n hx'),I.base.there,λb xs e=>ne' (I.base.tups b xs e) (λψ z=>nomatch z),λb u v e=>ne' (I.base.frzs b u v e) (λψ z=>nomatch z),λb ps e=>?_⟩,I.loc,I.cell,Jl I.free,λy c e=>Jl (I.freeC y c e),λp hp=>?_,λb u e=>?_,I.len⟩
 ·obtain⟨m,q⟩:=I.base.tbls b ps e
  exact⟨m,ne' q (λψ z=>nomatch z)⟩
 ·obtain⟨e,n,r⟩:=I.pin p hp
  exact⟨e,Jl n,r⟩
 ·by_cases hb:b=x
  ·subst hb
   rw[Jn] at e
   cases e
  ·rw[Vf hb] at e
   exact(I.hok b u e).stay (λ_ _ _ q=>q) (λc q=>ne' q (λψ z=>nomatch z)) λc xs q=>ne' q (λψ z=>nomatch z)
def qZ(x C:IN)(dx:Option IN)(t:IN):HO:=.ext λh=>h.get? x=some (Mj C dx t)
theorem pL{P:JJ}{w:KL}{H:Hp}{h:LO}{x C:IN}{dx:Option IN}{t:IN}(e:h.get? x=some (Mj C dx t)):Cz P w H h x (qZ x C dx t):=⟨e,⟨_,e⟩,λh1 h2 a k=>k _ a⟩
theorem kZ{P:JJ}{w:KL}{H:Hp}{h:LO}{x C:IN}{dx:Option IN}{t:IN}(hok:Km P w H h)(e:H x=some (qZ x C dx t)):h.get? x=some (Mj C dx t):=(hok x _ e).1
theorem Yr{h:LO}{self:II}{l:List II}(T:OwnTail h Np l):refuseLoop self "__setattr__" l=pure ():=by
 induction T with
 | base=>exact PySem.F.store_ValueError.passes self
 | own _ _ _ _ ih=>rw[refuseLoop_ref];exact ih
section
variable {prog:JJ} {w:KL} {A:KG} {E:II->IL->Prop} {s:IL} {K:IG} {C x t:IN} {bm:List II} {name:Str} {v:II}
theorem vO{Q:Unit->IL->Prop}(X:K.In s.heap)(c:Lc K C bm)(hs:QY K (.ref C) "__setattr__" = some (some (.builtin "object.__setattr__")))(ht:takerIn K C name=some none)(hh:hasDictIn K C=true)(hx:s.heap.get? x=some (Mj C none t))(h:∀h1 h2 h3,(∀b o,s.heap.get? b=some o->h1.get? b=some o)->h1.Ns1 s.heap.objs.size (λ_=>none)->OQ x h1 h2->h2.get? x=some (Mj C (some s.heap.objs.size) t) ->
  OQ s.heap.objs.size h2 h3->h3.Ns1 s.heap.objs.size (λy=>if y=name then some v else none)->Q () { s with heap:=h3,toks:=s.toks+2 }):
 JT (JV prog w) A (setAttr (.ref x) name v) Q E s:=by
 have I:InstAt s.heap x (Mj C none t) C none:=⟨hx,rfl,rfl,trivial⟩
 obtain⟨nm,q,N,bs,hdct,sn,sub,ab,col,dd,k0,k1,k2,k3,k5,lk⟩:=c.obj
 have hC:=X C _ lk
 have T:=c.tail _ X
 refine set_plain X I hs ?_
 have SF:=PySem.F.store_object
 obtain⟨cd,hc,hd⟩:=any_some hh
 have hcm:cd.mro=.ref C::bm:=by
  unfold clsIn at hc
  rw[lk] at hc
  cases hc
  rfl
 have ne:cd.mro.isEmpty=false:=by rw[hcm];rfl
 have hob:cd.mro.contains (.type "object")=true:=by rw[hcm,List.contains_cons,T.hasType (X := "object") (b:=true) (by decide +kernel),Bool.or_true]
 have sb:Looks (JV prog w) s.heap (isInstance (.ref x) (.type "object")) true:=I.type.andThen (looks_mroIn X (by unfold mroIn;rw[hc,Option.bind_some,if_neg (by rw[ne];decide),hob]))
 refine codeAny_call_builtin SF.slot.plain SF.entry (@check_slot (JV prog w) _ _ { s with toks:=s.toks+1 } "object.__setattr__" "object" "__setattr__" (.ref x) [.str name s.toks,v] [] _ SF.kind SF.split sb (SF.args (.ref x) (.str name s.toks) v) ?_)
 obtain⟨attr,ha,hr⟩:=Option.bind_eq_some_iff.mp ht
 have hm:Looks (JV prog w) s.heap (mroOf (.ref C)) cd.mro:=(looks_clsIn X hc).andThen .now
 have L3:Looks (JV prog w) s.heap (Builtin.ObjectAttr.storeTaker? attr) none:=by
  cases attr with
  | none=>exact .now
  | some a=>
   obtain⟨b,hb,hb2⟩:=Option.map_eq_some_iff.mp hr
   refine(looks_takesIn X hb).andThen ?_
   cases b with
   | false=>exact .now
   | true=>cases hb2
 rw[osa_eq,refuse_eq]
 refine IF (IF (I.type.here (s:={ s with toks:=s.toks+1 }) (IF (hm.here (s:={ s with toks:=s.toks+1 }) ?_))))
 rw[hcm,refuseLoop_ref,Yr T]
 refine JA (IF (I.type.here (s:={ s with toks:=s.toks+1 }) (IF ((looks_findIn X ha).here (s:={ s with toks:=s.toks+1 }) (IF (L3.here (s:={ s with toks:=s.toks+1 }) ?_))))))
 show JT _ _ (Builtin.ObjectAttr.storeInOwnDict (.ref x) (.ref C) (.str name s.toks) name v _) _ _ _
 have hx₁:(s.heap.push { cls:=.type "dict", data:=.dict #[] }).get? x=some (Mj C none t):=IJ _ hx
 have hxs:x≠s.heap.objs.size:=JP (JF hx)
 refine IF (JA (IF (IF (wpAny_loadPart hx (IF ((looks_clsIn X hc).here (s:={ s with toks:=s.toks+1 }) ?_))))))
 rw[hd,if_neg (by decide)]
 show JT _ _ (do
  let d <- alloc { cls:=NR "dict", data:=Data.dict #[] }
  update x λo=>{ cls:=o.cls,dict:=some d,data:=o.data,slots:=o.slots }
  dictMade (JD C) x d) _ _ _
 generalize hob1:({ cls:=NR "dict", data:=Data.dict #[] }:Obj)=dob at hx₁
 have g1:(s.heap.push dob).get? s.heap.objs.size=some dob:=JI _ (by subst hob1;rfl)
 refine IF (wpAny_alloc' (IF (wpAny_update' hx₁ (JA ?_))))
 have n1:(s.heap.push dob).Ns1 s.heap.objs.size (λ_=>none):=Heap.Ns1.of_empty ⟨dob,#[],_,g1,by subst hob1;rfl,λe he=>absurd he (by simp),λ_=>rfl⟩
 have sb2:=NH (a:=x) (s.heap.push dob) (λo=>{ cls:=o.cls,dict:=some s.heap.objs.size,data:=o.data,slots:=o.slots })
 have g2:=LM (λo=>{ cls:=o.cls,dict:=some s.heap.objs.size,data:=o.data,slots:=o.slots }) hx₁ rfl
 show JT _ _ (Builtin.ObjectAttr.storeInDict s.heap.objs.size (.str name s.toks) name v) _ _ _
 unfold Builtin.ObjectAttr.storeInDict Builtin.ObjectAttr.newKeyGuard
 refine IF (JA (IF (wpAny_nsSet1 (n1.sameBut sb2 (KO hxs)) λh' hn' hs'=>?_)))
 obtain⟨oD,esD,epD,hoD,hdD,hcD⟩:=hn'.count (Within.cons name v Within.nil)
 refine IF (wpAny_lookBehind hoD (by rw[hdD];exact pastItsLine_dict (JR hcD (by rw[KH,List.length_nil,JB];omega))) ?_)
 exact JA (h _ _ h' (λb o e=>IJ _ e) n1 sb2 g2 hs' hn')
end
structure sR(K:IG)(C:IN)(f:Str):Prop where
 sa:QY K (.ref C) "__setattr__" = some (some (.builtin "object.__setattr__"))
 na:QY K (.ref C) f=some none
 hd:hasDictIn K C=true
 ga:QY K (.ref C) "__getattribute__" = some (some (.builtin "BaseException.__getattribute__"))
 gn:QY K (.ref C) "__getattr__" = some none
 be:mroIn K C (.type "BaseException")=some true
section
variable {prog:JJ} {w:KL} {A:KG} {E:II->IL->Prop} {s:IL} {K:IG} {C x:IN} {name:Str} {v:II} {ox od:Obj} {expr:Bool}
end
def DA(K:IG)(ta tv:TE)(f:Str):TS:=λD σ H=>tv σ H λy H1=>ta σ H1 λxv H2=>∃x C bm t,xv=.ref x/\H2 x=some (qZ x C none t)/\Lc K C bm/\sR K C f /\
 ∀dx,H2 dx=none->dx≠x->D.nx σ (upd (upd H2 x (qZ x C (some dx) t)) dx (.xd [(f,y)]))
section
variable {X:Cx} {o e value:Expr} {f:Str} {pos pos':Pos} {ta tv:TE}
theorem vF(ha:PE X o ta)(hv:PE X value tv)(hs:swapsWith value (some (.Attribute o f pos')) pos.line X.env=pure false:=by rfl):PS X (.Assign [.Attribute o f pos'] value pos) (DA X.K ta tv f):=by
 intro pins s σ H D I h
 refine plainObj_wpAny_Assign_Attribute (Bx (hv pins s σ H _ I h) λu s1 ⟨y,H1,I1,ry,q⟩=>Bx (ha pins s1 σ H1 _ I1 q) λov s2 ⟨xv,H2,I2,rx,x,C,bm,t,ex,ea,c,F,q2⟩=>?_) hs
 subst ex
 obtain rfl:ov=JD x:=rx
 have g:=kZ I2.hok ea
 have hxs:x≠s2.heap.objs.size:=JP (JF g)
 refine vO I2.kIn c F.sa (Eh.taker F.na) F.hd g λh1 h2 h3 k1 n1 sb2 g2 sb3 n3=>?_
 have k3:∀b u,b≠x->s2.heap.get? b=some u->h3.get? b=some u:=λb u hb z=>(sb3.2 b (JP (JF z))).trans ((sb2.2 b hb).trans (k1 b u z))
 have g3:h3.get? x=some (Mj C (some s2.heap.objs.size) t):=(sb3.2 x hxs).trans g2
 have J2:Inv X pins σ (upd H2 x (qZ x C (some s2.heap.objs.size) t)) { s2 with heap:=h3,toks:=s2.toks+2 }:=
  I2.write (x:=x) (e:=x) (h':=h3) (by rw[ea];exact NI) (.inl rfl) k3 ⟨_,g3⟩ (pL g3)
 have fD:Dk X pins H2 s2.heap.objs.size:=I2.fpOk (IP _) (I2.hok.fresh (IP _))
 have J3:=J2.adopt (D:=s2.heap.objs.size) (o:=.xd [(f,y)]) (by rw[Ai (KO hxs)];exact fD.1) fD.2.1 I2.sz fD.2.2.2.2.1 fD.2.2.2.2.2
  ⟨_,n3,λg'=>by
   by_cases hg:g'=f
   ·subst hg
    show Hu (QM g' [(g',y)]) (if g'=g' then some u else none)
    rw[JL,beq_self_eq_true,if_pos rfl]
    exact ry
   ·show Hu (QM g' [(f,y)]) (if g'=f then some u else none)
    rw[JL,beq_eq_false_iff_ne.mpr hg,if_neg hg]
    exact NI⟩
 exact⟨σ,_,J3,q2 _ (I2.hok.fresh (IP _)) (KO hxs)⟩
end
section
variable {X:Cx} {EX:XS} {C f:IN} {bm:List II} {fd:JW} {ps:List Str} {sp:Sp} {k:Nat} {x:Str} {p pos cpos:Pos} {e:Expr} {es:List Expr} {t:TA}
def HQ:XK:=λ_ _ _=>False
def vZ(C:IN)(sp:Sp)(EX:XS)(σ:St)(vs:List V)(H:Hp):Prop:=vs.length<=IK /\
 ∀x tt,H x=none->sp (.ref x::vs) (upd H x (qZ x C none tt)) (λv H2=>v=.non/\∃dx,H2 x=some (qZ x C dx tt)/\EX σ (.ref C) dx (rem H2 x)) HQ
theorem iF(c:Lc X.K C bm)(hi:LH X.K (.ref C) "__init__" = some (some (.ref f)))(hfn:PySem.W.isFn X.K (.ref f)=true)(F:Aj X.prog X.w X.K X.mg X.base Bh k f fd ps sp)(hr:Cj (k+1) X.A)(hb:Binds X.K fd ps [])(hcl:X.calm=true){pins:List (IN×Obj)}{σ:St}{H:Hp}{s:IL}{us:List II}{vs:List V}(I:Inv X pins σ H s)(r:Be vs us)(h:vZ C sp EX σ vs H):
 JT (JV X.prog X.w) X.A (call (.ref C) us) (λv s₁=>∃e dx t,v=.ref e/\X.K.In s₁.heap/\s₁.heap.get? e=some (Mj C dx t)/\Wx X EX (.ref e) s₁) (Wx X EX) s:=by
 obtain⟨hz,h⟩:=h
 obtain⟨nm,q,N,bs,hdct,sn,sub,ab,col,dd,k0,k1,k2,k3,k5,lk⟩:=c.obj
 have I0:=I.pins_of (pins':=[]) (λp hp=>nomatch hp)
 have fx:Dk X [] H (s.heap.objs.size+1):=I0.fpOk (OU _) (I0.hok.fresh (OU _))
 have hq:=h (s.heap.objs.size+1) s.heap.objs.size fx.1
 have k0':∀b o,s.heap.get? b=some o->((s.heap.push (Ee us)).push (Du C s.heap.objs.size)).get? b=some o:=λb o e=>IJ _ (IJ _ e)
 have gx:((s.heap.push (Ee us)).push (Du C s.heap.objs.size)).get? (s.heap.objs.size+1)=some (Mj C none s.heap.objs.size):=by
  have:=JI (s.heap.push (Ee us)) (o:=Du C s.heap.objs.size) rfl
  rwa [NM] at this
 have I1:Inv X [] σ H { s with heap:=(s.heap.push (Ee us)).push (Du C s.heap.objs.size),toks:=s.toks }:=I0.kept k0'
 have I2:=I1.adopt (D:=s.heap.objs.size+1) (o:=qZ (s.heap.objs.size+1) C none s.heap.objs.size) fx.1 fx.2.1 (JR I.sz (OU _)) fx.2.2.2.2.1 fx.2.2.2.2.2 (pL gx)
 have r2:Be (V.ref (s.heap.objs.size+1)::vs) (JD (s.heap.objs.size+1)::us):=.cons rfl r
 have hl:(JD (s.heap.objs.size+1)::us++[]).length=ps.length:=by
  have e:=r2.length
  rw[F.len _ _ _ _ hq] at e
  rw[LA]
  exact e.symm
 have hbb:=hb _ (JD (s.heap.objs.size+1)::us) I2.kIn hl
 rw[LA] at hbb
 obtain⟨hh,g,d,tk,os⟩:=s
 refine QZ (rP PX (by decide +kernel) PX (c.tail _ I.kIn) (I.kIn C _ lk) (PySem.W.looks_findIn I.kIn hi) (λself=>PySem.W.bind_fn I.kIn self (beq_iff_eq.mp hfn)) (by rw[<- r.length];exact hz) ?_)
 refine OL (F.run _ X.stack _ _ ⟨JD (hh.objs.size+1)::us,[]⟩ (JD (hh.objs.size+1)::us) _ _ HQ ⟨hr.make C us [],(λz=>nomatch z),I2.ok.hd hcl⟩ (I2.env0.make C us []) hbb r2 hq) λr s' hq'=>?_
 cases r with
 | error e=>exact LF hq'
 | ok fl=>
  cases fl with
  | ret u=>
   obtain⟨v,H',I3,rv,ev,dx,ex,q3⟩:=I2.after hq'
   subst ev
   have g3:=kZ I3.hok ex
   have I4:=I3.drop ex
   refine⟨rv,_,dx,_,rfl,I4.kIn,g3,_,_,dx,_,σ,rfl,I4,⟨Jn,fx.2⟩,.inl ⟨_,_,⟨g3,rfl,rfl,rfl,rfl,rfl⟩⟩,q3⟩
  | next=>exact LF hq'
  | brk=>exact LF hq'
  | cont=>exact LF hq'
def rO(C:IN)(sp:Sp)(EX:XS)(t:TA):TS:=λ_ σ H=>t σ H λvs H1=>vZ C sp EX σ vs H1
theorem jE(hcalm:X.sx=true)(c:Lc X.K C bm)(hbase:bm.contains (.type "BaseException")=true)(hi:LH X.K (.ref C) "__init__" = some (some (.ref f)))(hfn:PySem.W.isFn X.K (.ref f)=true)(F:Aj X.prog X.w X.K X.mg X.base Bh k f fd ps sp)(hr:Cj (k+1) X.A)(hb:Binds X.K fd ps [])(hg:Gl X x)(hm:X.mg x=some (.ref C))(ha:PA (X.thrown EX) (e::es) t)(hdb:(x == ("__debug__" : Str))=false:=by decide)(he:JS (e::es) X.env=(false,OA e X.env)::JS es X.env:=by rfl)(hpl:(PD cpos (JS es X.env)).any (·.1)=false:=by rfl)(hcl:X.calm=true:=by rfl):
 PS (X.thrown EX) (.Raise (some (.Call (.Name x p) (e::es) [] cpos)) none pos) (rO C sp EX t):=by
 intro pins s σ H D I h
 rw[arm_exec_Raise]
 refine IF (PK ?_)
 show JT _ _ (raiseStmt _ (some (do let v <- OA (.Call (.Name x p) (e::es) [] cpos) X.env;standAt pos;pure v)) none) _ _ _
 refine qQ c hbase (I.ok.st hcalm) (IF (Bx ?_ λv s1 z=>IF (PK (JA z))))
 refine NQ (Hg I hg hm ?_ hdb)
 refine MS (h₀:=X.base) I.ok.mod.kin c.kp (Bx (ha cpos pins s σ H _ I h) λus s1 ⟨vs,H1,I1,r,q⟩=>⟨I1.kIn,?_⟩) he hpl
 exact iF c hi hfn F hr hb hcl I1.unwish r q
end
section
variable {X:Cx} {pins:List (IN×Obj)} {σ:St} {H:Hp} {s:IL} {M:Model} {A:KG} {E:II->IL->Prop}
end
section
variable {X:Cx} {σ:St} {H:Hp} {s:IL} {x:IN}
end
section
variable {X:Cx} {EX:XS} {th:Ends->XS} {hs:List RM} {C:IN} {c n:Str} {i:Nat} {np pos:Pos} {b₀:NW} {suite:List NW} {tsu:TS}
end
end L2
namespace L2
open PySem PySem.Spec PyProof.Rows PyProof.V PySem.SeqAt
mutual
inductive DV(K:IG)(H:Hp):V->PyData->Prop
 | non:DV K H .non .none
 | bl (b:Bool):DV K H (.bl b) (.bool b)
 | int (i:Int):DV K H (.int i) (.int i)
 | str (x:Str):DV K H (.str x) (.str x)
 | lst {a:IN} {xs:List V} {ds:List PyData}:Av K H a xs->DVs K H xs ds->DV K H (.ref a) (.list ds)
 | tup {a:IN} {xs:List V} {ds:List PyData}:Cc K H a xs->DVs K H xs ds->DV K H (.ref a) (.tuple ds)
inductive DVs(K:IG)(H:Hp):List V->List PyData->Prop
 | nil:DVs K H [] []
 | cons {x:V} {xs:List V} {d:PyData} {ds:List PyData}:DV K H x d->DVs K H xs ds->DVs K H (x::xs) (d::ds)
end
section
variable {X:Cx} {pins:List (IN×Obj)} {σ:St} {H:Hp} {s:IL}
mutual
theorem DV.reads(I:Inv X pins σ H s):∀ {v:V} {d:PyData} {u:II},DV X.K H v d->RelV v u->∃as,Reads s.heap u d as
 | _,_,_,.non,r=>by cases r;exact⟨_,.none⟩
 | _,_,_,.bl b,r=>by cases r;exact⟨_,.bool b⟩
 | _,_,_,.int i,r=>by obtain⟨t,rfl⟩:=r;exact⟨_,.int i t⟩
 | _,_,_,.str x,r=>by obtain⟨t,rfl⟩:=r;exact⟨_,.str x t⟩
 | _,_,_,.lst hq ds,r=>by
  cases r
  obtain⟨its,rv,p,_⟩:=I.list hq
  obtain⟨as,ra⟩:=DVs.reads I ds rv
  obtain⟨o,ho,hc,n,hd⟩:=p.isList
  exact⟨_,Reads.list ho hc hd (by simpa using ra)⟩
 | _,_,_,.tup hq ds,r=>by
  cases r
  obtain⟨its,rv,p,_⟩:=I.tuple hq
  obtain⟨as,ra⟩:=DVs.reads I ds rv
  obtain⟨o,ho,hc,n,hd⟩:=p
  exact⟨_,Reads.tuple ho hc hd (by simpa using ra)⟩
theorem DVs.reads(I:Inv X pins σ H s):∀ {vs:List V} {ds:List PyData} {us:List II},DVs X.K H vs ds->Be vs us->∃as,ReadsAll s.heap us ds as
 | _,_,_,.nil,r=>by cases r;exact⟨_,.nil⟩
 | _,_,_,.cons d ds,r=>by
  cases r with
  | cons r1 r2=>
   obtain⟨as,ra⟩:=DV.reads I d r1
   obtain⟨bs,rb⟩:=DVs.reads I ds r2
   exact⟨_,.cons ra rb⟩
end
end
def CG(K:IG)(neg:Bool):R2:=λx y H Q=>∃d e,DV K H x d/\DV K H y e/\shaped d=true/\shaped e=true/\noMix d e=true/\Q (.bl (if neg then !same d e else same d e)) H
theorem qK{X:Cx}(hu:X.A.units+64 < cLine):Kl X (OJ .NotEq) (CG X.K true):=by
 intro pins s σ H x y v u Q I rx ry h
 obtain⟨d,e,hd,he,sd,se,hm,q⟩:=h
 obtain⟨as,ra⟩:=hd.reads I rx
 obtain⟨bs,rb⟩:=he.reads I ry
 exact ne_dataH_same ra rb sd se hu hm ⟨.bl _,H,I,rfl,q⟩
mutual
def Ij:PyData->Bool
 | .none | .bool _ | .int _=>true
 | .str x=>PyData.strOk x
 | .list xs | .tuple xs=>plainDs xs
 | .dict _=>false
def plainDs:List PyData->Bool
 | []=>true
 | x::xs=>Ij x && plainDs xs
end
mutual
theorem same_self:∀d:PyData,Ij d=true->same d d=true/\noMix d d=true/\d.canLay0=true
 | .none,_=>by simp[same,noMix,PyData.canLay0]
 | .bool b,_=>by simp[same,noMix,PyData.canLay0]
 | .int b,_=>by simp[same,noMix,PyData.canLay0]
 | .str b,h=>by simp only[Ij] at h;simp[same,noMix,PyData.canLay0,h]
 | .list xs,h=>by
  simp only[Ij] at h
  obtain⟨a,b,c⟩:=sames_self xs h
  simp[same,noMix,PyData.canLay0,a,b,c]
 | .tuple xs,h=>by
  simp only[Ij] at h
  obtain⟨a,b,c⟩:=sames_self xs h
  simp[same,noMix,PyData.canLay0,a,b,c]
 | .dict xs,h=>by simp[Ij] at h
theorem sames_self:∀ds:List PyData,plainDs ds=true->sameAll ds ds=true/\noMixAll ds ds=true/\PyData.canLayAll0 ds=true
 | [],_=>by simp[sameAll,noMixAll,PyData.canLayAll0]
 | x::xs,h=>by
  simp only[plainDs,LC] at h
  obtain⟨a,b,c⟩:=same_self x h.1
  obtain⟨a',b',c'⟩:=sames_self xs h.2
  simp[sameAll,noMixAll,PyData.canLayAll0,a,b,c,a',b',c']
end
theorem Rx{d:PyData}(h:Ij d=true)(hd:d.depth<=64):shaped d=true:=by
 show (d.canLay0 && decide (d.depth<=64))=true
 rw[(same_self d h).2.2,decide_eq_true hd]
 rfl
def zU(K:IG):V->List V->Hp->VK->Prop:=λx vs H Q=>∃l xs y j,x=.ref l/\vs=[y]/\Av K H l xs/\Jf y=true/\xs.all Jf=true/\(∃z,xs[j]? = some z/\fZ z y=true)/\(∀m z,m < j->xs[m]? = some z->fZ z y=false)/\Q (.int (j:Nat)) H
theorem Vm{X:Cx}:EM X "list.index" (zU X.K):=by
 intro pins s σ H x vs v us Q I rx rv h
 obtain⟨l,xs,y,j,rfl,rfl,hq,fy,fs,⟨z,hz,ez⟩,hno,q⟩:=h
 cases rx
 obtain⟨u,rfl,ru⟩:=vals1 rv
 obtain⟨its,r,pl,hsz⟩:=I.list hq
 have hlen:=r.length
 obtain⟨o,n,e,c,hd,dt⟩:=id pl
 have hj:j < xs.length:=(IH.mp hz).1
 have e':s.heap.get? l=some { cls:=.type "list", dict:=o.dict,data:=.seq its.toArray n,slots:=o.slots }:=by
  rw[e]
  obtain⟨oc,od,oda,osl⟩:=o
  simp only at c dt
  subst c dt
  rfl
 have val:∀(m:Nat)(hm:m < its.toArray.size),∃w,xs[m]? = some w/\pU y its.toArray[m]=fZ w y:=λm hm=>by
  have hm':m < xs.length:=by rw[JN] at hm;omega
  obtain⟨w2,hw2,rw2⟩:=r.get (IU hm')
  have hw3:its.toArray[m]=w2:=by
   have:=(IH.mp hw2).2
   simpa using this
  rw[hw3]
  exact⟨_,IU hm',cM rw2 (NL.mp fs _ (LQ hm'))⟩
 have hjs:j < its.toArray.size:=by rw[JN];omega
 refine call_meets PySem.F.slot_list_index ⟨_,e,c⟩ PySem.F.entry_list_index (PySem.F.args_list_index_2 _ _) (PySem.SeqAt.list_indexAt l its.toArray n o.dict o.slots u (pU y) j hjs ?_ ?_ ?_) ⟨e',λw hw=>Lk ru fy r fs w (by simpa using hw),⟨.int j,H,I.tok _,⟨_,rfl⟩,q⟩⟩
 ·have:=Jx
  omega
 ·obtain⟨w,hw,ew⟩:=val j hjs
  rw[hz] at hw
  cases hw
  rw[ew]
  exact ez
 ·intro m hm hmj
  obtain⟨w,hw,ew⟩:=val m hm
  rw[ew]
  exact hno m w hmj hw
end L2
namespace L2
open PySem PySem.Spec PyProof.Rows
def tQ(z:Nat)(it a:IN)(n:Int):HO:=.ext λh=>h.IsRevIter it a n/\z<=it
theorem vE{P:JJ}{w:KL}{H:Hp}{h:LO}{z:Nat}{it a:IN}{n:Int}(e:h.IsRevIter it a n)(hz:z<=it):Cz P w H h it (tQ z it a n):=⟨⟨e,hz⟩,let ⟨o,g,_⟩:=e;⟨o,g⟩,λh1 h2 ⟨a,b⟩ k=>⟨a.at k,b⟩⟩
theorem Inv.fpOf{X:Cx}{pins:List (IN×Obj)}{σ:St}{H:Hp}{s:IL}{x:IN}{φ:LO->Prop}(I:Inv X pins σ H s)(hx:H x=some (.ext φ))(hz:X.s₀.heap.objs.size<=x):Dk X pins (rem H x) x:=by
 have no:∀ {b},H b=none->x≠b:=λ{b} h e=>by subst e;rw[hx] at h;cases h
 refine⟨Jn,no I.free,λhb=>?_,.inr hz,λy c e=>KO (no (I.freeC y c e)),λp hp=>KO (no (I.pin p hp).2.1)⟩
 obtain⟨_,o,ho,_⟩:=I.ok.funs.mem hb
 exact no (I.base.free x o ho (I.ok.frf x hb) λz=>I.ok.exfs x z hb) rfl
theorem rY{H:Hp}{x:IN}{o:HO}(h:H x=none):rem (upd H x o) x=H:=by
 funext b
 by_cases e:b=x
 ·subst e
  rw[Jn,h]
 ·rw[Vf e,Ai e]
section
variable {prog:JJ} {w:KL} {A:KG} {E:II->IL->Prop} {s:IL}
theorem Su:typeLookup (.type "list_reverseiterator") "__len__" = pure none:=by rw[typeLookup_type,builtinLookup_eq_fast];kernel_rfl
theorem Wh:typeLookup (.type "list_reverseiterator") "__length_hint__" = pure (some (.builtin "list_reverseiterator.__length_hint__")):=by rw[typeLookup_type,builtinLookup_eq_fast];kernel_rfl
theorem Xa{Q:II->IL->Prop}{it l:IN}{items:Array II}(hh:A.handled=none)(hit:s.heap.IsRevIter it l ((items.size:Int)-1))(hl:s.heap.IsList l items)(hne:l≠it)(hn:items.size<=IK)(hQ:∀s' acc' c',Moved (s.heap.objs.size::[it]) (λa b=>b=a) { s with heap:=s.heap.push { cls:=.type "list", data:=.seq #[] } } s' ->
  s'.heap.get? s.heap.objs.size=some { cls:=.type "list", dict:=none,data:=.seq acc' c',slots:=#[] }->ItemsOf (λi v=>items[items.size-1-i]? = some v) acc' items.size->Q (.ref s.heap.objs.size) s'):
 JT (JV prog w) A (call (.type "list") [.ref it]) Q E s:=by
 have hiL:it < s.heap.objs.size:=let ⟨_,g,_⟩:=hit;JF g
 have hlL:l < s.heap.objs.size:=let ⟨_,g,_⟩:=hl;JF g
 have hSf:s.heap.objs.size∉[it,l]:=by
  simp only[IQ,JG,or_false,not_or]
  exact⟨OF hiL,OF hlL⟩
 have hSI:s.heap.objs.size≠it:=OF hiL
 refine callType_codes (Q₁:=λobj s₁=>obj=.ref s.heap.objs.size/\s₁={ s with heap:=s.heap.push { cls:=.type "list", data:=.seq #[] } }) PySem.F.called_list (PySem.F.typeCall_list_1 _) PySem.F.entry_list_init (code_list_new _ ⟨rfl,rfl⟩) ?_
 rintro obj s₁ ⟨rfl,rfl⟩
 have hS:(s.heap.push { cls:=.type "list", data:=.seq #[] }).get? s.heap.objs.size=some { cls:=.type "list", data:=.seq #[] }:=JI _ rfl
 refine⟨⟨_,hS,rfl⟩,PySem.F.args_list_init_2 _ _,?_⟩
 have hit1:=hit.at (h':=s.heap.push { cls:=.type "list", data:=.seq #[] }) λo e=>IJ _ e
 have hl1:=hl.push { cls:=.type "list", data:=.seq #[] }
 generalize hnew:s.heap.push { cls:=.type "list", data:=.seq #[] }=hp0 at hS hit1 hl1 hQ ⊢
 show JT _ A.in1.in1 (Builtin.List.listItems (.ref s.heap.objs.size) >>= λold=>Builtin.List.listUpdate (.ref s.heap.objs.size) (λ_=>#[]) >>= λ_=>letGo old.toList.reverse >>= λ_=>Builtin.List.listExtendWith (.ref s.heap.objs.size) (.ref it) .none) _ _ _
 refine IF (IF (ML hS rfl (JA ?_)))
 refine IF (m:=Builtin.List.listUpdate (.ref s.heap.objs.size) (λ_=>#[])) (show JT _ _ (updateSeq s.heap.objs.size (λ_=>#[])) _ _ _ from wpAny_updateSeq hS rfl (IF (QA ?_)))
 have hS2:=LM (RA (λ_=>(#[]:Array II))) hS rfl
 have oth:∀b o,b≠s.heap.objs.size->hp0.get? b=some o->(hp0.update s.heap.objs.size (RA (λ_=>(#[]:Array II)))).get? b=some o:=λb o hb e=>(KP _ _ (KO hb)).trans e
 have hit2:=hit1.at (h':=hp0.update s.heap.objs.size (RA (λ_=>(#[]:Array II)))) λo e=>oth it o (KO hSI) e
 have hl2:=hl1.at (h':=hp0.update s.heap.objs.size (RA (λ_=>(#[]:Array II)))) λo e=>oth l o (JP hlL) e
 generalize hup:hp0.update s.heap.objs.size (RA (λ_=>(#[]:Array II)))=hp1 at hS2 oth hit2 hl2 ⊢
 have hT:(⟨hp1,s.gens,s.drawn,s.toks,s.os⟩:IL).TypeIs (.ref it) "list_reverseiterator" := hit2.typeIs
 unfold Builtin.List.listExtendWith
 refine IF (wpAny_typeOf hT ?_)
 have h1:Builtin.List.listSameRef (.ref s.heap.objs.size) (.ref it)=false:=by simp[Builtin.List.listSameRef,hSI]
 have h2:(NR "list_reverseiterator" == NR "list")=false:=by decide
 have h3:(NR "list_reverseiterator" == NR "tuple")=false:=by decide
 simp only[h1,h2,h3,Bool.or_false,LZ,if_false]
 refine IF (wpAny_pyIter_revIter hit2 (IF (LI ?_)))
 have q1:=Su
 have q2:=Wh
 have q3:splitId "list_reverseiterator.__length_hint__" = some ("list_reverseiterator","__length_hint__"):=by decide +kernel
 have q4:isSubtype (.type "list_reverseiterator") (.type "list_reverseiterator")=pure true:=by rw[isSubtype_type];kernel_rfl
 unfold Builtin.List.listLengthHint
 refine IF (wpAny_specialOf hT Su ?_)
 show JT _ _ (specialOf (JD it) (MQ "__length_hint__") >>= _) _ _ _
 refine IF (wpAny_specialOf hT Wh ?_)
 simp only[q3]
 refine IF (QX hT q4 ?_)
 simp only[Bool.not_true,LZ,if_false]
 rw[if_pos (by decide +kernel),if_neg (by decide +kernel)]
 refine JA ?_
 rw[if_neg (by decide +kernel)]
 have hW:=(Walks.listRev (prog:=prog) (w:=w) (A:=A.in1.in1) (by simpa using hh) it l hne items).toS
 refine JA ⟨plainId_quiet PySem.F.plain_extend_loop _,codeAny_extend_loopS hW hn _ hSf .none items.size 0 _ _ _ rfl (KI _) ⟨KI _,by simpa using hit2,hl2⟩ hS2 (ItemsOf.nil _) λs' acc' c' hm hS' hacc=>⟨rfl,?_⟩⟩
 refine hQ s' acc' c' ?_ hS' hacc
 have m0:Moved [s.heap.objs.size,it] (λa b=>b=a) (⟨hp0,s.gens,s.drawn,s.toks,s.os⟩:IL) ⟨hp1,s.gens,s.drawn,s.toks,s.os⟩:=⟨λb o hb e=>oth b o (λh=>hb (by rw[h];exact JM)) e,rfl,rfl,rfl,IP _⟩
 exact Moved.trans hW.gtrans m0 hm
end
section
variable {X:Cx}
theorem boot_reversed:OM "reversed" = some (.type "reversed"):=by decide +kernel
theorem Rl:Gv X (.type "reversed") (λxs H Q=>∃a ys,xs=[.ref a]/\Av X.K H a ys/\∀it,H it=none->Q (.ref it) (upd H it (tQ X.s₀.heap.objs.size it a ((ys.length:Int)-1)))):=by
 intro pins s σ H xs us Q I r h
 obtain⟨a,ys,rfl,hq,q⟩:=h
 obtain⟨u,rfl,ru⟩:=vals1 r
 cases ru
 obtain⟨its,rv,p,_⟩:=I.list hq
 refine call_reversed_list p.isList ?_
 have hlen:=rv.length
 refine⟨.ref s.heap.objs.size,_,I.laid (t':=s.toks) (o:=tQ X.s₀.heap.objs.size s.heap.objs.size a ((ys.length:Int)-1)) (λb o e=>IJ _ e) (IP _) (vE ⟨_,JI _ rfl,rfl,?_⟩ I.sz),rfl,q _ (I.hok.fresh (IP _))⟩
 show Data.fields #[.ref a,PB _]=_
 rw[JN,hlen]
theorem Rh(hc:X.sx=true):Gv X (.type "list") (λxs H Q=>∃it a ys,xs=[.ref it]/\H it=some (tQ X.s₀.heap.objs.size it a ((ys.length:Int)-1))/\Av X.K H a ys/\∀l,H l=none->Q (.ref l) (upd (rem H it) l (.lst ys.reverse))):=by
 intro pins s σ H xs us Q I r h
 obtain⟨it,a,ys,rfl,hi,hq,q⟩:=h
 obtain⟨u,rfl,ru⟩:=vals1 r
 cases ru
 obtain⟨its,rv,p,hz⟩:=I.list hq
 have hlen:=rv.length
 obtain⟨hit0,hzi⟩:=(I.hok it _ hi).1
 have hit:s.heap.IsRevIter it a ((its.toArray.size:Int)-1):=by
  rw[JN,<- hlen]
  exact hit0
 have hne:a≠it:=λe=>by
  subst e
  obtain⟨o,g,c,_⟩:=hit
  obtain⟨o',g',c',_⟩:=p.isList
  rw[g] at g'
  cases g'
  rw[c] at c'
  exact absurd c' (by decide)
 refine Xa (I.ok.st hc) hit p.isList hne (by rw[JN];omega) λs' acc' c' hm hS hacc=>?_
 obtain⟨h',g',d',t',os'⟩:=s'
 obtain rfl:os'=s.os:=hm.os
 obtain rfl:d'=s.drawn:=hm.drawn
 obtain rfl:g'=s.gens:=hm.gens
 have k:∀b u,b∉[it]->s.heap.get? b=some u->h'.get? b=some u:=λb u hb e=>hm.heap b u (by
  simp only[IQ,JG,or_false,not_or] at hb ⊢
  exact⟨JP (JF e),hb⟩) (IJ _ e)
 have I0:=I.drop hi
 have f0:=I.fpOf hi hzi
 have J1:Inv X pins σ (rem H it) { s with heap:=h',toks:=t' }:=I0.turns (ch:=[it]) k λb hb=>by
  rw[IT.mp hb]
  exact f0
 have fD:Dk X pins H s.heap.objs.size:=I.fpOk (IP _) (I.hok.fresh (IP _))
 have ea:acc'.toList=its.reverse:=by
  obtain⟨hs1,hs2⟩:=hacc
  rw[JN] at hs1 hs2
  refine List.ext_getElem (by rw[LL];simpa using hs1) λj h1 h2=>?_
  rw[LL] at h2
  have e1:=hs2 j acc'.toList[j] (by rw[<- Array.getElem?_toList,IU h1])
  rw[List.getElem_reverse]
  have e2:its[its.length-1-j]? = some acc'.toList[j]:=by simpa using e1
  exact(IH.mp e2).2.symm
 have rv':Be ys.reverse acc'.toList:=by
  rw[ea]
  exact rv.reverse
 have J2:=J1.adopt (D:=s.heap.objs.size) (o:=.lst ys.reverse) (Jl fD.1) fD.2.1 I.sz fD.2.2.2.2.1 fD.2.2.2.2.2 ⟨by rw[LL];exact hz,acc'.toList,c',rv',by simpa using hS⟩
 exact⟨.ref s.heap.objs.size,_,J2,rfl,q _ fD.1⟩
end
def Wc(P:JJ)(w:KL)(a:IN)(n:Nat):HO:=.ext λh=>∃S,h.SetOf (OC P w) a S n
theorem Qu{P:JJ}{w:KL}{h h':LO}{a:IN}{S:Str->Bool}{n:Nat}(e:h.SetOf (OC P w) a S n)(k:∀o,h.get? a=some o->h'.get? a=some o):h'.SetOf (OC P w) a S n:=by
 obtain⟨o,es,ep,t,g,r⟩:=e
 exact⟨o,es,ep,t,k o g,r⟩
section
variable {prog:JJ} {w:KL} {A:KG} {R:Result->IL->Prop} {I:IN} {fp wr:List IN} {G:Array GenState->Array GenState->Prop} {n:Nat} {P:Nat->II->Prop} {St:Nat->IL->Prop}
theorem pI(W:WalksS prog w A.in1 I fp wr G n P St)(S:IN)(hS:S∉fp)(val:Nat->Str)(hval:∀i v,P i v->∃t,v=.str (val i) t)(hinj:∀i j,i < n->j < n->val i=val j->i=j)(hb:n+1 < scanBound):
 ∀(k i:Nat)(s:IL),n-i=k->i<=n->St i s->(∃f:Str->Bool,s.heap.SetOf (OC prog w) S f i/\∀x,f x=true->∃j,j < i/\x=val j) ->
  (∀s',Moved (S::wr) G s s'->(∃f:Str->Bool,s'.heap.SetOf (OC prog w) S f n)->R (.ok (.ret .none)) s') ->
  RE (JV prog w) A (.builtin "set.update.loop" ⟨[.ref S,.ref I],[]⟩) R s:=by
 have hw:S∉wr:=λh=>hS (W.sub _ h)
 have up:∀b∈wr,b∈S::wr:=λb hb=>JC _ hb
 intro k
 induction k with
 | zero=>
  intro i s hk hi st ⟨f,hf,_⟩ hR
  obtain rfl:i=n:=by omega
  refine OY PyProof.Rows.F.entry_set_update_loop ?_
  rw[OW QE _]
  refine IF (m:=OX (.ref I)) (W.done s _ _ st λs' hm=>JA (hR s' (hm.mono up) ⟨f,Qu hf λo e=>hm.heap S o hw e⟩))
 | succ k ih=>
  intro i s hk hi st ⟨f,hf,hfv⟩ hR
  have hlt:i < n:=by omega
  refine OY PyProof.Rows.F.entry_set_update_loop ?_
  rw[OW QE _]
  refine IF (m:=OX (.ref I)) (W.item i s _ _ hlt st λv s' hP st' hm=>?_)
  obtain⟨t,rfl⟩:=hval i v hP
  have hf':=Qu (h':=s'.heap) hf λo e=>hm.heap S o hw e
  refine IF (m:=holding [Value.str (val i) t] (setAdd S (.str (val i) t))) (LI ?_)
  unfold setAdd
  refine LI (IF ((OC prog w).pyHash (k:=val i) (PySem.strKind_is _ _ _ _) ?_))
  have hno:f (val i)=false:=by
   cases e:f (val i) with
   | false=>rfl
   | true=>
    obtain⟨j,hj,ej⟩:=hfv _ e
    have:=hinj i j hlt (by omega) ej
    omega
  refine wpAny_setAddHashed_of (knd:=OC prog w) (s:={ s' with toks:=s'.toks+1 }) (PySem.strKind_is _ _ _ _) rfl hf' (by omega) λh' sb h2=>?_
  rw[hno,if_neg IZ] at h2
  refine JA ⟨plainId_quiet QE _,ih (i+1) _ (by omega) hlt (W.frame _ s' _ _ st' (OU _) λb hb o e=>(sb.2 b (λh=>hS (h ▸ hb))).trans e) ⟨_,h2,λx hx=>?_⟩ λs2 m2 f2=>hR s2 ?_ f2⟩
  ·rw[Bool.or_eq_true] at hx
   rcases hx with z | z
   ·obtain⟨j,hj,e⟩:=hfv x z
    exact⟨j,by omega,e⟩
   ·exact⟨i,by omega,of_decide_eq_true z⟩
  ·exact Moved.trans W.gtrans ((hm.mono up).then_heap (OU _) λb o hb e=>(sb.2 b (λh=>hb (by rw[h];exact JM))).trans e) m2
end
section
variable {prog:JJ} {w:KL} {A:KG} {E:II->IL->Prop} {s:IL}
abbrev Gy(led:Bool):Obj:={ cls:=.type "set", dict:=none,data:=.set #[] 0 (.fresh 0 0 led) }
theorem Tn{l:IN}{items:Array II}{xs:List Str}{Q:II->IL->Prop}(hh:Bm A s.heap)(hl:s.heap.IsList l items)(hi:∀(i:Nat)(v:II),items[i]? = some v->∃(x:Str)(t:Tok),xs[i]? = some x/\v=Value.str x t)(hlen:items.size=xs.length)(hnd:xs.Nodup)(hb:xs.length+1 < scanBound)(h:∀h' tk,(∃f:Str->Bool,h'.SetOf (OC prog w) s.heap.objs.size f xs.length)->(∀b o,s.heap.get? b=some o->h'.get? b=some o)->Q (.ref s.heap.objs.size) { s with heap:=h',toks:=tk }):
 JT (JV prog w) A (call (.type "set") [.ref l]) Q E s:=by
 have hlS:l < s.heap.objs.size:=let ⟨_,g,_⟩:=hl;JF g
 obtain⟨c,tl,hmro⟩:=NJ.mro
 have hmade:=NJ.made
 have hsub:=NJ.sub
 refine QZ (codeAny_of_tree (show JT _ _ (callAny (.type "set") _) _ _ _ from JA ⟨RN _ (by decide +kernel),OY PySem.F.entry_type_call ?_⟩))
 rw[Around.under_plain (weight_type_call_type "set" [.ref l] []) rfl]
 have h1:=NJ.notType
 have h2:=NJ.canCreate
 have hct:=PySem.F.typeCall_set_1 (.ref l)
 repeat (any_goals (first | assumption | wp_step))
 refine OL (code_set_new_1 (.ref l) (E:=E) (Q₁:=λobj s₁=>∃led:Bool,obj=.ref s.heap.objs.size/\s₁={ s with heap:=s.heap.push (Gy led) }) λled=>⟨led,rfl,rfl⟩) λr s₁ hr=>?_
 rcases r with e | (obj | _ | _ | _)<;>first | exact hr | exact hr.elim | skip
 obtain⟨led,rfl,rfl⟩:=hr
 have hS:(s.heap.push (Gy led)).get? s.heap.objs.size=some (Gy led):=JI _ rfl
 have hT:Shared.TypeIs { s with heap:=s.heap.push (Gy led) } (.ref s.heap.objs.size) "set" := ⟨_,hS,rfl⟩
 have hli:=NJ.init.lookup
 have hbi:=NJ.init.bind (.ref s.heap.objs.size)
 repeat (any_goals (first | assumption | wp_step))
 refine OL (codeAny_call_builtin (R:=wants (λr s₂=>r=.none/\∃h' tk,s₂={ s with heap:=h',toks:=tk }/\(∃f:Str->Bool,h'.SetOf (OC prog w) s.heap.objs.size f xs.length)/\(∀b o,s.heap.get? b=some o->h'.get? b=some o)) E) NJ.init.plain PySem.F.entry_set_init (check_set_init_1 hT ?_)) λr₂ s₂ hr₂=>?_
 ·have hl1:(s.heap.push (Gy led)).IsList l items:=hl.push _
  obtain⟨⟨ocls,odict,odata,oslots⟩,hol,hcl,nl,hdl⟩:=id hl1
  simp only at hcl hdl
  subst hcl hdl
  have hsls:=PySem.F.sub_list_set
  have hslf:=PySem.F.sub_list_frozenset
  have hne:(NR "list" == NR "dict")=false:=by decide
  unfold Builtin.«set.__init__» noKeywords Builtin.Frozenset.updateFrom
  generalize hPI:pyIter=PI
  wp_walk
  subst hPI
  refine wpAny_pyIter_list hl1 (IF (wpAny_runValue ?_))
  have sz:(s.heap.push (Gy led)).objs.size=s.heap.objs.size+1:=NM _ _
  have hneI:l≠(s.heap.push (Gy led)).objs.size:=by rw[sz];exact JP (Nat.lt_succ_of_lt hlS)
  refine pI ((aH (A:=A.in1.in1.in1) _ l hneI items).toS) s.heap.objs.size ?_ (λi=>xs.getD i (MQ "")) ?_ ?_ (by omega) (items.size-0) 0 _ (by omega) (KI _) ⟨⟨_,JI _ rfl,rfl,rfl⟩,hl1.push _,hh.ext λb o e=>IJ _ (IJ _ e)⟩ ⟨λ_=>false,?_,λx hx=>absurd hx IZ⟩ ?_
  ·simp only[IQ,JG,or_false,not_or,sz]
   exact⟨JP (QJ _),OF hlS,λz=>absurd (Bm.lt (A:=A.in1.in1.in1) hh _ z) (OT _)⟩
  ·intro i v hv
   obtain⟨x,t,hx,e⟩:=hi i v hv
   exact⟨t,by rw[e,MJ,hx];rfl⟩
  ·intro i j hi' hj' e
   rw[hlen] at hi' hj'
   rw[MJ,MJ,IU hi',IU hj'] at e
   exact(List.getElem_inj hnd).mp e
  ·exact(setObjOf_fresh (knd:=OC prog w) led).setOf (IJ _ hS) (by unfold scanBound;omega)
  ·rintro⟨h',g',d',tk',os'⟩ hm ⟨f,hf⟩
   obtain rfl:g'=s.gens:=hm.gens
   obtain rfl:d'=s.drawn:=hm.drawn
   obtain rfl:os'=s.os:=hm.os
   refine JA (JA ⟨rfl,h',tk',rfl,⟨f,hlen ▸ hf⟩,λb o e=>hm.heap b o ?_ (IJ _ (IJ _ e))⟩)
   simp only[IQ,JG,or_false,not_or,sz]
   exact⟨JP (JF e),JP (Nat.lt_succ_of_lt (JF e))⟩
 ·rcases r₂ with e | (obj | _ | _ | _)<;>first | exact hr₂ | exact hr₂.elim | skip
  obtain⟨rfl,h',tk,rfl,hf,hk⟩:=hr₂
  repeat (any_goals (first | assumption | wp_step))
  exact h _ _ hf hk
end
section
variable {X:Cx}
theorem Rr:OM "set" = some (.type "set"):=by decide +kernel
theorem Js(hc:X.calm=true):Gv X (.type "set") (λys H Q=>∃(a:IN)(xs:List Str),ys=[.ref a]/\Av X.K H a (xs.map V.str)/\xs.Nodup/\xs.length+1 < scanBound/\∀p,H p=none->Q (.ref p) (upd H p (Wc X.prog X.w p xs.length))):=by
 intro pins s σ H ys us Q I r h
 obtain⟨a,xs,rfl,hq,hnd,hb,q⟩:=h
 obtain⟨u,rfl,ru⟩:=vals1 r
 cases ru
 obtain⟨its,rv,p,hz⟩:=I.list hq
 have hlen:=rv.length
 rw[IM] at hlen
 refine Tn (xs:=xs) (I.calmS hc) p.isList (λi v hv=>?_) (by rw[JN];exact hlen.symm) hnd hb λh' tk ⟨f,hf⟩ k=>?_
 ·have hv':its[i]? = some v:=by simpa using hv
  have hil:i < xs.length:=by rw[hlen];exact(IH.mp hv').1
  obtain⟨v2,e2,r2⟩:=rv.get (i:=i) (x:=.str xs[i]) (by rw[JU,IU hil]<;>rfl)
  rw[hv'] at e2
  cases e2
  obtain⟨t,e⟩:=r2
  exact⟨xs[i],t,IU hil,e⟩
 ·obtain⟨o,es,ep,t,g,rr⟩:=id hf
  exact⟨.ref s.heap.objs.size,_,I.laid (t':=tk) (o:=Wc X.prog X.w s.heap.objs.size xs.length) k (IP _) ⟨⟨f,hf⟩,⟨o,g⟩,λh1 h2 ⟨f1,e1⟩ k1=>⟨f1,Qu e1 k1⟩⟩,rfl,q _ (I.hok.fresh (IP _))⟩
theorem Kp:Gv X (.builtin "len") (λys H Q=>∃a n,ys=[.ref a]/\H a=some (Wc X.prog X.w a n)/\Q (.int (n:Nat)) H):=by
 intro pins s σ H ys us Q I r h
 obtain⟨a,n,rfl,ha,q⟩:=h
 obtain⟨u,rfl,ru⟩:=vals1 r
 cases ru
 obtain⟨f,o,es,ep,t,g,hex,hd,_,_,hb,hf,hn⟩:=(I.hok a _ ha).1
 subst hn
 exact call_len_set g hex hd hf (by unfold scanBound at hb;omega) ⟨.int (es.size:Nat),H,I.tok _,⟨_,rfl⟩,q⟩
end
section
variable {X:Cx} {K:IG} {a e:Expr} {ta te:TE}
def EC(K:IG)(ta:TE):TT:=λσ H Q=>ta σ H λx H'=>∃k,tZ K x H' k/\Q k H'
theorem Tl(ha:PE X a ta)(hK:X.K=K:=by rfl)(he:∀whole,isTrue a X.env whole=(do let v <- whole;standAt a.pos;holding [v] (truthy v)):=by intro _;rfl):PT X a (EC K ta):=by
 subst hK
 exact nG ha he
def rJ(K:IG):List V->Hp->VK->Prop:=λxs H Q=>∃p ys,xs=[.ref p]/\(Av K H p ys∨Cc K H p ys)/\∀l,H l=none->Q (.ref l) (upd H l (.lst ys))
theorem Pc(hK:X.K=K:=by rfl):Gv X (.type "list") (rJ K):=by
 subst hK
 exact Ef
def EL(K:IG):List V->Hp->VK->Prop:=λxs H Q=>∃x T t b,xs=[x,.ty T]/\Lg K H x t/\NT K t (.type T)=some b/\Q (.bl b) H
theorem Sx(hK:X.K=K:=by rfl):Gv X (.builtin "isinstance") (EL K):=by
 subst hK
 exact Dn
theorem qU(hK:X.K=K:=by rfl):AO X (gX K):=by
 subst hK
 exact Bc
theorem tM(hK:X.K=K:=by rfl):AO X (AY K):=by
 subst hK
 exact Au
theorem lY(hK:X.K=K:=by rfl):DE X (lM K):=by
 subst hK
 exact En
def zA:XS:=λ_ _ _ _=>False
theorem AT{X:Cx}{e:II}{s:IL}(h:Wx X zA e s):False:=by
 obtain⟨_,_,_,_,_,_,_,_,_,z⟩:=h
 exact z
end
section
variable {X:Cx}
theorem Ru:Kl X (OJ .LtE) (λx y H Q=>∃i j,x=.str i/\y=.str j/\Q (.bl (!decide (j.cps.toList < i.cps.toList))) H):=by
 intro pins s σ H x y v u Q I rx ry h
 obtain⟨i,j,rfl,rfl,q⟩:=h
 obtain⟨t,rfl⟩:=rx
 obtain⟨t',rfl⟩:=ry
 exact PySem.P.le_str (Bu I q rfl)
end
def yX(x:Str):It:=⟨λi _=>i < x.cps.size,λi H v H'=>H'=H/\∃c,x.cps[i]? = some c/\v=.str ⟨#[c]⟩,λi _=>x.cps.size<=i⟩
theorem oW{P:JJ}{w:KL}{K:IG}{tg:Expr}(x:Str)(t:Tok)(it:IN)(ty:String)(hty:ty = "str_ascii_iterator" ∨ ty = "str_iterator"):
 Turn P w K tg (yX x) [it] it (λi h=>h.IsStrIter it ty x t i) where
 mem:=by simp
 obj:=λi h st b hb=>by
  have e:b=it:=by simpa using hb
  subst e
  obtain⟨o,e,c,d⟩:=st
  exact⟨o,e,λv z=>by rw[d] at z;cases z⟩
 keep:=λi h h' st k=>by
  obtain⟨o,e,c⟩:=st
  exact⟨o,k it (by simp) o e,c⟩
 item:=by
  intro X hP hw hK hc i pins s σ H E I hf st hg
  subst hP hw hK
  obtain⟨f0,f1,f2,f3,f4,f5⟩:=hf it (by simp)
  have hlt:i < x.cps.size:=hg
  have hx:x.cps[i]? = some x.cps[i]:=by simp[hlt]
  rcases hty with rfl | rfl
  ·refine wpAny_pyNext_ascii_item st hx λh' st' sb=>?_
   have I1:Inv X pins σ H { s with heap:=h',toks:=s.toks+1 }:=I.turned (λb o hb e=>(sb.2 b hb).trans e) f0 f1 f3 f4 f5
   obtain⟨o,e,c,d⟩:=id st'
   exact⟨_,rfl,Xt (s:={ s with heap:=h',toks:=s.toks+1 }) e c d (by decide) ⟨.str ⟨#[x.cps[i]]⟩,H,I1,⟨_,rfl⟩,⟨rfl,_,hx,rfl⟩,st',λb hb=>(hf b hb).1⟩⟩
  ·refine wpAny_pyNext_wide_item st hx λh' st' sb=>?_
   have I1:Inv X pins σ H { s with heap:=h',toks:=s.toks+1 }:=I.turned (λb o hb e=>(sb.2 b hb).trans e) f0 f1 f3 f4 f5
   obtain⟨o,e,c,d⟩:=id st'
   exact⟨_,rfl,Xt (s:={ s with heap:=h',toks:=s.toks+1 }) e c d (by decide) ⟨.str ⟨#[x.cps[i]]⟩,H,I1,⟨_,rfl⟩,⟨rfl,_,hx,rfl⟩,st',λb hb=>(hf b hb).1⟩⟩
 done:=by
  intro X hP hw hK hc i pins s σ H E I hf st hg
  subst hP hw hK
  obtain⟨f0,f1,f2,f3,f4,f5⟩:=hf it (by simp)
  have hle:x.cps.size<=i:=hg
  have hx:x.cps[i]? = none:=by simp[hle]
  rcases hty with rfl | rfl
  ·exact qM (I.calmS hc) st hx λh' eb=>⟨rfl,I.turned (t':=s.toks) (λb o hb e=>eb b o hb e) f0 f1 f3 f4 f5⟩
  ·exact vT (I.calmS hc) st hx λh' eb=>⟨rfl,I.turned (t':=s.toks) (λb o hb e=>eb b o hb e) f0 f1 f3 f4 f5⟩
 self:=λ_ _ _ _ _ st h=>by
  rcases hty with rfl | rfl
  ·exact wpAny_pyIter_striter_ascii st h
  ·exact wpAny_pyIter_striter_wide st h
def FO(tl:TE):TI:=λσ H R=>tl σ H λx H1=>∃z,x=.str z/\R (yX z) H1
theorem xV{X:Cx}{tg l:Expr}{tl:TE}(hl:PE X l tl):PI X tg l (FO tl):=by
 intro pins s σ H R I h
 refine Bx (hl pins s σ H _ I h) λv s1 ⟨x,H1,I1,r1,q1⟩=>?_
 obtain⟨z,e,q⟩:=q1
 subst e
 obtain⟨t,rfl⟩:=r1
 refine wpAny_pyIter_strU ?_
 refine⟨s1.heap.objs.size,[s1.heap.objs.size],_,_,H1,rfl,I1.kept (t':=s1.toks) λb o e=>IJ _ e,oW z t _ (strIterType z) (by unfold strIterType;split;exact .inl rfl;exact .inr rfl),⟨_,JI _ rfl,rfl,rfl⟩,λb hb=>?_,q⟩
 have e:b=s1.heap.objs.size:=by simpa using hb
 subst e
 exact I1.fpOk (IP _) (I1.hok.fresh (IP _))
theorem DP{x:Str}{g:TG}{tb:TS}{D:Ends}{σ:St}{H:Hp}(Pv:Nat->St->Hp->Prop)(h0:Pv 0 σ H)(hs:∀i c σ H,x.cps[i]? = some c->Pv i σ H->g (.str ⟨#[c]⟩) σ H λσ2 H2=>tb { D with nx:=Pv (i+1),ct:=Pv (i+1),bk:=D.nx } σ2 H2)(hd:∀σ H,Pv x.cps.size σ H->D.nx σ H):
 ∃W:Nat->Nat->St->Hp->Prop,(∃m,W 0 m σ H)/\∀i m σ H,W i m σ H ->
  ((yX x).stop i H/\D.nx σ H)∨((yX x).go i H/\∃N:St->Hp->Prop,(∀σ' H',N σ' H'->∃m',m' < m/\W (i+1) m' σ' H')/\∀y H',(yX x).yld i H y H'->g y σ H' λσ2 H2=>tb { D with nx:=N,ct:=N,bk:=D.nx } σ2 H2):=by
 refine⟨λi m σ H=>m=x.cps.size-i/\i<=x.cps.size/\Pv i σ H,⟨x.cps.size,by simp,KI _,h0⟩,?_⟩
 rintro i m σ H ⟨rfl,hi,p⟩
 by_cases hlt:i < x.cps.size
 ·refine .inr ⟨hlt,Pv (i+1),λσ' H' p'=>⟨x.cps.size-(i+1),by omega,rfl,hlt,p'⟩,λy H' z=>?_⟩
  obtain⟨rfl,c,hc,rfl⟩:=z
  exact hs i c σ _ hc p
 ·have e:i=x.cps.size:=by omega
  subst e
  exact .inl ⟨IP _,hd σ H p⟩
theorem iA{x:Str}{n:Nat}{fr:List (Str×Nat)}{g:TG}{tc:TT}{te:TE}{σ:St}{H:Hp}{F:List V->Hp->Prop}(Pv:Nat->List V->Hp->Prop)(h0:Pv 0 [] H)(hs:∀i c ys H,x.cps[i]? = some c->Pv i ys H->g (.str ⟨#[c]⟩) (stC n fr σ) H λσ2 H2=>tc σ2 H2 λb H3=>if b=true then te σ2 H3 λy H4=>ys.length < IK/\Pv (i+1) (ys++[y]) H4 else Pv (i+1) ys H3)(hd:∀ys H,Pv x.cps.size ys H->F ys H):Fq n fr g tc te σ (yX x) H F:=by
 refine⟨λi m ys H=>m=x.cps.size-i/\i<=x.cps.size/\Pv i ys H,⟨x.cps.size,by simp,KI _,h0⟩,?_⟩
 rintro i m ys H ⟨rfl,hi,p⟩
 by_cases hlt:i < x.cps.size
 ·refine .inr ⟨hlt,Pv (i+1),λys' H' p'=>⟨x.cps.size-(i+1),by omega,rfl,hlt,p'⟩,λy H' z=>?_⟩
  obtain⟨rfl,c,hc,rfl⟩:=z
  exact hs i c ys _ hc p
 ·have e:i=x.cps.size:=by omega
  subst e
  exact .inl ⟨IP _,hd ys H p⟩
theorem Zo{x:Str}{n:Nat}{fr:List (Str×Nat)}{g:TG}{te:TE}{σ:St}{H:Hp}{F:List V->Hp->Prop}(Pv:Nat->List V->Hp->Prop)(h0:Pv 0 [] H)(hs:∀i c ys H,x.cps[i]? = some c->Pv i ys H->g (.str ⟨#[c]⟩) (stC n fr σ) H λσ2 H2=>te σ2 H2 λy H4=>ys.length < IK/\Pv (i+1) (ys++[y]) H4)(hd:∀ys H,Pv x.cps.size ys H->F ys H):Fq n fr g Sd te σ (yX x) H F:=iA Pv h0 (λi c ys H hx p=>hs i c ys H hx p) hd
def lE(C:IN)(m:Str)(sp:Sp)(dvs:List V)(EX:XS)(ta:TE)(t:TA):TE:=λσ H Q=>ta σ H λx H1=>∃a dx fs,x=.ref a/\H1 a=some (.ins C dx fs)/\fs.lookup m=none /\
 t σ H1 λvs H2=>sp (.ref a::(vs++dvs)) H2 Q (EX σ)
section
variable {X:Cx} {EX:XS} {k:Nat} {f C:IN} {fd:JW} {ps:List Str} {sp:Sp} {dvs:List V} {ds:List II} {x m:Str} {p pos apos:Pos} {e o:Expr} {es:List Expr} {ta:TE} {t:TA}
theorem Ez{pl:Sem Bool}(he:PE (X.thrown EX) o ta)(c:Vk X.K C)(hm:Cr X.K C m f)(F:Aj X.prog X.w X.K X.mg X.base (Hc X.prog X.w) k f fd ps sp)(hr:Cj k X.A)(hb:Binds X.K fd ps ds)(hd:Be dvs ds)(ha:PA (X.thrown EX) (e::es) t)(hst:JS (e::es) X.env=(false,OA e X.env)::JS es X.env:=by rfl)(hpl:(PD pos (JS es X.env)).any (·.1)=false:=by rfl)(ht:OA (.Call (.Attribute o m apos) (e::es) [] pos) X.env=(do
  let ov <- OA o X.env
  standAt apos.atName
  let (f,first) <- holding [ov] (getMethod ov m pl)
  callWith pos f first (PD pos (JS (e::es) X.env)) (backToKw pos (QC [] X.env))):=by rfl)(hcs:X.calm=true/\X.sx=true:=by exact⟨rfl,rfl⟩):
 PE (X.thrown EX) (.Call (.Attribute o m apos) (e::es) [] pos) (lE C m sp dvs EX ta t):=by
 intro pins s σ H Q I h
 refine OD (pl:=pl) (Bx (he pins s σ H _ I h) λu s1 ⟨x,H1,I1,rx,a,dx,fs,ex,ea,l,q⟩=>?_) ht
 subst ex
 obtain rfl:u=JD a:=rx
 refine Fu I1 ea c hm l ?_
 refine MS (first:=[.ref a]) (h₀:=X.base) I.ok.mod.kin hm.kp (Bx (ha pos pins s1 σ H1 _ I1 q) λus s2 ⟨vs,H2,I2,r,q2⟩=>⟨I2.kIn,?_⟩) hst hpl
 exact Ut (us:=.ref a::us) (vs:=.ref a::vs) F hr hb hd hcs I2 (.cons rfl r) q2
theorem jI{pl:Sem Bool}(he:PE (X.thrown EX) o ta)(c:Vk X.K C)(hm:Cr X.K C m f)(F:Aj X.prog X.w X.K X.mg X.base (Hc X.prog X.w) k f fd ps sp)(hr:Cj k X.A)(hb:Binds X.K fd ps ds)(hd:Be dvs ds)(ht:OA (.Call (.Attribute o m apos) [] [] pos) X.env=(do
  let ov <- OA o X.env
  standAt apos.atName
  let (f,first) <- holding [ov] (getMethod ov m pl)
  callWith pos f first (PD pos (JS [] X.env)) (backToKw pos (QC [] X.env))):=by rfl)(hcs:X.calm=true/\X.sx=true:=by exact⟨rfl,rfl⟩):
 PE (X.thrown EX) (.Call (.Attribute o m apos) [] [] pos) (lE C m sp dvs EX ta Wk):=by
 intro pins s σ H Q I h
 refine OD (pl:=pl) (Bx (he pins s σ H _ I h) λu s1 ⟨x,H1,I1,rx,a,dx,fs,ex,ea,l,q⟩=>?_) ht
 subst ex
 obtain rfl:u=JD a:=rx
 refine Fu I1 ea c hm l ?_
 exact PySem.W.callWith_K0 (first:=[.ref a]) I1.kIn hm.kp (Ut (us:=[.ref a]) (vs:=[.ref a]) F hr hb hd hcs I1 (.cons rfl .nil) q)
end
section
variable {X:Cx} {pins:List (IN×Obj)} {σ:St} {H:Hp} {s:IL} {d:IN} {kvs:List (Key×V)} {o:Obj}
end
theorem PE.imp{X:Cx}{e:Expr}{t t':TE}(h:PE X e t)(i:∀σ H Q,t' σ H Q->t σ H Q):PE X e t':=λpins s σ H Q I hw=>h pins s σ H Q I (i σ H Q hw)
theorem Kd{X:Cx}{tail body:List NW}{G:TS->Prop}(Pr:TS->Prop)(h:∃tt,Hs X tail tt/\Pr tt)(k:∀tt,Hs X tail tt->Pr tt->∃t,Hs X body t/\G t):∃t,Hs X body t/\G t:=let ⟨tt,a,b⟩:=h;k tt a b
def fBody:NW->List NW
 | .For _ _ b _ _=>b
 | _=>[]
structure Nj(K:IG)(x qual:Str)(st:NW)(f:IN)(fd:JW)(T:IN):Prop where
 ex:∃(oc:II)(od:Option IN)(kV doc pm:II)(an:Option IN)(cdv ct:II)(osl:Array (Option II)),
  fd=OS x qual (Dz st) (Bg st) (Ae st) (.ref T) kV doc pm an cdv ct/\K.lookup f=some ⟨oc,od,.func fd,osl⟩/\PySem.W.codeIn K cdv qual=true
 kp:IR K (.ref f)=true
section
variable {P:JJ} {w:KL} {K:IG} {mg:Str->Option II} {base:LO}
theorem Nj.ok{x qual:Str}{st:NW}{f T:IN}{fd:JW}{N ps:List Str}{k:Nat}{sp:Sp}(F:Nj K x qual st f fd T)(S:Ap N ps (Ae st))(len:∀vs H Q E,sp vs H Q E->vs.length=ps.length)(hbody:∀(cdv:II)(A:KG)(outer:List Env)(s:IL)(H:Hp)(vs:List V)(Q:VK)(E:XK),Cj k (A.deeper (envOfC qual (Ae st) s.heap.objs.size f cdv))->sp vs H Q E ->
  ∃t,Hs (Em Bh P w K mg base N qual (Ae st) f cdv A outer s H E).nox (Bg st) t/\t { nx:=λ_ H'=>Q .non H',rt:=Q } (start N vs) H):Aj P w K mg base Bh (k+1) f fd ps sp:=by
 obtain⟨oc,od,kV,doc,pm,an,cdv,ct,osl,rfl,lk,hcd⟩:=F.ex
 refine Wn lk hcd S len λA outer s H vs Q E hr hsp=>?_
 obtain⟨t,h,q⟩:=hbody cdv A outer s H vs Q E hr hsp
 exact⟨t,h.nox,q⟩
theorem Nj.binds{x qual:Str}{st:NW}{f T:IN}{fd:JW}{ps:List Str}{ds:List II}{o:Obj}{items:Array II}{n:Nat}(F:Nj K x qual st f fd T)(ho:K.lookup T=some o)(hs:o.data=.seq items n)(m:Nat)(hm:m+ds.length=ps.length)(h:∀(kV doc pm:II)(an:Option IN)(cdv ct:II)(us:List II),us.length=m->∃k:Option (Array II)->Sem (List (Str×II)),bindArgs (OS x qual (Dz st) (Bg st) (Ae st) (.ref T) kV doc pm an cdv ct) ⟨us,[]⟩=(seqItems? (.ref T) >>= k)/\k (some items)=pure (ps.zip (us++ds))):Binds K fd ps ds:=by
 obtain⟨oc,od,kV,doc,pm,an,cdv,ct,osl,rfl,lk,hcd⟩:=F.ex
 intro s us KX hl
 obtain⟨k,h1,h2⟩:=h kV doc pm an cdv ct us (by rw[IV] at hl;omega)
 exact PySem.W.binds_K KX rfl ho hs h1 h2
theorem gG{x qual:Str}{st:NW}{f T:IN}{oc:II}{od an:Option IN}{osl:Array (Option II)}{kV doc pm cdv ct:II}(l:K.lookup f=some ⟨oc,od,.func (OS x qual (Dz st) (Bg st) (Ae st) (.ref T) kV doc pm an cdv ct),osl⟩)(c:PySem.W.codeIn K cdv qual=true)(k:IR K (.ref f)=true):Nj K x qual st f (OS x qual (Dz st) (Bg st) (Ae st) (.ref T) kV doc pm an cdv ct) T:=⟨⟨oc,od,kV,doc,pm,an,cdv,ct,osl,rfl,l,c⟩,k⟩
end
def tK(lo:Int)(n:Nat):It:=⟨λi _=>i < n,λi H x H'=>H'=H/\x=.int (lo-i),λi _=>n<=i⟩
theorem gO{P:JJ}{w:KL}{K:IG}{tg:Expr}(it:IN)(lo:Int)(n:Nat):Turn P w K tg (tK lo n) [it] it (λi h=>IsRangeIter h it (lo+(i:Nat) * (-1)) ((n:Int)-(i:Nat)) (-1)) where
 mem:=by simp
 obj:=λi h st b hb=>by
  have e:b=it:=by simpa using hb
  subst e
  exact⟨_,st,λv z=>by
   have z':Data.fields _=Data.cell v:=z
   cases z'⟩
 keep:=λi h h' st k=>k it (by simp) _ st
 item:=by
  intro X hP hw hK hc i pins s σ H E I hf st hg
  subst hP hw hK
  obtain⟨f0,f1,f2,f3,f4,f5⟩:=hf it (by simp)
  have W0:True:=trivial
  refine Yd i s _ _ hg st λv h' tk hv st' kk=>?_
  obtain⟨t,rfl⟩:=hv
  have I1:Inv X pins σ H { s with heap:=h',toks:=tk }:=I.turned (λb o hb e=>kk b o (by simpa using hb) e) f0 f1 f3 f4 f5
  refine⟨_,rfl,Xt (s:={ s with heap:=h',toks:=tk }) (n := "range_iterator") st' rfl rfl (by decide) ⟨.int (lo-i),H,I1,⟨t,?_⟩,⟨rfl,rfl⟩,st',λb hb=>(hf b hb).1⟩⟩
  rw[show lo+(i:Int) * (-1)=lo-(i:Int) by omega]
 done:=by
  intro X hP hw hK hc i pins s σ H E I hf st hg
  subst hP hw hK
  obtain⟨f0,f1,f2,f3,f4,f5⟩:=hf it (by simp)
  exact Wi (I.calmS hc) st (by have:n<=i:=hg;omega) λh' eb=>⟨rfl,I.turned (t':=s.toks) (λb o hb e=>eb b o hb e) f0 f1 f3 f4 f5⟩
 self:=λ_ _ _ _ _ st h=>wpAny_pyIter_rangeiter st h
theorem iL(lo hi:Int):RO lo hi (-1)=(((lo-hi).toNat:Nat):Int):=by
 unfold RO
 rw[if_neg (by decide)]
 split<;>simp<;>omega
theorem lU{a b:Int}(ha : -(2 ^ 62)<=a)(ha':a < 2 ^ 62)(hb : -(2 ^ 62)<=b)(hb':b < 2 ^ 62):Builtin.Range.small a b (-1)=true:=PySem.W.small_down ha ha' hb hb'
section
variable {X:Cx} {tg:Expr}
theorem uM{pins:List (IN×Obj)}{σ:St}{H:Hp}{s:IL}{R:It->Hp->Prop}{E:II->IL->Prop}{lo hi:Int}{t u v:Tok}{tk:Nat}(I:Inv X pins σ H s)(h1 : -(2 ^ 62)<=lo)(h2:lo < 2 ^ 62)(h3 : -(2 ^ 62)<=hi)(h4:hi < 2 ^ 62)(q:R (tK lo (lo-hi).toNat) H):JT (JV X.prog X.w) X.A (pyIter (.ref s.heap.objs.size)) (DT X pins σ tg R) E { s with heap:=s.heap.push { cls:=.type "range", data:=.fields #[.int lo t,.int hi u,.int (-1) v] },toks:=tk }:=by
 refine wpAny_pyIter_range (IsRange.new ..) (lU h1 h2 h3 h4) ?_
 have I1:Inv X pins σ H { s with heap:=s.heap.push { cls:=.type "range", data:=.fields #[.int lo t,.int hi u,.int (-1) v] },toks:=tk }:=I.kept λb o e=>IJ _ e
 refine⟨(s.heap.push { cls:=.type "range", data:=.fields #[.int lo t,.int hi u,.int (-1) v] }).objs.size,[(s.heap.push { cls:=.type "range", data:=.fields #[.int lo t,.int hi u,.int (-1) v] }).objs.size],_,_,H,rfl,
  I1.kept (t':=tk) λb o e=>IJ _ e,gO _ lo (lo-hi).toNat,?_,λb hb=>?_,q⟩
 ·have e1:lo+((0:Nat):Int) * (-1)=lo:=by simp
  have e2:(((lo-hi).toNat:Nat):Int)-((0:Nat):Int)=RO lo hi (-1):=by rw[iL];simp
  show IsRangeIter _ _ (lo+((0:Nat):Int) * (-1)) ((((lo-hi).toNat:Nat):Int)-((0:Nat):Int)) (-1)
  rw[e1,e2]
  exact JI _ rfl
 ·have e:b=(s.heap.push { cls:=.type "range", data:=.fields #[.int lo t,.int hi u,.int (-1) v] }).objs.size:=by simpa using hb
  subst e
  exact I1.fpOk (IP _) (I1.hok.fresh (IP _))
def AU(ta:TA):TI:=λσ H R=>ta σ H λvs H1=>∃i j:Int,vs=[.int i,.int j,.int (-1)]/\(-(2 ^ 29)<=i/\i < 2 ^ 29 /\ -(2 ^ 29)<=j/\j < 2 ^ 29)/\R (tK i (i-j).toNat) H1
theorem vI{a b c:Expr}{ta:TA}{p pos:Pos}(hg:Gl X "range")(hm:X.mg "range" = none)(ha:PA X [a,b,c] ta)(hs:JS [a,b,c] X.env=[(false,OA a X.env),(false,OA b X.env),(false,OA c X.env)]:=by rfl)(hs2:JS [b,c] X.env=[(false,OA b X.env),(false,OA c X.env)]:=by rfl):
 PI X tg (.Call (.Name "range" p) [a,b,c] [] pos) (AU ta):=by
 intro pins s σ H R I h
 refine Call_ (Ib I hg hm boot_range (MG (Bx (ha pos pins s σ H _ I h) λus s1 ⟨vs,H1,I1,r1,q1⟩=>?_) (by rw[hs,hs2]) (by rw[hs2];rfl)))
 obtain⟨i,j,e,⟨q1,q2,q3,q4⟩,q⟩:=q1
 subst e
 cases r1 with
 | cons r rr=>
  cases rr with
  | cons r' rr=>
   cases rr with
   | cons r'' rr=>
    cases rr
    obtain⟨t,rfl⟩:=r
    obtain⟨t',rfl⟩:=r'
    obtain⟨t'',rfl⟩:=r''
    exact call_range_3 (by decide) (uM I1 (by omega) (by omega) (by omega) (by omega) q) (Or.inl (PyProof.noPylong_small (by decide)))
end
def Ys(P:JJ)(w:KL)(K:IG)(a:IN)(kvs:List (Key×V)):Prop:=
 ∃(o:Obj)(es:Array DictEntry)(ep:Nat)(vs:List (Key×II)),K.lookup a=some o/\o.ExactDict/\o.data=.dict es ep/\KeysOf (Bz P w) es/\Pairs (Bz P w) es.toList vs/\(vs.map (·.1)).Nodup/\KV kvs vs/\(a == NG)=false
theorem Ys.at_{X:Cx}{pins:List (IN×Obj)}{σ:St}{H:Hp}{s:IL}{a:IN}{kvs:List (Key×V)}(I:Inv X pins σ H s)(d:Ys X.prog X.w X.K a kvs):(a == NG)=false/\∃vs,KV kvs vs/\s.heap.DictOf (Bz X.prog X.w) a vs:=by
 obtain⟨o,es,ep,vs,lk,x,da,hk,hp,hn,kv,sm⟩:=d
 exact⟨sm,vs,kv,o,es,ep,I.kIn _ _ lk,x,da,hk,hp,hn⟩
def BA(P:JJ)(w:KL)(K:IG)(td ty:TE):TE:=λσ H Q=>td σ H λx H1=>∃a kvs,x=.ref a/\Ys P w K a kvs/\ty σ H1 λy H2=>∃k,y=kV k/\Q ((valV kvs k).getD .non) H2
theorem tN{X:Cx}{o e:Expr}{apos cpos:Pos}{td ty:TE}(ho:PE X o td)(he:PE X e ty)(m:M1 X o "get" apos e cpos):PE X (.Call (.Attribute o "get" apos) [e] [] cpos) (BA X.prog X.w X.K td ty):=by
 intro pins s σ H Q I h
 refine wpAny_Call_method m.base m.few m.line QP PN PySem.F.type_dict_get (Bx (ho pins s σ H _ I h) λu s1 ⟨x,H1,I1,rx,a,kvs,ex,d,q1⟩=>?_)
 subst ex
 obtain rfl:u=JD a:=rx
 obtain⟨sm,vs,kv,dd⟩:=Ys.at_ I1 d
 refine⟨dd.typeIs,λb q=>?_,?_⟩
 ·cases q
  obtain⟨ob,_,_,h1,h2,_⟩:=dd
  exact⟨ob,h1,h2.2.1⟩
 rw[m.trees]
 refine OG rfl (QO (OR (Bx (he pins s1 σ H1 _ I1 q1) λiv s2 ⟨y,H2,I2,ry,k,ey,q2⟩=>Calls.spliced_nil ?_)))
 subst ey
 obtain⟨sm,vs,kv,dd⟩:=Ys.at_ I2 d
 refine call_meetsIn PN dd.typeIs PySem.F.entry_dict_get (PySem.F.args_dict_get_2 _ _) (meets_dict_get (Bz X.prog X.w) a (Lv ry) sm) ⟨_,dd.mapOf,?_⟩
 exact⟨_,H2,I2.tok _,(kv.val k).getD (d:=.non) (d':=.none) rfl,q2⟩
section
variable {prog:JJ} {w:KL} {A:KG} {E:II->IL->Prop} {s:IL}
theorem cX{it t:IN}{i:Nat}{its:Array II}{x:II}{Q:II->IL->Prop}(hi:s.heap.IsTupleIter it t i)(ht:s.heap.IsTuple t its)(hx:its[i]? = some x)(q:∀h',h'.IsTupleIter it t (i+1)->OQ it s.heap h'->Q x { s with heap:=h' }):JT (JV prog w) A (KS (.ref it)) Q E s:=by
 obtain⟨o,e1,e2,e3⟩:=id hi
 obtain⟨u,g1,_,k,g2⟩:=ht
 unfold KS
 refine IF (KU (name:=MQ "__next__") hi.typeIs QN (LU QN hi.typeIs F.entry_tuple_iterator_next ?_ (F.args_tuple_iterator_next_1 _)))
 change JT (JV prog w) _ (field (JD it) 0 >>= _) _ _ _
 refine IF (JX e1 e3 (x:=JD t) rfl ?_)
 change JT (JV prog w) _ (if (JD t == LX)=true then _ else _) _ _ _
 have nt:¬ ((JD t == LX)=true):=IZ
 rw[if_neg nt]
 change JT (JV prog w) _ (field (JD it) 1 >>= _) _ _ _
 refine IF (JX e1 e3 (x:=Value.int i 0) rfl ?_)
 change JT (JV prog w) _ (seqItems? (JD t) >>= _) _ _ _
 refine IF (ML g1 g2 ?_)
 simp only[hx,LR]
 refine IF (MO e1 e3 (by simp) (JA ⟨x,rfl,JA (q _ ⟨_,LM _ e1 (QF (PY e3 _)),(Obj.cls_mapFields ..).trans e2,?_⟩ (NH ..))⟩))
 rw[PY e3]
 simp[PB]
theorem jA{it t:IN}{i:Nat}{its:Array II}{Q:II->IL->Prop}(hh:Bm A s.heap)(hi:s.heap.IsTupleIter it t i)(ht:s.heap.IsTuple t its)(hx:its[i]? = none)(q:∀h' e,NA it s.heap h'->(∃o,h'.get? e=some o/\o.cls=.type "StopIteration")->E (.ref e) { s with heap:=h' }):JT (JV prog w) A (KS (.ref it)) Q E s:=by
 obtain⟨o,e1,e2,e3⟩:=id hi
 obtain⟨u,g1,_,k,g2⟩:=ht
 unfold KS
 refine IF (KU (name:=MQ "__next__") hi.typeIs QN (LU QN hi.typeIs F.entry_tuple_iterator_next ?_ (F.args_tuple_iterator_next_1 _)))
 change JT (JV prog w) _ (field (JD it) 0 >>= _) _ _ _
 refine IF (JX e1 e3 (x:=JD t) rfl ?_)
 change JT (JV prog w) _ (if (JD t == LX)=true then _ else _) _ _ _
 have nt:¬ ((JD t == LX)=true):=IZ
 rw[if_neg nt]
 change JT (JV prog w) _ (field (JD it) 1 >>= _) _ _ _
 refine IF (JX e1 e3 (x:=Value.int i 0) rfl ?_)
 change JT (JV prog w) _ (seqItems? (JD t) >>= _) _ _ _
 refine IF (ML g1 g2 ?_)
 simp only[hx,LR]
 refine IF (NF (IF (MO e1 e3 (by simp) ?_)))
 exact Es (hh.in1.upd (Jw e1 e3)) λh' e kp ty=>q h' e (λb o hb g=>kp _ _ ((KP _ _ (KO hb)).trans g)) ty
end
theorem Qp{h:LO}{it t:IN}{i:Nat}(hit:h.IsTupleIter it t i):∀o vs,h.get? it=some o->o.data=.fields vs->¬ vs[2]? = some .none:=
 let ⟨_,g,_,d⟩:=id hit
 Jw g d
theorem gF{prog:JJ}{w:KL}{A:KG}(it t:IN)(ne:t≠it)(its:Array II):Draws prog w A it (it::t::Nn A) its.size (λi v=>its[i]? = some v) (λi h=>h.IsTupleIter it t i/\h.IsTuple t its/\Bm A h) where
 live:=λ_ _ ⟨⟨o,e,_⟩,_⟩=>⟨o,e⟩
 frame:=λ_ _ _ ⟨h1,⟨o,e,r⟩,hh⟩ k=>⟨h1.at λo e=>k it (by simp) o e,⟨o,k t (by simp) o e,r⟩,hh.keep λb hb o e=>k b (JC _ (JC _ hb)) o e⟩
 item:=λi s Q E hi ⟨h1,h2,hh⟩ q=>cX h1 h2 (x:=its[i]) (by simp[hi]) λh' a b=>q _ h' s.toks (by simp[hi]) ⟨a,(let ⟨o,e,r⟩:=h2;⟨o,b.extBut _ _ ne e,r⟩),hh.but (Qp h1) b.extBut⟩ b
 done:=λs Q E ⟨h1,h2,hh⟩ q=>jA hh h1 h2 (by simp) q
structure Hr(n:IN)(fp1 fp2:List IN):Prop where
 m1:∀c∈fp1,c=n∨(c≠n+1/\c≠n+3/\c≠n+4)
 m2:∀c∈fp2,c=n+1∨(c≠n/\c≠n+3/\c≠n+4)
section
variable {prog:JJ} {w:KL} {A:KG} {E:II->IL->Prop} {s:IL} {n:IN} {fp1 fp2:List IN} {n1 n2:Nat} {P1 P2:Nat->II->Prop} {S1 S2:Nat->LO->Prop}
theorem Sw(Z:Hr n fp1 fp2){c:IN}(h:c∈fp1):c≠n+1/\c≠n+3/\c≠n+4:=by
 rcases Z.m1 c h with rfl | r
 ·exact⟨ap c 0 1 (by decide),ap c 0 3 (by decide),ap c 0 4 (by decide)⟩
 ·exact r
theorem Nc(Z:Hr n fp1 fp2){c:IN}(h:c∈fp2):c≠n/\c≠n+3/\c≠n+4:=by
 rcases Z.m2 c h with rfl | r
 ·exact⟨ap n 1 0 (by decide),ap n 1 3 (by decide),ap n 1 4 (by decide)⟩
 ·exact r
theorem iY(Z:Hr n fp1 fp2)(D1:Draws prog w A n fp1 n1 P1 S1)(D2:Draws prog w A (n+1) fp2 n2 P2 S2){a b:II}{i:Nat}{Q:II->IL->Prop}(hz:IsZip s.heap (n+4) (n+2) (n+3) .none)(hI:OZ s.heap (n+2) (.ref n) (.ref (n+1)))(hO:OZ s.heap (n+3) a b)(h1:S1 i s.heap)(h2:S2 i s.heap)(l1:i < n1)(l2:i < n2)(q:∀x y h' tk,P1 i x->P2 i y->IsZip h' (n+4) (n+2) (n+3) (PB s.heap.objs.size)->OZ h' (n+3) x y->S1 (i+1) h'->S2 (i+1) h'->OZ h' s.heap.objs.size x y->h'.objs.size=s.heap.objs.size+1 ->
  (∀c o,c≠n+4->c≠n+3->c≠n->c≠n+1->s.heap.get? c=some o->h'.get? c=some o)->Q (.ref s.heap.objs.size) { s with heap:=h',toks:=tk }):
 JT (JV prog w) A (Builtin.«zip.__next__» ⟨[.ref (n+4)],[]⟩) (λfin s'=>∃v,fin=.done (.ret v)/\Q v s') E s:=by
 have d34:n+3≠n+4:=ap n 3 4 (by decide)
 have d04:n≠n+4:=ap n 0 4 (by decide)
 have d14:n+1≠n+4:=ap n 1 4 (by decide)
 have d30:n+3≠n:=ap n 3 0 (by decide)
 have d31:n+3≠n+1:=ap n 3 1 (by decide)
 have d01:n≠n+1:=ap n 0 1 (by decide)
 change JT (JV prog w) _ (field (JD (n+4)) 2 >>= _) _ _ _
 refine IF (JX hz rfl (x:=Value.bool false) rfl ?_)
 change JT (JV prog w) _ (field (JD (n+4)) 3 >>= _) _ _ _
 refine IF (JX hz rfl (x:=JD (n+2)) rfl (IF (ML hI rfl ?_)))
 change JT (JV prog w) _ (LY (JD (n+4)) >>= _) _ _ _
 unfold LY
 refine IF (IF (JX hz rfl (x:=LX) rfl (JA ?_)))
 simp only[if_true]
 refine IF (NF (IF (JX hz rfl (x:=JD (n+3)) rfl (IF (MW hz (by simp) λg1 z1 t1=>?_)))))
 replace z1:IsZip g1 (n+4) (n+2) (n+3) .ellipsis:=z1
 refine IF ?_
 simp only[List.forIn_cons,List.forIn_nil,List.zipIdx_cons,List.zipIdx_nil]
 -- the first one
 refine IF (IF (wpAny_onRaise ?_))
 change JT (JV prog w) _ (KS (JD n) >>= _) _ _ _
 refine IF (D1.item i { s with heap:=g1 } _ _ l1 (D1.frame i _ _ h1 λc hc o e=>t1.extBut _ _ (Sw Z hc).2.2 e) λx g2 k2 px h1' t2=>JA ?_)
 have o2:OZ g2 (n+3) a b:=t2.extBut _ _ d30 (t1.extBut _ _ d34 hO)
 refine IF (ML (s:={ s with heap:=g2,toks:=k2 }) o2 rfl (IF (wpAny_updateSeq_pair (s:={ s with heap:=g2,toks:=k2 }) o2 λg3 o3 t3=>?_)))
 replace o3:OZ g3 (n+3) x b:=o3
 refine IF (QA (JA ?_))
 -- the second one
 refine IF (IF (wpAny_onRaise ?_))
 change JT (JV prog w) _ (KS (JD (n+1)) >>= _) _ _ _
 refine IF (D2.item i { s with heap:=g3,toks:=k2 } _ _ l2 (D2.frame i _ _ h2 λc hc o e=>t3.extBut _ _ (Nc Z hc).2.1 (t2.extBut _ _ (Nc Z hc).1 (t1.extBut _ _ (Nc Z hc).2.2 e))) λy g4 k4 py h2' t4=>JA ?_)
 have o4:OZ g4 (n+3) x b:=t4.extBut _ _ d31 o3
 refine IF (ML (s:={ s with heap:=g4,toks:=k4 }) o4 rfl (IF (wpAny_updateSeq_pair (s:={ s with heap:=g4,toks:=k4 }) o4 λg5 o5 t5=>?_)))
 replace o5:OZ g5 (n+3) x y:=o5
 refine IF (QA (JA (JA (IF (ML (s:={ s with heap:=g5,toks:=k4 }) o5 rfl (IF (wpAny_newTuple ?_)))))))
 have sz:g5.objs.size=s.heap.objs.size:=by rw[t5.1,t4.1,t3.1,t2.1,t1.1]
 have z5:IsZip g5 (n+4) (n+2) (n+3) .ellipsis:=t5.extBut _ _ d34.symm (t4.extBut _ _ d14.symm (t3.extBut _ _ d34.symm (t2.extBut _ _ d04.symm z1)))
 have kp:∀c o,c≠n+4->c≠n+3->c≠n->c≠n+1->s.heap.get? c=some o->g5.get? c=some o:=λc o c1 c2 c3 c4 e=>t5.extBut _ _ c2 (t4.extBut _ _ c4 (t3.extBut _ _ c2 (t2.extBut _ _ c3 (t1.extBut _ _ c1 e))))
 have f1:S1 (i+1) g5:=D1.frame _ _ _ h1' λc hc o e=>t5.extBut _ _ (Sw Z hc).2.1 (t4.extBut _ _ (Sw Z hc).1 (t3.extBut _ _ (Sw Z hc).2.1 e))
 have f2:S2 (i+1) g5:=D2.frame _ _ _ h2' λc hc o e=>t5.extBut _ _ (Nc Z hc).2.1 e
 have zl:n+4 < g5.objs.size:=JF z5
 change JT (JV prog w) _ (Builtin.SmallTypes.ownedTupleHandOut (JD (n+4)) (JD g5.objs.size) >>= _) _ _ _
 unfold Builtin.SmallTypes.ownedTupleHandOut
 have z6:IsZip (g5.push { cls:=.type "tuple", data:=.seq #[x,y] }) (n+4) (n+2) (n+3) .ellipsis:=IJ _ z5
 refine IF (IF (MW (s:={ s with heap:=g5.push { cls:=.type "tuple", data:=.seq #[x,y] },toks:=k4 }) z6 (by simp) λg7 z7 t7=>?_))
 replace z7:IsZip g7 (n+4) (n+2) (n+3) (PB g5.objs.size):=z7
 refine MW (s:={ s with heap:=g7,toks:=k4 }) z7 (by simp) λg8 z8 t8=>?_
 replace z8:IsZip g8 (n+4) (n+2) (n+3) (PB g5.objs.size):=z8
 have up:∀c o,c≠n+4->g5.get? c=some o->g8.get? c=some o:=λc o c1 e=>t8.extBut _ _ c1 (t7.extBut _ _ c1 (IJ _ e))
 have tp:OZ g8 g5.objs.size x y:=t8.extBut _ _ (OF zl) (t7.extBut _ _ (OF zl) (JI _ rfl))
 have sz8:g8.objs.size=g5.objs.size+1:=by rw[t8.1,t7.1,NM]
 rw[sz] at z8 tp sz8
 refine JA ⟨_,rfl,?_⟩
 change Q (JD g5.objs.size) _
 rw[sz]
 exact q x y g8 k4 px py z8 (up _ _ d34 o5) (D1.frame _ _ _ f1 λc hc o e=>up c o (Sw Z hc).2.2 e) (D2.frame _ _ _ f2 λc hc o e=>up c o (Nc Z hc).2.2 e) tp sz8 λc o c1 c2 c3 c4 e=>up c o c1 (kp c o c1 c2 c3 c4 e)
theorem nB(Z:Hr n fp1 fp2)(D1:Draws prog w A n fp1 n1 P1 S1)(D2:Draws prog w A (n+1) fp2 n2 P2 S2){a b:II}{i:Nat}{Q:PySem.Fin->IL->Prop}(hz:IsZip s.heap (n+4) (n+2) (n+3) .none)(hI:OZ s.heap (n+2) (.ref n) (.ref (n+1)))(hO:OZ s.heap (n+3) a b)(h1:S1 i s.heap)(h2:S2 i s.heap)(l:i=n1∨(i < n1/\i=n2))(q:∀h' e tk,(∀c o,c≠n+4->c≠n+3->c≠n->c≠n+1->s.heap.get? c=some o->h'.get? c=some o)->(∃o,h'.get? e=some o/\o.cls=.type "StopIteration")->E (.ref e) { s with heap:=h',toks:=tk }):
 JT (JV prog w) A (Builtin.«zip.__next__» ⟨[.ref (n+4)],[]⟩) Q E s:=by
 have d34:n+3≠n+4:=ap n 3 4 (by decide)
 have d04:n≠n+4:=ap n 0 4 (by decide)
 have d14:n+1≠n+4:=ap n 1 4 (by decide)
 have d30:n+3≠n:=ap n 3 0 (by decide)
 change JT (JV prog w) _ (field (JD (n+4)) 2 >>= _) _ _ _
 refine IF (JX hz rfl (x:=Value.bool false) rfl ?_)
 change JT (JV prog w) _ (field (JD (n+4)) 3 >>= _) _ _ _
 refine IF (JX hz rfl (x:=JD (n+2)) rfl (IF (ML hI rfl ?_)))
 change JT (JV prog w) _ (LY (JD (n+4)) >>= _) _ _ _
 unfold LY
 refine IF (IF (JX hz rfl (x:=LX) rfl (JA ?_)))
 simp only[if_true]
 refine IF (NF (IF (JX hz rfl (x:=JD (n+3)) rfl (IF (MW hz (by simp) λg1 z1 t1=>?_)))))
 replace z1:IsZip g1 (n+4) (n+2) (n+3) .ellipsis:=z1
 refine IF ?_
 simp only[List.forIn_cons,List.forIn_nil,List.zipIdx_cons,List.zipIdx_nil]
 refine IF (IF (wpAny_onRaise ?_))
 change JT (JV prog w) _ (KS (JD n) >>= _) _ _ _
 have f1:S1 i g1:=D1.frame i _ _ h1 λc hc o e=>t1.extBut _ _ (Sw Z hc).2.2 e
 rcases l with rfl | ⟨l1,rfl⟩
 ·refine IF (D1.done { s with heap:=g1 } _ _ f1 λg2 e t2 he=>?_)
  obtain⟨oe,e1,e2⟩:=he
  have z2:IsZip g2 (n+4) (n+2) (n+3) .ellipsis:=t2 _ _ d04.symm z1
  have ez:e≠n+4:=λz=>by rw[z,z2] at e1;cases e1;simp at e2
  exact MW (s:={ s with heap:=g2 }) z2 (by simp) λg3 _ t3=>q g3 e s.toks (λc o c1 _ c3 _ e'=>t3.extBut _ _ c1 (t2 _ _ c3 (t1.extBut _ _ c1 e'))) ⟨oe,t3.extBut _ _ ez e1,e2⟩
 ·refine IF (D1.item i { s with heap:=g1 } _ _ l1 f1 λx g2 k2 px h1' t2=>JA ?_)
  have o2:OZ g2 (n+3) a b:=t2.extBut _ _ d30 (t1.extBut _ _ d34 hO)
  refine IF (ML (s:={ s with heap:=g2,toks:=k2 }) o2 rfl (IF (wpAny_updateSeq_pair (s:={ s with heap:=g2,toks:=k2 }) o2 λg3 o3 t3=>?_)))
  refine IF (QA (JA (IF (IF (wpAny_onRaise ?_)))))
  change JT (JV prog w) _ (KS (JD (n+1)) >>= _) _ _ _
  refine IF (D2.done { s with heap:=g3,toks:=k2 } _ _ (D2.frame i _ _ h2 λc hc o e=>t3.extBut _ _ (Nc Z hc).2.1 (t2.extBut _ _ (Nc Z hc).1 (t1.extBut _ _ (Nc Z hc).2.2 e))) λg4 e t4 he=>?_)
  obtain⟨oe,e1,e2⟩:=he
  have z4:IsZip g4 (n+4) (n+2) (n+3) .ellipsis:=t4 _ _ d14.symm (t3.extBut _ _ d34.symm (t2.extBut _ _ d04.symm z1))
  have ez:e≠n+4:=λz=>by rw[z,z4] at e1;cases e1;simp at e2
  exact MW (s:={ s with heap:=g4,toks:=k2 }) z4 (by simp) λg5 _ t5=>q g5 e k2 (λc o c1 c2 c3 c4 e'=>t5.extBut _ _ c1 (t4 _ _ c4 (t3.extBut _ _ c2 (t2.extBut _ _ c3 (t1.extBut _ _ c1 e'))))) ⟨oe,t5.extBut _ _ ez e1,e2⟩
end
def AI(h:LO)(a:IN):LO:=h.push { cls:=.type "tuple_iterator", data:=.fields #[.ref a,.int 0 0] }
def AN(h:LO)(a b:IN):LO:=(AI h a).push { cls:=.type "tuple_iterator", data:=.fields #[.ref b,.int 0 0] }
def AE(h:LO)(a b:IN):LO:=(AN h a b).push { cls:=.type "tuple", data:=.seq #[.ref h.objs.size,.ref (AI h a).objs.size] }
def CD(h:LO)(a b:IN):LO:=(AE h a b).push { cls:=.type "tuple", data:=.seq #[.none,.none] }
def lO(h:LO)(a b:IN):LO:=(CD h a b).push { cls:=.type "zip", data:=.fields #[.none,.bool false,.bool false,.ref (AN h a b).objs.size,.ref (AE h a b).objs.size] }
theorem lF{h:LO}{t:IN}{its:Array II}(x:h.IsTuple t its)(o:Obj):(h.push o).IsTuple t its:=let ⟨u,e,r⟩:=x;⟨u,IJ o e,r⟩
theorem qW(a b:IN)(xs ys:Array II):Meets (Builtin.«zip.__new__» ⟨[.type "zip", .ref a,.ref b],[]⟩) (λ_ R s=>s.heap.IsTuple a xs/\s.heap.IsTuple b ys/\R (.ok (.ret (.ref (CD s.heap a b).objs.size))) { s with heap:=lO s.heap a b }):=
 .of_wp λprog w A R s h=>by
  obtain⟨hp,g,d,tk,os⟩:=s
  obtain⟨q1,q2,q⟩:=h
  have hsub:=sub_zip
  have u1:Heap.IsTuple (Shared.heap ⟨hp,g,d,tk,os⟩) a xs:=q1
  have u2:Heap.IsTuple (Shared.heap ⟨hp.push { cls:=.type "tuple_iterator", data:=.fields #[.ref a,.int 0 0] },g,d,tk,os⟩) b ys:=lF q2 _
  wp_walk using wpAny_pyIter_tuple u1,wpAny_pyIter_tuple u2
  exact⟨_,rfl,q⟩
theorem gQ{prog:JJ}{w:KL}{A:KG}{E:II->IL->Prop}{s:IL}{a b:IN}{xs ys:Array II}{Q:II->IL->Prop}(q1:s.heap.IsTuple a xs)(q2:s.heap.IsTuple b ys)(q:∀h',IsZip h' (s.heap.objs.size+4) (s.heap.objs.size+2) (s.heap.objs.size+3) .none->OZ h' (s.heap.objs.size+2) (.ref s.heap.objs.size) (.ref (s.heap.objs.size+1))->OZ h' (s.heap.objs.size+3) .none .none->h'.IsTupleIter s.heap.objs.size a 0->h'.IsTupleIter (s.heap.objs.size+1) b 0 ->
  (∀c o,s.heap.get? c=some o->h'.get? c=some o)->Q (.ref (s.heap.objs.size+4)) { s with heap:=h' }):JT (JV prog w) A (call (.type "zip") [.ref a,.ref b]) Q E s:=by
 refine callType_new F.called_zip (by decide) (F.typeCall_zip_2 _ _) (F.newCall_zip_2 _ _) (λobj=>F.args_object_init_3 obj _ _) F.entry_zip_new (qW a b xs ys) ⟨q1,q2,?_⟩
 have z1:(AI s.heap a).objs.size=s.heap.objs.size+1:=NM ..
 have z2:(AN s.heap a b).objs.size=s.heap.objs.size+2:=(NM ..).trans (by rw[z1])
 have z3:(AE s.heap a b).objs.size=s.heap.objs.size+3:=(NM ..).trans (by rw[z2])
 have z4:(CD s.heap a b).objs.size=s.heap.objs.size+4:=(NM ..).trans (by rw[z3])
 have k4:∀c o,(CD s.heap a b).get? c=some o->(lO s.heap a b).get? c=some o:=λc o e=>IJ _ e
 have k3:∀c o,(AE s.heap a b).get? c=some o->(lO s.heap a b).get? c=some o:=λc o e=>k4 c o (IJ _ e)
 have k2:∀c o,(AN s.heap a b).get? c=some o->(lO s.heap a b).get? c=some o:=λc o e=>k3 c o (IJ _ e)
 have k1:∀c o,(AI s.heap a).get? c=some o->(lO s.heap a b).get? c=some o:=λc o e=>k2 c o (IJ _ e)
 have k0:∀c o,s.heap.get? c=some o->(lO s.heap a b).get? c=some o:=λc o e=>k1 c o (IJ _ e)
 have g5:(lO s.heap a b).get? (CD s.heap a b).objs.size=some { cls:=.type "zip", data:=.fields #[.none,.bool false,.bool false,.ref (AN s.heap a b).objs.size,.ref (AE s.heap a b).objs.size] }:=JI _ rfl
 have g4:(lO s.heap a b).get? (AE s.heap a b).objs.size=some { cls:=.type "tuple", data:=.seq #[.none,.none] }:=k4 _ _ (JI _ rfl)
 have g3:(lO s.heap a b).get? (AN s.heap a b).objs.size=some { cls:=.type "tuple", data:=.seq #[.ref s.heap.objs.size,.ref (AI s.heap a).objs.size] }:=k3 _ _ (JI _ rfl)
 have g2:(lO s.heap a b).get? (AI s.heap a).objs.size=some { cls:=.type "tuple_iterator", data:=.fields #[.ref b,.int 0 0] }:=k2 _ _ (JI _ rfl)
 have g1:(lO s.heap a b).get? s.heap.objs.size=some { cls:=.type "tuple_iterator", data:=.fields #[.ref a,.int 0 0] }:=k1 _ _ (JI _ rfl)
 rw[z4,z2,z3] at g5
 rw[z3] at g4
 rw[z2,z1] at g3
 rw[z1] at g2
 change _/\_
 rw[z4]
 exact⟨⟨_,g5,rfl⟩,q _ g5 g3 g4 ⟨_,g1,rfl,rfl⟩ ⟨_,g2,rfl,rfl⟩ k0⟩
section
variable {prog:JJ} {w:KL} {A:KG} {E:II->IL->Prop} {s:IL} {n:IN} {fp1 fp2:List IN} {n1 n2:Nat} {P1 P2:Nat->II->Prop} {S1 S2:Nat->LO->Prop}
theorem Zr(Z:Hr n fp1 fp2)(D1:Draws prog w A.in1 n fp1 n1 P1 S1)(D2:Draws prog w A.in1 (n+1) fp2 n2 P2 S2){a b:II}{i:Nat}{Q:Option II->IL->Prop}(hz:IsZip s.heap (n+4) (n+2) (n+3) .none)(hI:OZ s.heap (n+2) (.ref n) (.ref (n+1)))(hO:OZ s.heap (n+3) a b)(h1:S1 i s.heap)(h2:S2 i s.heap)(l1:i < n1)(l2:i < n2)(q:∀x y h' tk,P1 i x->P2 i y->IsZip h' (n+4) (n+2) (n+3) (PB s.heap.objs.size)->OZ h' (n+3) x y->S1 (i+1) h'->S2 (i+1) h'->OZ h' s.heap.objs.size x y ->
  (∀c o,c≠n+4->c≠n+3->c≠n->c≠n+1->s.heap.get? c=some o->h'.get? c=some o)->Q (some (.ref s.heap.objs.size)) { s with heap:=h',toks:=tk }):JT (JV prog w) A (OX (.ref (n+4))) Q E s:=by
 have ty:s.TypeIs (.ref (n+4)) "zip" := ⟨_,hz,rfl⟩
 unfold OX
 exact IF (PL (KU (name:=MQ "__next__") ty RL (LU RL ty F.entry_zip_next (iY Z D1 D2 hz hI hO h1 h2 l1 l2 λx y h' tk a1 a2 a3 a4 a5 a6 a7 a8 a9=>JA (q x y h' tk a1 a2 a3 a4 a5 a6 a7 a9)) (F.args_zip_next_1 _))))
theorem iK(Z:Hr n fp1 fp2)(D1:Draws prog w A.in1 n fp1 n1 P1 S1)(D2:Draws prog w A.in1 (n+1) fp2 n2 P2 S2){a b:II}{i:Nat}{Q:Option II->IL->Prop}(hz:IsZip s.heap (n+4) (n+2) (n+3) .none)(hI:OZ s.heap (n+2) (.ref n) (.ref (n+1)))(hO:OZ s.heap (n+3) a b)(h1:S1 i s.heap)(h2:S2 i s.heap)(l:i=n1∨(i < n1/\i=n2))(q:∀h' tk,(∀c o,c≠n+4->c≠n+3->c≠n->c≠n+1->s.heap.get? c=some o->h'.get? c=some o)->Q none { s with heap:=h',toks:=tk }):JT (JV prog w) A (OX (.ref (n+4))) Q E s:=by
 have ty:s.TypeIs (.ref (n+4)) "zip" := ⟨_,hz,rfl⟩
 unfold OX
 refine IF (PL (KU (name:=MQ "__next__") ty RL (LU RL ty F.entry_zip_next (nB Z D1 D2 hz hI hO h1 h2 l λh' e tk k he=>?_) (F.args_zip_next_1 _))))
 obtain⟨o,e1,e2⟩:=he
 exact IF (QX (s:={ s with heap:=h',toks:=tk }) (T := "StopIteration") (b:=true) ⟨o,e1,e2⟩ isSubtype_stop (JA (q _ _ k)))
end
def xO(K:IG)(a b:IN):It:=
 ⟨λi H=>∃xs ys x y,Cc K H a xs/\Cc K H b ys/\xs[i]? = some x/\ys[i]? = some y,
  λi H v H'=>∃T x y,H T=none/\v=.ref T/\H'=upd H T (.tup [x,y])/\(∀xs,Cc K H a xs->xs[i]? = some x)/\∀ys,Cc K H b ys->ys[i]? = some y,
  λi H=>∃xs ys,Cc K H a xs/\Cc K H b ys/\(i=xs.length∨(i < xs.length/\i=ys.length))⟩
theorem Xg{h:LO}{n a b:IN}{i:Nat}{f0 p q:II}{xs ys:Array II}(hz:IsZip h (n+4) (n+2) (n+3) f0)(hO:OZ h (n+3) p q)(h1:h.IsTupleIter n a i)(h2:h.IsTupleIter (n+1) b i)(l1:h.IsTuple a xs)(l2:h.IsTuple b ys)(na:a≠n+3)(nb:b≠n+3):
 Hr n [n,a] [n+1,b]/\a≠n/\b≠n+1:=by
 obtain⟨o1,e1,c1,_⟩:=l1
 obtain⟨o2,e2,c2,_⟩:=l2
 obtain⟨p1,q1,d1,_⟩:=h1
 obtain⟨p2,q2,d2,_⟩:=h2
 have nz:∀ {c:IN} {o:Obj},h.get? c=some o->o.cls=.type "tuple" -> c≠n+4/\c≠n/\c≠n+1:=λ{c o} e z=>⟨Kr e hz (by rw[z];show NR "tuple" ≠ NR "zip"; decide),Kr e q1 (by rw[z,d1];decide),Kr e q2 (by rw[z,d2];decide)⟩
 obtain⟨a1,a2,a3⟩:=nz e1 c1
 obtain⟨b1,b2,b3⟩:=nz e2 c2
 refine⟨⟨λc hc=>?_,λc hc=>?_⟩,a2,b3⟩
 ·rcases IQ.mp hc with r | r
  ·exact .inl r
  ·rw[IT] at r
   subst r
   exact .inr ⟨a3,na,a1⟩
 ·rcases IQ.mp hc with r | r
  ·exact .inl r
  ·rw[IT] at r
   subst r
   exact .inr ⟨b2,nb,b1⟩
theorem Hr.more{A:KG}{h:LO}{n:IN}{fp1 fp2:List IN}(Z:Hr n fp1 fp2)(hh:Bm A h)(n0:∀o vs,h.get? n=some o->o.data=.fields vs->¬ vs[2]? = some .none)(n1:∀o vs,h.get? (n+1)=some o->o.data=.fields vs->¬ vs[2]? = some .none)(n4:∀o vs,h.get? (n+4)=some o->o.data=.fields vs->¬ vs[2]? = some .none)(n3:∀o vs,h.get? (n+3)=some o->o.data=.fields vs->¬ vs[2]? = some .none):Hr n (fp1++Nn A) (fp2++Nn A):=by
 have no:∀c∈Nn A,c≠n/\c≠n+1/\c≠n+3/\c≠n+4:=λc hc=>by
  rcases hh with z | ⟨x,o,vs,a,g,d,e⟩
  ·unfold Nn at hc
   rw[z] at hc
   cases hc
  ·unfold Nn at hc
   rw[a] at hc
   rw[IT.mp hc]
   exact⟨λy=>n0 o vs (y ▸ g) d e,λy=>n1 o vs (y ▸ g) d e,λy=>n3 o vs (y ▸ g) d e,λy=>n4 o vs (y ▸ g) d e⟩
 refine⟨λc hc=>?_,λc hc=>?_⟩
 ·rcases JO.mp hc with r | r
  ·exact Z.m1 c r
  ·exact .inr ⟨(no c r).2.1,(no c r).2.2.1,(no c r).2.2.2⟩
 ·rcases JO.mp hc with r | r
  ·exact Z.m2 c r
  ·exact .inr ⟨(no c r).1,(no c r).2.2.1,(no c r).2.2.2⟩
theorem gR{P:JJ}{w:KL}{K:IG}{elts:List Expr}{kk:Nat}{tpos:Pos}(n a b:IN)(na:a≠n+3)(nb:b≠n+3):Turn P w K (.Tuple elts kk tpos) (xO K a b) [n+4,n+2,n+3,n,n+1] (n+4)
 (λi h=>IsZip h (n+4) (n+2) (n+3) .none/\OZ h (n+2) (.ref n) (.ref (n+1))/\(∃p q,OZ h (n+3) p q)/\h.IsTupleIter n a i/\h.IsTupleIter (n+1) b i) where
 mem:=by simp
 obj:=λi h st c hc=>by
  obtain⟨hz,hTI,⟨p,q,hTO⟩,⟨o1,e1,c1,d1⟩,⟨o2,e2,c2,d2⟩⟩:=st
  simp only[IQ,JG,or_false] at hc
  rcases hc with rfl | rfl | rfl | rfl | rfl
  ·exact⟨_,hz,λv z=>nomatch z⟩
  ·exact⟨_,hTI,λv z=>nomatch z⟩
  ·exact⟨_,hTO,λv z=>nomatch z⟩
  ·exact⟨_,e1,λv z=>by rw[d1] at z;cases z⟩
  ·exact⟨_,e2,λv z=>by rw[d2] at z;cases z⟩
 keep:=λi h h' st k=>by
  obtain⟨hz,hTI,⟨p,q,hTO⟩,h1,h2⟩:=st
  exact⟨k _ (by simp) _ hz,k _ (by simp) _ hTI,⟨p,q,k _ (by simp) _ hTO⟩,h1.at λo e=>k _ (by simp) o e,h2.at λo e=>k _ (by simp) o e⟩
 item:=by
  intro X hP hw hK hc i pins s σ H E I hf st hg
  subst hP hw hK
  obtain⟨xs,ys,x,y,hq1,hq2,hx,hy⟩:=hg
  obtain⟨its1,rv1,p1,_⟩:=I.tuple hq1
  obtain⟨its2,rv2,p2,_⟩:=I.tuple hq2
  obtain⟨u1,hu1,ru1⟩:=rv1.get hx
  obtain⟨u2,hu2,ru2⟩:=rv2.get hy
  obtain⟨hz,hTI,⟨pa,pb,hTO⟩,h1,h2⟩:=st
  obtain⟨Z,a0,b1⟩:=Xg hz hTO h1 h2 p1 p2 na nb
  have hd:Bm X.A.in1 s.heap:=I.calmS hc
  have Z:=Z.more hd (Qp h1) (Qp h2) (cE hz) (λo vs g dt _=>by have e:=hTO.symm.trans g;cases e;cases dt)
  refine Zr Z (gF n a a0 its1.toArray) (gF (n+1) b b1 its2.toArray) hz hTI hTO ⟨h1,p1,hd⟩ ⟨h2,p2,hd⟩ (by simpa using (IH.mp hu1).1) (by simpa using (IH.mp hu2).1) λv1 v2 h' tk e1 e2 a1 a2 a3 a4 a5 k=>?_
  obtain rfl:u1=v1:=by
   have e1':its1[i]? = some v1:=by simpa using e1
   rw[hu1] at e1'
   exact KC e1'
  obtain rfl:u2=v2:=by
   have e2':its2[i]? = some v2:=by simpa using e2
   rw[hu2] at e2'
   exact KC e2'
  refine⟨_,rfl,wpAny_letOwnedTupleGo_zip (s:={ s with heap:=h',toks:=tk }) a1 λh2' hz2 sb=>?_⟩
  have lt:∀c∈[n+4,n+2,n+3,n,n+1],c≠s.heap.objs.size:=λc hc=>by
   simp only[IQ,JG,or_false] at hc
   obtain⟨_,q1,_,_⟩:=id h1
   obtain⟨_,q2,_,_⟩:=id h2
   rcases hc with rfl | rfl | rfl | rfl | rfl
   ·exact JP (JF hz)
   ·exact JP (JF hTI)
   ·exact JP (JF hTO)
   ·exact JP (JF q1)
   ·exact JP (JF q2)
  have kk2:∀c o,c∉[n+4,n+3,n,n+1]->s.heap.get? c=some o->h2'.get? c=some o:=λc o hc e=>by
   simp only[IQ,JG,or_false,not_or] at hc
   exact(sb.2 c hc.1).trans (k c o hc.1 hc.2.1 hc.2.2.1 hc.2.2.2 e)
  have I1:Inv X pins σ H { s with heap:=h2',toks:=tk }:=I.turns (t':=tk) (ch:=[n+4,n+3,n,n+1]) kk2 λc hc=>by
   simp only[IQ,JG,or_false] at hc
   exact hf c (by simp only[IQ,JG,or_false];rcases hc with z | z | z | z<;>simp[z])
  have fT:Dk X pins H s.heap.objs.size:=I.fpOk (IP _) (I.hok.fresh (IP _))
  have eT:h2'.get? s.heap.objs.size=some { cls:=.type "tuple", data:=.seq #[u1,u2] }:=(sb.2 _ (KO (lt (n+4) (by simp)))).trans a5
  refine⟨.ref s.heap.objs.size,_,I1.adopt (o:=.tup [x,y]) fT.1 fT.2.1 I.sz fT.2.2.2.2.1 fT.2.2.2.2.2 ⟨by show 2<=IK;decide,[u1,u2],.cons ru1 (.cons ru2 .nil),⟨_,eT,rfl,0,rfl⟩⟩,rfl,⟨_,x,y,fT.1,rfl,rfl,λzs hzs=>?_,λzs hzs=>?_⟩,?_,λc hc=>?_⟩
  ·rw[I.tuple_inj hzs hq1];exact hx
  ·rw[I.tuple_inj hzs hq2];exact hy
  ·refine⟨hz2,(sb.2 _ (ap n 2 4 (by decide))).trans (k _ _ (ap n 2 4 (by decide)) (ap n 2 3 (by decide)) (ap n 2 0 (by decide)) (ap n 2 1 (by decide)) hTI),⟨u1,u2,(sb.2 _ (ap n 3 4 (by decide))).trans a2⟩,a3.1.at λo e=>(sb.2 _ (ap n 0 4 (by decide))).trans e,a4.1.at λo e=>(sb.2 _ (ap n 1 4 (by decide))).trans e⟩
  ·rw[Ai (lt c hc)]
   exact(hf c hc).1
 done:=by
  intro X hP hw hK hc i pins s σ H E I hf st hg
  subst hP hw hK
  obtain⟨xs,ys,hq1,hq2,hx⟩:=hg
  obtain⟨its1,rv1,p1,_⟩:=I.tuple hq1
  obtain⟨its2,rv2,p2,_⟩:=I.tuple hq2
  obtain⟨hz,hTI,⟨pa,pb,hTO⟩,h1,h2⟩:=st
  obtain⟨Z,a0,b1⟩:=Xg hz hTO h1 h2 p1 p2 na nb
  have hd:Bm X.A.in1 s.heap:=I.calmS hc
  have Z:=Z.more hd (Qp h1) (Qp h2) (cE hz) (λo vs g dt _=>by have e:=hTO.symm.trans g;cases e;cases dt)
  have l1:=rv1.length
  have l2:=rv2.length
  refine iK Z (gF n a a0 its1.toArray) (gF (n+1) b b1 its2.toArray) hz hTI hTO ⟨h1,p1,hd⟩ ⟨h2,p2,hd⟩ (by simp;omega) λh' tk k=>⟨rfl,?_⟩
  refine I.turns (t':=tk) (ch:=[n+4,n+3,n,n+1]) (λc o hc e=>?_) λc hc=>?_
  ·simp only[IQ,JG,or_false,not_or] at hc
   exact k c o hc.1 hc.2.1 hc.2.2.1 hc.2.2.2 e
  ·simp only[IQ,JG,or_false] at hc
   exact hf c (by simp only[IQ,JG,or_false];rcases hc with z | z | z | z<;>simp[z])
 self:=λ_ _ _ _ _ st h=>wpAny_pyIter_zip st.1 h
def CM(K:IG)(ta:TA):TI:=λσ H R=>ta σ H λvs H1=>∃a b,vs=[.ref a,.ref b]/\(∃xs,Cc K H1 a xs)/\(∃ys,Cc K H1 b ys)/\R (xO K a b) H1
theorem sT{X:Cx}{elts:List Expr}{kk:Nat}{tpos:Pos}{a b:Expr}{ta:TA}{p pos:Pos}(hg:Gl X "zip")(hm:X.mg "zip" = none)(ha:PA X [a,b] ta)(hs:JS [a,b] X.env=[(false,OA a X.env),(false,OA b X.env)]:=by rfl)(hs2:JS [b] X.env=[(false,OA b X.env)]:=by rfl):
 PI X (.Tuple elts kk tpos) (.Call (.Name "zip" p) [a,b] [] pos) (CM X.K ta):=by
 intro pins s σ H R I h
 refine Call_ (Ib I hg hm boot_zip (MG (Bx (ha pos pins s σ H _ I h) λus s1 ⟨vs,H1,I1,r1,q1⟩=>?_) (by rw[hs,hs2]) (by rw[hs2];rfl)))
 obtain⟨a',b',e,⟨xs,hq1⟩,⟨ys,hq2⟩,q⟩:=q1
 subst e
 obtain⟨u,w',rfl,r,r'⟩:=vals2 r1
 cases r
 cases r'
 obtain⟨its1,rv1,p1,_⟩:=I1.tuple hq1
 obtain⟨its2,rv2,p2,_⟩:=I1.tuple hq2
 have lt:∀ {c:IN} {its:Array II},IsTup s1.heap c its->c≠s1.heap.objs.size+3:=λ{c its} ⟨o,e,_⟩=>JP (KD (JF e) (Nat.le_add_right _ _))
 refine gQ (show s1.heap.IsTuple a' its1.toArray from p1) (show s1.heap.IsTuple b' its2.toArray from p2) λh' z1 z2 z3 z4 z5 k=>wpAny_pyIter_zip (s:={ s1 with heap:=h' }) z1 ?_
 refine⟨s1.heap.objs.size+4,[s1.heap.objs.size+4,s1.heap.objs.size+2,s1.heap.objs.size+3,s1.heap.objs.size,s1.heap.objs.size+1],_,_,H1,rfl,I1.kept (t':=s1.toks) k,gR s1.heap.objs.size a' b' (lt p1) (lt p2),⟨z1,z2,⟨_,_,z3⟩,z4,z5⟩,λc hc=>?_,q⟩
 have hle:s1.heap.objs.size<=c:=by
  simp only[IQ,JG,or_false] at hc
  rcases hc with rfl | rfl | rfl | rfl | rfl
  ·exact jO _ 4
  ·exact jO _ 2
  ·exact jO _ 3
  ·exact jO _ 0
  ·exact jO _ 1
 exact I1.fpOk hle (I1.hok.fresh hle)
theorem Vl{K:IG}{a b:IN}{xs zs:List V}{n:Nat}{fr:List (Str×Nat)}{g:TG}{te:TE}{σ:St}{H:Hp}{F:List V->Hp->Prop}(hlen:xs.length=zs.length)(Pv:Nat->List V->Hp->Prop)(h0:Pv 0 [] H)(hl:∀i ys H,i<=xs.length->Pv i ys H->Cc K H a xs/\Cc K H b zs)(hs:∀i x z ys H T,xs[i]? = some x->zs[i]? = some z->Pv i ys H->H T=none->g (.ref T) (stC n fr σ) (upd H T (.tup [x,z])) λσ2 H2=>te σ2 H2 λy H4=>ys.length < IK/\Pv (i+1) (ys++[y]) H4)(hd:∀ys H,Pv xs.length ys H->F ys H):Fq n fr g Sd te σ (xO K a b) H F:=by
 refine⟨λi m ys H=>m=xs.length-i/\i<=xs.length/\Pv i ys H,⟨xs.length,by simp,KI _,h0⟩,?_⟩
 rintro i m ys H ⟨rfl,hi,p⟩
 obtain⟨q1,q2⟩:=hl i ys H hi p
 by_cases hlt:i < xs.length
 ·have hx:=IU hlt
  have hz:zs[i]? = some (zs[i]'(by omega)):=IU (by omega)
  refine .inr ⟨⟨xs,zs,_,_,q1,q2,hx,hz⟩,Pv (i+1),λys' H' p'=>⟨xs.length-(i+1),by omega,rfl,hlt,p'⟩,λy H' z=>?_⟩
  obtain⟨T,x,z',hT,rfl,rfl,e1,e2⟩:=z
  exact hs i x z' ys H T (e1 _ q1) (e2 _ q2) p hT
 ·have e:i=xs.length:=by omega
  subst e
  exact .inl ⟨⟨xs,zs,q1,q2,.inl rfl⟩,hd ys H p⟩
section
variable {X:Cx} {v e:Expr} {es:List Expr} {ta t:TE} {pos:Pos}
end
section
variable {prog:JJ} {w:KL} {A:KG} {R:Result->IL->Prop} {I:IN} {fp wr:List IN} {G:Array GenState->Array GenState->Prop} {n:Nat} {P:Nat->II->Prop} {St:Nat->IL->Prop}
end
section
variable {prog:JJ} {w:KL} {A:KG} {E:II->IL->Prop} {s:IL}
end
section
variable {X:Cx}
end
end L2
namespace Mg
section
variable {α:Type} [DecidableEq α]
def cnt(rs:List (List α))(x:α):Nat:=(rs.map λr=>r.tail.count x).sum
def pick(f:α->Nat):List (List α)->Option α
 | []=>none
 | []::r=>pick f r
 | (x::_)::r=>if f x=0 then some x else pick f r
def Cs(x:α):List α->List α
 | []=>[]
 | y::r=>if y=x then r else y::r
def Ei:Nat->List (List α)->List α×List (List α)
 | 0,rs=>([],rs)
 | n+1,rs=>match pick (cnt rs) rs with
  | none=>([],rs)
  | some x=>(x::(Ei n (rs.map (Cs x))).1,(Ei n (rs.map (Cs x))).2)
def Fm(rs:List (List α)):Nat:=(rs.map List.length).sum
theorem cnt_nil(x:α):cnt [] x=0:=rfl
theorem cnt_cons(r:List α)(rs:List (List α))(x:α):cnt (r::rs) x=r.tail.count x+cnt rs x:=rfl
theorem cnt_append(rs ss:List (List α))(x:α):cnt (rs++ss) x=cnt rs x+cnt ss x:=by
 unfold cnt
 rw[JE,QQ]
theorem Jo{rs:List (List α)}{x:α}:cnt rs x=0 ↔ ∀r∈rs,x∉r.tail:=by
 induction rs with
 | nil=>simp[cnt_nil]
 | cons r rs ih=>
  rw[cnt_cons]
  constructor
  ·intro h q hq
   rcases IQ.mp hq with rfl | hq
   ·exact List.count_eq_zero.mp (by omega)
   ·exact ih.mp (by omega) q hq
  ·intro h
   have h1:=List.count_eq_zero.mpr (h r JM)
   have h2:=ih.mpr λq hq=>h q (JC _ hq)
   omega
theorem Ia{f:α->Nat}{x:α}:∀ {rs:List (List α)},pick f rs=some x->f x=0/\∃r∈rs,∃t,r=x::t
 | [],h=>nomatch h
 | []::r,h=>by
  obtain⟨h1,q,hq,t,e⟩:=Ia (rs:=r) h
  exact⟨h1,q,JC _ hq,t,e⟩
 | (y::u)::r,h=>by
  unfold pick at h
  by_cases hy:f y=0
  ·rw[if_pos hy] at h
   cases h
   exact⟨hy,_,JM,u,rfl⟩
  ·rw[if_neg hy] at h
   obtain⟨h1,q,hq,t,e⟩:=Ia (rs:=r) h
   exact⟨h1,q,JC _ hq,t,e⟩
theorem Me(r:List α)(rs:List (List α)):Fm (r::rs)=r.length+Fm rs:=rfl
theorem Fs(x y:α)(r:List α):Cs x (y::r)=if y=x then r else y::r:=rfl
theorem Vz(x:α)(r:List α):(Cs x r).length<=r.length:=by
 cases r with
 | nil=>exact IP _
 | cons y r=>
  rw[Fs]
  split
  ·exact OU _
  ·exact IP _
theorem Mz(x:α):∀rs:List (List α),Fm (rs.map (Cs x))<=Fm rs
 | []=>IP _
 | r::rs=>by
  rw[KR,Me,Me]
  have:=Mz x rs
  have:=Vz x r
  omega
theorem Jp{x:α}{t:List α}:∀ {rs:List (List α)},x::t∈rs->Fm (rs.map (Cs x)) < Fm rs
 | r::rs,h=>by
  rw[KR,Me,Me]
  rcases IQ.mp h with e | h
  ·subst e
   have h1:=Mz x rs
   have h2:(Cs x (x::t)).length=t.length:=by rw[Fs,if_pos rfl]
   rw[h2,KH]
   omega
  ·have:=Jp h
   have:=Vz x r
   omega
theorem Yi{n:Nat}{rs:List (List α)}(h:pick (cnt rs) rs=none):Ei n rs=([],rs):=by
 cases n with
 | zero=>rfl
 | succ n=>unfold Ei;rw[h]
theorem Ow{n:Nat}{rs:List (List α)}{x:α}(h:pick (cnt rs) rs=some x):Ei (n+1) rs=(x::(Ei n (rs.map (Cs x))).1,(Ei n (rs.map (Cs x))).2):=by
 rw[Ei,h]
theorem Ii(x:α)(r:List α):Cs x (x::r)=r:=by rw[Fs,if_pos rfl]
theorem Qa{x:α}{t:List α}{rs:List (List α)}{f:α->Nat}(h:f x=0):pick f ((x::t)::rs)=some x:=by unfold pick;rw[if_pos h]
end
end Mg
namespace Mg
section
variable {α:Type} [DecidableEq α]
def rests(rows:List (List α))(st:List Nat):List (List α):=List.zipWith (λr n=>r.drop n) rows st
theorem Gn{rows:List (List α)}{st:List Nat}{i:Nat}{r:List α}{n:Nat}(h1:rows[i]? = some r)(h2:st[i]? = some n):(rests rows st)[i]? = some (r.drop n):=by
 unfold rests
 rw[List.getElem?_zipWith,h1,h2]
theorem Iv{rows:List (List α)}{st:List Nat}(h:st.length=rows.length):(rests rows st).length=rows.length:=by
 unfold rests
 rw[List.length_zipWith,h,Nat.min_self]
theorem Cv:∀rows:List (List α),rests rows (JQ rows.length 0)=rows
 | []=>rfl
 | r::rows=>by
  have ih:=Cv rows
  show (r.drop 0)::rests rows (JQ rows.length 0)=r::rows
  rw[ih,List.drop_zero]
theorem Gx{r:List α}{n:Nat}(h:n < r.length):r.drop n=r[n]::r.drop (n+1):=KY h
theorem Zf{f:α->Nat}{rs:List (List α)}{i:Nat}(h:rs[i]? = some []):pick f (rs.drop i)=pick f (rs.drop (i+1)):=by
 obtain⟨hi,e⟩:=IH.mp h
 rw[KY hi,e]
 rfl
theorem aL{f:α->Nat}{rs:List (List α)}{i:Nat}{x:α}{t:List α}(h:rs[i]? = some (x::t)):pick f (rs.drop i)=if f x=0 then some x else pick f (rs.drop (i+1)):=by
 obtain⟨hi,e⟩:=IH.mp h
 rw[KY hi,e]
 rfl
def half(x:α)(rs:List (List α))(i:Nat):List (List α):=(rs.take i).map (Cs x)++rs.drop i
theorem iD(x:α)(rs:List (List α)):half x rs 0=rs:=by unfold half;simp
theorem nU(x:α)(rs:List (List α)){i:Nat}(h:rs.length<=i):half x rs i=rs.map (Cs x):=by
 unfold half
 rw[KW h,MZ h,LA]
theorem Ku{x:α}{rs:List (List α)}{i:Nat}{r:List α}(h:rs[i]? = some r):half x rs i=(rs.take i).map (Cs x)++r::rs.drop (i+1)/\half x rs (i+1)=(rs.take i).map (Cs x)++Cs x r::rs.drop (i+1):=by
 obtain⟨hi,e⟩:=IH.mp h
 unfold half
 constructor
 ·rw[KY hi,e]
 ·rw[ND,h,JE]
  simp
theorem jZ{x:α}{rs:List (List α)}{i:Nat}{r:List α}(h:rs[i]? = some r)(y:α):cnt (half x rs (i+1)) y+r.tail.count y=cnt (half x rs i) y+(Cs x r).tail.count y:=by
 obtain⟨e1,e2⟩:=Ku (x:=x) h
 rw[e1,e2,cnt_append,cnt_append,cnt_cons,cnt_cons]
 omega
theorem iX{rows:List (List α)}{st:List Nat}{i n:Nat}{r:List α}(h1:rows[i]? = some r)(hi:i < st.length):rests rows (st.set i n)=(rests rows st).set i (r.drop n):=by
 apply List.ext_getElem?
 intro j
 unfold rests
 rw[List.getElem?_zipWith]
 by_cases hj:i=j
 ·subst hj
  have hi2:i < rows.length:=(IH.mp h1).1
  rw[MY hi,h1,MY (by rw[List.length_zipWith];omega)]
 ·rw[MM hj,MM hj,List.getElem?_zipWith]
theorem Kn{rs:List (List α)}{i:Nat}{r:List α}(h:rs[i]? = some r):Fm (rs.take (i+1))=Fm (rs.take i)+r.length:=by
 unfold Fm
 rw[ND,h,JE,QQ]
 simp
theorem Vo(rs:List (List α))(i:Nat):Fm (rs.take i)<=Fm rs:=by
 have e:Fm rs=Fm (rs.take i)+Fm (rs.drop i):=by
  unfold Fm
  rw[<- QQ,<- JE,List.take_append_drop]
 omega
theorem Rn{rs:List (List α)}{i:Nat}{r:List α}(h:rs[i]? = some r)(x:α):cnt (rs.take (i+1)) x=cnt (rs.take i) x+r.tail.count x:=by
 unfold cnt
 rw[ND,h,JE,QQ]
 simp
theorem Je{r:List α}{j:Nat}{y:α}(h:r[j]? = some y)(x:α):(r.take (j+1)).count x=(r.take j).count x+if x=y then 1 else 0:=by
 rw[ND,h,List.count_append]
 by_cases e:x=y
 ·subst e
  rw[if_pos rfl]
  simp
 ·rw[if_neg e]
  have:¬ y=x:=λz=>e z.symm
  simp[this]
end
end Mg
namespace Mg
section
variable {α:Type} [DecidableEq α]
theorem nS{x:α}{rs:List (List α)}{i:Nat}{r:List α}(h:rs[i]? = some r):(half x rs i).set i (Cs x r)=half x rs (i+1):=by
 obtain⟨e1,e2⟩:=Ku (x:=x) h
 have hi:i < rs.length:=(IH.mp h).1
 have hl:((rs.take i).map (Cs x)).length=i:=by rw[IM,OB];omega
 rw[e1,e2,List.set_append_right _ _ (by rw[hl];exact IP _),hl,Nat.sub_self]
 rfl
theorem gZ{x:α}{rs:List (List α)}{i:Nat}{r:List α}(h:rs[i]? = some r)(e:Cs x r=r):half x rs (i+1)=half x rs i:=by
 obtain⟨e1,e2⟩:=Ku (x:=x) h
 rw[e1,e2,e]
end
end Mg
namespace Nm
open PySem PyProof.Rows
def Eo:Str := "abcdefghijklmnopqrstuvwxyz"
def fill(c:Int):Str:=RH (Eo++Eo) (some (c % 26)) (some (c % 26+c / 26 % 19))
def place(c:Int):Int:=c / 494 % (((fill c).length:Int)+1)
def sign(k:Int):Str:=⟨#[97+k.toNat]⟩
def nameBy(k c:Int):Str:=RH (fill c) none (some (place c))++sign (k / 26 % 26)++sign (k % 26)++RH (fill c) (some (place c)) none
def iU(x:Str):Prop:=1<=x.length/\x.length<=20/\∀c∈x.cps.toList,97<=c/\c<=122
theorem Nf:Eo.length=26:=by decide +kernel
theorem Na:Eo.cps.toList=(List.range 26).map (97 + ·):=by decide +kernel
theorem len_app(a b:Str):(a++b).length=a.length+b.length:=by
 show (a.cps++b.cps).size=_
 rw[Array.size_append]
 rfl
theorem app_list(a b:Str):(a++b).cps.toList=a.cps.toList++b.cps.toList:=by
 show (a.cps++b.cps).toList=_
 rw[Array.toList_append]
theorem len_list(a:Str):a.length=a.cps.toList.length:=by
 show a.cps.size=_
 rw[Array.length_toList]
theorem sP{x:Str}{i j:Int}(h0:0<=i)(h1:i<=j)(h2:j<=x.length):(RH x (some i) (some j)).cps.toList=(x.cps.toList.drop i.toNat).take (j-i).toNat:=by
 have e:=eq_of_beq (slice_closesL h0 h1 h2)
 rw[e]
theorem yP{x:Str}{j:Int}(h0:0<=j)(h2:j<=x.length):(RH x none (some j)).cps.toList=x.cps.toList.take j.toNat:=by
 have e:=eq_of_beq (slice_closes_toL h0 h2)
 rw[e]
 simp
theorem kO{x:Str}{i:Int}(h0:0<=i)(h2:i<=x.length):(RH x (some i) none).cps.toList=x.cps.toList.drop i.toNat:=by
 have e:=eq_of_beq (slice_closes_fromL h0 h2 rfl)
 rw[e]
 show (x.cps.toList.drop i.toNat).take ((x.length:Int)-i).toNat=_
 refine KW ?_
 rw[LP,<- len_list]
 omega
theorem Vr(c:Int):(fill c).cps.toList=((Eo++Eo).cps.toList.drop (c % 26).toNat).take (c / 26 % 19).toNat:=by
 have a1:=KJ c (show (26:Int)≠0 by decide)
 have a2:=JZ c (show (0:Int) < 26 by decide)
 have b1:=KJ (c / 26) (show (19:Int)≠0 by decide)
 have b2:=JZ (c / 26) (show (0:Int) < 19 by decide)
 unfold fill
 rw[sP a1 (by omega) (by rw[len_app,Nf];omega)]
 congr 2
 omega
theorem Ww(c:Int):(fill c).length<=18:=by
 rw[len_list,Vr,OB]
 have b1:=KJ (c / 26) (show (19:Int)≠0 by decide)
 have b2:=JZ (c / 26) (show (0:Int) < 19 by decide)
 omega
theorem Qg(c:Int):∀x∈(fill c).cps.toList,97<=x/\x<=122:=λx hx=>by
 rw[Vr,app_list,Na] at hx
 have h:=NP (List.mem_of_mem_take hx)
 have h':x∈(List.range 26).map (97 + ·):=by
  rcases JO.mp h with z | z<;>exact z
 obtain⟨i,hi,rfl⟩:=KZ.mp h'
 have:=List.mem_range.mp hi
 omega
theorem pF(c:Int):0<=place c/\place c<=(fill c).length:=by
 unfold place
 have b1:=KJ (c / 494) (show (((fill c).length:Int)+1)≠0 by omega)
 have b2:=JZ (c / 494) (show (0:Int) < (((fill c).length:Int)+1) by omega)
 omega
theorem Mi(k c:Int):(nameBy k c).cps.toList=(fill c).cps.toList.take (place c).toNat++[97+(k / 26 % 26).toNat]++[97+(k % 26).toNat]++(fill c).cps.toList.drop (place c).toNat:=by
 obtain⟨h0,h1⟩:=pF c
 unfold nameBy
 rw[app_list,app_list,app_list,yP h0 h1,kO h0 h1]
 rfl
theorem nA(k c:Int):(nameBy k c).length=(fill c).length+2:=by
 rw[len_list,Mi]
 simp only[IV,OB,LP,JH]
 rw[len_list]
 omega
theorem Jz(k c:Int):iU (nameBy k c):=by
 have h1:=nA k c
 have h2:=Ww c
 refine⟨by omega,by omega,λx hx=>?_⟩
 rw[Mi] at hx
 have k1:=KJ (k / 26) (show (26:Int)≠0 by decide)
 have k2:=JZ (k / 26) (show (0:Int) < 26 by decide)
 have k3:=KJ k (show (26:Int)≠0 by decide)
 have k4:=JZ k (show (0:Int) < 26 by decide)
 rcases JO.mp hx with hx | hx
 ·rcases JO.mp hx with hx | hx
  ·rcases JO.mp hx with hx | hx
   ·exact Qg c x (List.mem_of_mem_take hx)
   ·have:=IT.mp hx
    omega
  ·have:=IT.mp hx
   omega
 ·exact Qg c x (NP hx)
theorem Ye{k j c:Int}(h0:0<=k)(h1:k < 676)(h2:0<=j)(h3:j < 676)(h:nameBy k c=nameBy j c):k=j:=by
 have e:=congrArg (λx:Str=>x.cps.toList) h
 rw[Mi,Mi,OP,OP,OP,OP] at e
 have e2:=List.append_cancel_left e
 have e3:(97+(k / 26 % 26).toNat)=(97+(j / 26 % 26).toNat)/\(97+(k % 26).toNat)=(97+(j % 26).toNat):=by
  simpa using e2
 omega
theorem uO(c:Nat):(!decide (([c]:List Nat) < [97]))=decide (97<=c):=by
 by_cases h:97<=c
 ·rw[decide_eq_true h]
  have:¬ ([c]:List Nat) < [97]:=λz=>by
   rcases RK.mp z with z | ⟨_,z⟩
   ·omega
   ·exact absurd z (List.not_lt_nil _)
  rw[decide_eq_false this];rfl
 ·rw[decide_eq_false h]
  have:([c]:List Nat) < [97]:=RK.mpr (.inl (by omega))
  rw[decide_eq_true this];rfl
theorem uT(c:Nat):(!decide (([122]:List Nat) < [c]))=decide (c<=122):=by
 by_cases h:c<=122
 ·rw[decide_eq_true h]
  have:¬ ([122]:List Nat) < [c]:=λz=>by
   rcases RK.mp z with z | ⟨_,z⟩
   ·omega
   ·exact absurd z (List.not_lt_nil _)
  rw[decide_eq_false this];rfl
 ·rw[decide_eq_false h]
  have:([122]:List Nat) < [c]:=RK.mpr (.inl (by omega))
  rw[decide_eq_true this];rfl
end Nm
namespace Bk
open PySem L2 Mg
def top(i:Nat):NW:=PySem.Challenge.pw_elderline_k07_asked.main.body.getD i (.Pass ⟨0,0,0,0⟩)
abbrev Oa:NW:=top 14
abbrev Yo:NW:=top 15
abbrev Ud:NW:=top 16
abbrev Zc:NW:=top 17
abbrev lI:NW:=top 19
abbrev Pe:NW:=top 20
abbrev Gm:NW:=top 24
abbrev Gf:NW:=top 27
abbrev Ll:NW:=top 28
abbrev Xs:NW:=top 29
abbrev Wg:NW:=top 30
abbrev jU:NW:=top 31
abbrev Qs:NW:=top 32
abbrev Xr:NW:=top 33
abbrev Xp:NW:=top 35
abbrev Nw:NW:=top 38
abbrev Od:NW:=top 39
abbrev Ve:NW:=top 40
abbrev lD:NW:=top 45
abbrev nF:NW:=top 46
abbrev El:NW:=top 47
abbrev Zh:NW:=top 48
abbrev Hl:NW:=top 49
abbrev Nv:NW:=top 50
abbrev Uh:NW:=top 51
abbrev Ua:NW:=top 52
abbrev Pu:NW:=top 53
abbrev Og:NW:=top 54
abbrev Qe:NW:=top 55
abbrev pA:NW:=top 56
abbrev zM:NW:=top 57
abbrev eI:NW:=top 58
abbrev Fw:NW:=top 59
abbrev Uv:NW:=top 60
abbrev Ey:NW:=top 61
abbrev Pk:NW:=inClass (top 10) 0
abbrev cH:NW:=inClass (top 42) 0
abbrev cB:NW:=inClass (top 43) 0
abbrev Ja:NW:=inClass (top 43) 1
abbrev Zn:NW:=inClass (top 43) 3
abbrev cJ:NW:=inClass (top 43) 7
abbrev Uo:NW:=inClass (top 43) 8
abbrev pQ:NW:=inClass (top 43) 9
abbrev cY:NW:=inClass (top 43) 10
abbrev aO:NW:=inClass (top 22) 0
abbrev Ze:NW:=inClass (top 22) 1
abbrev mU:NW:=inClass (top 22) 2
abbrev cC:NW:=inClass (top 25) 0
abbrev Qo:NW:=inClass (top 25) 1
abbrev Li:NW:=inClass (top 25) 2
abbrev Nr:NW:=inClass (top 25) 3
abbrev Ox:NW:=inClass (top 25) 4
structure Txt(mg:Str->Option II):Prop where
 len:mg "len" = none
 zip:mg "zip" = none
 enum:mg "enumerate" = none
 any:mg "any" = none
 range:mg "range" = none
 isi:mg "isinstance" = none
 list:mg "list" = none
 str:mg "str" = none
 all:mg "all" = none
 rev:mg "reversed" = none
 set:mg "set" = none
 tup:mg "tuple" = none
 int:mg "int" = none
 bool:mg "bool" = none
 vErr:mg "ValueError" = none
def Az(r:List Str):List V:=r.map V.str
theorem Aw(r:List Str):(Az r).length=r.length:=IM _
theorem Ie{r:List Str}{i:Nat}{v:V}(h:(Az r)[i]? = some v):∃x,r[i]? = some x/\v=.str x:=by
 unfold Az at h
 rw[JU] at h
 cases e:r[i]? with
 | none=>rw[e] at h;cases h
 | some x=>rw[e] at h;exact⟨x,rfl,(KC h).symm⟩
theorem Gb{r:List Str}{i:Nat}{x:Str}(h:r[i]? = some x):(Az r)[i]? = some (.str x):=by
 unfold Az
 rw[JU,h]<;>rfl
structure Dd(H:Hp)(ra:IN)(as:List IN)(rows:List (List Str)):Prop where
 lst:H ra=some (.lst (as.map V.ref))
 len:as.length=rows.length
 row:∀(i:Nat)(a:IN)(r:List Str),as[i]? = some a->rows[i]? = some r->H a=some (.lst (Az r))
theorem Dd.same{H H':Hp}{ra:IN}{as:List IN}{rows:List (List Str)}(R:Dd H ra as rows)(h:Am H H'):Dd H' ra as rows:=⟨h _ _ R.lst,R.len,λi a r h1 h2=>h _ _ (R.row i a r h1 h2)⟩
theorem Ej{as:List IN}{i:Nat}{v:V}(h:(as.map V.ref)[i]? = some v):∃a,as[i]? = some a/\v=.ref a:=by
 rw[JU] at h
 cases e:as[i]? with
 | none=>rw[e] at h;cases h
 | some x=>rw[e] at h;exact⟨x,rfl,(KC h).symm⟩
theorem Dd.get{H:Hp}{ra:IN}{as:List IN}{rows:List (List Str)}(R:Dd H ra as rows){i:Nat}{a:IN}(h:as[i]? = some a):∃r,rows[i]? = some r/\H a=some (.lst (Az r)):=by
 have hi:i < rows.length:=by rw[<- R.len];exact(IH.mp h).1
 exact⟨rows[i],IU hi,R.row i a _ h (IU hi)⟩
def Qc(st:List Nat):List V:=st.map λn:Nat=>V.int (n:Int)
theorem Of(st:List Nat):(Qc st).length=st.length:=IM _
theorem Tq{st:List Nat}{i:Nat}{v:V}(h:(Qc st)[i]? = some v):∃n:Nat,st[i]? = some n/\v=.int n:=by
 unfold Qc at h
 rw[JU] at h
 cases e:st[i]? with
 | none=>rw[e] at h;cases h
 | some x=>rw[e] at h;exact⟨x,rfl,(KC h).symm⟩
theorem zI{st:List Nat}{i n:Nat}(h:st[i]? = some n):(Qc st)[i]? = some (.int n):=by
 unfold Qc
 rw[JU,h]<;>rfl
def Ym(kvs:List (Key×V))(f:Str->Nat):Prop:=∀x:Str,(valV kvs (IW x:Key)).getD (V.int 0)=V.int (f x)
theorem Ym.put{kvs:List (Key×V)}{f g:Str->Nat}{x:Str}{n:Int}(h:Ym kvs f)(hx:n=(g x:Int))(hg:∀y,¬ y=x->g y=f y):Ym (putK kvs (IW x:Key) (.int n)) g:=λy=>by
 rw[Ec]
 by_cases e:y=x
 ·subst e
  rw[if_pos rfl,hx]
  all_goals rfl
 ·rw[if_neg (λz:(IW y:Key)=IW x=>e (IW.inj z)),h y,hg y e]
theorem Ym.pos{kvs:List (Key×V)}{f:Str->Nat}{x:Str}(h:Ym kvs f)(hx:0 < f x):valV kvs (IW x:Key)=some (.int (f x)):=by
 have q:=h x
 cases e:valV kvs (IW x:Key) with
 | none=>
  rw[e] at q
  have q':(0:Int)=(f x:Int):=V.int.inj q
  omega
 | some v=>
  rw[e] at q
  exact congrArg some q
theorem sO{kvs:List (Key×V)}{k:Key}{u v:V}(h:valV kvs k=some u):(putK kvs k v).length=kvs.length:=by
 unfold putK
 rw[Fy,h,if_pos (show (some u).isSome=true from rfl),IM]
theorem Af{H:Hp}{p:IN}(h:H p=none)(o:HO):Am H (upd H p o):=λb u q=>by rw[Ai (Ah q h)];exact q
theorem lay{H:Hp}{l:IN}(h:H l=none)(o:HO):∃H',upd H l o=H'/\Am H H'/\H' l=some o:=⟨_,rfl,Af h o,Aa⟩
theorem xE(xs:List V):Gj xs (some 1) none=xs.tail:=by
 unfold Gj
 rw[HT.sIx_none]
 have e:HT.sIx xs.length 0 (some 1)=min 1 xs.length:=HT.sIx_nat xs.length 0 1
 rw[e]
 cases xs with
 | nil=>rfl
 | cons x r=>
  have e2:min 1 (x::r).length=1:=by rw[KH];omega
  rw[e2]
  simp
theorem Nu(xs:List V)(n:Nat)(h:n<=xs.length):Gj xs (some (n:Int)) none=xs.drop n:=by
 unfold Gj
 rw[HT.sIx_none,HT.sIx_nat,Nat.min_eq_left h]
 rw[KW (by rw[LP];omega)]
def Qk:Sp:=λvs H Q _=>∃(ra:IN)(as:List IN)(rows:List (List Str)),vs=[.ref ra]/\Dd H ra as rows/\Fm rows<=1000000 /\
 ∀(d:IN)(kvs:List (Key×V))(H':Hp),H d=none->Am H H'->H' d=some (.dK kvs)->Ym kvs (cnt rows)->kvs.length<=Fm rows->Q (.ref d) H'
structure Ql(H:Hp)(rows:List (List Str))(sa ba:IN)(st:List Nat)(kvs:List (Key×V)):Prop where
 lst:H sa=some (.lst (Qc st))
 len:st.length=rows.length
 dic:H ba=some (.dK kvs)
def Yg:Option Str->V
 | some x=>.str x
 | none=>.non
def aR:Sp:=λvs H Q _=>∃(ra sa ba:IN)(as:List IN)(rows:List (List Str))(st:List Nat)(kvs:List (Key×V))(g:Str->Nat),vs=[.ref ra,.ref sa,.ref ba]/\Dd H ra as rows/\Ql H rows sa ba st kvs/\Ym kvs g /\
 ∀H',Am H H'->Q (Yg (pick g (rests rows st))) H'
def Yq:Sp:=λvs H Q _=>∃(x:Str)(ra sa ba:IN)(as:List IN)(rows:List (List Str))(st:List Nat)(kvs:List (Key×V)),vs=[.str x,.ref ra,.ref sa,.ref ba]/\Dd H ra as rows/\Ql H rows sa ba st kvs /\
 (∀(i:Nat)(r:List Str)(n:Nat),rows[i]? = some r->st[i]? = some n->n<=r.length)/\Ym kvs (cnt (rests rows st))/\kvs.length<=1000000/\sa≠ra/\(∀a∈as,a≠sa) /\
 ∀(st':List Nat)(kvs':List (Key×V))(H':Hp),Ql H' rows sa ba st' kvs'->rests rows st'=(rests rows st).map (Cs x)->(∀(i:Nat)(r:List Str)(n:Nat),rows[i]? = some r->st'[i]? = some n->n<=r.length) ->
  Ym kvs' (cnt (rests rows st'))->kvs'.length=kvs.length->(∀b o,H b=some o->b≠sa->b≠ba->H' b=some o)->Q .non H'
section
variable {P:JJ} {w:KL} {K:IG} {mg:Str->Option II} {base:LO} {f:IN} {fd:JW}
theorem Lo:Ap ["rows","behind","row","name"] ["rows"] (Ae Ll):=Fv (by decide +kernel)
theorem Rw(F:Dp K "counts_behind" "counts_behind" Ll f fd)(T:Txt mg):Aj P w K mg base Bh 1 f fd ["rows"] Qk:=by
 refine F.ok Lo (λvs H Q E h=>?_) (λcdv A outer s H vs Q E hr h=>?_)
 ·obtain⟨ra,as,rows,rfl,_⟩:=h
  rfl
 obtain⟨ra,as,rows,rfl,R,ht,q⟩:=h
 have hu:=Gd hr
 refine⟨_,Ac (Bj 1 Lo.nd Mh)
  (Ac (Eb LB rfl (De (pv 0)) (Cq 2 Lo.nd)
   (Ag (Eb LB rfl (De (Co En (pv 2) (Cy Ad) Dy)) (Cq 3 Lo.nd)
    (Ag (Gh hu (pv 1) (pv 3) (Ak Bv (Wd hu (pv 1) (pv 3) Ad ⟨rfl,rfl,rfl,rfl⟩) Ad) rfl)))))
  (Ag (An (pv 1)))),?_⟩
 intro d hd
 have s0:Am H (upd H d (.dK [])):=Af hd _
 refine⟨_,rfl,ra,rfl,⟨_,Av.of (s0 _ _ R.lst)⟩,Fe (K:=K) (a:=ra) (xs:=as.map V.ref) (λi σ H2=>∃(kvs:List (Key×V))(v3 v4:Option V),σ=[some (.ref ra),some (.ref d),v3,v4]/\Am H H2/\H2 d=some (.dK kvs)/\Ym kvs (cnt (rows.take i))/\kvs.length<=Fm (rows.take i))
  ⟨[],none,none,rfl,s0,Aa,λx=>rfl,KI _⟩ (λi σ H2 _ ⟨_,_,_,_,s2,_⟩=>Av.of (s2 _ _ R.lst)) ?_ ?_⟩
 ·rintro i y σ H2 hi ⟨kvs,v3,v4,rfl,s2,hd2,B,hl⟩
  obtain⟨a,ha,rfl⟩:=Ej hi
  obtain⟨r,hr',er⟩:=R.get ha
  refine⟨_,rfl,_,rfl,a,_,rfl,Av.of (s2 _ _ er),λp hp=>?_⟩
  rw[xE]
  have npd:p≠d:=λe=>by rw[e] at hp;rw[hd2] at hp;cases hp
  refine⟨p,rfl,⟨_,Av.of Aa⟩,Fe (K:=K) (a:=p) (xs:=(Az r).tail) (λj σ H3=>∃(kvs:List (Key×V))(v4:Option V),σ=[some (.ref ra),some (.ref d),some (.ref a),v4]/\Am H H3/\H3 p=some (.lst (Az r).tail)/\H3 d=some (.dK kvs)/\Ym kvs (λx=>cnt (rows.take i) x+(r.tail.take j).count x)/\kvs.length<=Fm (rows.take i)+j)
   ⟨kvs,v4,rfl,s2.trans (Af hp _),Aa,by rw[Ai (KO npd)];exact hd2,λx=>by rw[B x];simp,Nat.le_add_right_of_le hl⟩ (λj σ H3 _ ⟨_,_,_,_,e,_⟩=>Av.of e) ?_ ?_⟩
  ·rintro j y σ H3 hj ⟨kvs,v4,rfl,s3,ep,ed,B,hl⟩
   have hj':(Az r.tail)[j]? = some y:=by
    unfold Az at hj ⊢
    rw[List.map_tail]
    exact hj
   obtain⟨x,hx,rfl⟩:=Ie hj'
   refine⟨_,rfl,d,rfl,.inl ⟨kvs,.inl ed⟩,_,rfl,_,Fc.k (k:=IW x) ed,_,_,B x,rfl,_,rfl,_,rfl,d,_,rfl,Kt.k (k:=IW x) ed (PJ hl ?_),?_⟩
   ·have h1:=Vo rows (i+1)
    rw[Kn hr'] at h1
    have h2:j < r.tail.length:=(IH.mp hx).1
    rw[List.length_tail] at h2
    rw[JB]
    omega
   ·refine⟨_,_,rfl,λb o e=>?_,by rw[Ai npd];exact ep,Aa,B.put ?_ λz hz=>?_,JR (Dq _ _ _) (by omega)⟩
    ·rw[Ai (Ah e hd)];exact s3 b o e
    ·show ((cnt (rows.take i) x+(r.tail.take j).count x:Nat):Int)+1=((cnt (rows.take i) x+(r.tail.take (j+1)).count x:Nat):Int)
     rw[Je hx,if_pos rfl]
     omega
    ·show cnt (rows.take i) z+(r.tail.take (j+1)).count z=cnt (rows.take i) z+(r.tail.take j).count z
     rw[Je hx,if_neg hz]
     omega
  ·rintro σ H3 ⟨kvs,v4,rfl,s3,ep,ed,B,hl⟩
   have hlen:(Az r).tail.length=r.tail.length:=by unfold Az;rw[<- List.map_tail,IM]
   rw[hlen] at B hl
   refine⟨kvs,_,_,rfl,s3,ed,λx=>?_,?_⟩
   ·rw[B x,Rn hr',KW (IP _)]
   ·rw[Kn hr']
    rw[List.length_tail] at hl
    omega
 ·rintro σ H2 ⟨kvs,v3,v4,rfl,s2,hd2,B,hl⟩
  have hlen:(as.map V.ref).length=rows.length:=by rw[IM,R.len]
  rw[hlen,KW (IP _)] at B hl
  exact⟨_,rfl,q d kvs H2 hd s2 hd2 B hl⟩
end
theorem Ux{r:List Str}{n:Nat}(h:n < r.length):Hx (Az r) (n:Int)=some (.str r[n]):=Ba (Gb (IU h))
section
variable {P:JJ} {w:KL} {K:IG} {mg:Str->Option II} {base:LO} {f:IN} {fd:JW}
theorem Yx:Ap ["rows","starts","behind","row","start"] ["rows","starts","behind"] (Ae Xs):=Fv (by decide +kernel)
theorem gK(F:Dp K "free_name" "free_name" Xs f fd)(T:Txt mg):Aj P w K mg base Bh 1 f fd ["rows","starts","behind"] aR:=by
 refine F.ok Yx (λvs H Q E h=>?_) (λcdv A outer s H vs Q E hr h=>?_)
 ·obtain⟨ra,sa,ba,as,rows,st,kvs,g,rfl,_⟩:=h
  rfl
 obtain⟨ra,sa,ba,as,rows,st,kvs,g,rfl,R,S,B,q⟩:=h
 have hu:=Gd hr
 refine⟨_,Ac (Eb LB rfl (Tz rfl T.zip (Ea (pv 0) (pv 1))) (Jm rfl (Bo (Cq 3 Yx.nd) (Bo (Cq 4 Yx.nd) Gg)))
  (Ag (Ax (PW.pt (Qx (Ao Sr (pv 4) (Cg T.len (pv 3)) (As _)) (Le (Ao Bp (Wd hu (pv 2) (Aq Bc (pv 3) (pv 4) (λ_ _=>rfl)) Ad ⟨rfl,rfl,rfl,rfl⟩) Ad (As _)))))
   (Ag (An (Aq Bc (pv 3) (pv 4) (λ_ _=>rfl)))) Al)))
  (Ag (An Zj)),?_⟩
 refine⟨_,rfl,_,rfl,ra,sa,rfl,⟨_,Av.of R.lst⟩,⟨_,Av.of S.lst⟩,uL (K:=K) (a:=ra) (b:=sa) (xs:=as.map V.ref) (ys:=Qc st) (by rw[IM,Of,S.len,R.len])
  (λi σ H2=>∃v3 v4:Option V,σ=[some (.ref ra),some (.ref sa),some (.ref ba),v3,v4]/\Am H H2/\pick g (rests rows st)=pick g ((rests rows st).drop i)) ⟨none,none,rfl,Am.refl _,rfl⟩
  (λi σ H2 _ ⟨_,_,_,s2,_⟩=>⟨Av.of (s2 _ _ R.lst),Av.of (s2 _ _ S.lst)⟩) ?_ ?_⟩
 ·rintro i x y σ H2 Tp hx hy ⟨v3,v4,rfl,s2,hp⟩ hT
  obtain⟨a,ha,rfl⟩:=Ej hx
  obtain⟨n,hn,rfl⟩:=Tq hy
  obtain⟨r,hr',er⟩:=R.get ha
  have s3:Am H (upd H2 Tp (.tup [.ref a,.int n])):=s2.trans (Af hT _)
  have hrs:=Gn hr' hn
  refine⟨Tp,_,rfl,Cc.of Aa,rfl,_,_,rfl,_,_,rfl,rfl,?_⟩
  refine⟨_,rfl,_,rfl,a,_,rfl,.inl (Av.of (s3 _ _ er)),_,_,rfl,rfl,_,rfl,?_⟩
  refine Br (λc=>?_) (λc=>?_)
  ·have c':(n:Int) < ((Az r).length:Int):=of_decide_eq_true c
   rw[Aw] at c'
   have c2:n < r.length:=by omega
   refine⟨_,rfl,ba,rfl,.inl ⟨kvs,.inl (s3 _ _ S.dic)⟩,_,rfl,_,rfl,a,_,_,_,rfl,rfl,Av.of (s3 _ _ er),Ux c2,_,Fc.k (k:=IW r[n]) (s3 _ _ S.dic),?_⟩
   rw[B r[n]]
   refine⟨rfl,_,rfl,?_⟩
   have hd:pick g ((rests rows st).drop i)=if g r[n]=0 then some r[n] else pick g ((rests rows st).drop (i+1)):=by
    rw[Gx c2] at hrs
    exact aL hrs
   refine Br (λc3=>?_) (λc3=>?_)
   ·have c4:V.int (g r[n]:Int)=V.int 0:=of_decide_eq_true c3
    have c5:g r[n]=0:=by
     have:=V.int.inj c4
     omega
    refine⟨_,rfl,_,rfl,a,_,_,_,rfl,rfl,Av.of (s3 _ _ er),Ux c2,?_⟩
    have qq:=q _ s3
    rw[hp,hd,if_pos c5] at qq
    exact qq
   ·have c4:¬ V.int (g r[n]:Int)=V.int 0:=of_decide_eq_false (MP.mpr c3)
    have c5:¬ g r[n]=0:=λz=>c4 (by rw[z]<;>rfl)
    rw[if_neg c5] at hd
    exact⟨_,_,rfl,s3,hp.trans hd⟩
  ·have c':¬ (n:Int) < ((Az r).length:Int):=of_decide_eq_false (MP.mpr c)
   rw[Aw] at c'
   refine Di ?_
   have hd:pick g ((rests rows st).drop i)=pick g ((rests rows st).drop (i+1)):=by
    rw[MZ (by omega)] at hrs
    exact Zf hrs
   exact⟨_,_,rfl,s3,hp.trans hd⟩
 ·rintro σ H2 ⟨v3,v4,rfl,s2,hp⟩
  have qq:=q H2 s2
  rw[hp,MZ (by rw[Iv S.len,IM,R.len];exact IP _)] at qq
  exact qq
theorem Tu:Ap ["name","rows","starts","behind","index","row","start"] ["name","rows","starts","behind"] (Ae Wg):=Fv (by decide +kernel)
theorem fJ(F:Dp K "take_out" "take_out" Wg f fd)(T:Txt mg):Aj P w K mg base Bh 1 f fd ["name","rows","starts","behind"] Yq:=by
 refine F.ok Tu (λvs H Q E h=>?_) (λcdv A outer s H vs Q E hr h=>?_)
 ·obtain⟨x,ra,sa,ba,as,rows,st,kvs,rfl,_⟩:=h
  rfl
 obtain⟨x,ra,sa,ba,as,rows,st,kvs,rfl,R,S,hb,B,hk,nsr,nsa,q⟩:=h
 have hu:=Gd hr
 refine⟨_,Ag (Eb LB rfl (tU rfl T.enum (Dc (pv 1))) (Jm rfl (Bo (Cq 4 Tu.nd) (Bo (Cq 5 Tu.nd) Gg)))
  (Ac (Bj 6 Tu.nd (Aq Bc (pv 2) (pv 4) (λ_ _=>rfl)))
  (Ag (Ax (PW.pt (Qx (Ao Sr (pv 6) (Cg T.len (pv 5)) (As _)) (Le (Ao Bp (Aq Bc (pv 5) (pv 6) (λ_ _=>rfl)) (pv 0) (As _)))))
   (Ac (Zq (Ak Bv (pv 6) Ad) (zB (pv 2) (pv 4) set_list))
   (Ag (Ax (Ao Sr (Ak Bv (pv 6) Ad) (Cg T.len (pv 5)) (As _))
    (Ag (Gh hu (pv 3) (Aq Bc (pv 5) (Ak Bv (pv 6) Ad) (λ_ _=>rfl)) (Ak Hq (Iw hu (pv 3) (Aq Bc (pv 5) (Ak Bv (pv 6) Ad) (λ_ _=>rfl)) (λ_ _=>rfl)) Ad) rfl)) Al))) Al)))),?_⟩
 have hba:ba≠sa:=Cd S.dic S.lst (by intro z;cases z)
 have hra:ra≠ba:=Cd R.lst S.dic (by intro z;cases z)
 have naa:∀(i:Nat)(a:IN),as[i]? = some a->a≠sa/\a≠ba:=λi a ha=>⟨nsa a (IY ha),by
  obtain⟨r,_,er⟩:=R.get ha
  exact Cd er S.dic (by intro z;cases z)⟩
 refine⟨_,rfl,ra,rfl,⟨_,Av.of R.lst⟩,pW (K:=K) (a:=ra) (xs:=as.map V.ref)
  (λi σ H2=>∃(v4 v5 v6:Option V)(st2:List Nat)(kvs2:List (Key×V)),σ=[some (.str x),some (.ref ra),some (.ref sa),some (.ref ba),v4,v5,v6]/\(∀b o,H b=some o->b≠sa->b≠ba->H2 b=some o)/\Ql H2 rows sa ba st2 kvs2 /\
   rests rows st2=half x (rests rows st) i/\(∀(j:Nat)(r:List Str)(n:Nat),rows[j]? = some r->st2[j]? = some n->n<=r.length)/\Ym kvs2 (cnt (rests rows st2))/\kvs2.length=kvs.length/\∀j,i<=j->st2[j]? = st[j]?)
  ⟨none,none,none,st,kvs,rfl,λb o e _ _=>e,S,(iD _ _).symm,hb,B,rfl,λ_ _=>rfl⟩
  (λi σ H2 _ ⟨_,_,_,_,_,_,k,_⟩=>Av.of (k _ _ R.lst (KO nsr) hra)) ?_ ?_⟩
 ·rintro i y σ H2 Tp hx ⟨v4,v5,v6,st2,kvs2,rfl,k2,S2,h2,hb2,B2,hl2,hst⟩ hT
  obtain⟨a,ha,rfl⟩:=Ej hx
  obtain⟨r,hr',er⟩:=R.get ha
  obtain⟨na1,na2⟩:=naa i a ha
  have hi:i < st2.length:=by rw[S2.len];exact(IH.mp hr').1
  obtain⟨n,hn⟩:∃n,st2[i]? = some n:=⟨st2[i],IU hi⟩
  have hn0:st[i]? = some n:=by rw[<- hst i (IP _)];exact hn
  have hle:n<=r.length:=hb2 i r n hr' hn
  have hrs:=Gn hr' hn0
  have hrs2:=Gn hr' hn
  have eT:∀b o,H2 b=some o->(upd H2 Tp (.tup [.int i,.ref a])) b=some o:=λb o e=>Af hT _ b o e
  have ea:(upd H2 Tp (.tup [.int i,.ref a])) a=some (.lst (Az r)):=eT _ _ (k2 _ _ er na1 na2)
  have es:(upd H2 Tp (.tup [.int i,.ref a])) sa=some (.lst (Qc st2)):=eT _ _ S2.lst
  have ed:(upd H2 Tp (.tup [.int i,.ref a])) ba=some (.dK kvs2):=eT _ _ S2.dic
  have k3:∀b o,H b=some o->b≠sa->b≠ba->(upd H2 Tp (.tup [.int i,.ref a])) b=some o:=λb o e n1 n2=>eT _ _ (k2 b o e n1 n2)
  have hil:mZ (Qc st2).length (i:Int)=some i:=by
   unfold mZ
   rw[Of,if_pos (by omega),if_pos (by omega)]
   simp
  refine⟨Tp,_,rfl,Cc.of Aa,rfl,_,_,rfl,_,_,rfl,rfl,?_⟩
  refine⟨_,rfl,_,rfl,sa,_,_,_,rfl,rfl,Av.of es,Ba (zI hn),?_⟩
  refine⟨_,rfl,_,rfl,a,_,rfl,.inl (Av.of ea),_,_,rfl,rfl,_,rfl,?_⟩
  have stay:Cs x (r.drop n)=r.drop n->Ql (upd H2 Tp (.tup [.int i,.ref a])) rows sa ba st2 kvs2/\rests rows st2=half x (rests rows st) (i+1):=λe=>⟨⟨es,S2.len,ed⟩,by rw[h2,gZ hrs e]⟩
  refine Br (λc=>?_) (λc=>?_)
  ·have c':(n:Int) < ((Az r).length:Int):=of_decide_eq_true c
   rw[Aw] at c'
   have c2:n < r.length:=by omega
   refine⟨_,rfl,_,rfl,a,_,_,_,rfl,rfl,Av.of ea,Ux c2,_,rfl,rfl,_,rfl,?_⟩
   refine Br (λc3=>?_) (λc3=>?_)
   ·have c4:V.str r[n]=V.str x:=of_decide_eq_true c3
    have c5:r[n]=x:=V.str.inj c4
    have hdr:Cs x (r.drop n)=r.drop (n+1):=by rw[Gx c2,c5,Ii]
    -- starts[index]=start+1
    refine⟨_,rfl,_,_,rfl,rfl,_,rfl,_,rfl,sa,_,_,_,rfl,rfl,es,hil,?_⟩
    have e1:(Qc st2).set i (.int ((n:Int)+1))=Qc (st2.set i (n+1)):=by
     unfold Qc
     rw[List.map_set]
     rfl
    rw[e1]
    have hnew:rests rows (st2.set i (n+1))=half x (rests rows st) (i+1):=by
     rw[iX hr' hi,h2,<- hdr,nS hrs]
    have eT4:∀b o,b≠sa->(upd H2 Tp (.tup [.int i,.ref a])) b=some o->(upd (upd H2 Tp (.tup [.int i,.ref a])) sa (.lst (Qc (st2.set i (n+1))))) b=some o:=λb o hne e=>by rw[Ai hne];exact e
    have hb3:∀(j:Nat)(r':List Str)(m:Nat),rows[j]? = some r'->(st2.set i (n+1))[j]? = some m->m<=r'.length:=λj r' m h1 h3=>by
     by_cases hj:i=j
     ·subst hj
      rw[MY hi] at h3
      cases h3
      rw[hr'] at h1
      cases h1
      omega
     ·rw[MM hj] at h3
      exact hb2 j r' m h1 h3
    have hst3:∀j,i+1<=j->(st2.set i (n+1))[j]? = st[j]?:=λj hj=>by rw[MM (by omega)];exact hst j (by omega)
    have hc:=jZ (x:=x) hrs
    rw[hdr] at hc
    refine⟨_,rfl,_,_,rfl,rfl,_,rfl,a,_,rfl,.inl (Av.of (eT4 _ _ na1 ea)),_,_,rfl,rfl,_,rfl,?_⟩
    refine Br (λc6=>?_) (λc6=>?_)
    ·have c7:(n:Int)+1 < ((Az r).length:Int):=of_decide_eq_true c6
     rw[Aw] at c7
     have c8:n+1 < r.length:=by omega
     have e2:((n:Int)+1)=((n+1:Nat):Int):=by omega
     have hat:Hx (Az r) ((n:Int)+1)=some (.str r[n+1]):=by rw[e2];exact Ux c8
     have ht1:(r.drop n).tail=r[n+1]::r.drop (n+2):=by rw[Gx c2,List.tail_cons,Gx c8]
     have ht2:(r.drop (n+1)).tail=r.drop (n+2):=by rw[Gx c8,List.tail_cons]
     rw[ht1,ht2] at hc
     have hpos:0 < cnt (rests rows st2) r[n+1]:=by
      have:=hc r[n+1]
      rw[List.count_cons_self] at this
      rw[h2]
      omega
     have hv:=B2.pos hpos
     refine⟨_,rfl,_,rfl,_,rfl,_,_,rfl,rfl,a,_,_,_,rfl,rfl,Av.of (eT4 _ _ na1 ea),hat,ba,.int (cnt (rests rows st2) r[n+1]),rfl,?_,_,_,rfl,rfl,_,rfl,_,rfl,_,rfl,_,_,rfl,rfl,a,_,_,_,rfl,rfl,Av.of (eT4 _ _ na1 ea),hat,ba,_,rfl,Kt.k (k:=IW r[n+1]) (eT4 _ _ hba ed) (by rw[hl2,JB];omega),?_⟩
     ·exact hv ▸ Fc.k (k:=IW r[n+1]) (eT4 _ _ hba ed)
     ·refine⟨_,_,_,st2.set i (n+1),_,rfl,λb o e n1 n2=>by rw[Ai n2];exact eT4 _ _ n1 (k3 b o e n1 n2),⟨by rw[Ai (KO hba),Aa],by rw[List.length_set];exact S2.len,Aa⟩,hnew,hb3,B2.put ?_ λz hz=>?_,(sO hv).trans hl2,hst3⟩
      ·have:=hc r[n+1]
       rw[List.count_cons_self] at this
       rw[hnew,h2]
       omega
      ·have:=hc z
       rw[List.count_cons_of_ne (λe=>hz e.symm)] at this
       rw[hnew,h2]
       omega
    ·have c7:¬ (n:Int)+1 < ((Az r).length:Int):=of_decide_eq_false (MP.mpr c6)
     rw[Aw] at c7
     have hd0:r.drop (n+1)=[]:=MZ (by omega)
     have ht1:(r.drop n).tail=[]:=by rw[Gx c2,List.tail_cons,hd0]
     rw[ht1,hd0] at hc
     refine⟨_,_,_,st2.set i (n+1),kvs2,rfl,λb o e n1 n2=>eT4 _ _ n1 (k3 b o e n1 n2),⟨Aa,by rw[List.length_set];exact S2.len,eT4 _ _ hba ed⟩,hnew,hb3,λz=>?_,hl2,hst3⟩
     rw[B2 z,hnew,h2]
     have:=hc z
     simp only[List.tail_nil,List.count_nil,Nat.add_zero] at this
     rw[this]
   ·have c4:¬ V.str r[n]=V.str x:=of_decide_eq_false (MP.mpr c3)
    have c5:¬ r[n]=x:=λz=>c4 (by rw[z])
    obtain⟨z1,z2⟩:=stay (by rw[Gx c2,Fs,if_neg c5])
    exact⟨_,_,_,st2,kvs2,rfl,k3,z1,z2,hb2,B2,hl2,λj hj=>hst j (by omega)⟩
  ·have c':¬ (n:Int) < ((Az r).length:Int):=of_decide_eq_false (MP.mpr c)
   rw[Aw] at c'
   refine Di ?_
   obtain⟨z1,z2⟩:=stay (by rw[MZ (by omega)]<;>rfl)
   exact⟨_,_,_,st2,kvs2,rfl,k3,z1,z2,hb2,B2,hl2,λj hj=>hst j (by omega)⟩
 ·rintro σ H2 ⟨v4,v5,v6,st2,kvs2,rfl,k2,S2,h2,hb2,B2,hl2,hst⟩
  rw[nU _ _ (by rw[Iv S.len,IM,R.len];exact IP _)] at h2
  exact q st2 kvs2 H2 S2 h2 hb2 B2 hl2 k2
end
end Bk
namespace Bk
open PySem L2 Mg Nm
def Jb(K:IG):Sp:=λvs H Q _=>∃(a:IN)(ns:List Int)(k:Nat),vs=[.ref a,.int (k:Int)]/\Av K H a (ns.map V.int)/\Q (.int (ns.getD k 0)) H
def Mp:Sp:=λvs H Q _=>∃k c:Int,vs=[.int k,.int c]/\Q (.str (nameBy k c)) H
theorem Td{i:Int}(h0:0<=i)(h1:i < 26):Hx Eo.cps.toList i=some (97+i.toNat):=by
 obtain⟨n,rfl⟩:=LW h0
 refine Ba ?_
 rw[Na,JU,List.getElem?_range (by omega)]
 simp
theorem sl52:(52:Nat)<=IK:=by rw[JB];decide
section
variable {P:JJ} {w:KL} {K:IG} {mg:Str->Option II} {base:LO} {f:IN} {fd:JW}
theorem zS:Ap ["_law_script","_law_k"] ["_law_script","_law_k"] (Ae lD):=Fv (by decide +kernel)
theorem vC(F:Dp K "_law_cell_at" "_law_cell_at" lD f fd)(T:Txt mg):Aj P w K mg base Bh 1 f fd ["_law_script","_law_k"] (Jb K):=by
 refine F.ok zS (λvs H Q E h=>?_) (λcdv A outer s H vs Q E hr h=>?_)
 ·obtain⟨a,ns,k,rfl,_⟩:=h
  rfl
 obtain⟨a,ns,k,rfl,S,q⟩:=h
 refine⟨_,Ac (Ax (Ao Sr (pv 1) (Cg T.len (pv 0)) (As _)) (Ag (An (Aq Bc (pv 0) (pv 1) (λ_ _=>rfl)))) Al) (Ag (An Ad)),?_⟩
 refine⟨_,rfl,_,rfl,a,_,rfl,.inl S,_,_,rfl,rfl,_,rfl,?_⟩
 refine Br (λc=>?_) (λc=>?_)
 ·have c':(k:Int) < ((ns.map V.int).length:Int):=of_decide_eq_true c
  rw[IM] at c'
  have c2:k < ns.length:=by omega
  refine⟨_,rfl,_,rfl,a,_,_,_,rfl,rfl,S,Ba (v:=.int ns[k]) (by rw[JU,IU c2]<;>rfl),?_⟩
  have e:ns.getD k 0=ns[k]:=by rw[MJ,IU c2];rfl
  rw[e] at q
  exact q
 ·have c':¬ (k:Int) < ((ns.map V.int).length:Int):=of_decide_eq_false (MP.mpr c)
  rw[IM] at c'
  have e:ns.getD k 0=0:=by rw[MJ,List.getElem?_eq_none (by omega)];rfl
  rw[e] at q
  exact q
theorem Fh(K:IG)(n:String):NT K (.type n) (.type n)=some true:=by
 unfold NT
 exact if_pos (by simp)
end
def Fb(x:Str):Bool:=decide (1<=x.length) && decide (x.length<=20) && x.cps.toList.all λc=>decide (97<=c) && decide (c<=122)
theorem Iq{x:Str}(h:iU x):Fb x=true:=by
 obtain⟨h1,h2,h3⟩:=h
 unfold Fb
 rw[decide_eq_true h1,decide_eq_true h2,QW,QW,NL]
 intro c hc
 obtain⟨a,b⟩:=h3 c hc
 rw[decide_eq_true a,decide_eq_true b]
 rfl
def PV(v:V):Prop:=(∃i,v=.int i) ∨ ∃x,v=.str x/\x.length<=IK
def AR:V->Bool
 | .str x=>Fb x
 | _=>false
def Hb:Sp:=λvs H Q _=>∃v:V,vs=[v]/\PV v/\∀H',Am H H'->Q (.bl (AR v)) H'
theorem Fk{K:IG}{H:Hp}:∀ks:List Bool,Xv K H (ks.map V.bl) ks
 | []=>.nil
 | k::ks=>.cons rfl (Fk ks)
section
variable {P:JJ} {w:KL} {K:IG} {mg:Str->Option II} {base:LO} {f fM fC fF fT:IN} {fd dM dC dF dT:JW}
theorem EV:(["sign"]:List Str).Nodup:=by decide +kernel
theorem nW:Ap ["value"] ["value"] (Ae Oa):=Fv (by decide +kernel)
theorem Sf(F:Dp K "is_name" "is_name" Oa f fd)(T:Txt mg):Aj P w K mg base Bh 1 f fd ["value"] Hb:=by
 refine F.ok nW (λvs H Q E h=>?_) (λcdv A outer s H vs Q E hr h=>?_)
 ·obtain⟨v,rfl,_⟩:=h
  rfl
 obtain⟨v,rfl,hv,q⟩:=h
 refine⟨_,Ag (An (La (Bq Dn rfl T.isi LG (Ea (pv 0) (Gk (v:=.ty "str") rfl T.str PyProof.Rows.boot_str rfl)))
  (La (Py Wo Wo Ad (Bq Ih rfl T.len RD (Dc (pv 0))) Ad)
  (Qr (Bq (Qq rfl) rfl T.all Mq (Dc (Gi (Ae Oa) ["value"] ["sign"] [] rfl (xV (pv 0)) (Bs (i:=0) (by decide)) (λ_ _ _ _ _ _=>⟨Cq 0 EV,Dx,
   Py Ru Ru Ar (pv 0) Ar⟩)))))))),?_⟩
 rcases hv with ⟨i,rfl⟩ | ⟨x,rfl,hx⟩
 ·exact⟨_,rfl,_,_,_,_,rfl,.int _,(show NT K (.type "int") (.type "str")=some false from rfl),_,rfl,Di (q _ (Am.refl _))⟩
 replace q:∀H',Am H H'->Q (.bl (Fb x)) H':=q
 refine⟨_,rfl,_,_,_,_,rfl,.str _,Fh K "str", _,rfl,He ?_⟩
 refine⟨_,rfl,x,rfl,hx,_,_,rfl,rfl,_,rfl,Br (λc1=>?_) (λc1=>?_)⟩
 rotate_left
 ·have h1:¬ 1<=x.length:=λz=>c1 (decide_eq_true (by omega))
  have e:Fb x=false:=by unfold Fb;rw[decide_eq_false h1,QI,QI]
  rw[e] at q
  exact⟨_,rfl,Di (q _ (Am.refl _))⟩
 have h1:1<=x.length:=by have:=of_decide_eq_true c1;omega
 refine⟨_,_,rfl,rfl,_,rfl,Br (λc2=>?_) (λc2=>?_)⟩
 rotate_left
 ·have h2:¬ x.length<=20:=λz=>c2 (decide_eq_true (by omega))
  have e:Fb x=false:=by unfold Fb;rw[decide_eq_false h2,Bool.and_false,QI]
  rw[e] at q
  exact q _ (Am.refl _)
 have h2:x.length<=20:=by have:=of_decide_eq_true c2;omega
 have ea:("a" : Str).cps.toList=[97]:=by decide +kernel
 have ez:("z" : Str).cps.toList=[122]:=by decide +kernel
 refine⟨_,rfl,x,rfl,Zo (λi ys H2=>H2=H/\ys=((x.cps.toList.take i).map λc=>decide (97<=c) && decide (c<=122)).map V.bl) ⟨rfl,rfl⟩ ?_ ?_⟩
 ·rintro i c ys H2 hc ⟨rfl,rfl⟩
  have ga:(!decide ((⟨#[c]⟩:Str).cps.toList < ("a" : Str).cps.toList))=decide (97<=c):=by rw[ea];exact uO c
  have gz:(!decide (("z" : Str).cps.toList < (⟨#[c]⟩:Str).cps.toList))=decide (c<=122):=by rw[ez];exact uT c
  have hc':x.cps.toList[i]? = some c:=by rw[Array.getElem?_toList];exact hc
  have hil:i < x.cps.toList.length:=(IH.mp hc').1
  have hxl:x.length=x.cps.toList.length:=len_list x
  have hlen:(((x.cps.toList.take i).map λc=>decide (97<=c) && decide (c<=122)).map V.bl).length < IK:=by
   rw[IM,IM,OB,JB]
   omega
  have htk:x.cps.toList.take (i+1)=x.cps.toList.take i++[c]:=by rw[ND,hc'];rfl
  refine⟨_,rfl,_,_,rfl,rfl,_,rfl,Br (λk=>?_) (λk=>?_)⟩
  ·refine⟨_,_,rfl,rfl,hlen,rfl,?_⟩
   have k':decide (97<=c)=true:=ga.symm.trans k
   rw[htk,JE,JE]
   refine congrArg (_ ++ ·) ?_
   show [V.bl (!decide (("z" : Str).cps.toList < (⟨#[c]⟩:Str).cps.toList))]=[V.bl (decide (97<=c) && decide (c<=122))]
   rw[gz,k',QW]
  ·refine⟨hlen,rfl,?_⟩
   have k':decide (97<=c)=false:=by
    rw[<- ga]
    exact MP.mpr k
   rw[htk,JE,JE]
   refine congrArg (_ ++ ·) ?_
   show [V.bl false]=[V.bl (decide (97<=c) && decide (c<=122))]
   rw[k',QI]
 ·rintro ys H2 ⟨rfl,rfl⟩ p hp
  refine⟨p,_,_,rfl,Av.of Aa,Fk _,?_⟩
  have e:Fb x=((x.cps.toList.take x.cps.size).map λc=>decide (97<=c) && decide (c<=122)).all id:=by
   unfold Fb
   rw[decide_eq_true h1,decide_eq_true h2,QW,QW,KW (by simp),List.all_map]
   rfl
  rw[e] at q
  exact q _ (Af hp _)
theorem Dd.snoc{H H':Hp}{ra q ea:IN}{as:List IN}{rows:List (List Str)}{el:List Str}(R:Dd H ra as rows)(s:Am H H')(e:H' ea=some (.lst (Az el)))(l:H' q=some (.lst ((as++[ea]).map V.ref))):Dd H' q (as++[ea]) (rows++[el]):=by
 refine⟨l,by rw[IV,IV,R.len];rfl,λi a r h1 h2=>?_⟩
 by_cases hi:i < as.length
 ·rw[KA hi] at h1
  rw[KA (by rw[<- R.len];exact hi)] at h2
  exact s _ _ (R.row i a r h1 h2)
 ·have hl:i < (as++[ea]).length:=(IH.mp h1).1
  rw[IV,JH] at hl
  obtain rfl:i=as.length:=by omega
  rw[JY] at h1
  cases h1
  rw[R.len,JY] at h2
  cases h2
  exact e
end
def hF(ea oa ba:IN):List (Str×V):=[("elder_row", .ref ea),("order_row", .ref oa),("bodies", .ref ba)]
def bF(d:IN):List (Str×V):=[("by_name", .ref d)]
theorem Sq(d:IN):(bF d).lookup ("by_name" : Str)=some (.ref d):=by
 unfold bF
 rw[JL,beq_self_eq_true]
theorem Fx(d:IN){m:Str}(h:(m == ("by_name" : Str))=false):(bF d).lookup m=none:=by
 unfold bF
 rw[JL,h]
 rfl
theorem BX(ea oa ba:IN):(hF ea oa ba).lookup ("order_row" : Str)=some (.ref oa):=by
 unfold hF
 rw[JL,show (("order_row" : Str) == "elder_row")=false by decide +kernel,JL,beq_self_eq_true]
theorem oY(ea oa ba:IN):(hF ea oa ba).lookup ("bodies" : Str)=some (.ref ba):=by
 unfold hF
 rw[JL,show (("bodies" : Str) == "elder_row")=false by decide +kernel,JL,show (("bodies" : Str) == "order_row")=false by decide +kernel,JL,beq_self_eq_true]
theorem yR(ea oa ba:IN):Ex "bodies" (.ref ba) (Ex "order_row" (.ref oa) (Ex "elder_row" (.ref ea) []))=hF ea oa ba:=by
 show Ex "bodies" (.ref ba) (if ("elder_row" : Str) = "order_row" then [(("elder_row" : Str),V.ref oa)] else (("elder_row" : Str),V.ref ea)::Ex "order_row" (.ref oa) [])=hF ea oa ba
 rw[if_neg (by decide +kernel)]
 show (if ("elder_row" : Str) = "bodies" then _ else (("elder_row" : Str),V.ref ea)::(if ("order_row" : Str) = "bodies" then _ else (("order_row" : Str),V.ref oa)::[(("bodies" : Str),V.ref ba)]))=hF ea oa ba
 rw[if_neg (by decide +kernel),if_neg (by decide +kernel)]
 rfl
structure Ent where
 nm:Str
 at_:IN
 dx:IN
 ea:IN
 oa:IN
 ba:IN
 el:List Str
 od:List Str
 bd:List (Key×V)
structure Vu(CH:IN)(H:Hp)(e:Ent):Prop where
 ob:H e.at_=some (.ins CH e.dx (hF e.ea e.oa e.ba))
 el:H e.ea=some (.lst (Az e.el))
 od:H e.oa=some (.lst (Az e.od))
 bd:H e.ba=some (.dK e.bd)
theorem Vu.same{CH:IN}{H H':Hp}{e:Ent}(E:Vu CH H e)(h:Am H H'):Vu CH H' e:=⟨h _ _ E.ob,h _ _ E.el,h _ _ E.od,h _ _ E.bd⟩
def qS(L:List Ent):List (Key×V):=L.map λe=>((IW e.nm:Key),V.ref e.at_)
def Ik(L:List Ent)(x:Str):Option Ent:=L.find? λe=>decide (e.nm=x)
theorem Um(L:List Ent)(x:Str):valV (qS L) (IW x:Key)=(Ik L x).map λe=>V.ref e.at_:=by
 unfold qS Ik
 induction L with
 | nil=>rfl
 | cons e L ih=>
  rw[KR]
  by_cases h:e.nm=x
  ·rw[Cu (show ((IW e.nm:Key),V.ref e.at_).1=IW x by rw[h]),List.find?_cons_of_pos (by rw[decide_eq_true h])]
   rfl
  ·rw[Cm (λz=>h (IW.inj z)),ih,List.find?_cons_of_neg (by rw[decide_eq_false h];exact IZ)]
theorem Hf{L:List Ent}{x:Str}{e:Ent}(h:Ik L x=some e):e∈L/\e.nm=x:=⟨List.mem_of_find?_eq_some h,of_decide_eq_true (List.find?_some (p:=λe:Ent=>decide (e.nm=x)) h)⟩
theorem nK{L:List Ent}{x:Str}(h:∀e∈L,e.nm≠x):Ik L x=none:=List.find?_eq_none.mpr λe he=>by rw[decide_eq_false (h e he)];exact IZ
theorem Jk{L:List Ent}{e:Ent}(nd:(L.map (·.nm)).Nodup)(h:e∈L):Ik L e.nm=some e:=by
 unfold Ik
 induction L with
 | nil=>cases h
 | cons a L ih=>
  rw[KR,LJ] at nd
  rcases IQ.mp h with rfl | h'
  ·rw[List.find?_cons_of_pos (by rw[decide_eq_true rfl])]
  ·rw[List.find?_cons_of_neg,ih nd.2 h']
   have:a.nm≠e.nm:=λz=>nd.1 (by rw[z];exact List.mem_map_of_mem h')
   rw[decide_eq_false this]
   exact IZ
structure Ay(CB CH:IN)(H:Hp)(p d:IN)(L:List Ent):Prop where
 ob:∃dx,H p=some (.ins CB dx (bF d))
 dc:H d=some (.dK (qS L))
 en:∀e∈L,Vu CH H e
 nb:∀e∈L,e.ba≠d
 nd:(L.map (·.nm)).Nodup
 nn:(L.map (·.ba)).Nodup
theorem Ay.same{CB CH:IN}{H H':Hp}{p d:IN}{L:List Ent}(B:Ay CB CH H p d L)(h:Am H H'):Ay CB CH H' p d L:=
 ⟨let ⟨dx,e⟩:=B.ob;⟨dx,h _ _ e⟩,h _ _ B.dc,λe he=>(B.en e he).same h,B.nb,B.nd,B.nn⟩
theorem Ay.get{CB CH:IN}{H:Hp}{p d:IN}{L:List Ent}{x:Str}{e:Ent}(B:Ay CB CH H p d L)(h:Ik L x=some e):Fc H d (.str x) (some (.ref e.at_)):=by
 have:=Fc.k (k:=(IW x:Key)) B.dc
 rw[Um,h] at this
 exact this
theorem Ay.no{CB CH:IN}{H:Hp}{p d:IN}{L:List Ent}{x:Str}(B:Ay CB CH H p d L)(h:Ik L x=none):Fc H d (.str x) none:=by
 have:=Fc.k (k:=(IW x:Key)) B.dc
 rw[Um,h] at this
 exact this
structure Fo(K:IG)(mg:Str->Option II)(CB CH:IN):Prop where
 clB:Vk K CB
 clH:Vk K CH
 nBy:Eh K CB "by_name"
 nEl:Eh K CH "elder_row"
 nOd:Eh K CH "order_row"
 nBd:Eh K CH "bodies"
 mgB:mg "Book" = some (.ref CB)
 mgH:mg "House" = some (.ref CH)
def Ug(CB:IN):Sp:=λvs H Q _=>∃(p dx:IN),vs=[.ref p]/\H p=some (.ins CB dx [])/\∀d,H d=none->Q .non (upd (upd H d (.dK [])) p (.ins CB dx (bF d)))
def Ma(CH:IN):Sp:=λvs H Q _=>∃(p ea oa dx:IN),vs=[.ref p,.ref ea,.ref oa]/\H p=some (.ins CH dx [])/\∀(b:IN)(H':Hp),H b=none->H' p=some (.ins CH dx (hF ea oa b))->H' b=some (.dK [])->(∀c o,H c=some o->c≠p->H' c=some o)->Q .non H'
def Ic(CB CH:IN):Sp:=λvs H Q _=>∃(p d:IN)(L:List Ent)(x:Str)(e:Ent),vs=[.ref p,.str x]/\Ay CB CH H p d L/\Ik L x=some e/\Q (.ref e.at_) H
def Ep(CB CH:IN):Sp:=λvs H Q _=>∃(p d:IN)(L:List Ent)(x:Str)(e:Ent),vs=[.ref p,.str x]/\Ay CB CH H p d L/\Ik L x=some e/\∀l,H l=none->Q (.ref l) (upd H l (.lst (Az e.od)))
section
variable {P:JJ} {w:KL} {K:IG} {mg:Str->Option II} {base:LO} {f fH CB CH:IN} {fd dH:JW}
theorem rZ:Ap ["self"] ["self"] (Ae cB):=Fv (by decide +kernel)
theorem pX(F:Dp K "__init__" "Book.__init__" cB f fd)(T:Fo K mg CB CH):Aj P w K mg base Bh 1 f fd ["self"] (Ug CB):=by
 refine F.ok rZ (λvs H Q E h=>?_) (λcdv A outer s H vs Q E hr h=>?_)
 ·obtain⟨p,dx,rfl,_⟩:=h
  rfl
 obtain⟨p,dx,rfl,hp,k⟩:=h
 refine⟨_,Ag (Gz (pv 0) Mh rfl),?_⟩
 intro d hd
 have npd:p≠d:=Ah hp hd
 refine⟨_,rfl,p,CB,dx,[],rfl,(by rw[Ai npd];exact hp),T.clB,T.nBy,(by show 0 < 1000;decide),?_⟩
 exact k d hd
theorem sV:Ap ["self","elder_row","order_row"] ["self","elder_row","order_row"] (Ae cH):=Fv (by decide +kernel)
theorem Xu(F:Dp K "__init__" "House.__init__" cH f fd)(T:Fo K mg CB CH):Aj P w K mg base Bh 1 f fd ["self","elder_row","order_row"] (Ma CH):=by
 refine F.ok sV (λvs H Q E h=>?_) (λcdv A outer s H vs Q E hr h=>?_)
 ·obtain⟨p,ea,oa,dx,rfl,_⟩:=h
  rfl
 obtain⟨p,ea,oa,dx,rfl,hp,k⟩:=h
 refine⟨_,Ac (Gz (pv 0) (pv 1) rfl) (Ac (Gz (pv 0) (pv 2) rfl) (Ag (Gz (pv 0) Mh rfl))),?_⟩
 refine⟨_,rfl,_,rfl,p,CH,dx,[],rfl,hp,T.clH,T.nEl,(by show 0 < 1000;decide),?_⟩
 refine⟨_,rfl,_,rfl,p,CH,dx,_,rfl,Aa,T.clH,T.nOd,(by show 1 < 1000;decide),?_⟩
 intro b hb
 have hb2:p≠b:=λz=>by rw[<- z,Aa] at hb;cases hb
 have hb':H b=none:=by rw[Ai (KO hb2),Ai (KO hb2)] at hb;exact hb
 refine⟨_,rfl,p,CH,dx,_,rfl,(by rw[Ai hb2];exact Aa),T.clH,T.nBd,?_,?_⟩
 ·exact PJ (Fz _ _ _) (by show 2 < 1000;decide)
 ·refine k b _ hb' (by rw[Aa,yR]) (by rw[Ai (KO hb2),Aa]) λc o e hc=>?_
  rw[Ai hc,Ai (Ah e hb'),Ai hc,Ai hc]
  exact e
theorem uS:Ap ["self","name"] ["self","name"] (Ae cY):=Fv (by decide +kernel)
theorem Xq(F:Dp K "house" "Book.house" cY f fd)(T:Fo K mg CB CH):Aj P w K mg base Bh 1 f fd ["self","name"] (Ic CB CH):=by
 refine F.ok uS (λvs H Q E h=>?_) (λcdv A outer s H vs Q E hr h=>?_)
 ·obtain⟨p,d,L,x,e,rfl,_⟩:=h
  rfl
 obtain⟨p,d,L,x,e,rfl,B,he,q⟩:=h
 have hu:=Gd hr
 obtain⟨dx,hp⟩:=B.ob
 refine⟨_,Ac (Ax (Fj (Ki hu (pv 1) (Cp (pv 0) rfl))) Bw Al) (Ag (An (Iw hu (Cp (pv 0) rfl) (pv 1) (λ_ _=>rfl)))),?_⟩
 refine⟨_,rfl,_,rfl,p,CB,dx,_,_,rfl,hp,T.clB,T.nBy,Sq d,d,_,rfl,B.get he,_,rfl,Di ?_⟩
 exact⟨_,rfl,p,CB,dx,_,_,rfl,hp,T.clB,T.nBy,Sq d,_,rfl,d,_,rfl,B.get he,q⟩
theorem tD:Ap ["self","name"] ["self","name"] (Ae Zn):=Fv (by decide +kernel)
theorem Wf(F:Dp K "order" "Book.order" Zn f fd)(T:Fo K mg CB CH)(Tx:Txt mg)(GH:Aj P w K mg base Bh 1 fH dH ["self","name"] (Ic CB CH))(bH:Binds K dH ["self","name"] [])(mH:Cr K CB "house" fH):Aj P w K mg base Bh 2 f fd ["self","name"] (Ep CB CH):=by
 refine F.ok tD (λvs H Q E h=>?_) (λcdv A outer s H vs Q E hr h=>?_)
 ·obtain⟨p,d,L,x,e,rfl,_⟩:=h
  rfl
 obtain⟨p,d,L,x,e,rfl,B,he,q⟩:=h
 obtain⟨dx,hp⟩:=B.ob
 have E:=B.en e (Hf he).1
 refine⟨_,Ag (An (Dm Ef rfl Tx.list LN (Dc (Cp (Dv (pv 0) T.clB mH GH hr bH .nil Cw (Dc (pv 1))) rfl)))),?_⟩
 exact⟨_,rfl,p,dx,_,rfl,hp,Fx d (by decide +kernel),_,rfl,p,d,L,x,e,rfl,B,he,e.at_,CH,e.dx,_,_,rfl,E.ob,T.clH,T.nOd,BX _ _ _,e.oa,_,rfl,.inl (Av.of E.od),q⟩
end
end Bk
namespace Bk
open PySem L2 Mg
def Qi:Sp:=λvs H Q _=>∃(ra la:IN)(as:List IN)(rows:List (List Str))(n:Nat),vs=[.ref ra,.ref la]/\Dd H ra as rows/\Fm rows<=1000/\rows.length<=1000/\(∀r∈(Ei n rows).2,r=[]) /\
 ∀(p:IN)(H':Hp),H p=none->Am H H'->H' p=some (.lst (Az (Ei n rows).1))->Q (.ref p) H'
theorem pJ(n:Nat):(JQ n (V.int 0))=Qc (JQ n 0):=by
 unfold Qc
 rw[List.map_replicate]
 rfl
theorem Pq{K:IG}{H:Hp}:∀ps:List IN,(∀p∈ps,H p=some (.lst []))->Xv K H (ps.map V.ref) (JQ ps.length false)
 | [],_=>.nil
 | p::ps,h=>.cons (.inl ⟨[],Av.of (h p JM),rfl⟩) (Pq ps λq hq=>h q (JC _ hq))
theorem iV(n:Nat):(JQ n false).any id=false:=by
 induction n with
 | zero=>rfl
 | succ n ih=>rw[List.replicate_succ,List.any_cons,ih];rfl
section
variable {P:JJ} {w:KL} {K:IG} {mg:Str->Option II} {base:LO} {f fC fF fT:IN} {fd dC dF dT:JW}
abbrev eW:List Str:=["rows","labels","starts","behind","joined","name","rests"]
theorem IB:(["row"]:List Str).Nodup:=by decide +kernel
theorem HP:(["row","start"]:List Str).Nodup:=by decide +kernel
theorem Ha:Ap ["rows","labels","starts","behind","joined","name","rests"] ["rows","labels"] (Ae Gf):=Fv (by decide +kernel)
theorem iB(F:Dp K "merged" "merged" Gf f fd)(T:Txt mg)(FC:Dp K "counts_behind" "counts_behind" Ll fC dC)(bC:Binds K dC ["rows"] [])(mC:mg "counts_behind" = some (.ref fC))(FF:Dp K "free_name" "free_name" Xs fF dF)(bF:Binds K dF ["rows","starts","behind"] [])(mF:mg "free_name" = some (.ref fF))(FT:Dp K "take_out" "take_out" Wg fT dT)(bT:Binds K dT ["name","rows","starts","behind"] [])(mT:mg "take_out" = some (.ref fT)):Aj P w K mg base Bh 2 f fd ["rows","labels"] Qi:=by
 have GC:Aj P w K mg base Bh 1 fC dC ["rows"] Qk:=Rw FC T
 have GF:Aj P w K mg base Bh 1 fF dF ["rows","starts","behind"] aR:=gK FF T
 have GT:Aj P w K mg base Bh 1 fT dT ["name","rows","starts","behind"] Yq:=fJ FT T
 refine F.ok Ha (λvs H Q E h=>?_) (λcdv A outer s H vs Q E hr h=>?_)
 ·obtain⟨ra,la,as,rows,n,rfl,_⟩:=h
  rfl
 obtain⟨ra,la,as,rows,n,rfl,R,ht,hrl,hend,q⟩:=h
 refine⟨_,Ac (Ed (i:=2) (Ae Gf) eW ["row"] [] rfl Ha.nd rfl rfl (De (pv 0)) (Bs (i:=0) (by decide)) (λ_ _ _ _ _ _=>⟨Cq 0 IB,Dx,Ad⟩))
  (Ac (Bj 3 Ha.nd (Dl GC hr rfl mC FC.kp bC .nil Cw (Dc (pv 0))))
  (Ac (Bj 4 Ha.nd (Bt Hn))
  (Ac (Bj 5 Ha.nd (Dl GF hr rfl mF FF.kp bF .nil Cw (Ge (pv 0) (pv 2) (pv 3))))
  (Ac (Jq LB (Fj (Uc (pv 5)))
   (Ac (Ca (Kq KQ MF ME Et (pv 4) (Dc (pv 5))))
   (Ac (Ca (Dl GT hr rfl mT FT.kp bT .nil Cw (Qz (pv 5) (pv 0) (pv 2) (pv 3))))
   (Ag (Bj 5 Ha.nd (Dl GF hr rfl mF FF.kp bF .nil Cw (Ge (pv 0) (pv 2) (pv 3))))))))
  (Ac (Ed (i:=6) (Ae Gf) eW ["row","start"] [] rfl Ha.nd rfl rfl (Tz rfl T.zip (Ea (pv 0) (pv 2))) (Nz (K:=K) (Ew (Bs (i:=0) (by decide)) (Ew (Bs (i:=1) (by decide)) Mb)))
   (λ_ _ _ _ _ _=>⟨Jm (n:=2) rfl (Bo (Cq 0 HP) (Bo (Cq 1 HP) Gg)),Dx,Co (r:=lM K) En (pv 0) (Cy (pv 1)) Dy⟩))
  (Ac (Ax (Gc (Bq (Qv rfl) rfl T.any Mn (Dc (pv 6)))) Bw Al)
  (Ag (An (pv 4))))))))),?_⟩
 -- starts=[0 for row in rows]
 refine⟨_,rfl,ra,rfl,⟨_,Av.of R.lst⟩,Dr (K:=K) (a:=ra) (xs:=as.map V.ref) (λi ys H2=>H2=H/\ys=JQ i (V.int 0)) ⟨rfl,rfl⟩ (λi ys H2 _ h=>by rw[h.1];exact Av.of R.lst) ?_ ?_⟩
 ·rintro i y ys H2 hi ⟨rfl,rfl⟩
  refine⟨?_,rfl,?_⟩
  ·have hi':=(IH.mp hi).1
   rw[IM,R.len] at hi'
   rw[LV,JB]
   omega
  ·exact OI.symm
 rintro ys H2 ⟨rfl,rfl⟩ sa hsa
 rw[IM,R.len,pJ]
 have s1:Am H2 (upd H2 sa (.lst (Qc (JQ rows.length 0)))):=Af hsa _
 -- behind=counts_behind(rows)
 refine⟨_,rfl,ra,as,rows,rfl,R.same s1,by omega,λba kvs H3 hba s2 eb B hl=>?_⟩
 -- joined=[]
 refine⟨(by show 0<=IK;decide),λja hja=>?_⟩
 have s3:Am H3 (upd H3 ja (.lst [])):=Af hja _
 have hsa3:H3 sa=some (.lst (Qc (JQ rows.length 0))):=s2 _ _ Aa
 have n_sj:sa≠ja:=Ah hsa3 hja
 have n_bj:ba≠ja:=Ah eb hja
 have n_sb:sa≠ba:=Cd hsa3 eb (by intro z;cases z)
 have st0:Ql (upd H3 ja (.lst [])) rows sa ba (JQ rows.length 0) kvs:=⟨s3 _ _ hsa3,LV,s3 _ _ eb⟩
 have sH:Am H2 (upd H3 ja (.lst [])):=s1.trans (s2.trans s3)
 have hba2:H2 ba=none:=s1.free hba
 have hja2:H2 ja=none:=s1.free (s2.free hja)
 have nsr:sa≠ra:=KO (Ah R.lst hsa)
 have nsa:∀a∈as,a≠sa:=λa ha=>by
  obtain⟨i,hi⟩:=LD ha
  obtain⟨r,_,er⟩:=R.get hi
  exact Ah er hsa
 -- name=free_name(rows,starts,behind)
 refine⟨_,rfl,_,rfl,_,rfl,ra,sa,ba,as,rows,_,kvs,cnt rows,rfl,R.same sH,st0,B,λH4 s4=>?_⟩
 rw[Cv]
 have hb0:∀(i:Nat)(r:List Str)(m:Nat),rows[i]? = some r->(JQ rows.length 0)[i]? = some m->m<=r.length:=λi r m _ h2=>by
  rw[OV] at h2
  split at h2
  ·cases h2;exact KI _
  ·cases h2
 -- while name is not None
 refine⟨λm σ H5=>∃(joined:List Str)(st:List Nat)(kvs:List (Key×V))(k:Nat)(v6:Option V),σ=[some (.ref ra),some (.ref la),some (.ref sa),some (.ref ba),some (.ref ja),some (Yg (pick (cnt (rests rows st)) (rests rows st))),v6] /\
  Am H2 H5/\H5 ja=some (.lst (Az joined))/\Ql H5 rows sa ba st kvs/\(∀(i:Nat)(r:List Str)(m:Nat),rows[i]? = some r->st[i]? = some m->m<=r.length)/\Ym kvs (cnt (rests rows st))/\kvs.length<=1000 /\
  (joined++(Ei k (rests rows st)).1=(Ei n rows).1/\(Ei k (rests rows st)).2=(Ei n rows).2)/\m=Fm (rests rows st)/\joined.length+Fm (rests rows st)<=Fm rows,
  ⟨_,[],JQ rows.length 0,kvs,n,none,by rw[Cv];rfl,sH.trans s4,s4 _ _ Aa,⟨s4 _ _ st0.lst,st0.len,s4 _ _ st0.dic⟩,hb0,by rw[Cv];exact B,by omega,by rw[Cv];exact⟨rfl,rfl⟩,rfl,by rw[Cv];simp⟩,?_⟩
 rintro m σ H5 ⟨joined,st,kvs,k,v6,rfl,s5,ej,S,hb,B,hl,⟨e1,e2⟩,rfl,hj⟩
 refine⟨_,rfl,_,rfl,?_⟩
 cases hp:pick (cnt (rests rows st)) (rests rows st) with
 | some x=>
  refine He ?_
  obtain⟨hx0,r0,hr0,t0,er0⟩:=Ia hp
  have hlt:Fm ((rests rows st).map (Cs x)) < Fm (rests rows st):=Jp (by rw[<- er0];exact hr0)
  refine⟨λσ' H'=>∃m',m' < Fm (rests rows st)/\∃(joined:List Str)(st:List Nat)(kvs:List (Key×V))(k:Nat)(v6:Option V),σ'=[some (.ref ra),some (.ref la),some (.ref sa),some (.ref ba),some (.ref ja),some (Yg (pick (cnt (rests rows st)) (rests rows st))),v6] /\
   Am H2 H'/\H' ja=some (.lst (Az joined))/\Ql H' rows sa ba st kvs/\(∀(i:Nat)(r:List Str)(m:Nat),rows[i]? = some r->st[i]? = some m->m<=r.length)/\Ym kvs (cnt (rests rows st))/\kvs.length<=1000 /\
   (joined++(Ei k (rests rows st)).1=(Ei n rows).1/\(Ei k (rests rows st)).2=(Ei n rows).2)/\m'=Fm (rests rows st)/\joined.length+Fm (rests rows st)<=Fm rows,λσ' H' h=>h,?_⟩
  -- joined.append(name)
  refine⟨_,rfl,.inl ⟨rfl,_,Av.of ej⟩,_,rfl,ja,_,_,rfl,rfl,ej,by rw[Aw,JB];omega,?_⟩
  have ejx:Az joined++[V.str x]=Az (joined++[x]):=by unfold Az;rw[JE];rfl
  have hup:∀b o,b≠ja->H5 b=some o->(upd H5 ja (.lst (Az joined++[V.str x]))) b=some o:=λb o hne e=>by rw[Ai hne];exact e
  have s6:Am H2 (upd H5 ja (.lst (Az joined++[V.str x]))):=λb o e=>hup b o (Ah e hja2) (s5 b o e)
  -- take_out(name,rows,starts,behind)
  refine⟨_,rfl,_,rfl,_,rfl,_,rfl,x,ra,sa,ba,as,rows,st,kvs,rfl,R.same s6,⟨hup _ _ n_sj S.lst,S.len,hup _ _ n_bj S.dic⟩,hb,B,by omega,nsr,nsa,λst' kvs' H6 S6 h6 hb6 B6 hl6 k6=>?_⟩
  have s7:Am H2 H6:=λb o e=>k6 b o (s6 b o e) (Ah e hsa) (Ah e hba2)
  -- name=free_name(rows,starts,behind)
  refine⟨_,rfl,_,rfl,_,rfl,ra,sa,ba,as,rows,st',kvs',_,rfl,R.same s7,S6,B6,λH7 s8=>?_⟩
  obtain⟨k',rfl⟩:∃k',k=k'+1:=by
   cases k with
   | zero=>
    have z:=hend r0 (by rw[<- e2];exact hr0)
    rw[er0] at z
    cases z
   | succ k'=>exact⟨k',rfl⟩
  rw[Ow hp] at e1 e2
  refine⟨_,?_,joined++[x],st',kvs',k',v6,rfl,s7.trans s8,s8 _ _ ?_,⟨s8 _ _ S6.lst,S6.len,s8 _ _ S6.dic⟩,hb6,B6,by omega,⟨?_,?_⟩,rfl,?_⟩
  ·rw[h6];exact hlt
  ·rw[<- ejx]
   exact k6 _ _ Aa (KO n_sj) (KO n_bj)
  ·rw[h6,OP];exact e1
  ·rw[h6];exact e2
  ·rw[h6,IV,JH];omega
 | none=>
  refine Di ?_
  rw[Yi hp] at e1 e2
  have e1':joined=(Ei n rows).1:=by rw[<- e1,LA]
  have e2':rests rows st=(Ei n rows).2:=e2
  have hall:∀(i:Nat)(r:List Str)(j:Nat),rows[i]? = some r->st[i]? = some j->r.drop j=[]:=λi r j h1 h2=>hend _ (by rw[<- e2'];exact IY (Gn h1 h2))
  -- rests=[row[start:] for row,start in zip(rows,starts)]
  have R5:=R.same s5
  refine⟨_,rfl,_,rfl,ra,sa,rfl,⟨_,Av.of R5.lst⟩,⟨_,Av.of S.lst⟩,Qj (K:=K) (a:=ra) (b:=sa) (xs:=as.map V.ref) (zs:=Qc st) (by rw[IM,Of,S.len,R.len])
   (λi ys H6=>Am H5 H6/\∃ps:List IN,ys=ps.map V.ref/\ps.length=i/\∀p∈ps,H6 p=some (.lst [])) ⟨Am.refl _,[],rfl,rfl,λp hp=>nomatch hp⟩ (λi ys H6 _ h=>⟨Av.of (h.1 _ _ R5.lst),Av.of (h.1 _ _ S.lst)⟩) ?_ ?_⟩
  ·rintro i y z ys H6 Tp hy hz ⟨s6,ps,rfl,hps,hpl⟩ hT
   obtain⟨a,ha,rfl⟩:=Ej hy
   obtain⟨j,hj',rfl⟩:=Tq hz
   obtain⟨r,hr',er⟩:=R5.get ha
   have s9:Am H5 (upd H6 Tp (.tup [.ref a,.int j])):=s6.trans (Af hT _)
   refine⟨Tp,_,rfl,Cc.of Aa,rfl,_,_,rfl,_,_,rfl,rfl,?_⟩
   refine⟨_,rfl,_,rfl,_,rfl,a,_,rfl,Av.of (s9 _ _ er),λp hp'=>?_⟩
   have hc:Gj (Az r) (some (j:Int)) none=[]:=by
    rw[Nu _ _ (by rw[Aw];exact hb i r j hr' hj')]
    unfold Az
    rw[<- QR,hall i r j hr' hj']
    rfl
   rw[hc]
   refine⟨?_,s9.trans (Af hp' _),ps++[p],by rw[JE];rfl,by rw[IV,hps];rfl,λp' hp2=>?_⟩
   ·have:=(IH.mp hr').1
    rw[IM,hps,JB]
    omega
   ·rcases JO.mp hp2 with z | z
    ·have e:=Af hT (.tup [.ref a,.int j]) _ _ (hpl p' z)
     exact Af hp' _ _ _ e
    ·have e:p'=p:=by simpa using z
     subst e
     exact Aa
  ·rintro ys H6 ⟨s6,ps,rfl,hps,hpl⟩ qa hqa
   -- if any(rests)
   have s9:=Af (H:=H6) hqa (.lst (ps.map V.ref))
   refine⟨_,rfl,qa,_,_,rfl,Av.of Aa,Pq ps λp hp'=>s9 _ _ (hpl p hp'),?_⟩
   rw[iV]
   refine⟨_,rfl,Di ?_⟩
   -- return joined
   refine⟨_,rfl,q ja _ hja2 (s5.trans (s6.trans s9)) ?_⟩
   rw[<- e1']
   exact s9 _ _ (s6 _ _ ej)
end
end Bk
namespace Bk
open PySem L2 Mg Nm
section
variable {P:JJ} {w:KL} {K:IG} {mg:Str->Option II} {base:LO} {f fM fC fF fT:IN} {fd dM dC dF dT:JW}
def Yu:Sp:=λvs H Q _=>∃(x:Str)(ea oa:IN)(as:List IN)(el:List Str)(rows:List (List Str))(n:Nat),vs=[.str x,.ref ea,.ref oa]/\H ea=some (.lst (Az el))/\Dd H oa as rows/\Fm (rows++[el])<=900/\rows.length<=900/\el.length<=900/\(∀r∈(Ei n (rows++[el])).2,r=[])/\(Ei n (rows++[el])).1.length<=900 /\
 ∀(p:IN)(H':Hp),H p=none->Am H H'->H' p=some (.lst (Az (x::(Ei n (rows++[el])).1)))->Q (.ref p) H'
theorem wX:Ap ["name","elders","orders"] ["name","elders","orders"] (Ae Xp):=Fv (by decide +kernel)
theorem rT(F:Dp K "made_order" "made_order" Xp f fd)(T:Txt mg)(GM:Aj P w K mg base Bh 2 fM dM ["rows","labels"] Qi)(kM:IR K (.ref fM)=true)(bM:Binds K dM ["rows","labels"] [])(mM:mg "merged" = some (.ref fM)):
 Aj P w K mg base Bh 3 f fd ["name","elders","orders"] Yu:=by
 refine F.ok wX (λvs H Q E h=>?_) (λcdv A outer s H vs Q E hr h=>?_)
 ·obtain⟨x,ea,oa,as,el,rows,n,rfl,_⟩:=h
  rfl
 obtain⟨x,ea,oa,as,el,rows,n,rfl,eel,R,ht,hrl,hell,hrun,hjl,q⟩:=h
 refine⟨_,Ag (An (Ak Fa (Bt (Dc (pv 0))) (Ck GM hr mM kM bM (Ea (Ak Fa (pv 2) (Bt (Dc (pv 1)))) (Ak Fa (pv 1) (Bt (Dc (pv 0)))))))),?_⟩
 have hlR:as.length=rows.length:=R.len
 refine⟨_,rfl,by show 1<=IK;decide,λl1 hl1=>?_⟩
 have s1:=Af hl1 (.lst [V.str x])
 refine⟨_,rfl,_,rfl,by show 1<=IK;decide,λl2 hl2=>?_⟩
 have s2:=Af hl2 (.lst [V.ref ea])
 refine⟨oa,l2,_,_,rfl,rfl,s2 _ _ (s1 _ _ R.lst),Aa,by rw[IM,JB,JH];omega,λl3 hl3=>?_⟩
 have s3:=Af hl3 (.lst (as.map V.ref++[V.ref ea]))
 refine⟨_,rfl,_,rfl,by show 1<=IK;decide,λl4 hl4=>?_⟩
 have s4:=Af hl4 (.lst [V.str x])
 have sA:=s1.trans (s2.trans (s3.trans s4))
 refine⟨ea,l4,_,_,rfl,rfl,sA _ _ eel,Aa,by rw[Aw,JB,JH];omega,λl5 hl5=>?_⟩
 have s5:=Af hl5 (.lst (Az el++[V.str x]))
 have sB:=sA.trans s5
 have e3:=s5 _ _ (s4 _ _ (Aa (H:=upd (upd H l1 (.lst [V.str x])) l2 (.lst [V.ref ea])) (a:=l3) (o:=.lst (as.map V.ref++[V.ref ea]))))
 have R5:=R.snoc sB (sB _ _ eel) (q:=l3) (by rw[JE];exact e3)
 have n1:=s5 _ _ (s4 _ _ (s3 _ _ (s2 _ _ (Aa (H:=H) (a:=l1) (o:=.lst [V.str x])))))
 refine⟨l3,l5,as++[ea],rows++[el],n,rfl,R5,by omega,by rw[IV,JH];omega,hrun,λp H6 hp s6 ep=>?_⟩
 refine⟨l1,p,_,_,rfl,rfl,s6 _ _ n1,ep,by rw[Aw,JB,JH];omega,λz hz=>?_⟩
 exact q z _ (sB.free (s6.free hz)) (sB.trans (s6.trans (Af hz _))) Aa
end
def Hand(H:Hp)(v:V)(el:List Str):Prop:=(v=.non/\el=[]) ∨ ∃a,v=.ref a/\H a=some (.lst (Az el))
theorem Hand.same{H H':Hp}{v:V}{el:List Str}(h:Hand H v el)(s:Am H H'):Hand H' v el:=by
 rcases h with h | ⟨a,e,h⟩
 ·exact .inl h
 ·exact .inr ⟨a,e,s _ _ h⟩
def jC(L:List Ent)(y:Str):List Str:=((Ik L y).map (·.od)).getD []
theorem gC{L:List Ent}{y:Str}{e:Ent}(h:Ik L y=some e):jC L y=e.od:=by
 unfold jC
 rw[h]
 rfl
def rowsOf(L:List Ent)(el:List Str):List (List Str):=el.map (jC L)++[el]
structure gI(H:Hp)(e:Ent):Prop where
 at_:H e.at_=none
 ea:H e.ea=none
 oa:H e.oa=none
 ba:H e.ba=none
structure Yc(CB CH:IN)(H:Hp)(p d:IN)(L:List Ent)(x:Str)(el:List Str)(n:Nat):Prop where
 bk:Ay CB CH H p d L
 nm:Fb x=true
 nl:x.length<=IK
 new:Ik L x=none
 els:∀y∈el,∃e,Ik L y=some e
 nd:el.Nodup
 ell:el.length<=60
 ll:L.length<=100
 Fm:Fm (rowsOf L el)<=900
 run:∀r∈(Ei n (rowsOf L el)).2,r=[]
 jl:(Ei n (rowsOf L el)).1.length<=900
def DJ(H:Hp)(L:List Ent)(x:Str)(el:List Str)(n:Nat)(e:Ent):Prop:=e.nm=x/\e.el=el/\e.od=x::(Ei n (rowsOf L el)).1/\e.bd=[]/\gI H e
def Oe(CB CH:IN):Sp:=λvs H Q _=>∃(p d:IN)(L:List Ent)(x:Str)(v:V)(el:List Str)(n:Nat),vs=[.ref p,.str x,v]/\Yc CB CH H p d L x el n/\Hand H v el /\
 ∀(e:Ent)(H':Hp),DJ H L x el n e->Ay CB CH H' p d (L++[e])->(∀b o,H b=some o->b≠d->H' b=some o)->Q .non H'
theorem Ay.add{CB CH:IN}{H H':Hp}{p d:IN}{L:List Ent}{e:Ent}(B:Ay CB CH H p d L)(hn:Ik L e.nm=none)(fr:H e.ba=none)(E:Vu CH H' e)(hd:H' d=some (.dK (putK (qS L) (IW e.nm) (.ref e.at_))))(k:∀b o,H b=some o->b≠d->H' b=some o):Ay CB CH H' p d (L++[e]):=by
 obtain⟨dx,hp⟩:=B.ob
 have npd:p≠d:=Cd hp B.dc (by intro z;cases z)
 refine⟨⟨dx,k _ _ hp npd⟩,?_,?_,?_,?_,?_⟩
 ·rw[hd,lZ _ (by rw[Um,hn];rfl)]
  unfold qS
  rw[JE]
  rfl
 ·intro a ha
  rcases JO.mp ha with h | h
  ·have A:=B.en a h
   exact⟨k _ _ A.ob (Cd A.ob B.dc (by intro z;cases z)),k _ _ A.el (Cd A.el B.dc (by intro z;cases z)),k _ _ A.od (Cd A.od B.dc (by intro z;cases z)),k _ _ A.bd (B.nb a h)⟩
  ·rw[IT] at h
   subst h
   exact E
 ·intro a ha
  rcases JO.mp ha with h | h
  ·exact B.nb a h
  ·rw[IT] at h
   subst h
   exact KO (Ah B.dc fr)
 ·rw[JE,PR]
  refine⟨B.nd,by simp,λa ha b hb=>?_⟩
  obtain⟨c,hc,rfl⟩:=KZ.mp ha
  have hb':b=e.nm:=by simpa using hb
  subst hb'
  intro z
  have:=List.find?_eq_none.mp hn c hc
  exact this (decide_eq_true z)
 ·rw[JE,PR]
  refine⟨B.nn,by simp,λa ha b hb=>?_⟩
  obtain⟨c,hc,rfl⟩:=KZ.mp ha
  have hb':b=e.ba:=by simpa using hb
  subst hb'
  exact Ah (B.en c hc).bd fr
section
variable {P:JJ} {w:KL} {K:IG} {mg:Str->Option II} {base:LO} {f fO fN fM fI CB CH T0:IN} {fd dO dN dM dI:JW}
abbrev qD:List Str:=["self","name","elders","elder_row","orders"]
theorem BV:(["elder","self"]:List Str).Nodup:=by decide +kernel
theorem Kk:Ap ["self","name","elders","elder_row","orders"] ["self","name","elders"] (Ae Ja):=Fv (by decide +kernel)
theorem jQ(F:Nj K "found" "Book.found" Ja f fd T0)(T:Fo K mg CB CH)(Tx:Txt mg)(GO:Aj P w K mg base Bh 2 fO dO ["self","name"] (Ep CB CH))(bO:Binds K dO ["self","name"] [])(mO:Cr K CB "order" fO)(GN:Aj P w K mg base Bh 1 fN dN ["value"] Hb)(kN:IR K (.ref fN)=true)(bN:Binds K dN ["value"] [])(mN:mg "is_name" = some (.ref fN))(GM:Aj P w K mg base Bh 3 fM dM ["name","elders","orders"] Yu)(kM:IR K (.ref fM)=true)(bM:Binds K dM ["name","elders","orders"] [])(mM:mg "made_order" = some (.ref fM))(GI:Aj P w K mg base Bh 1 fI dI ["self","elder_row","order_row"] (Ma CH))(bI:Binds K dI ["self","elder_row","order_row"] [])(MH:Mk K CH fI):Aj P w K mg base Bh 4 f fd ["self","name","elders"] (Oe CB CH):=by
 refine F.ok Kk (λvs H Q E h=>?_) (λcdv A outer s H vs Q E hr h=>?_)
 ·obtain⟨p,d,L,x,v,el,n,rfl,_⟩:=h
  rfl
 obtain⟨p,d,L,x,v,el,n,rfl,⟨B,hok,hxl,hno,hel,hnd,hell,hll,htot,hrun,hjl⟩,hand,q⟩:=h
 have hu:=Gd hr
 have hr1:=hr.mono (j:=1) (by decide)
 have hr2:=hr.mono (j:=2) (by decide)
 obtain⟨dx,hp⟩:=B.ob
 refine⟨_,Ac (Ax (Ht (Gc (Ck GN hr1 mN kN bN (Dc (pv 1))))) Bw Al)
  (Ac (Ax (Fj (cN hu (pv 1) (Cp (pv 0) rfl))) Bw Al)
  (Ac (Bj 3 Kk.nd (PE.imp (t':=λσ H Q=>∃v el,σ[2]? = some (some v)/\Hand H v el/\∀l,H l=none->Q (.ref l) (upd H l (.lst (Az el)))) (Xe (Fj (bZ (pv 2))) (Bt Hn) (Dm (Pc (K:=K)) rfl Tx.list LN (Dc (pv 2))))
   (λσ H Q ⟨v,el,h1,h2,h3⟩=>?imp)))
  (Ac (Ed (i:=4) (Ae Ja) qD ["elder"] [("self", 0)] rfl Kk.nd rfl rfl (De (pv 3)) (Bs (i:=0) (by decide)) (λ_ _ _ _ _ _=>⟨Cq 0 BV,Dx,Dv (pv 1) T.clB mO GO hr2 bO .nil Cw (Dc (pv 0))⟩))
  (Ac (Ax (Ao Sr (Bq Kp rfl Tx.len RD (Dc (Dm (Js rfl) rfl Tx.set Rr (Dc (pv 3))))) (Cg Tx.len (pv 3)) (As _)) Bw Al)
  (Ag (Gh hu (Cp (pv 0) rfl) (pv 1) (Oc MH GI hr2 rfl T.mgH bI .nil Cw (Ea (pv 3) (Ck GM hr mM kM bM (Ge (pv 1) (pv 3) (pv 4))))) rfl)))))),?_⟩
 case imp=>
  refine⟨_,h1,_,rfl,?_⟩
  rcases h2 with ⟨rfl,rfl⟩ | ⟨a,rfl,ea⟩
  ·exact He ⟨by show 0<=IK;decide,h3⟩
  ·exact Di ⟨_,h1,a,_,rfl,.inl (Av.of ea),h3⟩
 -- is_name(name)
 refine⟨_,rfl,.str x,rfl,.inr ⟨x,rfl,hxl⟩,λH1 s1=>?_⟩
 rw[show AR (.str x)=true from hok]
 refine⟨_,rfl,Di ?_⟩
 -- name in self.by_name
 have B1:=B.same s1
 refine⟨_,rfl,_,rfl,p,CB,dx,_,_,rfl,s1 _ _ hp,T.clB,T.nBy,Sq d,d,_,rfl,B1.no hno,_,rfl,Di ?_⟩
 -- elder_row
 refine⟨v,el,rfl,hand.same s1,λla hla=>?_⟩
 have s2:=Af hla (.lst (Az el))
 have sA:=s1.trans s2
 have hla0:H la=none:=s1.free hla
 have ela:(upd H1 la (.lst (Az el))) la=some (.lst (Az el)):=Aa
 generalize upd H1 la (.lst (Az el))=H2 at *
 -- orders
 refine⟨_,rfl,la,rfl,⟨_,Av.of ela⟩,Dr (K:=K) (a:=la) (xs:=Az el) (λi ys H3=>Am H2 H3/\∃ps:List IN,ys=ps.map V.ref/\ps.length=i/\∀(j:Nat)(a:IN)(r:List Str),ps[j]? = some a->(el.map (jC L))[j]? = some r->H3 a=some (.lst (Az r)))
  ⟨Am.refl _,[],rfl,rfl,λj a r h=>by simp at h⟩ (λi ys H3 _ h=>Av.of (h.1 _ _ ela)) ?_ ?_⟩
 ·rintro i y ys H3 hi ⟨s3,ps,rfl,hps,hpl⟩
  obtain⟨z,hz,rfl⟩:=Ie hi
  obtain⟨e,he⟩:=hel z (IY hz)
  have sB:=sA.trans s3
  have hil:i < el.length:=(IH.mp hz).1
  refine⟨_,rfl,p,dx,_,rfl,sB _ _ hp,Fx d (by decide +kernel),_,rfl,p,d,L,z,e,rfl,B.same sB,he,λl hl=>?_⟩
  have s4:=Af hl (.lst (Az e.od))
  refine⟨by rw[IM,hps,JB];omega,s3.trans s4,ps++[l],by rw[JE];rfl,by rw[IV,hps];rfl,λj a r h1 h2=>?_⟩
  by_cases hj:j < ps.length
  ·rw[KA hj] at h1
   exact s4 _ _ (hpl j a r h1 h2)
  ·have hjl:j < (ps++[l]).length:=(IH.mp h1).1
   rw[IV,JH] at hjl
   obtain rfl:j=ps.length:=by omega
   rw[JY] at h1
   cases h1
   rw[JU,hps,hz] at h2
   cases h2
   rw[gC he]
   exact Aa
 rintro ys H3 ⟨s3,ps,rfl,hps,hpl⟩ qa hqa
 rw[Aw] at hps
 have s4:=Af hqa (.lst (ps.map V.ref))
 have R:Dd (upd H3 qa (.lst (ps.map V.ref))) qa ps (el.map (jC L)):=⟨Aa,by rw[hps,IM],λi a r h1 h2=>s4 _ _ (hpl i a r h1 h2)⟩
 have sB:=s3.trans s4
 have sC:=sA.trans sB
 generalize upd H3 qa (.lst (ps.map V.ref))=H4 at *
 -- len(set(elder_row)) < len(elder_row)
 refine⟨_,rfl,la,el,rfl,Av.of (sB _ _ ela),hnd,by show el.length+1 < 4096;omega,λsa hsa=>?_⟩
 have s5:=Af hsa (Wc P w sa el.length)
 refine⟨sa,_,rfl,Aa,_,rfl,la,_,rfl,.inl (Av.of (s5 _ _ (sB _ _ ela))),_,_,rfl,rfl,_,rfl,Br (λc=>?_) (λ_=>?_)⟩
 ·have:=of_decide_eq_true c
  rw[Aw] at this
  omega
 have sD:=sC.trans s5
 have R5:=R.same s5
 have ela5:=s5 _ _ (sB _ _ ela)
 -- self.by_name[name]=House(elder_row,made_order(name,elder_row,orders))
 refine⟨_,rfl,_,rfl,_,rfl,_,rfl,x,la,qa,ps,el,el.map (jC L),n,rfl,ela5,R5,htot,by rw[IM];omega,by omega,hrun,hjl,λoa H6 hoa s6 eoa=>?_⟩
 intro hx hdx nx ndx nex
 have sE:=sD.trans s6
 have s7:Am H6 (upd (upd H6 hdx (.own hx)) hx (.ins CH hdx [])):=λb o e=>by
  rw[Ai (Ah e nx),Ai (Ah e ndx)]
  exact e
 refine⟨hx,la,oa,hdx,rfl,Aa,λba H7 hba e1 e2 kp=>⟨rfl,?_⟩⟩
 have s8:Am H6 H7:=λb o e=>kp b o (s7 b o e) (Ah e nx)
 have sF:=sE.trans s8
 have B7:=B.same sF
 refine⟨_,rfl,p,CB,dx,_,_,rfl,sF _ _ hp,T.clB,T.nBy,Sq d,_,rfl,d,_,rfl,Kt.k (k:=(IW x:Key)) B7.dc (by unfold qS;rw[IM,JB];omega),?_⟩
 have hla6:H6 la=some (.lst (Az el)):=s6 _ _ ela5
 have hba6:H6 ba=none:=s7.free hba
 have nlx:la≠hx:=Ah hla6 nx
 have frE:gI H ⟨x,hx,hdx,la,oa,ba,el,x::(Ei n (rowsOf L el)).1,[]⟩:=⟨sE.free nx,hla0,sD.free hoa,sE.free hba6⟩
 have k8:∀b o,H b=some o->b≠d->(upd H7 d (.dK (putK (qS L) (IW x:Key) (.ref hx)))) b=some o:=λb o e hb=>by rw[Ai hb];exact sF _ _ e
 have nd_of:∀b,H b=none->b≠d:=λb hb=>KO (Ah B.dc hb)
 refine q ⟨x,hx,hdx,la,oa,ba,el,x::(Ei n (rowsOf L el)).1,[]⟩ _ ⟨rfl,rfl,rfl,rfl,frE⟩ (B.add (e:=⟨x,hx,hdx,la,oa,ba,el,x::(Ei n (rowsOf L el)).1,[]⟩) hno frE.ba ⟨?_,?_,?_,?_⟩ Aa k8) k8
 ·rw[Ai (nd_of _ frE.at_)];exact e1
 ·rw[Ai (nd_of _ frE.ea)];exact s8 _ _ hla6
 ·rw[Ai (nd_of _ frE.oa)];exact s8 _ _ eoa
 ·rw[Ai (nd_of _ frE.ba)];exact e2
end
def big:Int:=10 ^ 30
def uJ(lo hi:Int):V->Bool
 | .int i=>decide (lo<=i) && decide (i<=hi)
 | _=>false
def Fd(kd:Str)(v:V):Bool:=if kd = "word" then AR v else if kd = "shift" then uJ 0 64 v else if kd = "divisor" then uJ (-big) big v && !decide (v=.int 0) else uJ (-big) big v
def Mf:Sp:=λvs H Q _=>∃(v:V)(lo hi:Int),vs=[v,.int lo,.int hi]/\PV v/\Q (.bl (uJ lo hi v)) H
def Lj:Sp:=λvs H Q _=>∃v:V,vs=[v]/\PV v/\Q (.bl (uJ (-big) big v)) H
def Zx:Sp:=λvs H Q _=>∃(v:V)(kd:Str),vs=[v,.str kd]/\PV v/\∀H',Am H H'->Q (.bl (Fd kd v)) H'
section
variable {P:JJ} {w:KL} {K:IG} {mg:Str->Option II} {base:LO} {f fW fA fN fP fS aP:IN} {fd dW dA dN dP dS:JW}
theorem uY:Ap ["value","least","most"] ["value","least","most"] (Ae Yo):=Fv (by decide +kernel)
theorem nN(F:Dp K "is_whole" "is_whole" Yo f fd)(T:Txt mg):Aj P w K mg base Bh 1 f fd ["value","least","most"] Mf:=by
 refine F.ok uY (λvs H Q E h=>?_) (λcdv A outer s H vs Q E hr h=>?_)
 ·obtain⟨v,lo,hi,rfl,_⟩:=h
  rfl
 obtain⟨v,lo,hi,rfl,hv,q⟩:=h
 refine⟨_,Ag (An (La (Bq Dn rfl T.isi LG (Ea (pv 0) (Gk (v:=.ty "int") rfl T.int PyProof.Rows.boot_int rfl)))
  (La (qP (Bq Dn rfl T.isi LG (Ea (pv 0) (Gk (v:=.ty "bool") rfl T.bool PyProof.Rows.boot_bool rfl))))
  (Qr (Py Wo Wo (pv 1) (pv 0) (pv 2)))))),?_⟩
 rcases hv with ⟨i,rfl⟩ | ⟨x,rfl,hx⟩
 ·refine⟨_,rfl,_,_,_,_,rfl,.int _,Fh K "int", _,rfl,He ?_⟩
  refine⟨_,rfl,_,_,_,_,rfl,.int _,(show NT K (.type "int") (.type "bool")=some false from rfl),_,rfl,_,rfl,He ?_⟩
  refine⟨_,rfl,_,rfl,_,_,rfl,rfl,_,rfl,Br (λc=>?_) (λc=>?_)⟩
  ·refine⟨_,rfl,_,_,rfl,rfl,?_⟩
   have e:uJ lo hi (.int i)=decide (i<=hi):=by
    show (decide (lo<=i) && decide (i<=hi))=_
    rw[c,QW]
   rw[e] at q
   exact q
  ·have e:uJ lo hi (.int i)=false:=by
    show (decide (lo<=i) && decide (i<=hi))=_
    rw[MP.mpr c,QI]
   rw[e] at q
   exact q
 ·exact⟨_,rfl,_,_,_,_,rfl,.str _,(show NT K (.type "str") (.type "int")=some false from rfl),_,rfl,Di q⟩
theorem kU:Ap ["value"] ["value"] (Ae Ud):=Fv (by decide +kernel)
theorem gT(F:Dp K "is_amount" "is_amount" Ud f fd)(T:Txt mg)(GW:Aj P w K mg base Bh 1 fW dW ["value","least","most"] Mf)(kW:IR K (.ref fW)=true)(bW:Binds K dW ["value","least","most"] [])(mW:mg "is_whole" = some (.ref fW)):Aj P w K mg base Bh 2 f fd ["value"] Lj:=by
 refine F.ok kU (λvs H Q E h=>?_) (λcdv A outer s H vs Q E hr h=>?_)
 ·obtain⟨v,rfl,_⟩:=h
  rfl
 obtain⟨v,rfl,hv,q⟩:=h
 refine⟨_,Ag (An (Ck GW hr mW kW bW (Ge (pv 0) (Hi Ff (Ak Tj Ad Ad)) (Ak Tj Ad Ad)))),?_⟩
 exact⟨_,rfl,_,_,rfl,rfl,⟨by decide,by decide,by decide⟩,_,rfl,_,_,rfl,rfl,⟨by decide,by decide,by decide⟩,v,-big,big,rfl,hv,q⟩
theorem xZ:Ap ["part","kind"] ["part","kind"] (Ae Ve):=Fv (by decide +kernel)
theorem uF(F:Dp K "is_part" "is_part" Ve f fd)(T:Txt mg)(GW:Aj P w K mg base Bh 1 fW dW ["value","least","most"] Mf)(kW:IR K (.ref fW)=true)(bW:Binds K dW ["value","least","most"] [])(mW:mg "is_whole" = some (.ref fW))(GA:Aj P w K mg base Bh 2 fA dA ["value"] Lj)(kA:IR K (.ref fA)=true)(bA:Binds K dA ["value"] [])(mA:mg "is_amount" = some (.ref fA))(GN:Aj P w K mg base Bh 1 fN dN ["value"] Hb)(kN:IR K (.ref fN)=true)(bN:Binds K dN ["value"] [])(mN:mg "is_name" = some (.ref fN)):Aj P w K mg base Bh 3 f fd ["part","kind"] Zx:=by
 refine F.ok xZ (λvs H Q E h=>?_) (λcdv A outer s H vs Q E hr h=>?_)
 ·obtain⟨v,kd,rfl,_⟩:=h
  rfl
 obtain⟨v,kd,rfl,hv,q⟩:=h
 have hr1:=hr.mono (j:=1) (by decide)
 refine⟨_,Ac (Ax (Ao Bp (pv 1) Ar (As _)) (Ag (An (Ck GN hr1 mN kN bN (Dc (pv 0))))) Al)
  (Ac (Ax (Ao Bp (pv 1) Ar (As _)) (Ag (An (Ck GW hr1 mW kW bW (Ge (pv 0) Ad Ad)))) Al)
  (Ac (Ax (Ao Bp (pv 1) Ar (As _)) (Ag (An (La (Ck GA hr mA kA bA (Dc (pv 0))) (Qr (dJ pK (pv 0) Ad (As _)))))) Al)
  (Ag (An (Ck GA hr mA kA bA (Dc (pv 0))))))),?_⟩
 unfold Fd at q
 have de:∀ {a b:Str},decide (V.str a=V.str b)=true->a=b:=λh=>V.str.inj (of_decide_eq_true h)
 have dn:∀ {a b:Str},¬ decide (V.str a=V.str b)=true->¬ a=b:=λh e=>h (by rw[e];exact decide_eq_true rfl)
 refine⟨_,rfl,rfl,_,rfl,Br (λc=>?_) (λc=>?_)⟩
 ·rw[if_pos (de c)] at q
  exact⟨_,rfl,v,rfl,hv,q⟩
 rw[if_neg (dn c)] at q
 refine⟨_,rfl,rfl,_,rfl,Br (λc=>?_) (λc=>?_)⟩
 ·rw[if_pos (de c)] at q
  exact⟨_,rfl,v,0,64,rfl,hv,q _ (Am.refl _)⟩
 rw[if_neg (dn c)] at q
 refine⟨_,rfl,rfl,_,rfl,Br (λc=>?_) (λc=>?_)⟩
 ·rw[if_pos (de c)] at q
  refine⟨_,rfl,v,rfl,hv,_,rfl,Br (λc2=>?_) (λc2=>?_)⟩
  ·rw[c2,QW] at q
   rcases hv with ⟨i,rfl⟩ | ⟨x,rfl,_⟩
   ·exact⟨_,rfl,rfl,q _ (Am.refl _)⟩
   ·cases c2
  ·rw[MP.mpr c2,QI] at q
   exact q _ (Am.refl _)
 rw[if_neg (dn c)] at q
 exact⟨_,rfl,v,rfl,hv,q _ (Am.refl _)⟩
theorem kH:(["part","kind"]:List Str).Nodup:=by decide +kernel
theorem AC:(["step"]:List Str).Nodup:=by decide +kernel
structure Tab(P:JJ)(w:KL)(K:IG)(aP:IN)(ks:List (Str×IN×List Str)):Prop where
 dic:Ys P w K aP (ks.map λp=>((IW p.1:Key),V.ref p.2.1))
 tup:∀p∈ks,∀H:Hp,Cc K H p.2.1 (Az p.2.2)
def kindsOf(ks:List (Str×IN×List Str))(kd:Str):Option (IN×List Str):=(ks.find? λp=>decide (p.1=kd)).map (·.2)
theorem uW(ks:List (Str×IN×List Str))(kd:Str):valV (ks.map λp=>((IW p.1:Key),V.ref p.2.1)) (IW kd:Key)=(kindsOf ks kd).map λq=>V.ref q.1:=by
 unfold kindsOf
 induction ks with
 | nil=>rfl
 | cons e L ih=>
  rw[KR]
  by_cases h:e.1=kd
  ·rw[Cu (show ((IW e.1:Key),V.ref e.2.1).1=IW kd by rw[h]),List.find?_cons_of_pos (by rw[decide_eq_true h])]
   rfl
  ·rw[Cm (λz=>h (IW.inj z)),ih,List.find?_cons_of_neg (by rw[decide_eq_false h];exact IZ)]
theorem iP{ks:List (Str×IN×List Str)}{kd:Str}{a:IN}{r:List Str}(h:kindsOf ks kd=some (a,r)):∃p∈ks,p.2=(a,r):=by
 unfold kindsOf at h
 cases e:ks.find? λp=>decide (p.1=kd) with
 | none=>rw[e] at h;cases h
 | some p=>
  rw[e] at h
  exact⟨p,List.mem_of_find?_eq_some e,KC h⟩
def Hy(ks:List (Str×IN×List Str))(kd:Str)(ps:List V):Prop:=∃a r,kindsOf ks kd=some (a,r)/\ps.length=r.length/\∀(i:Nat)(v:V)(k:Str),ps[i]? = some v->r[i]? = some k->Fd k v=true
def cK(K:IG)(ks:List (Str×IN×List Str)):Sp:=λvs H Q _=>∃(t:IN)(kd:Str)(ps:List V),vs=[.ref t]/\Cc K H t (.str kd::ps)/\H t=some (.tup (.str kd::ps))/\Hy ks kd ps/\(∀v∈ps,PV v)/\ps.length<=100/\∀H',Am H H'->Q (.bl true) H'
theorem CW(x:V)(xs:List V):Gj (x::xs) (some 1) none=xs:=by rw[xE];rfl
theorem pV:Ap ["value","kinds"] ["value"] (Ae Od):=Fv (by decide +kernel)
theorem sG{ks:List (Str×IN×List Str)}(F:Dp K "is_step" "is_step" Od f fd)(T:Txt mg)(Tb:Tab P w K aP ks)(mP:mg "PARTS" = some (.ref aP))(GP:Aj P w K mg base Bh 3 fP dP ["part","kind"] Zx)(kP:IR K (.ref fP)=true)(bP:Binds K dP ["part","kind"] [])(mPt:mg "is_part" = some (.ref fP)):Aj P w K mg base Bh 4 f fd ["value"] (cK K ks):=by
 refine F.ok pV (λvs H Q E h=>?_) (λcdv A outer s H vs Q E hr h=>?_)
 ·obtain⟨t,kd,ps,rfl,_⟩:=h
  rfl
 obtain⟨t,kd,ps,rfl,ht,ht',⟨a,r,hk,hl,hg⟩,hpv,hps,q⟩:=h
 refine⟨_,Ac (Ax (PW.pt (eC (Ht (Gc (Bq Dn rfl T.isi LG (Ea (pv 0) (Gk (v:=.ty "tuple") rfl T.tup PyProof.Rows.boot_tuple rfl)))))
  (eC (Ao Bp (Cg T.len (pv 0)) Ad (As _))
  (aJ (Ht (Gc (Bq Dn rfl T.isi LG (Ea (Aq Au (pv 0) Ad (λ_ _=>rfl)) (Gk (v:=.ty "str") rfl T.str PyProof.Rows.boot_str rfl))))))))) Bw Al)
  (Ac (Bj 1 pV.nd (tN (uE (v:=.ref aP) rfl mP rfl) (Aq Au (pv 0) Ad (λ_ _=>rfl)) ⟨rfl,rfl,rfl,rfl⟩))
  (Ac (Ax (PW.pt (eC (Fj (bZ (pv 1))) (aJ (Ao pK (Cg T.len (pv 0)) (Ak Bv Ad (Cg T.len (pv 1))) (As _))))) Bw Al)
  (Ag (An (Bq (Qq rfl) rfl T.all Mq (Dc (Gi (Ae Od) ["value","kinds"] ["part","kind"] [] rfl (sT rfl T.zip (Ea (Co xY (pv 0) (Cy Ad) Dy) (pv 1))) (Nz (K:=K) (Ew (Bs (i:=0) (by decide)) (Ew (Bs (i:=1) (by decide)) Mb)))
   (λ_ _ _ _ _ _=>⟨Jm (n:=2) rfl (Bo (Cq 0 kH) (Bo (Cq 1 kH) Gg)),Dx,Ck GP hr mPt kP bP (Ea (pv 0) (pv 1))⟩)))))))),?_⟩
 have at0:Hx (V.str kd::ps) 0=some (.str kd):=Ba (j:=0) rfl
 obtain⟨pr,hpr,epr⟩:=iP hk
 have hr0:∀H:Hp,Cc K H a (Az r):=λH=>by
  have:=Tb.tup pr hpr H
  rw[epr] at this
  exact this
 refine⟨_,rfl,_,_,_,_,rfl,.tup ht',Fh K "tuple", _,rfl,Di ?_⟩
 refine⟨_,rfl,t,_,rfl,.inr ht,rfl,_,rfl,Br (λc=>?_) (λ_=>?_)⟩
 ·have:=V.int.inj (of_decide_eq_true c)
  rw[KH] at this
  omega
 refine⟨_,rfl,t,_,_,_,rfl,rfl,ht,at0,_,_,_,_,rfl,.str _,Fh K "str", _,rfl,Di ?_⟩
 -- kinds=PARTS.get(value[0])
 refine⟨aP,_,rfl,Tb.dic,_,rfl,t,_,_,_,rfl,rfl,ht,at0,IW kd,rfl,?_⟩
 rw[uW,hk]
 refine⟨_,rfl,_,rfl,Di ?_⟩
 refine⟨_,rfl,t,_,rfl,.inr ht,_,rfl,a,_,rfl,.inr (hr0 _),_,_,rfl,rfl,rfl,_,rfl,?_⟩
 have hlen:(V.int ((V.str kd::ps).length:Int))=V.int (1+((Az r).length:Int)):=by rw[KH,Aw,hl];congr 1;omega
 refine DB hlen ?_
 -- all([is_part(part,kind) for part,kind in zip(value[1:],kinds)])
 refine⟨_,rfl,_,rfl,t,_,rfl,ht,?_,λp hp=>?_⟩
 ·intro z
  have z1:=z.1
  rw[show HT.sIx (V.str kd::ps).length 0 (some 1)=min 1 (V.str kd::ps).length from HT.sIx_nat _ _ 1,KH] at z1
  omega
 rw[CW]
 have s1:=Af hp (.tup ps)
 refine⟨_,rfl,p,a,rfl,⟨_,Cc.of Aa⟩,⟨_,hr0 _⟩,Vl (K:=K) (a:=p) (b:=a) (xs:=ps) (zs:=Az r) (by rw[Aw];exact hl) (λi ys H2=>Am (upd H p (.tup ps)) H2/\ys=(JQ i true).map V.bl) ⟨Am.refl _,rfl⟩ (λi ys H2 _ h=>⟨Cc.of (h.1 _ _ Aa),hr0 _⟩) ?_ ?_⟩
 ·rintro i x z ys H2 Tp hx hz ⟨s2,rfl⟩ hT
  obtain⟨k,hk',rfl⟩:=Ie hz
  have s3:=Af hT (.tup [x,.str k])
  refine⟨Tp,_,rfl,Cc.of Aa,rfl,_,_,rfl,_,_,rfl,rfl,?_⟩
  have hil:i < ps.length:=(IH.mp hx).1
  refine⟨_,rfl,_,rfl,x,k,rfl,hpv x (IY hx),λH3 s4=>?_⟩
  rw[hg i x k hx hk']
  refine⟨by rw[IM,LV,JB];omega,s2.trans (s3.trans s4),?_⟩
  rw[OI,JE]
  rfl
 ·rintro ys H2 ⟨s2,rfl⟩ l hl'
  refine⟨l,_,JQ ps.length true,rfl,Av.of Aa,Fk _,?_⟩
  have e:(JQ ps.length true).all id=true:=by simp
  rw[e]
  exact q _ (s1.trans (s2.trans (Af hl' _)))
def Df(H:Hp)(ts:List IN)(ss:List (Str×List V)):Prop:=ts.length=ss.length/\∀(i:Nat)(t:IN)(p:Str×List V),ts[i]? = some t->ss[i]? = some p->H t=some (.tup (.str p.1::p.2))
theorem Df.same{H H':Hp}{ts:List IN}{ss:List (Str×List V)}(h:Df H ts ss)(s:Am H H'):Df H' ts ss:=⟨h.1,λi t p a b=>s _ _ (h.2 i t p a b)⟩
def Mx(ks:List (Str×IN×List Str))(ss:List (Str×List V)):Prop:=ss.length<=30/\∀p∈ss,Hy ks p.1 p.2/\(∀v∈p.2,PV v)/\p.2.length<=100
def Ps(ks:List (Str×IN×List Str)):Sp:=λvs H Q _=>∃(l:IN)(ts:List IN)(ss:List (Str×List V)),vs=[.ref l]/\H l=some (.lst (ts.map V.ref))/\Df H ts ss/\Mx ks ss/\∀H',Am H H'->Q (.bl true) H'
theorem qB:Ap ["value"] ["value"] (Ae Nw):=Fv (by decide +kernel)
theorem jH{ks:List (Str×IN×List Str)}(F:Dp K "is_body" "is_body" Nw f fd)(T:Txt mg)(GS:Aj P w K mg base Bh 4 fS dS ["value"] (cK K ks))(kS:IR K (.ref fS)=true)(bS:Binds K dS ["value"] [])(mS:mg "is_step" = some (.ref fS)):Aj P w K mg base Bh 5 f fd ["value"] (Ps ks):=by
 refine F.ok qB (λvs H Q E h=>?_) (λcdv A outer s H vs Q E hr h=>?_)
 ·obtain⟨l,ts,ss,rfl,_⟩:=h
  rfl
 obtain⟨l,ts,ss,rfl,el,⟨hts,hat⟩,⟨hs30,hgs⟩,q⟩:=h
 refine⟨_,Ag (An (La (Bq Dn rfl T.isi LG (Ea (pv 0) (Gk (v:=.ty "list") rfl T.list LN rfl)))
  (La (dJ Wo (Cg T.len (pv 0)) Ad (As _))
  (Qr (Bq (Qq rfl) rfl T.all Mq (Dc (Gi (Ae Nw) ["value"] ["step"] [] rfl (De (pv 0)) (Bs (i:=0) (by decide)) (λ_ _ _ _ _ _=>⟨Cq 0 AC,Dx,
   Ck GS hr mS kS bS (Dc (pv 0))⟩)))))))),?_⟩
 refine⟨_,rfl,_,_,_,_,rfl,.lst el,Fh K "list", _,rfl,He ?_⟩
 refine⟨_,rfl,l,_,rfl,.inl (Av.of el),_,_,rfl,rfl,_,rfl,Br (λ_=>?_) (λc=>absurd (decide_eq_true (by rw[IM];omega)) c)⟩
 refine⟨_,rfl,l,rfl,⟨_,Av.of el⟩,Dr (K:=K) (a:=l) (xs:=ts.map V.ref) (λi ys H2=>Am H H2/\ys=(JQ i true).map V.bl) ⟨Am.refl _,rfl⟩ (λi ys H2 _ h=>Av.of (h.1 _ _ el)) ?_ ?_⟩
 ·rintro i y ys H2 hi ⟨s2,rfl⟩
  obtain⟨t,ht,rfl⟩:=Ej hi
  have hil:i < ss.length:=by rw[<- hts];exact(IH.mp ht).1
  have hp:=IU hil
  have et:=s2 _ _ (hat i t _ ht hp)
  obtain⟨g1,g2,g3⟩:=hgs _ (LQ hil)
  refine⟨_,rfl,t,_,_,rfl,Cc.of et,et,g1,g2,g3,λH3 s3=>⟨by rw[IM,LV,JB];omega,s2.trans s3,?_⟩⟩
  rw[OI,JE]
  rfl
 ·rintro ys H2 ⟨s2,rfl⟩ p hp
  refine⟨p,_,JQ (ts.map V.ref).length true,rfl,Av.of Aa,Fk _,?_⟩
  have e:(JQ (ts.map V.ref).length true).all id=true:=by simp
  rw[e]
  exact q _ (s2.trans (Af hp _))
end
end Bk
namespace Rk
open PySem
def Ab(b:Nat)(n:Int):Prop:=n.natAbs<=2 ^ b
theorem oI{b c:Nat}(h:b<=c):2 ^ b<=2 ^ c:=Nat.pow_le_pow_right (by decide) h
theorem Ab.mono{b c:Nat}{n:Int}(h:Ab b n)(hc:b<=c):Ab c n:=JR h (oI hc)
theorem Pn{n:Int}(h0 : -(10 ^ 30)<=n)(h1:n<=10 ^ 30):Ab 100 n:=by
 unfold Ab
 have e:(2:Nat) ^ 100=1267650600228229401496703205376:=by decide
 have e2:(10:Int) ^ 30=1000000000000000000000000000000:=by decide
 rw[e2] at h0 h1
 rw[e]
 omega
theorem Ab.add{b:Nat}{x y:Int}(hx:Ab b x)(hy:Ab b y):Ab (b+1) (x+y):=by
 unfold Ab at *
 have:=Int.natAbs_add_le x y
 rw[Nat.pow_succ]
 omega
theorem Ab.neg{b:Nat}{x:Int}(hx:Ab b x):Ab b (-x):=by
 unfold Ab at *
 rw[Int.natAbs_neg]
 exact hx
theorem Ab.sub{b:Nat}{x y:Int}(hx:Ab b x)(hy:Ab b y):Ab (b+1) (x-y):=by
 rw[Int.sub_eq_add_neg]
 exact hx.add hy.neg
theorem Ab.mul{b c:Nat}{x y:Int}(hx:Ab b x)(hy:Ab c y):Ab (b+c) (x * y):=by
 unfold Ab at *
 rw[Int.natAbs_mul,Nat.pow_add]
 exact Nat.mul_le_mul hx hy
theorem Ab.ediv{b:Nat}{x y:Int}(hx:Ab b x):Ab b (x / y):=JR (Int.natAbs_ediv_le_natAbs x y) hx
theorem Ab.fdiv{b:Nat}{x y:Int}(hx:Ab b x):Ab (b+1) (x.fdiv y):=by
 have h:=hx.ediv (y:=y)
 have hp:0 < 2 ^ b:=Nat.pow_pos (by decide)
 unfold Ab at *
 rw[Int.fdiv_eq_ediv,Nat.pow_succ]
 split<;>omega
theorem Ab.up{b k:Nat}{x:Int}(hx:Ab b x):Ab (b+k) (x * 2 ^ k):=by
 refine hx.mul ?_
 unfold Ab
 rw[Int.natAbs_pow]
 exact IP _
def In(b:Nat)(n:Int):Prop:=-((2 ^ b:Nat):Int)<=n/\n < ((2 ^ b:Nat):Int)
theorem Ab.inn{b:Nat}{x:Int}(h:Ab b x):In (b+1) x:=by
 have hp:0 < 2 ^ b:=Nat.pow_pos (by decide)
 unfold Ab at h
 unfold In
 rw[Nat.pow_succ]
 generalize 2 ^ b=p at *
 omega
theorem In.ab{b:Nat}{x:Int}(h:In b x):Ab b x:=by
 unfold In at h
 unfold Ab
 generalize 2 ^ b=p at *
 omega
theorem In.not{b:Nat}{x:Int}(h:In b x):In b (NN x):=by
 unfold In at *
 unfold NN
 generalize 2 ^ b=p at *
 omega
theorem In.nat{b:Nat}{x:Int}(h:In b x):x.toNat < 2 ^ b:=by
 have hp:0 < 2 ^ b:=Nat.pow_pos (by decide)
 unfold In at h
 generalize 2 ^ b=p at *
 omega
theorem nR{x:Int}{m:Nat}(h:0<=x):(0:Int)<=x-((x.toNat &&& m:Nat):Int)/\x-((x.toNat &&& m:Nat):Int)<=x:=by
 have:=Nat.and_le_left (n:=x.toNat) (m:=m)
 omega
theorem In.and{b:Nat}{x y:Int}(hx:In b x)(hy:In b y):In b (Builtin.bitAnd x y):=by
 have h1:=hx.not.nat
 have h2:=hy.not.nat
 have hl:=Nat.and_le_left (n:=x.toNat) (m:=y.toNat)
 have ho:=Nat.or_lt_two_pow h1 h2
 unfold Builtin.bitAnd
 by_cases h:0<=x<;>by_cases g:0<=y
 ·rw[decide_eq_true h,decide_eq_true g]
  unfold In at *
  show -_<=((x.toNat &&& y.toNat:Nat):Int)/\((x.toNat &&& y.toNat:Nat):Int) < _
  generalize 2 ^ b=p at *
  omega
 ·rw[decide_eq_true h,decide_eq_false g]
  have:=nR (m:=(NN y).toNat) h
  unfold In at *
  show -_<=x-((x.toNat &&& (NN y).toNat:Nat):Int)/\x-((x.toNat &&& (NN y).toNat:Nat):Int) < _
  generalize 2 ^ b=p at *
  omega
 ·rw[decide_eq_false h,decide_eq_true g]
  have:=nR (m:=(NN x).toNat) g
  unfold In at *
  show -_<=y-((y.toNat &&& (NN x).toNat:Nat):Int)/\y-((y.toNat &&& (NN x).toNat:Nat):Int) < _
  generalize 2 ^ b=p at *
  omega
 ·rw[decide_eq_false h,decide_eq_false g]
  show In b (NN (((NN x).toNat ||| (NN y).toNat:Nat):Int))
  refine In.not ?_
  unfold In
  generalize 2 ^ b=p at *
  omega
theorem In.or{b:Nat}{x y:Int}(hx:In b x)(hy:In b y):In b (Builtin.bitOr x y):=(hx.not.and hy.not).not
theorem In.xor{b:Nat}{x y:Int}(hx:In b x)(hy:In b y):Ab (b+1) (Builtin.bitXor x y):=(hx.or hy).ab.sub (hx.and hy).ab
theorem Ab.bits{b:Nat}{n:Int}(h:Ab b n):Builtin.Int.intBits n<=b+1:=by
 unfold Builtin.Int.intBits
 split
 ·exact KI _
 ·next hz=>
  have hn:n.natAbs≠0:=by
   intro z
   apply hz
   have:n=0:=by omega
   rw[this];rfl
  have:n.natAbs.log2 < b+1:=(Nat.log2_lt hn).mpr (by
   have hp:0 < 2 ^ b:=Nat.pow_pos (by decide)
   unfold Ab at h
   rw[Nat.pow_succ]
   omega)
  omega
theorem Ab.log{b:Nat}{n:Int}(h:Ab b n):n.natAbs.log2 < b+1:=by
 rcases Nat.eq_zero_or_pos n.natAbs with h0 | hp
 ·rw[h0];exact PJ (by decide) (Nat.succ_pos b)
 ·refine(Nat.log2_lt (OF hp)).mpr ?_
  have hp:0 < 2 ^ b:=Nat.pow_pos (by decide)
  unfold Ab at h
  rw[Nat.pow_succ]
  omega
end Rk
namespace L2
open PySem PySem.Spec PyProof.Rows Rk
section
variable {X:Cx}
def CK(i j:Int):Prop:=∃b,Ab b i/\Ab b j/\b<=1000000
theorem wR{b:Nat}(h:b<=1000000):b+1<=2 ^ 20:=by
 have e:(2:Nat) ^ 20=1048576:=by decide
 omega
theorem gD:Kl X (PM .Mult) (rI CK λi j=>.int (i * j)):=sQ λ_ _ _ _ _ _ _ hc q=>
 let ⟨b,h1,h2,h3⟩:=hc
 mul_int q (IntMulOk.of_bits (JR h1.bits (wR h3)) (JR h2.bits (wR h3)))
def BL(i j:Int):Prop:=j≠0/\Ab 8000 j
theorem Lx:Kl X (PM .FloorDiv) (rI BL λi j=>.int (i.fdiv j)):=sQ λ_ _ _ _ _ _ _ hc q=>floordiv_int hc.1 q (.inl (PyProof.noPylong_of_log2 (Nat.lt_trans hc.2.log (by decide))))
def AS(i j:Int):Prop:=0<=j/\j<=1000/\Ab 1000000 i
theorem eG:Kl X (PM .LShift) (rI AS λi j=>.int (i * 2 ^ j.toNat)):=sQ λ_ _ _ _ _ _ _ hc q=>lshift_int hc.1 (by
 have h:=hc.2.2.bits
 have h2:=hc.2.1
 have e:(2:Int) ^ 27=134217728:=by decide
 omega) q
end
def Vy:List Expr->Option (List Str)
 | []=>some []
 | .Constant (.str x) _ _::es=>(Vy es).map (x :: ·)
 | _=>none
def eN(vs:List V):TA:=λ_ H Q=>Q vs H
theorem Lz{X:Cx}:∀ {es:List Expr} {xs:List Str},Vy es=some xs->PA X es (eN (xs.map V.str))
 | [],xs,h=>by
  cases h
  exact Hn
 | e::es,xs,h=>by
  cases e with
  | Constant c j p=>
   cases c with
   | str x=>
    have h':(Vy es).map (x :: ·)=some xs:=h
    cases e:Vy es with
    | none=>
     rw[e] at h'
     cases h'
    | some ys=>
     rw[e] at h'
     cases h'
     exact Er Ar (Lz e)
   | _=>cases h
  | _=>cases h
structure BR(X:Cx)(st:NW)(t:TS):Prop where
 ok:PS X st t
structure EQ(X:Cx)(es:List Expr)(t:TA):Prop where
 ok:PA X es t
theorem Xl{X:Cx}{es:List Expr}{xs:List Str}(h:Vy es=some xs):EQ X es (eN (xs.map V.str)):=⟨Lz h⟩
theorem tG{X:Cx}{i:Nat}{x:Str}{es:List Expr}{t:TA}{pos pos' p2:Pos}(hN:X.N.Nodup)(hi:X.N[i]? = some x)(hx:Loc X.env.scope x)(h:EQ X es t)(hf:X.fn x=true∨X.env.scope.names.lookup x=some .local):BR X (.Assign [.Name x pos'] (.List es p2) pos) (Xn (oS t) (Ko i)):=⟨Ot hN hi hx (Bt h.ok) rfl hf⟩
theorem eM{X:Cx}{st:NW}{rest:List NW}{t:TS}{G:TS->Prop}(h1:BR X st t)(h2:∃u,Hs X rest u/\G (CP t u)):∃t',Hs X (st::rest) t'/\G t':=let ⟨u,a,b⟩:=h2;⟨_,Ac h1.ok a,b⟩
theorem vB{X:Cx}{K:IG}{e:Expr}{ta:TE}{f:Str}{pos:Pos}(he:PE X e ta)(hb:RG e f X.env (OA e X.env)=OA e X.env)(hK:X.K=K:=by rfl):PE X (.Attribute e f pos) (BY K ta f):=by
 subst hK
 exact Cp he hb
def HN(K:IG)(C:IN)(tsu:TS)(th:Ends->XS):Ends->XS:=λD σ cls dx H=>∃b,QD K cls (.ref C)=some b/\if b=true then tsu D σ H else th D σ cls dx H
theorem Pw{X:Cx}{K:IG}{EX:XS}{th:Ends->XS}{hs:List RM}{C:IN}{c:Str}{np pos:Pos}{b₀:NW}{suite:List NW}{tsu:TS}(hcls:Gl X c)(hm:X.mg c=some (.ref C))(hsu:∀x oe,Hs (Io X x oe) (b₀::suite) tsu)(hr:PH X hs EX th)(hK:X.K=K:=by rfl)(hdb:(c == ("__debug__" : Str))=false:=by decide):
 PH X (.ExceptHandler (some (.Name c np)) none (b₀::suite) pos::hs) EX (HN K C tsu th):=by
 subst hK
 intro σ H s x cls dx T oe oT vs ts D I fx fT a h
 refine eP (ts':=λ_ _=>tsu) hcls hm hsu hr hdb σ H s x cls dx T oe oT vs ts D I fx fT a ?_
 obtain⟨b,hb,h⟩:=h
 refine⟨b,hb,?_⟩
 cases b with
 | true=>rw[if_pos rfl] at h ⊢;exact λ_ _ _ _ _ _=>h
 | false=>rw[if_neg IZ] at h ⊢;exact h
end L2
namespace Bk
open PySem L2 Mg Nm Rk
inductive Sm
 | say
 | op (kd:Str) (a:Int)
def Kz:List Str:=["put","plus","times","over","both","any","odd","up","down","part"]
structure gJ(kd:Str)(a:Int):Prop where
 mem:kd∈Kz
 lo : -big<=a
 hi:a<=big
 dv:kd = "over" ∨ kd = "part" -> a≠0
 sh:kd = "up" ∨ kd = "down" -> 0<=a/\a<=64
def AG:Sm->Prop
 | .say=>True
 | .op kd a=>gJ kd a
def Sm.pr:Sm->Str×List V
 | .say=>("say", [])
 | .op kd a=>(kd,[V.int a])
def My(kd:Str)(a n:Int):Int:=if kd = "put" then a else if kd = "plus" then n+a else if kd = "times" then n * a else if kd = "over" then n.fdiv a else if kd = "both" then Builtin.bitAnd n a else if kd = "any" then Builtin.bitOr n a else if kd = "odd" then Builtin.bitXor n a else if kd = "up" then n * 2 ^ a.toNat else n / 2 ^ a.toNat
def Sm.out:Sm->Int->List Int
 | .say,n=>[n]
 | .op kd a,n=>if kd = "part" then [n.fmod a] else []
def Sm.nx:Sm->Int->Int
 | .say,n=>n
 | .op kd a,n=>if kd = "part" then n.fdiv a else My kd a n
theorem gJ.ab{kd:Str}{a:Int}(h:gJ kd a):Ab 100 a:=Pn h.lo h.hi
theorem xD{kd:Str}{a n:Int}{b:Nat}(h:gJ kd a)(hk:kd ≠ "part")(hn:Ab b n)(hb:100<=b):Ab (b+101) (My kd a n):=by
 have ha:=h.ab.mono hb
 have m:b+1<=b+101:=by omega
 unfold My
 split
 ·exact ha.mono (by omega)
 split
 ·exact(hn.add ha).mono m
 split
 ·exact(hn.mul h.ab).mono (by omega)
 split
 ·exact hn.fdiv.mono m
 split
 ·exact(hn.inn.and ha.inn).ab.mono m
 split
 ·exact(hn.inn.or ha.inn).ab.mono m
 split
 ·exact(hn.inn.xor ha.inn).mono (by omega)
 split
 ·next hu=>exact hn.up.mono (by have:=h.sh (.inl hu);omega)
 ·exact hn.ediv.mono (by omega)
theorem Sm.nx_ab{s:Sm}{n:Int}{b:Nat}(h:AG s)(hn:Ab b n)(hb:100<=b):Ab (b+101) (s.nx n):=by
 cases s with
 | say=>exact hn.mono (by omega)
 | op kd a=>
  show Ab (b+101) (if kd = "part" then n.fdiv a else My kd a n)
  split
  ·exact hn.fdiv.mono (by omega)
  ·next hk=>exact xD h hk hn hb
theorem gH(s:Sm)(n:Int):(s.out n).length<=1:=by
 cases s with
 | say=>exact IP _
 | op kd a=>
  show (if kd = "part" then [n.fmod a] else []).length<=1
  split
  ·exact IP _
  ·exact KI _
def Ig(ns:List Int):List V:=ns.map V.int
theorem Ke(ns:List Int):(Ig ns).length=ns.length:=IM _
theorem Lq(a b:List Int):Ig (a++b)=Ig a++Ig b:=JE
def Mo:Sp:=λvs H Q _=>∃(n:Int)(kd:Str)(a:Int)(b:Nat),vs=[.int n,.str kd,.int a]/\gJ kd a/\kd ≠ "part" /\ Ab b n/\b<=900000/\Q (.int (My kd a n)) H
def Vc:Sp:=λvs H Q _=>∃(t sa:IN)(n:Int)(s:Sm)(ns:List Int)(b:Nat),vs=[.ref t,.int n,.ref sa]/\H t=some (.tup (.str s.pr.1::s.pr.2))/\AG s/\Ab b n/\b<=900000/\H sa=some (.lst (Ig ns))/\ns.length<=100000 /\
 ∀H',H' sa=some (.lst (Ig (ns++s.out n)))->(∀c,c≠sa->H' c=H c)->Q (.int (s.nx n)) H'
theorem Cb{a b:Str}(h:decide (V.str a=V.str b)=true):a=b:=V.str.inj (of_decide_eq_true h)
theorem Ct{a b:Str}(h:¬ decide (V.str a=V.str b)=true):¬ a=b:=λe=>h (by rw[e];exact decide_eq_true rfl)
section
variable {P:JJ} {w:KL} {K:IG} {mg:Str->Option II} {base:LO} {f fC:IN} {fd dC:JW}
theorem iE:Ap ["number","sort","amount"] ["number","sort","amount"] (Ae Pe):=Fv (by decide +kernel)
theorem Zu(F:Dp K "changed" "changed" Pe f fd)(T:Txt mg):Aj P w K mg base Bh 1 f fd ["number","sort","amount"] Mo:=by
 refine F.ok iE (λvs H Q E h=>?_) (λcdv A outer s H vs Q E hr h=>?_)
 ·obtain⟨n,kd,a,b,rfl,_⟩:=h
  rfl
 obtain⟨n,kd,a,b,rfl,ok,hk,hn,hb,q⟩:=h
 refine⟨_,Ac (Ax (Ao Bp (pv 1) Ar (As _)) (Ag (An (pv 2))) Al)
  (Ac (Ax (Ao Bp (pv 1) Ar (As _)) (Ag (An (Ak Bv (pv 0) (pv 2)))) Al)
  (Ac (Ax (Ao Bp (pv 1) Ar (As _)) (Ag (An (Ak gD (pv 0) (pv 2)))) Al)
  (Ac (Ax (Ao Bp (pv 1) Ar (As _)) (Ag (An (Ak Lx (pv 0) (pv 2)))) Al)
  (Ac (Ax (Ao Bp (pv 1) Ar (As _)) (Ag (An (Ak jY (pv 0) (pv 2)))) Al)
  (Ac (Ax (Ao Bp (pv 1) Ar (As _)) (Ag (An (Ak wI (pv 0) (pv 2)))) Al)
  (Ac (Ax (Ao Bp (pv 1) Ar (As _)) (Ag (An (Ak lH (pv 0) (pv 2)))) Al)
  (Ac (Ax (Ao Bp (pv 1) Ar (As _)) (Ag (An (Ak eG (pv 0) (pv 2)))) Al)
  (Ag (An (Ak oP (pv 0) (pv 2))))))))))),?_⟩
 unfold My at q
 refine⟨_,rfl,rfl,_,rfl,Br (λc=>?_) (λc=>?_)⟩
 ·rw[if_pos (Cb c)] at q
  exact⟨_,rfl,q⟩
 have c1:=Ct c
 rw[if_neg c1] at q
 refine⟨_,rfl,rfl,_,rfl,Br (λc=>?_) (λc=>?_)⟩
 ·rw[if_pos (Cb c)] at q
  exact⟨_,rfl,_,rfl,_,_,rfl,rfl,q⟩
 have c2:=Ct c
 rw[if_neg c2] at q
 refine⟨_,rfl,rfl,_,rfl,Br (λc=>?_) (λc=>?_)⟩
 ·rw[if_pos (Cb c)] at q
  exact⟨_,rfl,_,rfl,_,_,rfl,rfl,⟨max b 100,hn.mono (Nat.le_max_left _ _),ok.ab.mono (Nat.le_max_right _ _),by omega⟩,q⟩
 have c3:=Ct c
 rw[if_neg c3] at q
 refine⟨_,rfl,rfl,_,rfl,Br (λc=>?_) (λc=>?_)⟩
 ·have c':=Cb c
  rw[if_pos c'] at q
  exact⟨_,rfl,_,rfl,_,_,rfl,rfl,⟨ok.dv (.inl c'),ok.ab.mono (by decide)⟩,q⟩
 have c4:=Ct c
 rw[if_neg c4] at q
 refine⟨_,rfl,rfl,_,rfl,Br (λc=>?_) (λc=>?_)⟩
 ·rw[if_pos (Cb c)] at q
  exact⟨_,rfl,_,rfl,_,_,rfl,rfl,q⟩
 have c5:=Ct c
 rw[if_neg c5] at q
 refine⟨_,rfl,rfl,_,rfl,Br (λc=>?_) (λc=>?_)⟩
 ·rw[if_pos (Cb c)] at q
  exact⟨_,rfl,_,rfl,_,_,rfl,rfl,q⟩
 have c6:=Ct c
 rw[if_neg c6] at q
 refine⟨_,rfl,rfl,_,rfl,Br (λc=>?_) (λc=>?_)⟩
 ·rw[if_pos (Cb c)] at q
  exact⟨_,rfl,_,rfl,_,_,rfl,rfl,q⟩
 have c7:=Ct c
 rw[if_neg c7] at q
 refine⟨_,rfl,rfl,_,rfl,Br (λc=>?_) (λc=>?_)⟩
 ·have c':=Cb c
  rw[if_pos c'] at q
  have z:=ok.sh (.inl c')
  exact⟨_,rfl,_,rfl,_,_,rfl,rfl,⟨z.1,by omega,hn.mono (by omega)⟩,q⟩
 have c8:=Ct c
 rw[if_neg c8] at q
 have hd:kd = "down" := by
  have m:=ok.mem
  unfold Kz at m
  simp only[IQ,JG,or_false] at m
  rcases m with h | h | h | h | h | h | h | h | h | h
  ·exact absurd h c1
  ·exact absurd h c2
  ·exact absurd h c3
  ·exact absurd h c4
  ·exact absurd h c5
  ·exact absurd h c6
  ·exact absurd h c7
  ·exact absurd h c8
  ·exact h
  ·exact absurd h hk
 exact⟨_,rfl,_,rfl,_,_,rfl,rfl,(ok.sh (.inr hd)).1,q⟩
theorem xC:Ap ["step","number","said"] ["step","number","said"] (Ae lI):=Fv (by decide +kernel)
theorem rV(F:Dp K "reckoned" "reckoned" lI f fd)(T:Txt mg)(GC:Aj P w K mg base Bh 1 fC dC ["number","sort","amount"] Mo)(kC:IR K (.ref fC)=true)(bC:Binds K dC ["number","sort","amount"] [])(mC:mg "changed" = some (.ref fC)):Aj P w K mg base Bh 2 f fd ["step","number","said"] Vc:=by
 refine F.ok xC (λvs H Q E h=>?_) (λcdv A outer s H vs Q E hr h=>?_)
 ·obtain⟨t,sa,n,s,ns,b,rfl,_⟩:=h
  rfl
 obtain⟨t,sa,n,s,ns,b,rfl,ht,ok,hn,hb,hs,hl,q⟩:=h
 refine⟨_,Ac (Ax (Ao Bp (Aq Au (pv 0) Ad (λ_ _=>rfl)) Ar (As _))
  (Ac (Ca (Kq KQ MF ME Et (pv 2) (Dc (pv 1)))) (Ag (An (pv 1)))) Al)
  (Ac (Ax (Ao Bp (Aq Au (pv 0) Ad (λ_ _=>rfl)) Ar (As _))
   (Ac (Ca (Kq KQ MF ME Et (pv 2) (Dc (Ak eF (pv 1) (Aq Au (pv 0) Ad (λ_ _=>rfl))))))
   (Ag (An (Ak Lx (pv 1) (Aq Au (pv 0) Ad (λ_ _=>rfl)))))) Al)
  (Ag (An (Ck GC hr mC kC bC (Ge (pv 1) (Aq Au (pv 0) Ad (λ_ _=>rfl)) (Aq Au (pv 0) Ad (λ_ _=>rfl))))))),?_⟩
 have hls:(Ig ns).length < IK:=by rw[Ke,JB];omega
 cases s with
 | say=>
  have at0:Hx [V.str "say"] 0=some (.str "say"):=Ba (j:=0) rfl
  refine⟨_,rfl,t,_,_,_,rfl,rfl,Cc.of ht,at0,rfl,_,rfl,He ?_⟩
  refine⟨_,rfl,.inl ⟨rfl,_,Av.of hs⟩,_,rfl,sa,_,_,rfl,rfl,hs,hls,?_⟩
  refine⟨_,rfl,q _ ?_ λc hc=>Ai hc⟩
  rw[Aa,Lq]
  rfl
 | op kd a=>
  have at0:Hx [V.str kd,V.int a] 0=some (.str kd):=Ba (j:=0) rfl
  have at1:Hx [V.str kd,V.int a] 1=some (.int a):=Ba (j:=1) rfl
  have okA:gJ kd a:=ok
  have ns_:kd ≠ "say" := λz=>by
   have m:=okA.mem
   rw[z] at m
   revert m
   decide +kernel
  refine⟨_,rfl,t,_,_,_,rfl,rfl,Cc.of ht,at0,rfl,_,rfl,Br (λc=>absurd (Cb c) ns_) (λ_=>?_)⟩
  refine⟨_,rfl,t,_,_,_,rfl,rfl,Cc.of ht,at0,rfl,_,rfl,Br (λc=>?_) (λc=>?_)⟩
  ·have c':=Cb c
   have a0:=okA.dv (.inr c')
   have e1:(Sm.op kd a).out n=[n.fmod a]:=if_pos c'
   have e2:(Sm.op kd a).nx n=n.fdiv a:=if_pos c'
   rw[e1,e2] at q
   refine⟨_,rfl,.inl ⟨rfl,_,Av.of hs⟩,_,rfl,_,rfl,t,_,_,_,rfl,rfl,Cc.of ht,at1,_,_,rfl,rfl,a0,sa,_,_,rfl,rfl,hs,hls,?_⟩
   have nts:t≠sa:=Cd ht hs (by intro z;cases z)
   refine⟨_,rfl,_,rfl,t,_,_,_,rfl,rfl,Cc.of (by rw[Ai nts];exact ht),at1,_,_,rfl,rfl,⟨a0,okA.ab.mono (by decide)⟩,?_⟩
   refine q _ ?_ λc hc=>Ai hc
   rw[Aa,Lq]
   rfl
  ·have c':=Ct c
   have e1:(Sm.op kd a).out n=[]:=if_neg c'
   have e2:(Sm.op kd a).nx n=My kd a n:=if_neg c'
   rw[e1,e2] at q
   refine⟨_,rfl,_,rfl,t,_,_,_,rfl,rfl,Cc.of ht,at0,_,rfl,t,_,_,_,rfl,rfl,Cc.of ht,at1,n,kd,a,b,rfl,okA,c',hn,hb,?_⟩
   exact q H (by rw[LA];exact hs) λc _=>rfl
end
end Bk
namespace L2
open PySem PySem.Spec PyProof.Rows PySem.W
section
variable {prog:JJ} {w:KL} {A:KG} {E:II->IL->Prop} {s:IL} {K:IG} {C x:IN} {ox:Obj} {odo:Option Obj}
end
end L2
namespace L2
open PySem PySem.Spec PyProof.Rows
structure Te(k:Nat)(A:KG):Prop where
 dp:A.depth+3 * k+5 < recursionLimit
 un:A.units+16 * k+200 < cLine
theorem Cj.caught{k:Nat}{A:KG}(r:Cj k A)(v:Option II):Te k (A.mark v):=⟨r.dp,r.un⟩
theorem Te.calmed{k:Nat}{A:KG}(r:Te k A):Cj k { A with handled:=none }:=⟨r.dp,r.un⟩
abbrev Cx.stirred(X:Cx):Cx:={ X with calm:=false,sx:=false }
structure Sb(P:JJ)(w:KL)(K:IG)(mg:Str->Option II)(base:LO)(k:Nat)(f:IN)(fd:JW)(ps:List Str)(sp:Sp):Prop where
 len:∀vs H Q E,sp vs H Q E->vs.length=ps.length
 run:∀(A:KG)(outer:List Env)(s:IL)(H:Hp)(args:Args)(us:List II)(vs:List V)(Q:VK)(E:XK),Te k A->Uu P w K mg base A outer s H->BindsTo s fd args (ps.zip us)->Be vs us->sp vs H Q E ->
  RE (JV P w) A (.call (.ref f) args) (CR Bh outer P w H s Q E) s
section
variable {X:Cx} {k:Nat} {f:IN} {fd:JW} {ps:List Str} {sp:Sp} {dvs:List V} {ds:List II} {E:XK} {x:Str} {p pos:Pos} {e:Expr} {es:List Expr} {t:TA}
end
section
variable {P:JJ} {w:KL} {K:IG} {mg:Str->Option II} {base:LO}
theorem Dp.okN{x qual:Str}{st:NW}{f:IN}{fd:JW}{N ps:List Str}{k:Nat}{sp:Sp}(F:Dp K x qual st f fd)(S:Ap N ps (Ae st))(len:∀vs H Q E,sp vs H Q E->vs.length=ps.length)(hbody:∀(cdv:II)(A:KG)(outer:List Env)(s:IL)(H:Hp)(vs:List V)(Q:VK)(E:XK),Te k (A.deeper (envOfC qual (Ae st) s.heap.objs.size f cdv))->sp vs H Q E ->
  ∃t,Hs (Em Bh P w K mg base N qual (Ae st) f cdv A outer s H E).stirred.nox (Bg st) t/\t { nx:=λ_ H'=>Q .non H',rt:=Q } (start N vs) H):Sb P w K mg base (k+1) f fd ps sp:=by
 obtain⟨oc,od,kV,doc,pm,an,cdv,ct,osl,rfl,lk,hcd⟩:=F.ex
 refine⟨len,λA outer s H args us vs Q E hr e0 hb r hsp=>?_⟩
 have hl:=len _ _ _ _ hsp
 have KX:K.In s.heap:=e0.mod.kin.keeps λb o e=>(e0.bs b o e).1
 have lim:s.heap.NoLimit:=e0.mod.nolimit.keeps λb o e=>(e0.bs b o e).1
 have hkind:∀y∈ps.zip us,(Ae st).names.lookup y.1=some .local∨((Ae st).names.lookup y.1=some .cell/\((cellsFrom (s.heap.objs.size+1) (Ae st).names []).lookup y.1).isSome=true):=λ⟨n,v⟩ hy=>by
  rcases S.par n (List.of_mem_zip hy).1 with q | q
  ·exact .inl q
  ·exact .inr ⟨q,PySem.W.cellsFrom_some _ _ _ (.inl q)⟩
 refine codeAny_call_function hr.calmed.depth (KX _ _ lk) rfl S.co S.gen rfl (PySem.W.codeRec_of KX hcd) (hb _ _ _ _ ?_)
 refine wpAny_newFunctionEnv_cells S.kind hkind λenv he s1 x=>?_
 subst he
 refine⟨lim.keeps x.toInCall.keep,codeAny_func ?_⟩
 obtain⟨t,ht,hq⟩:=hbody cdv A outer s H vs Q E ⟨(hr.calmed.deeper (envOfC qual (Ae st) s.heap.objs.size f cdv)).dp,(hr.calmed.deeper (envOfC qual (Ae st) s.heap.objs.size f cdv)).un⟩ hsp
 have J:=Se (CX:=Bh) (E:=E) (A:={ A with handled:=none }) S (λz=>nomatch z) (.inl rfl) ⟨e0.frames,e0.mod,e0.bs,e0.bsz,e0.funs,e0.frf,e0.hok,e0.bare⟩ hl r x
 have I:Inv (Em Bh P w K mg base N qual (Ae st) f cdv A outer s H E).stirred [] (start N vs) H s1:=
  ⟨⟨J.ok.mod,J.ok.kind,J.ok.glob,J.ok.blt,J.ok.above,J.ok.inj,J.ok.has,J.ok.cab,λz=>absurd z IZ,λz=>absurd z IZ,J.ok.frames,J.ok.stk,J.ok.exf,J.ok.bs,J.ok.bsz,J.ok.noex,J.ok.exfs,J.ok.funs,J.ok.frf⟩,J.os,J.bare,J.base,J.loc,J.cell,J.free,J.freeC,J.pin,J.hok,J.len⟩
 refine MI (ht.nox [] s1 (start N vs) H _ I hq) (λfl s' hs=>?_) λe s' hs=>hs
 have fin:∀ {σ':St} {H':Hp} {v:V} {u:II},Inv (Em Bh P w K mg base N qual (Ae st) f cdv A outer s H E).stirred [] σ' H' s'->RelV v u->Q v H'->CE outer P w H s Q u s':=
  λ{σ' H' v u} J rv q=>⟨v,H',J.os,J.bare,J.base,J.hok,rv,q⟩
 cases fl with
 | ret u=>
  obtain⟨v,σ',H',J,rv,q⟩:=hs
  exact fin J rv q
 | next=>
  obtain⟨σ',H',J,q⟩:=hs
  exact fin (v:=V.non) (u:=LX) J rfl q
 | brk=>
  obtain⟨_,_,_,q⟩:=hs
  exact LF q
 | cont=>
  obtain⟨_,_,_,q⟩:=hs
  exact LF q
end
section
variable {X:Cx} {k:Nat} {f C:IN} {fd:JW} {ps:List Str} {sp:Sp} {dvs:List V} {ds:List II} {m:Str} {pos apos:Pos} {e o:Expr} {es:List Expr} {ta:TE} {t:TA}
theorem nZ{pl:Sem Bool}(he:PE X o ta)(c:Vk X.K C)(hm:Cr X.K C m f)(F:Sb X.prog X.w X.K X.mg X.base k f fd ps sp)(hr:Te k X.A)(hb:Binds X.K fd ps ds)(hd:Be dvs ds)(ha:PA X (e::es) t)(hst:JS (e::es) X.env=(false,OA e X.env)::JS es X.env:=by rfl)(hpl:(PD pos (JS es X.env)).any (·.1)=false:=by rfl)(ht:OA (.Call (.Attribute o m apos) (e::es) [] pos) X.env=(do let ov <- OA o X.env;standAt apos.atName;let (f,first) <- holding [ov] (getMethod ov m pl);callWith pos f first (PD pos (JS (e::es) X.env)) (backToKw pos (QC [] X.env))):=by rfl):
 PE X (.Call (.Attribute o m apos) (e::es) [] pos) (qI C m sp dvs E0 ta t):=by
 intro pins s σ H Q I h
 refine OD (pl:=pl) (Bx (he pins s σ H _ I h) λu s1 ⟨x,H1,I1,rx,a,dx,fs,ex,ea,l,q⟩=>?_) ht
 subst ex
 obtain rfl:u=JD a:=rx
 refine Fu I1 ea c hm l ?_
 refine MS (first:=[.ref a]) (h₀:=X.base) I.ok.mod.kin hm.kp (Bx (ha pos pins s1 σ H1 _ I1 q) λus s2 ⟨vs,H2,I2,r,q2⟩=>⟨I2.kIn,?_⟩) hst hpl
 have r2:Be ((.ref a::vs)++dvs) ((.ref a::us)++ds):=Be.append (.cons rfl r) hd
 have hl:((.ref a::us)++ds).length=ps.length:=by rw[<- r2.length];exact F.len _ _ _ _ q2
 refine QZ (OL (F.run X.A X.stack s2 H2 ⟨.ref a::us,[]⟩ ((.ref a::us)++ds) ((.ref a::vs)++dvs) Q E0 hr I2.env0 (hb s2 (.ref a::us) I2.kIn hl) r2 q2) λr s' hq=>?_)
 cases r with
 | error e=>exact LF hq
 | ok fl=>
  cases fl with
  | ret u=>exact I2.after hq
  | next=>exact LF hq
  | brk=>exact LF hq
  | cont=>exact LF hq
end
end L2
namespace Bk
open PySem L2 Mg Nm Rk
def tF(k:Int)(sa:IN):List (Str×V):=[("left", .int k),("said", .ref sa)]
theorem fY(k:Int)(sa:IN):(tF k sa).lookup ("left" : Str)=some (.int k):=by
 unfold tF
 rw[JL,beq_self_eq_true]
theorem Nq(k:Int)(sa:IN):(tF k sa).lookup ("said" : Str)=some (.ref sa):=by
 unfold tF
 rw[JL,show (("said" : Str) == "left")=false by decide +kernel,JL,beq_self_eq_true]
theorem wC{k:Int}{sa:IN}{m:Str}(h:∀x∈(["left","said"]:List Str),m≠x):(tF k sa).lookup m=none:=by
 unfold tF
 rw[JL,beq_false_of_ne (h _ (by simp)),JL,beq_false_of_ne (h _ (by simp))]
 rfl
theorem xN(k:Int)(sa:IN):Ex "said" (.ref sa) (Ex "left" (.int k) [])=tF k sa:=by
 show (if ("left" : Str) = "said" then _ else (("left" : Str),V.int k)::[(("said" : Str),V.ref sa)])=_
 rw[if_neg (by decide +kernel)]
 rfl
theorem Za(k j:Int)(sa:IN):Ex "left" (.int j) (tF k sa)=tF j sa:=by
 show (if ("left" : Str) = "left" then (("left" : Str),V.int j)::[(("said" : Str),V.ref sa)] else _)=_
 rw[if_pos rfl]
 rfl
theorem Yv(k:Int)(sa sb:IN):Ex "said" (.ref sb) (tF k sa)=tF k sb:=by
 show (if ("left" : Str) = "said" then _ else (("left" : Str),V.int k)::(if ("said" : Str) = "said" then [(("said" : Str),V.ref sb)] else _))=_
 rw[if_neg (by decide +kernel),if_pos rfl]
 rfl
structure Vg(K:IG)(mg:Str->Option II)(CT:IN):Prop where
 cl:Vk K CT
 nLeft:Eh K CT "left"
 nSaid:Eh K CT "said"
 mgT:mg "Tally" = some (.ref CT)
structure cS(K:IG)(mg:Str->Option II)(CU CS:IN)(bU bS:List II):Prop where
 exU:Lc K CU bU
 baU:bU.contains (.type "BaseException")=true
 inU:LH K (.ref CU) "__init__" = some (some (.builtin "ValueError.__init__"))
 mgU:mg "Unanswered" = some (.ref CU)
 exS:Lc K CS bS
 baS:bS.contains (.type "BaseException")=true
 inS:LH K (.ref CS) "__init__" = some (some (.builtin "ValueError.__init__"))
 mgS:mg "Spent" = some (.ref CS)
 uu:QD K (.ref CU) (.ref CU)=some true
 su:QD K (.ref CS) (.ref CU)=some false
structure Rb(M H:Hp)(CT tq dt sa:IN)(k:Nat)(sd:List Int):Prop where
 same:Am M H
 mq:M tq=none
 ms:M sa=none
 hq:H tq=some (.ins CT dt (tF (k:Int) sa))
 hs:H sa=some (.lst (Ig sd))
theorem Rb.upd{M H H':Hp}{CT tq dt sa:IN}{k:Nat}{sd sd':List Int}(C:Rb M H CT tq dt sa k sd)(h1:H' sa=some (.lst (Ig sd')))(h2:∀c,c≠sa->H' c=H c):Rb M H' CT tq dt sa k sd':=by
 have nqs:tq≠sa:=Cd C.hq C.hs (by intro z;cases z)
 refine⟨λb o e=>?_,C.mq,C.ms,by rw[h2 tq nqs];exact C.hq,h1⟩
 have:b≠sa:=λz=>by rw[z,C.ms] at e;cases e
 rw[h2 b this]
 exact C.same b o e
section
variable (CT CS:IN)
def Uq:Sp:=λvs H Q _=>∃(q dx:IN)(k:Int),vs=[.ref q,.int k]/\H q=some (.ins CT dx [])/\∀(sa:IN)(H':Hp),H sa=none->H' q=some (.ins CT dx (tF k sa))->H' sa=some (.lst [])->(∀c o,H c=some o->c≠q->H' c=some o)->Q .non H'
def Oi:Sp:=λvs H Q E=>∃(M:Hp)(tq dt sa:IN)(k:Nat)(sd:List Int),vs=[.ref tq]/\Rb M H CT tq dt sa k sd/\(k=0->∀H':Hp,Am M H'->E (.ref CS) none H')/\∀k',k=k'+1->∀H':Hp,Rb M H' CT tq dt sa k' sd->Q .non H'
def Ti:Sp:=λvs H Q _=>∃(M:Hp)(tq dt sa:IN)(k:Nat)(sd t:List Int),vs=[.ref tq,.int (sd.length:Int)]/\Rb M H CT tq dt sa k (sd++t)/\∀(H':Hp)(sb:IN),Rb M H' CT tq dt sb k sd->Q .non H'
end
section
variable {P:JJ} {w:KL} {K:IG} {mg:Str->Option II} {base:LO} {f CT CU CS:IN} {fd:JW} {bU bS:List II}
theorem rD:Ap ["self","left"] ["self","left"] (Ae aO):=Fv (by decide +kernel)
theorem nL(F:Dp K "__init__" "Tally.__init__" aO f fd)(T:Vg K mg CT):Aj P w K mg base Bh 1 f fd ["self","left"] (Uq CT):=by
 refine F.ok rD (λvs H Q E h=>?_) (λcdv A outer s H vs Q E hr h=>?_)
 ·obtain⟨q,dx,k,rfl,_⟩:=h
  rfl
 obtain⟨q,dx,k,rfl,hq,g⟩:=h
 refine⟨_,Ac (Gz (pv 0) (pv 1) rfl) (Ag (Gz (pv 0) (Bt Hn) rfl)),?_⟩
 refine⟨_,rfl,_,rfl,q,CT,dx,[],rfl,hq,T.cl,T.nLeft,(by show 0 < 1000;decide),?_⟩
 refine⟨by show 0<=IK;decide,λsa hsa=>?_⟩
 have nq:q≠sa:=λz=>by rw[<- z,Aa] at hsa;cases hsa
 have hsa':H sa=none:=by rw[Ai (KO nq)] at hsa;exact hsa
 refine⟨_,rfl,q,CT,dx,_,rfl,(by rw[Ai nq];exact Aa),T.cl,T.nSaid,PJ (Fz _ _ _) (by show 1 < 1000;decide),?_⟩
 refine g sa _ hsa' (by rw[Aa,xN]) (by rw[Ai (KO nq),Aa]) λc o e hc=>?_
 rw[Ai hc,Ai (Ah e hsa'),Ai hc]
 exact e
theorem vK:Ap ["self"] ["self"] (Ae Ze):=Fv (by decide +kernel)
theorem mX(F:Dp K "enter" "Tally.enter" Ze f fd)(T:Vg K mg CT)(X:cS K mg CU CS bU bS):Aj P w K mg base (Hc P w) 1 f fd ["self"] (Oi CT CS):=by
 refine F.okX vK (λvs H Q E h=>?_) (λcdv A outer s H vs Q E hr h=>?_)
 ·obtain⟨M,tq,dt,sa,k,sd,rfl,_⟩:=h
  rfl
 obtain⟨M,tq,dt,sa,k,sd,rfl,C,g0,g1⟩:=h
 refine⟨_,Ac (Ax (Ao Bp (Cp (pv 0) rfl) Ad (As _)) (Ag (Wv rfl X.exS X.baS X.inS rfl X.mgS (Dc Ar))) Al)
  (Ag (Gz (pv 0) (Ak Hq (Cp (pv 0) rfl) Ad) rfl)),?_⟩
 refine⟨_,rfl,tq,CT,dt,_,_,rfl,C.hq,T.cl,T.nLeft,fY _ _,rfl,_,rfl,Br (λc=>?_) (λc=>?_)⟩
 ·have hk0:(k:Int)=0:=V.int.inj (of_decide_eq_true c)
  exact⟨by show 1<=IK;decide,g0 (by omega) H C.same⟩
 obtain⟨k',rfl⟩:∃k',k=k'+1:=by
  cases k with
  | zero=>exact absurd (decide_eq_true rfl) c
  | succ k'=>exact⟨k',rfl⟩
 refine⟨_,rfl,tq,CT,dt,_,_,rfl,C.hq,T.cl,T.nLeft,fY _ _,_,_,rfl,rfl,_,rfl,tq,CT,dt,_,rfl,C.hq,T.cl,T.nLeft,(by show 2 < 1000;decide),?_⟩
 rw[Za]
 have ek:((k'+1:Nat):Int)-1=(k':Int):=by omega
 rw[ek]
 have nsq:sa≠tq:=Cd C.hs C.hq (by intro z;cases z)
 refine g1 k' rfl _ ⟨λb' o hb=>?_,C.mq,C.ms,Aa,by rw[Ai nsq];exact C.hs⟩
 rw[Ai (λz=>by rw[z,C.mq] at hb;cases hb)]
 exact C.same _ _ hb
theorem yF:Ap ["self","length"] ["self","length"] (Ae mU):=Fv (by decide +kernel)
theorem sJ(F:Dp K "take_back" "Tally.take_back" mU f fd)(T:Vg K mg CT):Sb P w K mg base 1 f fd ["self","length"] (Ti CT):=by
 refine F.okN yF (λvs H Q E h=>?_) (λcdv A outer s H vs Q E hr h=>?_)
 ·obtain⟨M,tq,dt,sa,k,sd,t,rfl,_⟩:=h
  rfl
 obtain⟨M,tq,dt,sa,k,sd,t,rfl,C,g⟩:=h
 refine⟨_,Ag (Gz (pv 0) (Co En (Cp (pv 0) rfl) Dy (Cy (pv 1))) rfl),?_⟩
 refine⟨_,rfl,tq,CT,dt,_,_,rfl,C.hq,T.cl,T.nSaid,Nq _ _,_,rfl,_,rfl,sa,_,rfl,Av.of C.hs,λsb hsb=>?_⟩
 have hcut:Gj (Ig (sd++t)) none (some (sd.length:Int))=Ig sd:=by
  unfold Gj
  rw[show HT.sIx (Ig (sd++t)).length (Ig (sd++t)).length (some (sd.length:Int))=min sd.length (Ig (sd++t)).length from HT.sIx_nat _ _ _]
  show ((Ig (sd++t)).drop 0).take (min sd.length (Ig (sd++t)).length-0)=Ig sd
  rw[List.drop_zero,Nat.sub_zero,Lq,IV,Ke,Nat.min_eq_left (Nat.le_add_right _ _),List.take_left']
  exact Ke sd
 rw[hcut]
 have nqb:tq≠sb:=Ah C.hq hsb
 refine⟨_,rfl,tq,CT,dt,_,rfl,by rw[Ai nqb];exact C.hq,T.cl,T.nSaid,(by show 2 < 1000;decide),?_⟩
 rw[Yv]
 refine g _ sb ⟨λb' o hb=>?_,C.mq,C.same.free hsb,Aa,by rw[Ai (KO nqb)];exact Aa⟩
 have h1:b'≠tq:=λz=>by rw[z,C.mq] at hb;cases hb
 rw[Ai h1,Ai (Ah (C.same _ _ hb) hsb)]
 exact C.same _ _ hb
end
end Bk
namespace Bk
open PySem L2 Mg Nm
def Hj(CB CH:IN)(ks:List (Str×IN×List Str)):Sp:=λvs H Q _=>∃(p d l:IN)(L:List Ent)(x y:Str)(e:Ent)(ts:List IN)(ss:List (Str×List V)),vs=[.ref p,.str x,.str y,.ref l]/\Ay CB CH H p d L/\Ik L x=some e/\Fb y=true/\y.length<=IK/\H l=some (.lst (ts.map V.ref))/\Df H ts ss/\Mx ks ss/\e.bd.length<=1000 /\
 ∀(la:IN)(H':Hp),H la=none->H' la=some (.lst (ts.map V.ref))->H' e.ba=some (.dK (putK e.bd (IW y:Key) (.ref la)))->(∀b o,H b=some o->b≠e.ba->H' b=some o)->Q .non H'
def Hw(CB CH:IN):Sp:=λvs H Q _=>∃(p d:IN)(L:List Ent)(x y:Str)(e:Ent),vs=[.ref p,.str x,.str y]/\Ay CB CH H p d L/\Ik L x=some e /\
 ∀H',H' e.ba=some (.dK (Ci e.bd (IW y:Key)))->(∀b o,H b=some o->b≠e.ba->H' b=some o)->Q (.bl (valV e.bd (IW y:Key)).isSome) H'
def Uw(CB CH:IN):Sp:=λvs H Q _=>∃(p d:IN)(L:List Ent)(x y:Str)(e:Ent),vs=[.ref p,.str x,.str y]/\Ay CB CH H p d L/\Ik L x=some e /\
 ((valV e.bd (IW y:Key)=none/\Q .non H) ∨ ∃(la:IN)(xs:List V),valV e.bd (IW y:Key)=some (.ref la)/\H la=some (.lst xs)/\∀l,H l=none->Q (.ref l) (upd H l (.lst xs)))
theorem gY{kvs:List (Key×V)}{k:Key}(h:valV kvs k=none):Ci kvs k=kvs:=by
 unfold Ci
 refine List.filter_eq_self.mpr λkv hkv=>decide_eq_true λz=>?_
 have h2:=Fy k kvs
 rw[h] at h2
 have h3:=List.any_eq_false.mp h2 kv hkv
 exact h3 (decide_eq_true z)
section
variable {P:JJ} {w:KL} {K:IG} {mg:Str->Option II} {base:LO} {f fH fN fB CB CH:IN} {fd dH dN dB:JW} {ks:List (Str×IN×List Str)}
theorem pO:Ap ["self","name","word","bodies"] ["self","name","word"] (Ae pQ):=Fv (by decide +kernel)
theorem vV(F:Dp K "body" "Book.body" pQ f fd)(T:Fo K mg CB CH)(Tx:Txt mg)(GH:Aj P w K mg base Bh 1 fH dH ["self","name"] (Ic CB CH))(bH:Binds K dH ["self","name"] [])(mH:Cr K CB "house" fH):Aj P w K mg base Bh 2 f fd ["self","name","word"] (Uw CB CH):=by
 refine F.ok pO (λvs H Q E h=>?_) (λcdv A outer s H vs Q E hr h=>?_)
 ·obtain⟨p,d,L,x,y,e,rfl,_⟩:=h
  rfl
 obtain⟨p,d,L,x,y,e,rfl,B,he,q⟩:=h
 obtain⟨dx,hp⟩:=B.ob
 have hu:=Gd hr
 have E:=B.en e (Hf he).1
 refine⟨_,Ac (Bj 3 pO.nd (Cp (Dv (pv 0) T.clB mH GH hr bH .nil Cw (Dc (pv 1))) rfl))
  (Ac (Ax (Fj (Ki hu (pv 2) (pv 3))) (Ag (An Zj)) Al)
  (Ag (An (Dm Ef rfl Tx.list LN (Dc (Iw hu (pv 3) (pv 2) (λ_ _=>rfl))))))),?_⟩
 refine⟨_,rfl,p,dx,_,rfl,hp,Fx d (by decide +kernel),_,rfl,p,d,L,x,e,rfl,B,he,e.at_,CH,e.dx,_,_,rfl,E.ob,T.clH,T.nBd,oY _ _ _,?_⟩
 refine⟨_,rfl,_,rfl,e.ba,_,rfl,Fc.k (k:=IW y) E.bd,_,rfl,?_⟩
 rcases q with ⟨hv,q⟩ | ⟨la,xs,hv,hla,q⟩
 ·rw[hv]
  exact He q
 ·rw[hv]
  refine Di ?_
  have g:=Fc.k (k:=(IW y:Key)) E.bd
  rw[hv] at g
  exact⟨_,rfl,_,rfl,e.ba,_,rfl,g,la,_,rfl,.inl (Av.of hla),q⟩
theorem eJ:Ap ["self","name","word","body","house"] ["self","name","word","body"] (Ae cJ):=Fv (by decide +kernel)
theorem oR(F:Dp K "teach" "Book.teach" cJ f fd)(T:Fo K mg CB CH)(Tx:Txt mg)(GH:Aj P w K mg base Bh 1 fH dH ["self","name"] (Ic CB CH))(bH:Binds K dH ["self","name"] [])(mH:Cr K CB "house" fH)(GN:Aj P w K mg base Bh 1 fN dN ["value"] Hb)(kN:IR K (.ref fN)=true)(bN:Binds K dN ["value"] [])(mN:mg "is_name" = some (.ref fN))(GB:Aj P w K mg base Bh 5 fB dB ["value"] (Ps ks))(kB:IR K (.ref fB)=true)(bB:Binds K dB ["value"] [])(mB:mg "is_body" = some (.ref fB)):Aj P w K mg base Bh 6 f fd ["self","name","word","body"] (Hj CB CH ks):=by
 refine F.ok eJ (λvs H Q E h=>?_) (λcdv A outer s H vs Q E hr h=>?_)
 ·obtain⟨p,d,l,L,x,y,e,ts,ss,rfl,_⟩:=h
  rfl
 obtain⟨p,d,l,L,x,y,e,ts,ss,rfl,B,he,hy,hyl,el,hst,hgd,hbl,q⟩:=h
 obtain⟨dx,hp⟩:=B.ob
 have hu:=Gd hr
 have hr1:=hr.mono (j:=1) (by decide)
 have E:=B.en e (Hf he).1
 refine⟨_,Ac (Bj 4 eJ.nd (Dv (pv 0) T.clB mH GH hr1 bH .nil Cw (Dc (pv 1))))
  (Ac (Ax (Ht (Gc (Ck GN hr1 mN kN bN (Dc (pv 2))))) Bw Al)
  (Ac (Ax (Ht (Gc (Ck GB hr mB kB bB (Dc (pv 3))))) Bw Al)
  (Ag (Gh hu (Cp (pv 4) rfl) (pv 2) (Dm Ef rfl Tx.list LN (Dc (pv 3))) rfl)))),?_⟩
 refine⟨_,rfl,p,dx,_,rfl,hp,Fx d (by decide +kernel),_,rfl,p,d,L,x,e,rfl,B,he,?_⟩
 refine⟨_,rfl,.str y,rfl,.inr ⟨y,rfl,hyl⟩,λH1 s1=>?_⟩
 rw[show AR (.str y)=true from hy]
 refine⟨_,rfl,Di ?_⟩
 refine⟨_,rfl,l,ts,ss,rfl,s1 _ _ el,hst.same s1,hgd,λH2 s2=>⟨_,rfl,Di ?_⟩⟩
 have s3:=s1.trans s2
 refine⟨_,rfl,l,_,rfl,.inl (Av.of (s3 _ _ el)),λla hla=>?_⟩
 have s4:=Af hla (.lst (ts.map V.ref))
 have s5:=s3.trans s4
 refine⟨_,rfl,e.at_,CH,e.dx,_,_,rfl,s5 _ _ E.ob,T.clH,T.nBd,oY _ _ _,_,rfl,e.ba,_,rfl,Kt.k (k:=(IW y:Key)) (s5 _ _ E.bd) (by rw[JB];omega),?_⟩
 have nlb:la≠e.ba:=KO (Ah (s3 _ _ E.bd) hla)
 exact q la _ (s3.free hla) (by rw[Ai nlb];exact Aa) Aa λb o hb hne=>by rw[Ai hne];exact s5 _ _ hb
end
end Bk
namespace Bk
open PySem L2 Mg Nm Rk
def Ur:Sp:=λvs H Q _=>∃n c:Int,vs=[.int n,.int c] /\ -big<=n/\n<=big/\0<=c/\c<=40/\Q .non H
theorem gE{lo hi n:Int}(h0:lo<=n)(h1:n<=hi):uJ lo hi (.int n)=true:=by
 show (decide (lo<=n) && decide (n<=hi))=true
 rw[decide_eq_true h0,decide_eq_true h1]
 rfl
def aF(p ra tq:IN):List (Str×V):=[("book", .ref p),("row", .ref ra),("tally", .ref tq)]
theorem sY(p ra tq:IN):(aF p ra tq).lookup ("book" : Str)=some (.ref p):=by
 unfold aF
 rw[JL,beq_self_eq_true]
theorem nH(p ra tq:IN):(aF p ra tq).lookup ("row" : Str)=some (.ref ra):=by
 unfold aF
 rw[JL,show (("row" : Str) == "book")=false by decide +kernel,JL,beq_self_eq_true]
theorem Jr(p ra tq:IN):(aF p ra tq).lookup ("tally" : Str)=some (.ref tq):=by
 unfold aF
 rw[JL,show (("tally" : Str) == "book")=false by decide +kernel,JL,show (("tally" : Str) == "row")=false by decide +kernel,JL,beq_self_eq_true]
theorem Nh{p ra tq:IN}{m:Str}(h:∀x∈(["book","row","tally"]:List Str),m≠x):(aF p ra tq).lookup m=none:=by
 unfold aF
 rw[JL,beq_false_of_ne (h _ (by simp)),JL,beq_false_of_ne (h _ (by simp)),JL,beq_false_of_ne (h _ (by simp))]
 rfl
theorem xK(p ra tq:IN):Ex "tally" (.ref tq) (Ex "row" (.ref ra) (Ex "book" (.ref p) []))=aF p ra tq:=by
 have e1:Ex "row" (.ref ra) (Ex "book" (.ref p) [])=[(("book" : Str),V.ref p),("row", .ref ra)]:=by
  show (if ("book" : Str) = "row" then _ else (("book" : Str),V.ref p)::[(("row" : Str),V.ref ra)])=_
  rw[if_neg (by decide +kernel)]
 rw[e1]
 show (if ("book" : Str) = "tally" then _ else (("book" : Str),V.ref p)::(if ("row" : Str) = "tally" then _ else (("row" : Str),V.ref ra)::[(("tally" : Str),V.ref tq)]))=_
 rw[if_neg (by decide +kernel),if_neg (by decide +kernel)]
 rfl
structure Wt(K:IG)(mg:Str->Option II)(CA:IN):Prop where
 cl:Vk K CA
 nBook:Eh K CA "book"
 nRow:Eh K CA "row"
 nTally:Eh K CA "tally"
 mgA:mg "Asking" = some (.ref CA)
def Tw(CA:IN):Sp:=λvs H Q _=>∃(q p ra tq dx:IN),vs=[.ref q,.ref p,.ref ra,.ref tq]/\H q=some (.ins CA dx [])/\∀H':Hp,H' q=some (.ins CA dx (aF p ra tq))->(∀c o,H c=some o->c≠q->H' c=some o)->Q .non H'
section
variable {P:JJ} {w:KL} {K:IG} {mg:Str->Option II} {base:LO} {f fW fA CA:IN} {fd dW dA:JW}
theorem uC:Ap ["number","count"] ["number","count"] (Ae Zc):=Fv (by decide +kernel)
theorem lX(F:Dp K "check_question" "check_question" Zc f fd)(T:Txt mg)(GW:Aj P w K mg base Bh 1 fW dW ["value","least","most"] Mf)(kW:IR K (.ref fW)=true)(bW:Binds K dW ["value","least","most"] [])(mW:mg "is_whole" = some (.ref fW))(GA:Aj P w K mg base Bh 2 fA dA ["value"] Lj)(kA:IR K (.ref fA)=true)(bA:Binds K dA ["value"] [])(mA:mg "is_amount" = some (.ref fA)):Aj P w K mg base Bh 3 f fd ["number","count"] Ur:=by
 refine F.ok uC (λvs H Q E h=>?_) (λcdv A outer s H vs Q E hr h=>?_)
 ·obtain⟨n,c,rfl,_⟩:=h
  rfl
 obtain⟨n,c,rfl,n0,n1,c0,c1,q⟩:=h
 have hr1:=hr.mono (j:=1) (by decide)
 refine⟨_,Ac (Ax (Ht (Gc (Ck GA hr mA kA bA (Dc (pv 0))))) Bw Al)
  (Ag (Ax (Ht (Gc (Ck GW hr1 mW kW bW (Ge (pv 1) Ad Ad)))) Bw Al)),?_⟩
 refine⟨_,rfl,.int n,rfl,.inl ⟨n,rfl⟩,?_⟩
 rw[gE n0 n1]
 refine⟨_,rfl,Di ?_⟩
 refine⟨_,rfl,.int c,0,40,rfl,.inl ⟨c,rfl⟩,?_⟩
 rw[gE c0 c1]
 exact⟨_,rfl,Di q⟩
theorem vN:Ap ["self","book","row","tally"] ["self","book","row","tally"] (Ae cC):=Fv (by decide +kernel)
theorem pM(F:Dp K "__init__" "Asking.__init__" cC f fd)(T:Wt K mg CA):Aj P w K mg base Bh 1 f fd ["self","book","row","tally"] (Tw CA):=by
 refine F.ok vN (λvs H Q E h=>?_) (λcdv A outer s H vs Q E hr h=>?_)
 ·obtain⟨q,p,ra,tq,dx,rfl,_⟩:=h
  rfl
 obtain⟨q,p,ra,tq,dx,rfl,hq,g⟩:=h
 refine⟨_,Ac (Gz (pv 0) (pv 1) rfl) (Ac (Gz (pv 0) (pv 2) rfl) (Ag (Gz (pv 0) (pv 3) rfl))),?_⟩
 refine⟨_,rfl,_,rfl,q,CA,dx,[],rfl,hq,T.cl,T.nBook,(by show 0 < 1000;decide),?_⟩
 refine⟨_,rfl,_,rfl,q,CA,dx,_,rfl,Aa,T.cl,T.nRow,(by show 1 < 1000;decide),?_⟩
 refine⟨_,rfl,_,rfl,q,CA,dx,_,rfl,Aa,T.cl,T.nTally,PJ (Fz _ _ _) (by show 2 < 1000;decide),?_⟩
 refine g _ (by rw[Aa,xK]) λc o e hc=>?_
 rw[Ai hc,Ai hc,Ai hc]
 exact e
end
inductive Eg
 | sm (s:Sm)
 | onw
 | ask (w:Str)
 | tri (w o:Str)
def jM:Eg->Prop
 | .sm s=>AG s
 | _=>True
def Eg.pr:Eg->Str×List V
 | .sm s=>s.pr
 | .onw=>("onwards", [])
 | .ask w=>("ask", [V.str w])
 | .tri w o=>("try", [V.str w,V.str o])
inductive Res
 | ok (n:Int) (k:Nat) (sd:List Int)
 | una (k:Nat) (sd:List Int)
 | spent
abbrev Dt:=Str->Nat->Int->Nat->List Int->Res
def Nk(R:Dt)(y z:Str)(n:Int)(k:Nat)(sd:List Int):Res:=match R y 0 n k sd with
 | .una k' _=>R z 0 n k' sd
 | .ok a b c=>.ok a b c
 | .spent=>.spent
def stepS(R:Dt)(w:Str)(ix:Nat)(n:Int)(k:Nat)(sd:List Int):Eg->Res
 | .sm s=>.ok (s.nx n) k (sd++s.out n)
 | .onw=>R w (ix+1) n k sd
 | .ask y=>R y 0 n k sd
 | .tri y z=>Nk R y z n k sd
def Dw(R:Dt)(w:Str)(ix:Nat):List Eg->Int->Nat->List Int->Res
 | [],n,k,sd=>.ok n k sd
 | s::ss,n,k,sd=>match stepS R w ix n k sd s with
  | .ok n' k' sd'=>Dw R w ix ss n' k' sd'
  | .una k' sd'=>.una k' sd'
  | .spent=>.spent
abbrev Dg:=Str->Str->Option (List Eg)
def findF(B:Dg)(w:Str):Nat->List Str->Option (Nat×List Eg)
 | _,[]=>none
 | i,y::ys=>match B y w with
  | some b=>some (i,b)
  | none=>findF B w (i+1) ys
def inS(R:Dt)(w:Str)(n:Int)(k:Nat)(sd:List Int)(ix:Nat)(body:List Eg):Res:=match k with
 | 0=>.spent
 | k'+1=>Dw R w ix body n k' sd
def GJ(R:Dt)(B:Dg)(rs:List Str):Dt:=λw pl n k sd=>match findF B w pl (rs.drop pl) with
 | none=>.una k sd
 | some (ix,body)=>inS R w n k sd ix body
def Ek(B:Dg)(rs:List Str):Nat->Dt
 | 0=>λ_ _ _ _ _=>.spent
 | m+1=>GJ (Ek B rs m) B rs
def Goes(b c k:Nat)(sd:List Int):Res->Prop
 | .ok n k' sd'=>k'<=k/\Ab (b+3200 * (k-k')) n/\∃t,sd'=sd++t/\t.length<=c+31 * (k-k')
 | .una k' sd'=>k'<=k/\∃t,sd'=sd++t/\t.length<=c+31 * (k-k')
 | .spent=>True
def GoodR(R:Dt):Prop:=∀y pl n k sd b,Ab b n->100<=b->Goes b 0 k sd (R y pl n k sd)
theorem Goes.step{b c b' c' k k':Nat}{sd t:List Int}{r:Res}(h:Goes b' c' k' (sd++t) r)(hk:k'<=k)(hb:b'<=b+3200 * (k-k'))(hc:c'+t.length<=c+31 * (k-k')):Goes b c k sd r:=by
 cases r with
 | ok n k2 sd2=>
  obtain⟨h1,h2,t2,h3,h4⟩:=h
  refine⟨by omega,h2.mono (by omega),t++t2,by rw[h3,OP],by rw[IV];omega⟩
 | una k2 sd2=>
  obtain⟨h1,t2,h3,h4⟩:=h
  exact⟨by omega,t++t2,by rw[h3,OP],by rw[IV];omega⟩
 | spent=>trivial
theorem oU{R:Dt}(hR:GoodR R){y z:Str}{n:Int}{k:Nat}{sd:List Int}{b:Nat}(hn:Ab b n)(hb:100<=b):Goes b 0 k sd (Nk R y z n k sd):=by
 have h:=hR y 0 n k sd b hn hb
 unfold Nk
 cases e:R y 0 n k sd with
 | ok a c d=>rw[e] at h;exact h
 | spent=>trivial
 | una k' sd'=>
  rw[e] at h
  have h2:=hR z 0 n k' sd b hn hb
  refine Goes.step (t:=[]) (b':=b) (c':=0) (by rw[LA];exact h2) h.1 (by omega) (by simp)
theorem Sj{R:Dt}(hR:GoodR R){w:Str}{ix:Nat}{n:Int}{k:Nat}{sd:List Int}{b:Nat}{s:Eg}(hs:jM s)(hn:Ab b n)(hb:100<=b):Goes (b+101) 1 k sd (stepS R w ix n k sd s):=by
 have up:∀ {r:Res},Goes b 0 k sd r->Goes (b+101) 1 k sd r:=λ{r} h=>Goes.step (t:=[]) (b':=b) (c':=0) (k':=k) (by rw[LA];exact h) (IP _) (by omega) (by simp)
 cases s with
 | sm s=>exact⟨IP _,by rw[Nat.sub_self];exact Sm.nx_ab hs hn hb,_,rfl,by have:=gH s n;omega⟩
 | onw=>exact up (hR _ _ _ _ _ _ hn hb)
 | ask y=>exact up (hR _ _ _ _ _ _ hn hb)
 | tri y z=>exact up (oU hR hn hb)
theorem Pz{R:Dt}(hR:GoodR R){w:Str}{ix:Nat}:∀ {ss:List Eg} {n:Int} {k:Nat} {sd:List Int} {b:Nat},(∀s∈ss,jM s)->Ab b n->100<=b->Goes (b+101 * ss.length) ss.length k sd (Dw R w ix ss n k sd)
 | [],n,k,sd,b,_,hn,_=>⟨IP _,by rw[Nat.sub_self];exact hn,[],by rw[LA],KI _⟩
 | s::ss,n,k,sd,b,hs,hn,hb=>by
  have h:=Sj hR (w:=w) (ix:=ix) (k:=k) (sd:=sd) (hs s JM) hn hb
  show Goes (b+101 * (ss.length+1)) (ss.length+1) k sd (match stepS R w ix n k sd s with
   | .ok n' k' sd'=>Dw R w ix ss n' k' sd'
   | .una k' sd'=>.una k' sd'
   | .spent=>.spent)
  cases e:stepS R w ix n k sd s with
  | ok n' k' sd'=>
   rw[e] at h
   obtain⟨h1,h2,t,rfl,h4⟩:=h
   have ih:=Pz hR (w:=w) (ix:=ix) (k:=k') (sd:=sd++t) (λs hs'=>hs s (JC _ hs')) h2 (by omega)
   exact ih.step h1 (by omega) (by omega)
  | una k' sd'=>
   rw[e] at h
   obtain⟨h1,t,h3,h4⟩:=h
   exact⟨h1,t,h3,by omega⟩
  | spent=>trivial
theorem Wa{B:Dg}{w:Str}:∀ {ys:List Str} {i ix:Nat} {body:List Eg},findF B w i ys=some (ix,body)->∃y∈ys,B y w=some body
 | [],_,_,_,h=>by cases h
 | y::ys,i,ix,body,h=>by
  cases e:B y w with
  | some b=>
   have h':findF B w i (y::ys)=some (i,b):=by show (match B y w with | some b=>some (i,b) | none=>findF B w (i+1) ys)=_;rw[e]
   rw[h'] at h
   cases h
   exact⟨y,JM,e⟩
  | none=>
   have h':findF B w i (y::ys)=findF B w (i+1) ys:=by show (match B y w with | some b=>some (i,b) | none=>findF B w (i+1) ys)=_;rw[e]
   rw[h'] at h
   obtain⟨z,hz,hb⟩:=Wa h
   exact⟨z,JC _ hz,hb⟩
def BJ(B:Dg)(rs:List Str):Prop:=∀y∈rs,∀w ss,B y w=some ss->(∀s∈ss,jM s)/\ss.length<=30
theorem Lu{B:Dg}{rs:List Str}(hB:BJ B rs):∀m,GoodR (Ek B rs m)
 | 0=>λ_ _ _ _ _ _ _ _=>trivial
 | m+1=>λw pl n k sd b hn hb=>by
  show Goes b 0 k sd (match findF B w pl (rs.drop pl) with
   | none=>.una k sd
   | some (ix,body)=>inS (Ek B rs m) w n k sd ix body)
  cases e:findF B w pl (rs.drop pl) with
  | none=>exact⟨IP _,[],by rw[LA],by simp⟩
  | some p=>
   obtain⟨ix,body⟩:=p
   obtain⟨y,hy,hb2⟩:=Wa e
   obtain⟨o1,o2⟩:=hB y (NP hy) w body hb2
   cases k with
   | zero=>trivial
   | succ k=>
    have h:=Pz (Lu hB m) (w:=w) (ix:=ix) (k:=k) (sd:=sd) o1 hn hb
    exact Goes.step (t:=[]) (b':=b+101 * body.length) (c':=body.length) (k':=k) (by rw[LA];exact h) (by omega) (by omega) (by simp;omega)
def mask(H:Hp)(q sa:IN):Hp:=λb=>if b=q∨b=sa then none else H b
theorem Yb{H:Hp}{q sa:IN}:Am (mask H q sa) H:=λb o e=>by
 unfold mask at e
 split at e
 ·cases e
 ·exact e
theorem Oj{H:Hp}{q sa b:IN}{o:HO}(e:H b=some o)(h1:b≠q)(h2:b≠sa):mask H q sa b=some o:=by
 unfold mask
 rw[if_neg (λz=>z.elim h1 h2)]
 exact e
theorem Rb.masked{M H:Hp}{CT tq dt sa:IN}{k:Nat}{sd:List Int}(C:Rb M H CT tq dt sa k sd):Rb (mask H tq sa) H CT tq dt sa k sd/\Am M (mask H tq sa):=by
 refine⟨⟨Yb,?_,?_,C.hq,C.hs⟩,λb o e=>Oj (C.same b o e) (λz=>?_) (λz=>?_)⟩
 ·unfold mask
  rw[if_pos (.inl rfl)]
 ·unfold mask
  rw[if_pos (.inr rfl)]
 ·rw[z,C.mq] at e;cases e
 ·rw[z,C.ms] at e;cases e
structure Vv(CA CB CH:IN)(M:Hp)(q dx tq p d ra:IN)(L:List Ent)(rs:List Str)(B:Dg):Prop where
 ob:M q=some (.ins CA dx (aF p ra tq))
 bk:Ay CB CH M p d L
 row:M ra=some (.lst (Az rs))
 rl:rs.length<=1000
 hs:∀y∈rs,∃e,Ik L y=some e
 no:∀y∈rs,∀e w,Ik L y=some e->B y w=none->valV e.bd (IW w:Key)=none
 yes:∀y∈rs,∀e w ss,Ik L y=some e->B y w=some ss->∃(la:IN)(ts:List IN),valV e.bd (IW w:Key)=some (.ref la)/\M la=some (.lst (ts.map V.ref))/\Df M ts (ss.map Eg.pr)
 ok:BJ B rs
theorem Vv.same{CA CB CH:IN}{M M':Hp}{q dx tq p d ra:IN}{L:List Ent}{rs:List Str}{B:Dg}(U:Vv CA CB CH M q dx tq p d ra L rs B)(s:Am M M'):Vv CA CB CH M' q dx tq p d ra L rs B:=
 ⟨s _ _ U.ob,U.bk.same s,s _ _ U.row,U.rl,U.hs,U.no,λy hy e w ss h1 h2=>let ⟨la,ts,a,b,c⟩:=U.yes y hy e w ss h1 h2;⟨la,ts,a,s _ _ b,c.same s⟩,U.ok⟩
def Ts(M:Hp)(CT CU CS tq dt:IN)(Q:VK)(E:XK):Res->Prop
 | .ok n k sd=>∀(H':Hp)(sa:IN),Rb M H' CT tq dt sa k sd->Q (.int n) H'
 | .una k sd=>∀(H':Hp)(sa:IN),Rb M H' CT tq dt sa k sd->E (.ref CU) none H'
 | .spent=>∀H':Hp,Am M H'->E (.ref CS) none H'
structure Fits(b:Nat)(n:Int)(k:Nat)(sd:List Int):Prop where
 ab:Ab b n
 lo:100<=b
 hi:b+3200 * (k+1)<=800000
 len:sd.length+31 * (k+1)<=90000
def xH(k:Nat):Res->Prop
 | .ok _ k' _=>k'<=k
 | .una k' _=>k'<=k
 | .spent=>True
theorem xH.mono{k k':Nat}(h:k<=k'):∀ {r:Res},xH k r->xH k' r
 | .ok _ _ _,z=>JR z h
 | .una _ _,z=>JR z h
 | .spent,_=>trivial
def zF(R:Dt):Prop:=∀w pl n k sd,xH k (R w pl n k sd)
theorem yQ{R:Dt}(h:zF R){y z:Str}{n:Int}{k:Nat}{sd:List Int}:xH k (Nk R y z n k sd):=by
 have h1:=h y 0 n k sd
 unfold Nk
 cases e:R y 0 n k sd with
 | ok a b c=>rw[e] at h1;exact h1
 | una k' s'=>rw[e] at h1;exact(h z 0 n k' sd).mono h1
 | spent=>trivial
theorem cZ{R:Dt}(h:zF R){w:Str}{ix:Nat}{n:Int}{k:Nat}{sd:List Int}:∀s,xH k (stepS R w ix n k sd s)
 | .sm _=>IP _
 | .onw=>h _ _ _ _ _
 | .ask _=>h _ _ _ _ _
 | .tri _ _=>yQ h
theorem Vt{R:Dt}(h:zF R){w:Str}{ix:Nat}:∀ {ss:List Eg} {n:Int} {k:Nat} {sd:List Int},xH k (Dw R w ix ss n k sd)
 | [],_,_,_=>IP _
 | s::ss,n,k,sd=>by
  have h1:=cZ h (w:=w) (ix:=ix) (n:=n) (k:=k) (sd:=sd) s
  unfold Dw
  cases e:stepS R w ix n k sd s with
  | ok a k' c=>rw[e] at h1;exact(Vt h).mono h1
  | una k' c=>rw[e] at h1;exact h1
  | spent=>trivial
theorem Gs(B:Dg)(rs:List Str)(m:Nat)(w:Str)(pl:Nat)(n:Int)(k:Nat)(sd:List Int):Ek B rs (m+1) w pl n k sd=match findF B w pl (rs.drop pl) with
 | none=>.una k sd
 | some (ix,body)=>inS (Ek B rs m) w n k sd ix body:=rfl
theorem cP(B:Dg)(rs:List Str):∀m,zF (Ek B rs m)
 | 0=>λ_ _ _ _ _=>trivial
 | m+1=>λw pl n k sd=>by
  rw[Gs]
  cases findF B w pl (rs.drop pl) with
  | none=>exact IP _
  | some p=>
   obtain⟨ix,body⟩:=p
   cases k with
   | zero=>trivial
   | succ k=>exact(Vt (cP B rs m)).mono (OU k)
def Agree(k:Nat)(R R':Dt):Prop:=∀w pl n j sd,j<=k->R w pl n j sd=R' w pl n j sd
theorem Agree.le{k k':Nat}{R R':Dt}(h:Agree k R R')(hk:k'<=k):Agree k' R R':=λw pl n j sd hj=>h w pl n j sd (JR hj hk)
theorem xB{R R':Dt}{k:Nat}(h:Agree k R R')(hl:zF R){y z:Str}{n:Int}{sd:List Int}:Nk R y z n k sd=Nk R' y z n k sd:=by
 unfold Nk
 rw[<- h y 0 n k sd (IP _)]
 have h1:=hl y 0 n k sd
 cases e:R y 0 n k sd with
 | ok a b c=>rfl
 | una k' s'=>rw[e] at h1;exact h z 0 n k' sd h1
 | spent=>rfl
theorem sZ{R R':Dt}{k:Nat}(h:Agree k R R')(hl:zF R){w:Str}{ix:Nat}{n:Int}{sd:List Int}:∀s,stepS R w ix n k sd s=stepS R' w ix n k sd s
 | .sm _=>rfl
 | .onw=>h _ _ _ _ _ (IP _)
 | .ask _=>h _ _ _ _ _ (IP _)
 | .tri _ _=>xB h hl
theorem Pj{R R':Dt}(hl:zF R){w:Str}{ix:Nat}:∀ {ss:List Eg} {n:Int} {k:Nat} {sd:List Int},Agree k R R'->Dw R w ix ss n k sd=Dw R' w ix ss n k sd
 | [],_,_,_,_=>rfl
 | s::ss,n,k,sd,h=>by
  unfold Dw
  rw[<- sZ h hl s]
  have h1:=cZ hl (w:=w) (ix:=ix) (n:=n) (k:=k) (sd:=sd) s
  cases e:stepS R w ix n k sd s with
  | ok a k' c=>rw[e] at h1;exact Pj hl (h.le h1)
  | una k' c=>rfl
  | spent=>rfl
theorem nQ(B:Dg)(rs:List Str):∀(k m m':Nat),k < m->k < m'->Agree k (Ek B rs m) (Ek B rs m')
 | k,0,_,h,_=>absurd h (Nat.not_lt_zero _)
 | k,_,0,_,h=>absurd h (Nat.not_lt_zero _)
 | k,m+1,m'+1,h,h'=>λw pl n j sd hj=>by
  rw[Gs,Gs]
  cases findF B w pl (rs.drop pl) with
  | none=>rfl
  | some p=>
   obtain⟨ix,body⟩:=p
   cases j with
   | zero=>rfl
   | succ j=>exact Pj (cP B rs m) (nQ B rs j m m' (by omega) (by omega))
termination_by k m m'=>m
def rS(B:Dg)(rs:List Str):Dt:=λw pl n k sd=>Ek B rs (k+1) w pl n k sd
theorem pG(B:Dg)(rs:List Str){m k:Nat}{w:Str}{pl:Nat}{n:Int}{sd:List Int}(h:k < m):Ek B rs m w pl n k sd=rS B rs w pl n k sd:=nQ B rs k m (k+1) h (QJ k) w pl n k sd (IP _)
theorem uX{B:Dg}{rs:List Str}{w:Str}{pl:Nat}(h:findF B w pl (rs.drop pl)=none)(n:Int)(k:Nat)(sd:List Int):rS B rs w pl n k sd=.una k sd:=by
 show Ek B rs (k+1) w pl n k sd=_
 rw[Gs,h]
theorem rN{B:Dg}{rs:List Str}{w:Str}{pl ix:Nat}{body:List Eg}(h:findF B w pl (rs.drop pl)=some (ix,body))(n:Int)(sd:List Int):rS B rs w pl n 0 sd=.spent:=by
 show Ek B rs 1 w pl n 0 sd=_
 rw[Gs,h]
 rfl
theorem vR{B:Dg}{rs:List Str}{w:Str}{pl ix:Nat}{body:List Eg}(h:findF B w pl (rs.drop pl)=some (ix,body))(n:Int)(k:Nat)(sd:List Int):rS B rs w pl n (k+1) sd=Dw (rS B rs) w ix body n k sd:=by
 show Ek B rs (k+2) w pl n (k+1) sd=_
 rw[Gs,h]
 show Dw (Ek B rs (k+1)) w ix body n k sd=_
 exact Pj (cP B rs _) λw pl n j sd hj=>pG B rs (by omega)
inductive Tk where
 | en (w:Str) (pl:Nat)
 | do_ (s:Eg) (w:Str) (ix:Nat)
 | back (n:Int) (sd:List Int) (o:Str)
inductive Ou where
 | said (sd:List Int) | una | spent
mutual
def Hh(R:Dt):List Tk->Int->Nat->List Int->Ou
 | [],_,_,sd=>.said sd
 | .en w pl::t,n,k,sd=>match R w pl n k sd with
  | .ok n' k' sd'=>Hh R t n' k' sd'
  | .una k' _=>unw R t k'
  | .spent=>.spent
 | .do_ s w ix::t,n,k,sd=>match stepS R w ix n k sd s with
  | .ok n' k' sd'=>Hh R t n' k' sd'
  | .una k' _=>unw R t k'
  | .spent=>.spent
 | .back _ _ _::t,n,k,sd=>Hh R t n k sd
def unw(R:Dt):List Tk->Nat->Ou
 | [],_=>.una
 | .en _ _::t,k=>unw R t k
 | .do_ _ _ _::t,k=>unw R t k
 | .back n sd o::t,k=>match R o 0 n k sd with
  | .ok n' k' sd'=>Hh R t n' k' sd'
  | .una k' _=>unw R t k'
  | .spent=>.spent
end
def fin(R:Dt)(t:List Tk):Res->Ou
 | .ok n k sd=>Hh R t n k sd
 | .una k _=>unw R t k
 | .spent=>.spent
theorem Im(R:Dt)(w:Str)(pl:Nat)(t:List Tk)(n:Int)(k:Nat)(sd:List Int):Hh R (.en w pl::t) n k sd=fin R t (R w pl n k sd):=by
 rw[Hh]
 cases R w pl n k sd<;>rfl
theorem Ov(R:Dt)(s:Eg)(w:Str)(ix:Nat)(t:List Tk)(n:Int)(k:Nat)(sd:List Int):Hh R (.do_ s w ix::t) n k sd=fin R t (stepS R w ix n k sd s):=by
 rw[Hh]
 cases stepS R w ix n k sd s<;>rfl
theorem Vp(R:Dt)(m:Int)(s:List Int)(o:Str)(t:List Tk)(n:Int)(k:Nat)(sd:List Int):Hh R (.back m s o::t) n k sd=Hh R t n k sd:=by rw[Hh]
theorem yD(R:Dt)(w:Str)(pl:Nat)(t:List Tk)(k:Nat):unw R (.en w pl::t) k=unw R t k:=by rw[unw]
theorem jW(R:Dt)(s:Eg)(w:Str)(ix:Nat)(t:List Tk)(k:Nat):unw R (.do_ s w ix::t) k=unw R t k:=by rw[unw]
theorem Vn(R:Dt)(m:Int)(s:List Int)(o:Str)(t:List Tk)(k:Nat):unw R (.back m s o::t) k=Hh R (.en o 0::t) m k s:=by
 rw[Im,unw]
 cases R o 0 m k s<;>rfl
theorem eR(R:Dt)(w:Str)(ix:Nat)(t:List Tk)(k:Nat):∀r:List Eg,unw R (r.map (λs=>Tk.do_ s w ix)++t) k=unw R t k
 | []=>rfl
 | s::r=>by
  show unw R (.do_ s w ix::(r.map (λs=>Tk.do_ s w ix)++t)) k=_
  rw[jW,eR R w ix t k r]
theorem eB(R:Dt)(w:Str)(ix:Nat)(t:List Tk):∀(r:List Eg)(n:Int)(k:Nat)(sd:List Int),Hh R (r.map (λs=>Tk.do_ s w ix)++t) n k sd=fin R t (Dw R w ix r n k sd)
 | [],_,_,_=>rfl
 | s::r,n,k,sd=>by
  show Hh R (.do_ s w ix::(r.map (λs=>Tk.do_ s w ix)++t)) n k sd=_
  rw[Ov]
  unfold Dw
  cases e:stepS R w ix n k sd s with
  | ok n' k' sd'=>exact eB R w ix t r n' k' sd'
  | una k' sd'=>exact eR R w ix t k' r
  | spent=>rfl
section
variable {B:Dg} {rs:List Str} {w:Str} {pl ix:Nat} {body:List Eg} {t:List Tk} {n:Int} {k:Nat} {sd:List Int}
theorem rW(h:findF B w pl (rs.drop pl)=none):Hh (rS B rs) (.en w pl::t) n k sd=unw (rS B rs) t k:=by
 rw[Im,uX h]
 rfl
theorem vQ(h:findF B w pl (rs.drop pl)=some (ix,body)):Hh (rS B rs) (.en w pl::t) n 0 sd=.spent:=by
 rw[Im,rN h]
 rfl
theorem vL(h:findF B w pl (rs.drop pl)=some (ix,body)):Hh (rS B rs) (.en w pl::t) n (k+1) sd=Hh (rS B rs) (body.map (λs=>Tk.do_ s w ix)++t) n k sd:=by
 rw[Im,vR h,eB]
end
theorem xR(R:Dt)(s:Sm)(w:Str)(ix:Nat)(t:List Tk)(n:Int)(k:Nat)(sd:List Int):Hh R (.do_ (.sm s) w ix::t) n k sd=Hh R t (s.nx n) k (sd++s.out n):=by
 rw[Ov]
 rfl
theorem uV(R:Dt)(w:Str)(ix:Nat)(t:List Tk)(n:Int)(k:Nat)(sd:List Int):Hh R (.do_ .onw w ix::t) n k sd=Hh R (.en w (ix+1)::t) n k sd:=by
 rw[Ov,Im]
 rfl
theorem sX(R:Dt)(y w:Str)(ix:Nat)(t:List Tk)(n:Int)(k:Nat)(sd:List Int):Hh R (.do_ (.ask y) w ix::t) n k sd=Hh R (.en y 0::t) n k sd:=by
 rw[Ov,Im]
 rfl
theorem tS(R:Dt)(y z w:Str)(ix:Nat)(t:List Tk)(n:Int)(k:Nat)(sd:List Int):Hh R (.do_ (.tri y z) w ix::t) n k sd=Hh R (.en y 0 :: .back n sd z::t) n k sd:=by
 rw[Ov,Im]
 show fin R t (Nk R y z n k sd)=_
 unfold Nk
 cases e:R y 0 n k sd with
 | ok a b c=>
  show Hh R t a b c=Hh R (.back n sd z::t) a b c
  rw[Vp]
 | una k' s'=>
  show fin R t (R z 0 n k' sd)=unw R (.back n sd z::t) k'
  rw[Vn,Im]
 | spent=>rfl
def DS:Eg->Nat
 | .sm _=>1
 | .onw=>2
 | .ask _=>2
 | .tri _ _=>4
theorem yU:∀s,DS s<=4
 | .sm _=>(by decide:1<=4)
 | .onw=>(by decide:2<=4)
 | .ask _=>(by decide:2<=4)
 | .tri _ _=>IP 4
theorem rL:∀s,1<=DS s
 | .sm _=>IP 1
 | .onw=>(by decide:1<=2)
 | .ask _=>(by decide:1<=2)
 | .tri _ _=>(by decide:1<=4)
def DO:Tk->Nat
 | .en _ _=>1
 | .do_ s _ _=>DS s
 | .back _ _ _=>2
def wt(t:List Tk):Nat:=(t.map DO).sum
theorem Ju(i:Tk)(t:List Tk):wt (i::t)=DO i+wt t:=rfl
theorem oB(a b:List Tk):wt (a++b)=wt a+wt b:=by
 unfold wt
 rw[JE,QQ]
theorem qA(w:Str)(ix:Nat):∀r:List Eg,wt (r.map λs=>Tk.do_ s w ix)<=4 * r.length
 | []=>IP _
 | s::r=>by
  have h:=qA w ix r
  have h1:=yU s
  show DS s+wt (r.map λs=>Tk.do_ s w ix)<=4 * (r.length+1)
  omega
theorem Uy:∀t:List Tk,t.length<=wt t
 | []=>IP _
 | i::t=>by
  have h:=Uy t
  have h1:1<=DO i:=by
   cases i with
   | en w pl=>exact IP 1
   | do_ s w ix=>exact rL s
   | back n sd o=>exact(by decide:1<=2)
  show t.length+1<=DO i+wt t
  omega
def HJ:Tk->Nat
 | .do_ _ _ _=>101
 | _=>0
def bt(t:List Tk):Nat:=(t.map HJ).sum
theorem Kf(i:Tk)(t:List Tk):bt (i::t)=HJ i+bt t:=rfl
theorem lV(a b:List Tk):bt (a++b)=bt a+bt b:=by
 unfold bt
 rw[JE,QQ]
theorem oX(w:Str)(ix:Nat):∀r:List Eg,bt (r.map λs=>Tk.do_ s w ix)=101 * r.length
 | []=>rfl
 | s::r=>by
  have h:=oX w ix r
  show 101+bt (r.map λs=>Tk.do_ s w ix)=101 * (r.length+1)
  omega
structure Bd(b:Nat)(n:Int)(sd:List Int):Prop where
 ab:Ab b n
 len:100 * sd.length<=b
theorem Bd.mono{b b':Nat}{n:Int}{sd:List Int}(h:Bd b n sd)(hb:b<=b'):Bd b' n sd:=⟨h.ab.mono hb,JR h.len hb⟩
theorem Bd.step{b:Nat}{n:Int}{sd:List Int}(h:Bd b n sd)(hb:100<=b){s:Sm}(hs:AG s):Bd (b+101) (s.nx n) (sd++s.out n):=⟨Sm.nx_ab hs h.ab hb,by
 have:=gH s n
 have:=h.len
 rw[IV]
 omega⟩
theorem yT(a n:Int):(Sm.op "put" a).nx n=a:=by
 show (if ("put" : Str) = "part" then n.fdiv a else My "put" a n)=_
 rw[if_neg (by decide +kernel)]
 unfold My
 rw[if_pos rfl]
theorem tJ(a n:Int):(Sm.op "plus" a).nx n=n+a:=by
 show (if ("plus" : Str) = "part" then n.fdiv a else My "plus" a n)=_
 rw[if_neg (by decide +kernel)]
 unfold My
 rw[if_neg (by decide +kernel),if_pos rfl]
theorem pD(a n:Int):(Sm.op "times" a).nx n=n * a:=by
 show (if ("times" : Str) = "part" then n.fdiv a else My "times" a n)=_
 rw[if_neg (by decide +kernel)]
 unfold My
 rw[if_neg (by decide +kernel),if_neg (by decide +kernel),if_pos rfl]
theorem vM(a n:Int):(Sm.op "over" a).nx n=n.fdiv a:=by
 show (if ("over" : Str) = "part" then n.fdiv a else My "over" a n)=_
 rw[if_neg (by decide +kernel)]
 unfold My
 rw[if_neg (by decide +kernel),if_neg (by decide +kernel),if_neg (by decide +kernel),if_pos rfl]
theorem uD(a n:Int):(Sm.op "both" a).nx n=Builtin.bitAnd n a:=by
 show (if ("both" : Str) = "part" then n.fdiv a else My "both" a n)=_
 rw[if_neg (by decide +kernel)]
 unfold My
 rw[if_neg (by decide +kernel),if_neg (by decide +kernel),if_neg (by decide +kernel),if_neg (by decide +kernel),if_pos rfl]
theorem xP(a n:Int):(Sm.op "any" a).nx n=Builtin.bitOr n a:=by
 show (if ("any" : Str) = "part" then n.fdiv a else My "any" a n)=_
 rw[if_neg (by decide +kernel)]
 unfold My
 rw[if_neg (by decide +kernel),if_neg (by decide +kernel),if_neg (by decide +kernel),if_neg (by decide +kernel),if_neg (by decide +kernel),if_pos rfl]
theorem wY(a n:Int):(Sm.op "odd" a).nx n=Builtin.bitXor n a:=by
 show (if ("odd" : Str) = "part" then n.fdiv a else My "odd" a n)=_
 rw[if_neg (by decide +kernel)]
 unfold My
 rw[if_neg (by decide +kernel),if_neg (by decide +kernel),if_neg (by decide +kernel),if_neg (by decide +kernel),if_neg (by decide +kernel),if_neg (by decide +kernel),if_pos rfl]
theorem DK(a n:Int):(Sm.op "up" a).nx n=n * 2 ^ a.toNat:=by
 show (if ("up" : Str) = "part" then n.fdiv a else My "up" a n)=_
 rw[if_neg (by decide +kernel)]
 unfold My
 rw[if_neg (by decide +kernel),if_neg (by decide +kernel),if_neg (by decide +kernel),if_neg (by decide +kernel),if_neg (by decide +kernel),if_neg (by decide +kernel),if_neg (by decide +kernel),if_pos rfl]
theorem rR(a n:Int):(Sm.op "down" a).nx n=n / 2 ^ a.toNat:=by
 show (if ("down" : Str) = "part" then n.fdiv a else My "down" a n)=_
 rw[if_neg (by decide +kernel)]
 unfold My
 rw[if_neg (by decide +kernel),if_neg (by decide +kernel),if_neg (by decide +kernel),if_neg (by decide +kernel),if_neg (by decide +kernel),if_neg (by decide +kernel),if_neg (by decide +kernel),if_neg (by decide +kernel)]
theorem oH(a n:Int):(Sm.op "part" a).out n=[n.fmod a]:=by
 show (if ("part" : Str) = "part" then [n.fmod a] else [])=_
 rw[if_pos rfl]
theorem tE(a n:Int):(Sm.op "part" a).nx n=n.fdiv a:=by
 show (if ("part" : Str) = "part" then n.fdiv a else My "part" a n)=_
 rw[if_pos rfl]
def Yl(H:Hp)(v:V):Tk->Prop
 | .en w pl=>∃a,v=.ref a/\H a=some (.tup [.str "enter", .str w,.int (pl:Int)])
 | .do_ s w ix=>∃a b,v=.ref a/\H a=some (.tup [.str "do", .ref b,.str w,.int (ix:Int)])/\H b=some (.tup (.str s.pr.1::s.pr.2))/\jM s
 | .back n sd o=>∃a l,v=.ref a/\H a=some (.tup [.str "back", .int n,.ref l,.str o])/\H l=some (.lst (Ig sd))
theorem Yl.same{H H':Hp}(s:Am H H'){v:V}:∀ {i:Tk},Yl H v i->Yl H' v i
 | .en _ _,⟨a,e,h⟩=>⟨a,e,s _ _ h⟩
 | .do_ _ _ _,⟨a,b,e,h,h2,h3⟩=>⟨a,b,e,s _ _ h,s _ _ h2,h3⟩
 | .back _ _ _,⟨a,l,e,h,h2⟩=>⟨a,l,e,s _ _ h,s _ _ h2⟩
theorem Ji{H H':Hp}(s:Am H H'){vs:List V}{st:List Tk}(h:PF (Yl H) vs st):PF (Yl H') vs st:=Paired.mapP h λ_ _ z=>z.same s
def yV:Tk->Str
 | .en _ _ => "enter"
 | .do_ _ _ _ => "do"
 | .back _ _ _ => "back"
theorem Yl.tup{H:Hp}{v:V}:∀ {i:Tk},Yl H v i->∃a r,v=.ref a/\H a=some (.tup (.str (yV i)::r))
 | .en _ _,⟨a,e,h⟩=>⟨a,_,e,h⟩
 | .do_ _ _ _,⟨a,_,e,h,_⟩=>⟨a,_,e,h⟩
 | .back _ _ _,⟨a,_,e,h,_⟩=>⟨a,_,e,h⟩
def mask1(H:Hp)(l:IN):Hp:=λb=>if b=l then none else H b
theorem Cf{H:Hp}{l b:IN}{o:HO}(e:H b=some o)(h:b≠l):mask1 H l b=some o:=by
 unfold mask1
 rw[if_neg h]
 exact e
theorem Iz(H:Hp)(l:IN):mask1 H l l=none:=by
 unfold mask1
 rw[if_pos rfl]
theorem Hz{H:Hp}{l:IN}:Am (mask1 H l) H:=λb o e=>by
 unfold mask1 at e
 split at e
 ·cases e
 ·exact e
theorem Am.mask1{M H:Hp}{l:IN}(s:Am M H)(h:M l=none):Am M (mask1 H l):=λb o e=>Cf (s _ _ e) (Ah e h)
def pushS(w:Str)(ix:Nat)(n:Int)(sd:List Int):Eg->List Tk
 | .sm _=>[]
 | .onw=>[.en w (ix+1)]
 | .ask y=>[.en y 0]
 | .tri y z=>[.en y 0,.back n sd z]
def EZ(n:Int):Eg->Int
 | .sm s=>s.nx n
 | _=>n
def FW(n:Int)(sd:List Int):Eg->List Int
 | .sm s=>sd++s.out n
 | _=>sd
theorem qH(R:Dt)(w:Str)(ix:Nat)(t:List Tk)(n:Int)(k:Nat)(sd:List Int):∀s,Hh R (.do_ s w ix::t) n k sd=Hh R (pushS w ix n sd s++t) (EZ n s) k (FW n sd s)
 | .sm s=>xR R s w ix t n k sd
 | .onw=>uV R w ix t n k sd
 | .ask y=>sX R y w ix t n k sd
 | .tri y z=>tS R y z w ix t n k sd
def cF:Sp:=λvs H Q _=>∃(t:IN)(n a:Int)(kd:Str)(b:Nat),vs=[.ref t,.int n]/\H t=some (.tup [.str kd,.int a])/\gJ kd a/\kd ≠ "part" /\ Ab b n/\b<=900000/\Q (.int ((Sm.op kd a).nx n)) H
def aX:Sp:=λvs H Q _=>∃(t sl l:IN)(s:Eg)(w:Str)(ix:Nat)(n:Int)(sd:List Int)(xs:List V)(b:Nat),vs=[.ref t,.str w,.int (ix:Int),.int n,.ref sl,.ref l]/\H t=some (.tup (.str s.pr.1::s.pr.2))/\jM s/\H sl=some (.lst (Ig sd))/\H l=some (.lst xs)/\Ab b n/\b<=900000/\sd.length<=50000/\xs.length<=50000/\sl≠l /\
 ∀(r sl' l':IN)(vs':List V)(H':Hp),Am H H'->H' sl'=some (.lst (Ig (FW n sd s)))->H' r=some (.tup [.int (EZ n s),.ref sl',.ref l'])->(l'=l/\vs'=[]∨H l'=none/\H' l'=some (.lst (xs++vs'.reverse)))->sl'≠l'->PF (Yl (mask1 H' l')) vs' (pushS w ix n sd s)->Q (.ref r) H'
section
variable {P:JJ} {w:KL} {K:IG} {mg:Str->Option II} {base:LO} {f fB:IN} {fd dB:JW}
theorem yY:Ap ["_law_step","_law_number"] ["_law_step","_law_number"] (Ae Qe):=Fv (by decide +kernel)
theorem at0(x:V)(xs:List V):Hx (x::xs) 0=some x:=Ba (j:=0) rfl
theorem at1(x y:V)(xs:List V):Hx (x::y::xs) 1=some y:=Ba (j:=1) rfl
theorem at2(x y z:V)(xs:List V):Hx (x::y::z::xs) 2=some z:=Ba (j:=2) rfl
theorem HC(x y z u:V)(xs:List V):Hx (x::y::z::u::xs) 3=some u:=Ba (j:=3) rfl
theorem uI(F:Dp K "_law_behind" "_law_behind" Qe f fd):Aj P w K mg base Bh 1 f fd ["_law_step","_law_number"] cF:=by
 refine F.ok yY (λvs H Q E h=>?_) (λcdv A outer s H vs Q E hr h=>?_)
 ·obtain⟨t,n,a,kd,b,rfl,_⟩:=h
  rfl
 obtain⟨t,n,a,kd,b,rfl,ht,ok,hk,hn,hb,q⟩:=h
 refine⟨_,Ac (Ax (Ao Bp (Aq Au (pv 0) Ad (λ_ _=>rfl)) Ar (As _)) (Ag (An (Aq Au (pv 0) Ad (λ_ _=>rfl)))) Al)
  (Ac (Ax (Ao Bp (Aq Au (pv 0) Ad (λ_ _=>rfl)) Ar (As _)) (Ag (An (Ak Bv (pv 1) (Aq Au (pv 0) Ad (λ_ _=>rfl))))) Al)
  (Ac (Ax (Ao Bp (Aq Au (pv 0) Ad (λ_ _=>rfl)) Ar (As _)) (Ag (An (Ak gD (pv 1) (Aq Au (pv 0) Ad (λ_ _=>rfl))))) Al)
  (Ac (Ax (Ao Bp (Aq Au (pv 0) Ad (λ_ _=>rfl)) Ar (As _)) (Ag (An (Ak jY (pv 1) (Aq Au (pv 0) Ad (λ_ _=>rfl))))) Al)
  (Ac (Ax (Ao Bp (Aq Au (pv 0) Ad (λ_ _=>rfl)) Ar (As _)) (Ag (An (Ak wI (pv 1) (Aq Au (pv 0) Ad (λ_ _=>rfl))))) Al)
  (Ac (Ax (Ao Bp (Aq Au (pv 0) Ad (λ_ _=>rfl)) Ar (As _)) (Ag (An (Ak lH (pv 1) (Aq Au (pv 0) Ad (λ_ _=>rfl))))) Al)
  (Ac (Ax (Ao Bp (Aq Au (pv 0) Ad (λ_ _=>rfl)) Ar (As _)) (Ag (An (Ak Lx (pv 1) (Aq Au (pv 0) Ad (λ_ _=>rfl))))) Al)
  (Ac (Ax (Ao Bp (Aq Au (pv 0) Ad (λ_ _=>rfl)) Ar (As _)) (Ag (An (Ak eG (pv 1) (Aq Au (pv 0) Ad (λ_ _=>rfl))))) Al)
  (Ag (An (Ak oP (pv 1) (Aq Au (pv 0) Ad (λ_ _=>rfl)))))))))))),?_⟩
 refine⟨_,rfl,t,_,_,_,rfl,rfl,Cc.of ht,at0 _ _,rfl,_,rfl,Br (λc=>?_) (λc1=>?_)⟩
 ·obtain rfl:=Cb c
  rw[yT] at q
  exact⟨_,rfl,t,_,_,_,rfl,rfl,Cc.of ht,at1 _ _ _,q⟩
 refine⟨_,rfl,t,_,_,_,rfl,rfl,Cc.of ht,at0 _ _,rfl,_,rfl,Br (λc=>?_) (λc2=>?_)⟩
 ·obtain rfl:=Cb c
  rw[tJ] at q
  exact⟨_,rfl,_,rfl,t,_,_,_,rfl,rfl,Cc.of ht,at1 _ _ _,_,_,rfl,rfl,q⟩
 refine⟨_,rfl,t,_,_,_,rfl,rfl,Cc.of ht,at0 _ _,rfl,_,rfl,Br (λc=>?_) (λc3=>?_)⟩
 ·obtain rfl:=Cb c
  rw[pD] at q
  exact⟨_,rfl,_,rfl,t,_,_,_,rfl,rfl,Cc.of ht,at1 _ _ _,_,_,rfl,rfl,⟨max b 100,hn.mono (Nat.le_max_left _ _),ok.ab.mono (Nat.le_max_right _ _),by omega⟩,q⟩
 refine⟨_,rfl,t,_,_,_,rfl,rfl,Cc.of ht,at0 _ _,rfl,_,rfl,Br (λc=>?_) (λc4=>?_)⟩
 ·obtain rfl:=Cb c
  rw[uD] at q
  exact⟨_,rfl,_,rfl,t,_,_,_,rfl,rfl,Cc.of ht,at1 _ _ _,_,_,rfl,rfl,q⟩
 refine⟨_,rfl,t,_,_,_,rfl,rfl,Cc.of ht,at0 _ _,rfl,_,rfl,Br (λc=>?_) (λc5=>?_)⟩
 ·obtain rfl:=Cb c
  rw[xP] at q
  exact⟨_,rfl,_,rfl,t,_,_,_,rfl,rfl,Cc.of ht,at1 _ _ _,_,_,rfl,rfl,q⟩
 refine⟨_,rfl,t,_,_,_,rfl,rfl,Cc.of ht,at0 _ _,rfl,_,rfl,Br (λc=>?_) (λc6=>?_)⟩
 ·obtain rfl:=Cb c
  rw[wY] at q
  exact⟨_,rfl,_,rfl,t,_,_,_,rfl,rfl,Cc.of ht,at1 _ _ _,_,_,rfl,rfl,q⟩
 refine⟨_,rfl,t,_,_,_,rfl,rfl,Cc.of ht,at0 _ _,rfl,_,rfl,Br (λc=>?_) (λc7=>?_)⟩
 ·obtain rfl:=Cb c
  rw[vM] at q
  exact⟨_,rfl,_,rfl,t,_,_,_,rfl,rfl,Cc.of ht,at1 _ _ _,_,_,rfl,rfl,⟨ok.dv (.inl rfl),ok.ab.mono (by decide)⟩,q⟩
 refine⟨_,rfl,t,_,_,_,rfl,rfl,Cc.of ht,at0 _ _,rfl,_,rfl,Br (λc=>?_) (λc8=>?_)⟩
 ·obtain rfl:=Cb c
  rw[DK] at q
  have z:=ok.sh (.inl rfl)
  exact⟨_,rfl,_,rfl,t,_,_,_,rfl,rfl,Cc.of ht,at1 _ _ _,_,_,rfl,rfl,⟨z.1,by omega,hn.mono (by omega)⟩,q⟩
 have hd:kd = "down" := by
  have m:=ok.mem
  unfold Kz at m
  simp only[IQ,JG,or_false] at m
  rcases m with h | h | h | h | h | h | h | h | h | h
  ·exact absurd h (Ct c1)
  ·exact absurd h (Ct c2)
  ·exact absurd h (Ct c3)
  ·exact absurd h (Ct c7)
  ·exact absurd h (Ct c4)
  ·exact absurd h (Ct c5)
  ·exact absurd h (Ct c6)
  ·exact absurd h (Ct c8)
  ·exact h
  ·exact absurd h hk
 subst hd
 rw[rR] at q
 exact⟨_,rfl,_,rfl,t,_,_,_,rfl,rfl,Cc.of ht,at1 _ _ _,_,_,rfl,rfl,(ok.sh (.inr rfl)).1,q⟩
end
section
variable {P:JJ} {w:KL} {K:IG} {mg:Str->Option II} {base:LO} {f fB:IN} {fd dB:JW}
theorem xU:Ap ["_law_step","_law_word","_law_at","_law_number","_law_said","_law_todo"] ["_law_step","_law_word","_law_at","_law_number","_law_said","_law_todo"] (Ae pA):=Fv (by decide +kernel)
theorem BH{s:Eg}(ok:jM s):(s=.onw∨(∃y,s=.ask y)∨(∃y z,s=.tri y z)∨s=.sm .say) ∨ ∃kd a,s=.sm (.op kd a)/\gJ kd a:=by
 cases s with
 | sm s=>
  cases s with
  | say=>exact .inl (.inr (.inr (.inr rfl)))
  | op kd a=>exact .inr ⟨kd,a,rfl,ok⟩
 | onw=>exact .inl (.inl rfl)
 | ask y=>exact .inl (.inr (.inl ⟨y,rfl⟩))
 | tri y z=>exact .inl (.inr (.inr (.inl ⟨y,z,rfl⟩)))
theorem Hk{x y:Str}{A B:Prop}(hn:¬ x=y)(hB:B):if decide (V.str x=V.str y)=true then A else B:=by
 rw[if_neg (λh=>hn (V.str.inj (of_decide_eq_true h)))]
 exact hB
theorem Rz{x:Str}{A B:Prop}(hA:A):if decide (V.str x=V.str x)=true then A else B:=by
 rw[if_pos (decide_eq_true rfl)]
 exact hA
theorem gJ.ne{kd:Str}{a:Int}(h:gJ kd a){x:Str}(hx:x∉Kz):¬ kd=x:=λz=>hx (z ▸ h.mem)
theorem lR{kd:Str}{a n:Int}(h:¬ kd = "part"):(Sm.op kd a).out n=[]:=by
 show (if kd = "part" then [n.fmod a] else [])=[]
 rw[if_neg h]
theorem sW(F:Dp K "_law_done" "_law_done" pA f fd)(GB:Aj P w K mg base Bh 1 fB dB ["_law_step","_law_number"] cF)(kB:IR K (.ref fB)=true)(bB:Binds K dB ["_law_step","_law_number"] [])(mB:mg "_law_behind" = some (.ref fB)):
 Aj P w K mg base Bh 2 f fd ["_law_step","_law_word","_law_at","_law_number","_law_said","_law_todo"] aX:=by
 refine F.ok xU (λvs H Q E h=>?_) (λcdv A outer s H vs Q E hr h=>?_)
 ·obtain⟨t,sl,l,s,w,ix,n,sd,xs,b,rfl,_⟩:=h
  rfl
 obtain⟨t,sl,l,s,w,ix,n,sd,xs,b,rfl,ht,ok,hsl,hl,hn,hb,hsd,hxs,hne,g⟩:=h
 refine⟨_,Ac (Ax (Ao Bp (Aq Au (pv 0) Ad (λ_ _=>rfl)) Ar (As _)) (Ag (An (Bb (Ge (pv 3) (Ak Fa (pv 4) (Bt (Dc (pv 3)))) (pv 5))))) Al)
  (Ac (Ax (Ao Bp (Aq Au (pv 0) Ad (λ_ _=>rfl)) Ar (As _)) (Ag (An (Bb (Ge (pv 3) (pv 4) (Ak Fa (pv 5) (Bt (Dc (Bb (Ge Ar (pv 1) (Ak Bv (pv 2) Ad)))))))))) Al)
  (Ac (Ax (Ao Bp (Aq Au (pv 0) Ad (λ_ _=>rfl)) Ar (As _)) (Ag (An (Bb (Ge (pv 3) (pv 4) (Ak Fa (pv 5) (Bt (Dc (Bb (Ge Ar (Aq Au (pv 0) Ad (λ_ _=>rfl)) Ad))))))))) Al)
  (Ac (Ax (Ao Bp (Aq Au (pv 0) Ad (λ_ _=>rfl)) Ar (As _)) (Ag (An (Bb (Ge (pv 3) (pv 4) (Ak Fa (pv 5) (Bt (Ea (Bb (Qz Ar (pv 3) (pv 4) (Aq Au (pv 0) Ad (λ_ _=>rfl)))) (Bb (Ge Ar (Aq Au (pv 0) Ad (λ_ _=>rfl)) Ad))))))))) Al)
  (Ac (Ax (Ao Bp (Aq Au (pv 0) Ad (λ_ _=>rfl)) Ar (As _)) (Ag (An (Bb (Ge (Ak Lx (pv 3) (Aq Au (pv 0) Ad (λ_ _=>rfl))) (Ak Fa (pv 4) (Bt (Dc (Ak eF (pv 3) (Aq Au (pv 0) Ad (λ_ _=>rfl)))))) (pv 5))))) Al)
  (Ag (An (Bb (Ge (Ck GB hr mB kB bB (Ea (pv 0) (pv 3))) (pv 4) (pv 5))))))))),?_⟩
 have z3:3<=IK:=by rw[JB];decide
 have z1:1<=IK:=by rw[JB];decide
 rcases BH ok with (rfl | ⟨y,rfl⟩ | ⟨y,z,rfl⟩ | rfl) | ⟨kd,a,rfl,oa⟩
 ·-- onwards
  refine⟨_,rfl,t,_,_,_,rfl,rfl,Cc.of ht,at0 _ _,rfl,_,rfl,Hk (show ¬ ("onwards" : Str) = "say" by decide +kernel) ?_⟩
  refine⟨_,rfl,t,_,_,_,rfl,rfl,Cc.of ht,at0 _ _,rfl,_,rfl,Rz ?_⟩
  refine⟨_,rfl,_,rfl,_,rfl,_,rfl,_,rfl,_,_,rfl,rfl,by show 3<=IK;exact z3,λa1 h1=>⟨by show 1<=IK;exact z1,λl1 h2=>?_⟩⟩
  have s1:=Af h1 (.tup [.str "enter", .str w,.int ((ix:Int)+1)])
  have s2:=Af h2 (.lst [.ref a1])
  refine⟨l,l1,_,_,rfl,rfl,s2 _ _ (s1 _ _ hl),Aa,by rw[JB];show xs.length+1<=_;omega,λl2 h3=>⟨by show 3<=IK;exact z3,λr h4=>?_⟩⟩
  have s3:=Af h3 (.lst (xs++[.ref a1]))
  have s4:=Af h4 (.tup [.int n,.ref sl,.ref l2])
  have s12:=s1.trans s2
  have s34:=s3.trans s4
  have sA:=s12.trans s34
  have e1:=s34 _ _ (s2 _ _ (Aa (H:=H) (a:=a1) (o:=.tup [.str "enter", .str w,.int ((ix:Int)+1)])))
  refine g r sl l2 [.ref a1] _ sA (sA _ _ hsl) Aa (.inr ⟨s12.free h3,s4 _ _ Aa⟩) (Ah hsl (s12.free h3)) (.cons ⟨a1,rfl,Cf (by rw[e1];rfl) ?_⟩ .nil)
  exact λz=>by rw[<- z] at h3;exact absurd (s2 _ _ Aa) (by rw[h3];exact λq=>nomatch q)
 ·-- ask
  refine⟨_,rfl,t,_,_,_,rfl,rfl,Cc.of ht,at0 _ _,rfl,_,rfl,Hk (show ¬ ("ask" : Str) = "say" by decide +kernel) ?_⟩
  refine⟨_,rfl,t,_,_,_,rfl,rfl,Cc.of ht,at0 _ _,rfl,_,rfl,Hk (show ¬ ("ask" : Str) = "onwards" by decide +kernel) ?_⟩
  refine⟨_,rfl,t,_,_,_,rfl,rfl,Cc.of ht,at0 _ _,rfl,_,rfl,Rz ?_⟩
  refine⟨_,rfl,_,rfl,_,rfl,_,rfl,t,_,_,_,rfl,rfl,Cc.of ht,at1 _ _ _,by show 3<=IK;exact z3,λa1 h1=>⟨by show 1<=IK;exact z1,λl1 h2=>?_⟩⟩
  have s1:=Af h1 (.tup [.str "enter", .str y,.int 0])
  have s2:=Af h2 (.lst [.ref a1])
  refine⟨l,l1,_,_,rfl,rfl,s2 _ _ (s1 _ _ hl),Aa,by rw[JB];show xs.length+1<=_;omega,λl2 h3=>⟨by show 3<=IK;exact z3,λr h4=>?_⟩⟩
  have s3:=Af h3 (.lst (xs++[.ref a1]))
  have s4:=Af h4 (.tup [.int n,.ref sl,.ref l2])
  have s12:=s1.trans s2
  have s34:=s3.trans s4
  have sA:=s12.trans s34
  have e1:=s34 _ _ (s2 _ _ (Aa (H:=H) (a:=a1) (o:=.tup [.str "enter", .str y,.int 0])))
  refine g r sl l2 [.ref a1] _ sA (sA _ _ hsl) Aa (.inr ⟨s12.free h3,s4 _ _ Aa⟩) (Ah hsl (s12.free h3)) (.cons ⟨a1,rfl,Cf (by rw[e1];rfl) ?_⟩ .nil)
  exact λz=>by rw[<- z] at h3;exact absurd (s2 _ _ Aa) (by rw[h3];exact λq=>nomatch q)
 ·-- try
  refine⟨_,rfl,t,_,_,_,rfl,rfl,Cc.of ht,at0 _ _,rfl,_,rfl,Hk (show ¬ ("try" : Str) = "say" by decide +kernel) ?_⟩
  refine⟨_,rfl,t,_,_,_,rfl,rfl,Cc.of ht,at0 _ _,rfl,_,rfl,Hk (show ¬ ("try" : Str) = "onwards" by decide +kernel) ?_⟩
  refine⟨_,rfl,t,_,_,_,rfl,rfl,Cc.of ht,at0 _ _,rfl,_,rfl,Hk (show ¬ ("try" : Str) = "ask" by decide +kernel) ?_⟩
  refine⟨_,rfl,t,_,_,_,rfl,rfl,Cc.of ht,at0 _ _,rfl,_,rfl,Rz ?_⟩
  refine⟨_,rfl,_,rfl,_,rfl,_,rfl,_,rfl,_,rfl,t,_,_,_,rfl,rfl,Cc.of ht,at2 _ _ _ _,by rw[JB];show 4<=_;decide,λa0 h0=>?_⟩
  have s0:=Af h0 (.tup [.str "back", .int n,.ref sl,.str z])
  refine⟨_,rfl,t,_,_,_,rfl,rfl,Cc.of (s0 _ _ ht),at1 _ _ _,by show 3<=IK;exact z3,λa1 h1=>⟨by rw[JB];show 2<=_;decide,λl1 h2=>?_⟩⟩
  have s1:=Af h1 (.tup [.str "enter", .str y,.int 0])
  have s2:=Af h2 (.lst [.ref a0,.ref a1])
  have s01:=s0.trans s1
  refine⟨l,l1,_,_,rfl,rfl,s2 _ _ (s01 _ _ hl),Aa,by rw[JB];show xs.length+2<=_;omega,λl2 h3=>⟨by show 3<=IK;exact z3,λr h4=>?_⟩⟩
  have s3:=Af h3 (.lst (xs++[.ref a0,.ref a1]))
  have s4:=Af h4 (.tup [.int n,.ref sl,.ref l2])
  have s12:=s01.trans s2
  have s34:=s3.trans s4
  have sA:=s12.trans s34
  have e0:=s2 _ _ (s1 _ _ (Aa (H:=H) (a:=a0) (o:=.tup [.str "back", .int n,.ref sl,.str z])))
  have e1:=s2 _ _ (Aa (H:=upd H a0 (.tup [.str "back", .int n,.ref sl,.str z])) (a:=a1) (o:=.tup [.str "enter", .str y,.int 0]))
  have hl2:=s12.free h3
  refine g r sl l2 [.ref a1,.ref a0] _ sA (sA _ _ hsl) Aa (.inr ⟨hl2,s4 _ _ Aa⟩) (Ah hsl hl2) (.cons ⟨a1,rfl,Cf (s34 _ _ e1) (Ah e1 h3)⟩ (.cons ⟨a0,sl,rfl,Cf (s34 _ _ e0) (Ah e0 h3),Cf (sA _ _ hsl) (Ah hsl hl2)⟩ .nil))
 ·-- say
  refine⟨_,rfl,t,_,_,_,rfl,rfl,Cc.of ht,at0 _ _,rfl,_,rfl,Rz ?_⟩
  refine⟨_,rfl,_,rfl,_,rfl,by show 1<=IK;exact z1,λl1 h1=>?_⟩
  have s1:=Af h1 (.lst [.int n])
  refine⟨sl,l1,_,_,rfl,rfl,s1 _ _ hsl,Aa,by rw[Ke,JB];show sd.length+1<=_;omega,λl2 h2=>⟨_,rfl,by show 3<=IK;exact z3,λr h3=>?_⟩⟩
  have s2:=Af h2 (.lst (Ig sd++[.int n]))
  have s3:=Af h3 (.tup [.int n,.ref l2,.ref l])
  refine g r l2 l [] _ (s1.trans (s2.trans s3)) (s3 _ _ (by rw[Aa];show _=some (HO.lst (Ig (sd++[n])));rw[Lq];rfl)) Aa (.inl ⟨rfl,rfl⟩) (KO (Ah (s1 _ _ hl) h2)) .nil
 ·-- a sort with an amount
  have n1:=oa.ne (x := "say") (by decide +kernel)
  have n2:=oa.ne (x := "onwards") (by decide +kernel)
  have n3:=oa.ne (x := "ask") (by decide +kernel)
  have n4:=oa.ne (x := "try") (by decide +kernel)
  refine⟨_,rfl,t,_,_,_,rfl,rfl,Cc.of ht,at0 _ _,rfl,_,rfl,Hk n1 ?_⟩
  refine⟨_,rfl,t,_,_,_,rfl,rfl,Cc.of ht,at0 _ _,rfl,_,rfl,Hk n2 ?_⟩
  refine⟨_,rfl,t,_,_,_,rfl,rfl,Cc.of ht,at0 _ _,rfl,_,rfl,Hk n3 ?_⟩
  refine⟨_,rfl,t,_,_,_,rfl,rfl,Cc.of ht,at0 _ _,rfl,_,rfl,Hk n4 ?_⟩
  refine⟨_,rfl,t,_,_,_,rfl,rfl,Cc.of ht,at0 _ _,rfl,_,rfl,Br (λc=>?_) (λc=>?_)⟩
  ·obtain rfl:kd = "part" := Cb c
   refine⟨_,rfl,_,rfl,t,_,_,_,rfl,rfl,Cc.of ht,at1 _ _ _,_,_,rfl,rfl,⟨oa.dv (.inr rfl),oa.ab.mono (by decide)⟩,_,rfl,_,rfl,_,rfl,t,_,_,_,rfl,rfl,Cc.of ht,at1 _ _ _,_,_,rfl,rfl,oa.dv (.inr rfl),by show 1<=IK;exact z1,λl1 h1=>?_⟩
   have s1:=Af h1 (.lst [.int (n.fmod a)])
   refine⟨sl,l1,_,_,rfl,rfl,s1 _ _ hsl,Aa,by rw[Ke,JB];show sd.length+1<=_;omega,λl2 h2=>⟨_,rfl,by show 3<=IK;exact z3,λr h3=>?_⟩⟩
   have s2:=Af h2 (.lst (Ig sd++[.int (n.fmod a)]))
   have s3:=Af h3 (.tup [.int (n.fdiv a),.ref l2,.ref l])
   refine g r l2 l [] _ (s1.trans (s2.trans s3)) (s3 _ _ ?_) ?_ (.inl ⟨rfl,rfl⟩) (KO (Ah (s1 _ _ hl) h2)) .nil
   ·rw[Aa]
    show _=some (HO.lst (Ig (sd++(Sm.op "part" a).out n)))
    rw[oH,Lq]
    rfl
   ·show _=some (HO.tup [.int ((Sm.op "part" a).nx n),.ref l2,.ref l])
    rw[tE]
    exact Aa
  ·have hp:¬ kd = "part" := Ct c
   refine⟨_,rfl,_,rfl,t,n,a,kd,b,rfl,ht,oa,hp,hn,hb,?_⟩
   refine⟨_,rfl,_,rfl,by show 3<=IK;exact z3,λr h3=>?_⟩
   have s3:=Af h3 (.tup [.int ((Sm.op kd a).nx n),.ref sl,.ref l])
   refine g r sl l [] _ s3 (s3 _ _ ?_) Aa (.inl ⟨rfl,rfl⟩) ?_ .nil
   ·show _=some (HO.lst (Ig (sd++(Sm.op kd a).out n)))
    rw[lR hp,LA]
    exact hsl
   ·exact hne
end
end Bk
namespace L2
open PySem PySem.Spec PyProof.Rows
def HA(K:IG)(te:TE):TE:=λσ H Q=>te σ H λx H1=>∃a xs,x=.ref a/\Av K H1 a xs/\∀p,H1 p=none->Q (.ref p) (upd H1 p (.lst xs.reverse))
theorem zW{X:Cx}{K:IG}{e st:Expr}{te:TE}{p2 pos:Pos}(he:PE X e te)(hst:PE X st (HB (rU λi=>.int (-i)) (tC (.int 1))))(hK:X.K=K:=by rfl):PE X (.Subscript e (.Slice none none (some st) p2) pos) (HA K te):=by
 subst hK
 intro pins s σ H Q I h
 refine Subscript_ (Bx (he pins s σ H _ I h) λv s1 ⟨x,H1,I1,r1,q1⟩=>?_)
 obtain⟨a,xs,rfl,hx,q⟩:=q1
 cases r1
 refine wpAny_Slice ?_
 rw[evalPart_none]
 refine JA ?_
 refine JA ?_
 rw[evalPart_some]
 refine Bx (hst pins s1 σ H1 (λy H2=>y=.int (-1)/\H2=H1) I1 ⟨1,rfl,rfl,rfl⟩) λu s3 ⟨y,H2,I3,r3,hy,hH⟩=>?_
 subst hH hy
 obtain⟨t,rfl⟩:=r3
 have I4:Inv X pins σ H2 { s3 with heap:=s3.heap.push { cls:=.type "slice", data:=.fields #[.none,.none,.int (-1) t] } }:=I3.kept (t':=s3.toks) λb ob q=>IJ _ q
 obtain⟨its,r,ht,hz⟩:=I4.list hx
 have hlen:=r.length
 have hs:Heap.IsSliceOf (s3.heap.push { cls:=.type "slice", data:=.fields #[.none,.none,.int (-1) t] }) s3.heap.objs.size .none .none (.int (-1) t):=Heap.IsSliceOf.new ..
 refine tail_any (ops:=[.ref a,.ref s3.heap.objs.size]) ht.isList.typeIs slot_list_getitem.lookup ?_ (by with_unfolding_all rfl)
 refine wpAny_getItem_list_slice (lo:=none) (hi:=none) (st:=some (-1)) ht.isList hs .none .none (.int (-1) t) (by simp) ?_ (by rw[JN]<;>omega)
 rw[PySem.W.krv_pick]
 refine⟨.ref _,_,I4.laid (t':=s3.toks) (o:=.lst xs.reverse) (λb ob q=>IJ _ q) (IP _) ?_,rfl,q _ (I4.hok.fresh (IP _))⟩
 exact⟨by rw[LL];exact hz,_,0,r.reverse,by rw[List.toList_toArray];exact JI _ rfl⟩
end L2
namespace Bk
open PySem L2 Mg Nm Rk
def Vi:List Tk->List Tk
 | []=>[]
 | .back n sd o::t=>.back n sd o::t
 | .en _ _::t=>Vi t
 | .do_ _ _ _::t=>Vi t
theorem Uz(R:Dt)(k:Nat):∀t,unw R (Vi t) k=unw R t k
 | []=>rfl
 | .back n sd o::t=>rfl
 | .en w pl::t=>by
  show unw R (Vi t) k=_
  rw[yD,Uz R k t]
 | .do_ s w ix::t=>by
  show unw R (Vi t) k=_
  rw[jW,Uz R k t]
theorem bX:∀t,Vi t=[] ∨ ∃n sd o u,Vi t=.back n sd o::u
 | []=>.inl rfl
 | .back n sd o::t=>.inr ⟨n,sd,o,t,rfl⟩
 | .en w pl::t=>bX t
 | .do_ s w ix::t=>bX t
theorem Zd:∀t,wt (Vi t)<=wt t
 | []=>IP _
 | .back n sd o::t=>IP _
 | .en w pl::t=>JR (Zd t) (by rw[Ju];omega)
 | .do_ s w ix::t=>JR (Zd t) (by rw[Ju];omega)
theorem Yy:∀t,bt (Vi t)<=bt t
 | []=>IP _
 | .back n sd o::t=>IP _
 | .en w pl::t=>JR (Yy t) (by rw[Kf];omega)
 | .do_ s w ix::t=>JR (Yy t) (by rw[Kf];omega)
theorem Oh{i:Tk}:∀ {t:List Tk},i∈Vi t->i∈t
 | [],h=>h
 | .back n sd o::t,h=>h
 | .en w pl::t,h=>JC _ (Oh (t:=t) h)
 | .do_ s w ix::t,h=>JC _ (Oh (t:=t) h)
theorem Ph(v:V)(vs:List V):(v::vs).reverse[(v::vs).reverse.length-1]? = some v/\(v::vs).reverse.dropLast=vs.reverse:=by
 rw[NE]
 refine⟨?_,List.dropLast_concat⟩
 rw[IV,JH,Nat.add_sub_cancel]
 exact JY
theorem yW(v:V)(vs:List V):Hx (v::vs).reverse (-1)=some v:=by
 rw[NE]
 exact Pd _ _
def Qw:Sp:=λvs H Q _=>∃(M:Hp)(l:IN)(us:List V)(st:List Tk),vs=[.ref l]/\Am M H/\H l=some (.lst us.reverse)/\PF (Yl M) us st/\us.length<=50000 /\
 ∀(l':IN)(us':List V)(H':Hp),H l'=none->Am H H'->H' l'=some (.lst us'.reverse)->PF (Yl M) us' (Vi st)->Q (.ref l') H'
def Ka:Sp:=λvs H Q _=>∃(ka ra:IN)(kvs:List (List Key×V))(rs:List Str)(B:Dg)(w:Str)(pl:Nat),vs=[.ref ka,.ref ra,.str w,.int (pl:Int)]/\H ka=some (.dT kvs)/\H ra=some (.lst (Az rs))/\rs.length<=1000/\pl<=2000/\(∀y∈rs,B y w=none ↔ valV kvs [(IW y:Key),IW w]=none) /\
 (∀H',Am H H'->(∀ix body,findF B w pl (rs.drop pl)=some (ix,body)->Q (.int (ix:Int)) H')/\(findF B w pl (rs.drop pl)=none->Q (.int (-1)) H'))
theorem Up{B:Dg}{w:Str}:∀ {ys:List Str} {i ix:Nat} {body:List Eg},findF B w i ys=some (ix,body)->i<=ix/\ix < i+ys.length/\∃y,ys[ix-i]? = some y/\B y w=some body
 | [],_,_,_,h=>by cases h
 | y::ys,i,ix,body,h=>by
  cases e:B y w with
  | some b=>
   have h':findF B w i (y::ys)=some (i,b):=by show (match B y w with | some b=>some (i,b) | none=>findF B w (i+1) ys)=_;rw[e]
   rw[h'] at h
   cases h
   exact⟨IP _,by rw[KH];omega,y,by rw[Nat.sub_self];rfl,e⟩
  | none=>
   have h':findF B w i (y::ys)=findF B w (i+1) ys:=by show (match B y w with | some b=>some (i,b) | none=>findF B w (i+1) ys)=_;rw[e]
   rw[h'] at h
   obtain⟨h1,h2,z,hz,hb⟩:=Up h
   refine⟨by omega,by rw[KH];omega,z,?_,hb⟩
   rw[show ix-i=(ix-(i+1))+1 by omega,List.getElem?_cons_succ]
   exact hz
theorem Vw{B:Dg}{w:Str}{i:Nat}{y:Str}{ys:List Str}:findF B w i (y::ys)=match B y w with | some b=>some (i,b) | none=>findF B w (i+1) ys:=rfl
section
variable {P:JJ} {w:KL} {K:IG} {mg:Str->Option II} {base:LO} {f fA:IN} {fd dA:JW}
theorem Xx:Ap ["_law_todo","_law_left"] ["_law_todo"] (Ae Ua):=Fv (by decide +kernel)
theorem iZ(F:Dp K "_law_fallen" "_law_fallen" Ua f fd)(T:Txt mg):Aj P w K mg base Bh 1 f fd ["_law_todo"] Qw:=by
 refine F.ok Xx (λvs H Q E h=>?_) (λcdv A outer s H vs Q E hr h=>?_)
 ·obtain⟨M,l,us,st,rfl,_⟩:=h
  rfl
 obtain⟨M,l,us,st,rfl,sM,hl,hp,hlen,g⟩:=h
 refine⟨_,Ac (Bj 1 Xx.nd (Dm Ef rfl T.list LN (Dc (pv 0))))
  (Ac (Jq LB (PW.pt (Qx (Tl (K:=K) (pv 1)) (Le (Ao pK (Aq Au (Aq Bc (pv 1) (Hi Ff Ad) (λ_ _=>rfl)) Ad (λ_ _=>rfl)) Ar (As _)))))
   (Ag (Ca (aI KQ PySem.F.slot_list_pop PySem.F.type_list_pop aS (pv 1)))))
  (Ag (An (pv 1)))),?_⟩
 refine⟨_,rfl,l,_,rfl,.inl (Av.of hl),λl' hl'=>?_⟩
 have nM:M l'=none:=sM.free hl'
 refine⟨λμ σ H2=>∃(us1:List V)(st1:List Tk),σ=[some (.ref l),some (.ref l')]/\(∀b o,H b=some o->H2 b=some o)/\H2 l'=some (.lst us1.reverse)/\PF (Yl M) us1 st1/\Vi st1=Vi st/\us1.length<=50000/\μ=us1.length,⟨_,us,st,rfl,Af hl' _,Aa,hp,rfl,hlen,rfl⟩,?_⟩
 rintro μ σ H2 ⟨us1,st1,rfl,s2,e2,hp2,hf2,hl2,rfl⟩
 have hvl:=NK hp2
 refine⟨_,rfl,!(us1.reverse).isEmpty,.inl ⟨_,Av.of e2,rfl⟩,Br (λc1=>?_) (λc1=>?_)⟩
 ·cases us1 with
  | nil=>exact absurd c1 (by decide)
  | cons v us1=>
  cases st1 with
  | nil=>cases hvl
  | cons i st1=>
  cases hp2 with
  | cons hv hp3=>
  obtain⟨a,r,rfl,ha⟩:=hv.tup
  have ha2:=s2 _ _ (sM _ _ ha)
  obtain⟨r3,r4⟩:=Ph (.ref a) us1
  refine⟨_,rfl,_,rfl,l',_,_,_,rfl,rfl,Av.of e2,yW _ _,a,_,_,_,rfl,rfl,Cc.of ha2,at0 _ _,rfl,_,rfl,?_⟩
  have stay:∀ {t:Str},yV i=t->¬ t = "back" -> Vi (i::st1)=Vi st1:=λ{t} e hn=>by
   cases i with
   | en w pl=>rfl
   | do_ s w ix=>rfl
   | back n sd o=>exact absurd e.symm hn
  by_cases hb:yV i = "back"
  ·rw[hb,decide_eq_true rfl]
   refine Di ⟨_,rfl,?_⟩
   have hfi:Vi (i::st1)=i::st1:=by
    cases i with
    | en w pl=>exact absurd hb (show ¬ ("enter" : Str) = "back" by decide +kernel)
    | do_ s w ix=>exact absurd hb (show ¬ ("do" : Str) = "back" by decide +kernel)
    | back n sd o=>rfl
   rw[hfi] at hf2
   exact g l' (.ref a::us1) H2 hl' s2 e2 (hf2 ▸ .cons hv hp3)
  ·rw[decide_eq_false (λz=>hb (V.str.inj z))]
   refine He ?_
   refine⟨λσ' H'=>∃m',m' < (V.ref a::us1).length/\∃(us1:List V)(st1:List Tk),σ'=[some (.ref l),some (.ref l')]/\(∀b o,H b=some o->H' b=some o)/\H' l'=some (.lst us1.reverse)/\PF (Yl M) us1 st1/\Vi st1=Vi st/\us1.length<=50000/\m'=us1.length,λσ' H' h=>h,?_⟩
   refine⟨_,rfl,.inl ⟨rfl,_,Av.of e2⟩,l',_,_,rfl,rfl,e2,r3,?_⟩
   rw[r4]
   rw[KH] at hl2
   refine⟨_,QJ _,us1,st1,rfl,λb o e=>by rw[Ai (Ah e hl')];exact s2 _ _ e,Aa,hp3,?_,by omega,rfl⟩
   rw[<- hf2,stay rfl hb]
 ·cases us1 with
  | cons v us1=>exact absurd (by rw[NE];simp) c1
  | nil=>
  cases st1 with
  | cons i st1=>cases hvl
  | nil=>
   refine Di ⟨_,rfl,?_⟩
   exact g l' [] H2 hl' s2 e2 (hf2 ▸ .nil)
theorem Sy:Ap ["_law_known","_law_line","_law_word","_law_start","_law_at"] ["_law_known","_law_line","_law_word","_law_start"] (Ae Pu):=Fv (by decide +kernel)
theorem aC(F:Dp K "_law_found_at" "_law_found_at" Pu f fd)(T:Txt mg):Aj P w K mg base Bh 1 f fd ["_law_known","_law_line","_law_word","_law_start"] Ka:=by
 refine F.ok Sy (λvs H Q E h=>?_) (λcdv A outer s H vs Q E hr h=>?_)
 ·obtain⟨ka,ra,kvs,rs,B,w,pl,rfl,_⟩:=h
  rfl
 obtain⟨ka,ra,kvs,rs,B,w,pl,rfl,hk,hra,hrl,hpl,hB,g⟩:=h
 have hu:=Gd hr
 refine⟨_,Ac (Eb LB rfl (Rv rfl T.range (Ea (pv 3) (Cg T.len (pv 1)))) (Cq 4 Sy.nd)
  (Ag (Ax (Fj (cN hu (Bb (Ea (Aq Bc (pv 1) (pv 4) (λ_ _=>rfl)) (pv 2))) (pv 0))) (Ag (An (pv 4))) Al)))
  (Ag (An (Hi Ff Ad))),?_⟩
 have hlen:((Az rs).length:Int)=(rs.length:Int):=by rw[Aw]
 refine⟨_,rfl,_,rfl,ra,_,rfl,.inl (Av.of hra),_,_,rfl,⟨by omega,by omega,by omega,by omega⟩,Gq (n:=(((Az rs).length:Int)-(pl:Int)).toNat) (λi σ H2=>∃v4:Option V,σ=[some (.ref ka),some (.ref ra),some (.str w),some (.int (pl:Int)),v4]/\Am H H2/\findF B w (pl+i) (rs.drop (pl+i))=findF B w pl (rs.drop pl)) ⟨none,rfl,Am.refl _,rfl⟩ ?_ ?_⟩
 ·rintro i σ H2 hi ⟨v4,rfl,s2,hf⟩
  have hil:pl+i < rs.length:=by omega
  have e0:(pl:Int)+(i:Int)=((pl+i:Nat):Int):=by omega
  rw[e0]
  have edr:rs.drop (pl+i)=rs[pl+i]::rs.drop (pl+i+1):=KY hil
  have hy:=LQ hil
  have aty:Hx (Az rs) ((pl+i:Nat):Int)=some (.str rs[pl+i]):=Ba (Gb (IU hil))
  rw[edr,Vw] at hf
  generalize rs[pl+i]=y at *
  refine⟨_,rfl,_,rfl,ra,_,_,_,rfl,rfl,Av.of (s2 _ _ hra),aty,_,rfl,by rw[JB];show 2<=_;decide,λtp htp=>?_⟩
  have s3:=Af htp (.tup [.str y,.str w])
  have sA:=s2.trans s3
  refine⟨_,rfl,ka,_,rfl,Fc.t (k:=[(IW y:Key),IW w]) (sA _ _ hk) Aa,?_⟩
  cases hBy:B y w with
  | none=>
   rw[hBy] at hf
   rw[(hB y hy).mp hBy]
   exact⟨_,rfl,Di ⟨_,rfl,sA,hf⟩⟩
  | some body=>
   rw[hBy] at hf
   cases hv:valV kvs [(IW y:Key),IW w] with
   | none=>rw[(hB y hy).mpr hv] at hBy;cases hBy
   | some v=>
    exact⟨_,rfl,He ⟨_,rfl,(g _ sA).1 _ _ hf.symm⟩⟩
 ·rintro σ H2 ⟨v4,rfl,s2,hf⟩
  have hd0:rs.drop (pl+(((Az rs).length:Int)-(pl:Int)).toNat)=[]:=MZ (by omega)
  rw[hd0] at hf
  exact⟨_,rfl,(g _ s2).2 hf.symm⟩
end
structure zZ(H:Hp)(ka:IN)(kvs:List (List Key×V))(rs:List Str)(B:Dg):Prop where
 dc:H ka=some (.dT kvs)
 no:∀y∈rs,∀w,B y w=none ↔ valV kvs [(IW y:Key),IW w]=none
 yes:∀y∈rs,∀w ss,B y w=some ss->∃(la:IN)(ts:List IN),valV kvs [(IW y:Key),IW w]=some (.ref la)/\H la=some (.lst (ts.map V.ref))/\Df H ts (ss.map Eg.pr)
 ok:BJ B rs
theorem zZ.same{H H':Hp}{ka:IN}{kvs:List (List Key×V)}{rs:List Str}{B:Dg}(k:zZ H ka kvs rs B)(s:Am H H'):zZ H' ka kvs rs B:=
 ⟨s _ _ k.dc,k.no,λy hy w ss h=>let ⟨la,ts,a,b,c⟩:=k.yes y hy w ss h;⟨la,ts,a,s _ _ b,c.same s⟩,k.ok⟩
def Pg:Sp:=λvs H Q _=>∃(ka ra t l:IN)(kvs:List (List Key×V))(rs:List Str)(B:Dg)(w:Str)(pl ix:Nat)(body:List Eg)(xs:List V),vs=[.ref ka,.ref ra,.ref t,.ref l]/\zZ H ka kvs rs B/\H ra=some (.lst (Az rs))/\rs.length<=1000/\pl<=2000/\H t=some (.tup [.str "enter", .str w,.int (pl:Int)])/\findF B w pl (rs.drop pl)=some (ix,body)/\H l=some (.lst xs)/\xs.length<=50000 /\
 ∀(l':IN)(us:List V)(H':Hp),H l'=none->Am H H'->H' l'=some (.lst (xs++us.reverse))->PF (Yl (mask1 H' l')) us (body.map λs=>Tk.do_ s w ix)->Q (.ref l') H'
section
variable {P:JJ} {w:KL} {K:IG} {mg:Str->Option II} {base:LO} {f fA:IN} {fd dA:JW}
abbrev HK:List Str:=["_law_known","_law_line","_law_step","_law_todo","_law_at"]
theorem CZ:Ap HK ["_law_known","_law_line","_law_step","_law_todo"] (Ae Og):=Fv (by decide +kernel)
theorem FP:(["_law_one","_law_at","_law_step"]:List Str).Nodup:=by decide +kernel
theorem jJ(F:Dp K "_law_enter" "_law_enter" Og f fd)(T:Txt mg)(GA:Aj P w K mg base Bh 1 fA dA ["_law_known","_law_line","_law_word","_law_start"] Ka)(kA:IR K (.ref fA)=true)(bA:Binds K dA ["_law_known","_law_line","_law_word","_law_start"] [])(mA:mg "_law_found_at" = some (.ref fA)):
 Aj P w K mg base Bh 2 f fd ["_law_known","_law_line","_law_step","_law_todo"] Pg:=by
 refine F.ok CZ (λvs H Q E h=>?_) (λcdv A outer s H vs Q E hr h=>?_)
 ·obtain⟨ka,ra,t,l,kvs,rs,B,w,pl,ix,body,xs,rfl,_⟩:=h
  rfl
 obtain⟨ka,ra,t,l,kvs,rs,B,w,pl,ix,body,xs,rfl,KN,hra,hrl,hpl,ht,hf,hl,hxs,g⟩:=h
 have hu:=Gd hr
 refine⟨_,Ac (Ot (i:=4) CZ.nd rfl (Or.inr rfl) (Ck GA hr mA kA bA (Qz (pv 0) (pv 1) (Aq Au (pv 2) Ad (λ_ _=>rfl)) (Aq Au (pv 2) Ad (λ_ _=>rfl)))))
  (Ag (An (Ak Fa (pv 3) (Gi (Ae Og) HK ["_law_one"] [("_law_at", 4),("_law_step", 2)] rfl (De (zW (K:=K) (Iw hu (pv 0) (Bb (Ea (Aq Bc (pv 1) (pv 4) (λ_ _=>rfl)) (Aq Au (pv 2) Ad (λ_ _=>rfl)))) (λ_ _=>rfl)) (Hi Ff Ad))) (Bs (i:=0) (by decide))
   (λ_ _ _ _ _ _=>⟨Cq 0 FP,Dx,Bb (Qz Ar (pv 0) (Aq (tM (K:=K)) (pv 2) Ad (λ_ _=>rfl)) (pv 1))⟩))))),?_⟩
 obtain⟨i1,i2,y,hy,hb⟩:=Up hf
 rw[List.getElem?_drop,show pl+(ix-pl)=ix by omega] at hy
 have hym:=IY hy
 obtain⟨la,ts,hv,hla,hst⟩:=KN.yes y hym w body hb
 obtain⟨hok,h30⟩:=KN.ok y hym w body hb
 have htl:ts.length=body.length:=by rw[hst.1,IM]
 refine⟨_,rfl,_,rfl,_,rfl,t,_,_,_,rfl,rfl,Cc.of ht,at1 _ _ _,_,rfl,t,_,_,_,rfl,rfl,Cc.of ht,at2 _ _ _ _,?_⟩
 refine⟨ka,ra,kvs,rs,B,w,pl,rfl,KN.dc,hra,hrl,hpl,λy hy=>KN.no y hy w,λH1 s1=>⟨λix' body' hf'=>?_,λhn=>absurd (hn.symm.trans hf) (λq=>nomatch q)⟩⟩
 rw[hf] at hf'
 cases hf'
 have aty:Hx (Az rs) (ix:Int)=some (.str y):=Ba (Gb hy)
 refine⟨_,rfl,_,rfl,_,rfl,_,rfl,ra,_,_,_,rfl,rfl,Av.of (s1 _ _ hra),aty,_,rfl,t,_,_,_,rfl,rfl,Cc.of (s1 _ _ ht),at1 _ _ _,by rw[JB];show 2<=_;decide,λtp htp=>?_⟩
 have s2:=Af htp (.tup [.str y,.str w])
 have s12:=s1.trans s2
 refine⟨ka,.ref la,rfl,by rw[<- hv];exact Fc.t (k:=[(IW y:Key),IW w]) (s12 _ _ KN.dc) Aa,la,_,rfl,Av.of (s12 _ _ hla),λlr hlr=>?_⟩
 have s3:=Af hlr (.lst (ts.map V.ref).reverse)
 have sA:=s12.trans s3
 have elr:(upd (upd H1 tp (.tup [.str y,.str w])) lr (.lst (ts.map V.ref).reverse)) lr=some (.lst (ts.map V.ref).reverse):=Aa
 generalize upd (upd H1 tp (.tup [.str y,.str w])) lr (.lst (ts.map V.ref).reverse)=H3 at *
 refine⟨lr,rfl,⟨_,Av.of elr⟩,Dr (K:=K) (a:=lr) (xs:=(ts.map V.ref).reverse) (λi ys H2=>Am H3 H2/\ys.length=i/\PF (Yl H2) ys.reverse ((body.drop (body.length-i)).map λs=>Tk.do_ s w ix)) ⟨Am.refl _,rfl,by rw[Nat.sub_zero,List.drop_length];exact .nil⟩ (λi ys H2 _ h=>Av.of (h.1 _ _ elr)) ?_ ?_⟩
 ·rintro i v ys H2 hi ⟨s4,hyl,hp⟩
  have hil:i < body.length:=by
   have:=(IH.mp hi).1
   rw[LL,IM,htl] at this
   exact this
  rw[List.getElem?_reverse (by rw[IM,htl];exact hil),IM,htl] at hi
  obtain⟨b,hb',rfl⟩:=Ej hi
  have hj:body.length-1-i < body.length:=by omega
  have es:body[body.length-1-i]? = some body[body.length-1-i]:=IU hj
  have ep:(body.map Eg.pr)[body.length-1-i]? = some (body[body.length-1-i]).pr:=by rw[JU,es];rfl
  have et:=s4 _ _ (sA _ _ (hst.2 _ b _ hb' ep))
  have oks:=hok _ (LQ hj)
  have edr:body.drop (body.length-(i+1))=body[body.length-1-i]::body.drop (body.length-i):=by
   rw[show body.length-(i+1)=body.length-1-i by omega,KY hj,show body.length-1-i+1=body.length-i by omega]
  generalize body[body.length-1-i]=s' at *
  refine⟨_,rfl,_,rfl,t,_,_,_,rfl,rfl,Cc.of (s4 _ _ (sA _ _ ht)),at1 _ _ _,_,rfl,by rw[JB];show 4<=_;decide,λp hp'=>?_⟩
  have s5:=Af hp' (.tup [.str "do", .ref b,.str w,.int (ix:Int)])
  refine⟨by rw[hyl,JB];omega,s4.trans s5,by rw[IV,hyl];rfl,?_⟩
  rw[edr,List.reverse_append]
  exact .cons ⟨p,b,rfl,Aa,s5 _ _ et,oks⟩ (Ji s5 hp)
 ·rintro ys H2 ⟨s4,hyl,hp⟩ lc hlc
  rw[LL,IM,htl] at hyl hp
  rw[Nat.sub_self,List.drop_zero] at hp
  have s5:=Af hlc (.lst ys)
  have sB:=sA.trans (s4.trans s5)
  refine⟨l,lc,_,_,rfl,rfl,sB _ _ hl,Aa,by rw[hyl,JB];omega,λl' hl'=>?_⟩
  have s6:=Af hl' (.lst (xs++ys))
  refine g l' ys.reverse _ (sB.free hl') (sB.trans s6) (by rw[Aa,List.reverse_reverse]) (Ji ?_ hp)
  exact Am.mask1 (s5.trans s6) (s5.free hl')
end
theorem Pp{α β:Type}{F:α->β->Prop}{xs:List α}{ys:List β}(h:PF F xs ys){zs:List α}{ws:List β}(g:PF F zs ws):PF F (xs++zs) (ys++ws):=by
 induction h with
 | nil=>exact g
 | cons r t ih=>exact .cons r ih
structure vX(H0 H M:Hp)(l sl:IN)(vs:List V)(st:List Tk)(n:Int)(k:Nat)(sd:List Int)(b:Nat):Prop where
 s0:Am H0 M
 s1:Am M H
 nl:M l=none
 lst:H l=some (.lst vs.reverse)
 its:PF (Yl M) vs st
 sd_:M sl=some (.lst (Ig sd))
 bd:Bd b n sd
 bk:∀n' sd' o,Tk.back n' sd' o∈st->Bd b n' sd'
 lo:100<=b
 hi:b+bt st+3200 * k<=200000
 pe:∀w pl,Tk.en w pl∈st->pl<=1001
 pd:∀s w ix,Tk.do_ s w ix∈st->ix<=1000
theorem vX.pop{H0 H M:Hp}{l sl:IN}{v:V}{vs:List V}{i:Tk}{st:List Tk}{n:Int}{k:Nat}{sd:List Int}{b:Nat}(T:vX H0 H M l sl (v::vs) (i::st) n k sd b):Yl M v i/\vX H0 (upd H l (.lst vs.reverse)) M l sl vs st n k sd b:=by
 have h:=T.its
 cases h with
 | cons h1 h2=>
  refine⟨h1,T.s0,λc o e=>by rw[Ai (Ah e T.nl)];exact T.s1 _ _ e,T.nl,Aa,h2,T.sd_,T.bd,λn' sd' o h=>T.bk n' sd' o (JC _ h),T.lo,?_,λw pl h=>T.pe w pl (JC _ h),λs w ix h=>T.pd s w ix (JC _ h)⟩
  have:=T.hi
  rw[Kf] at this
  omega
def Ng(H:Hp)(r:IN):Ou->Prop
 | .said sd=>∃sl,H r=some (.tup [.str "said", .ref sl])/\H sl=some (.lst (Ig sd))/\sd.length<=2000
 | .una=>H r=some (.tup [.str "unanswered"])
 | .spent=>H r=some (.tup [.str "spent"])
def Po:Sp:=λvs H Q _=>∃(ka ra:IN)(kvs:List (List Key×V))(rs:List Str)(B:Dg)(w:Str)(n:Int)(c:Nat),vs=[.ref ka,.ref ra,.str w,.int n,.int (c:Int)]/\zZ H ka kvs rs B/\H ra=some (.lst (Az rs))/\rs.length<=1000/\Ab 100 n/\c<=40 /\
 ∀(r:IN)(H':Hp),Am H H'->Ng H' r (Hh (rS B rs) [.en w 0] n c [])->Q (.ref r) H'
section
variable {P:JJ} {w:KL} {K:IG} {mg:Str->Option II} {base:LO} {f fA fD fE fL:IN} {fd dA dD dE dL:JW}
abbrev DY:List Str:=["_law_known","_law_line","_law_word","_law_number","_law_count","_law_said","_law_todo","_law_step","_law_back"]
theorem Hv:Ap DY ["_law_known","_law_line","_law_word","_law_number","_law_count"] (Ae zM):=Fv (by decide +kernel)
theorem xM(F:Dp K "_law_due" "_law_due" zM f fd)(T:Txt mg)(GA:Aj P w K mg base Bh 1 fA dA ["_law_known","_law_line","_law_word","_law_start"] Ka)(kA:IR K (.ref fA)=true)(bA:Binds K dA ["_law_known","_law_line","_law_word","_law_start"] [])(mA:mg "_law_found_at" = some (.ref fA))(GD:Aj P w K mg base Bh 2 fD dD ["_law_step","_law_word","_law_at","_law_number","_law_said","_law_todo"] aX)(kD:IR K (.ref fD)=true)(bD:Binds K dD ["_law_step","_law_word","_law_at","_law_number","_law_said","_law_todo"] [])(mD:mg "_law_done" = some (.ref fD))(GE:Aj P w K mg base Bh 2 fE dE ["_law_known","_law_line","_law_step","_law_todo"] Pg)(kE:IR K (.ref fE)=true)(bE:Binds K dE ["_law_known","_law_line","_law_step","_law_todo"] [])(mE:mg "_law_enter" = some (.ref fE))(GL:Aj P w K mg base Bh 1 fL dL ["_law_todo"] Qw)(kL:IR K (.ref fL)=true)(bL:Binds K dL ["_law_todo"] [])(mL:mg "_law_fallen" = some (.ref fL)):
 Aj P w K mg base Bh 3 f fd ["_law_known","_law_line","_law_word","_law_number","_law_count"] Po:=by
 refine F.ok Hv (λvs H Q E h=>?_) (λcdv A outer s H vs Q E hr h=>?_)
 ·obtain⟨ka,ra,kvs,rs,B,w,n,c,rfl,_⟩:=h
  rfl
 obtain⟨ka,ra,kvs,rs,B,w,n,c,rfl,KN,hra,hrl,hn,hc,g⟩:=h
 have hr1:=hr.mono (j:=1) (by decide)
 refine⟨_,Ac (Bj 5 Hv.nd (Bt Hn))
  (Ac (Bj 6 Hv.nd (Bt (Dc (Bb (Ge Ar (pv 2) Ad)))))
  (Ac (Jq LB (Tl (K:=K) (pv 6))
   (Ac (Bj 7 Hv.nd (aI KQ PySem.F.slot_list_pop PySem.F.type_list_pop aS (pv 6)))
   (Ac (Ax (Ao Bp (Aq Au (pv 7) Ad (λ_ _=>rfl)) Ar (As _))
    (Ag (Zq (Ck GD hr mD kD bD (Er (Aq Au (pv 7) Ad (λ_ _=>rfl)) (Er (Aq Au (pv 7) Ad (λ_ _=>rfl)) (Qz (Aq Au (pv 7) Ad (λ_ _=>rfl)) (pv 3) (pv 5) (pv 6)))))
     (Jm (n:=3) rfl (Bo (Cq 3 Hv.nd) (Bo (Cq 5 Hv.nd) (Bo (Cq 6 Hv.nd) Gg)))))) Al)
   (Ag (Ax (Ao Bp (Aq Au (pv 7) Ad (λ_ _=>rfl)) Ar (As _))
    (Ag (Ax (Ao AW (Ck GA hr1 mA kA bA (Qz (pv 0) (pv 1) (Aq Au (pv 7) Ad (λ_ _=>rfl)) (Aq Au (pv 7) Ad (λ_ _=>rfl)))) Ad (As _))
     (Ac (Ax (Ao Bp (pv 4) Ad (As _)) (Ag (An (Bb (Dc Ar)))) Al)
     (Ac (Bj 4 Hv.nd (Ak Hq (pv 4) Ad))
     (Ag (Bj 6 Hv.nd (Ck GE hr mE kE bE (Qz (pv 0) (pv 1) (pv 7) (pv 6)))))))
     (Ac (Bj 6 Hv.nd (Ck GL hr1 mL kL bL (Dc (pv 6))))
     (Ac (Ax (Ht (Tl (K:=K) (pv 6))) (Ag (An (Bb (Dc Ar)))) Al)
     (Ac (Bj 8 Hv.nd (aI KQ PySem.F.slot_list_pop PySem.F.type_list_pop aS (pv 6)))
     (Ac (Bj 3 Hv.nd (Aq Au (pv 8) Ad (λ_ _=>rfl)))
     (Ac (Bj 5 Hv.nd (Aq Au (pv 8) Ad (λ_ _=>rfl)))
     (Ag (Ca (Kq KQ MF ME Et (pv 6) (Dc (Bb (Ge Ar (Aq Au (pv 8) Ad (λ_ _=>rfl)) Ad)))))))))))))
    Al)))))
  (Ag (An (Bb (Ea Ar (pv 5))))))),?_⟩
 have z3:3<=IK:=by rw[JB];decide
 have z2:2<=IK:=by rw[JB];decide
 have z1:1<=IK:=by rw[JB];decide
 have z0:0<=IK:=KI _
 refine⟨by show 0<=IK;exact z0,λsl hsl=>?_⟩
 refine⟨_,rfl,by show 3<=IK;exact z3,λt0 ht0=>⟨by show 1<=IK;exact z1,λl0 hl0=>?_⟩⟩
 have a1:=Af hsl (.lst [])
 have a2:=Af ht0 (.tup [.str "enter", .str w,.int 0])
 have a3:=Af hl0 (.lst [.ref t0])
 have a12:=a1.trans a2
 have eT:(upd (upd H sl (.lst [])) t0 (.tup [.str "enter", .str w,.int 0])) t0=some (.tup [.str "enter", .str w,.int 0]):=Aa
 have eS:=a2 _ _ (Aa (H:=H) (a:=sl) (o:=.lst []))
 have M0:vX H (upd (upd (upd H sl (.lst [])) t0 (.tup [.str "enter", .str w,.int 0])) l0 (.lst [.ref t0])) (upd (upd H sl (.lst [])) t0 (.tup [.str "enter", .str w,.int 0])) l0 sl [.ref t0] [.en w 0] n c [] 100:=
  ⟨a12,a3,hl0,Aa,.cons ⟨t0,rfl,eT⟩ .nil,eS,⟨hn,by decide⟩,(λn' sd' o h=>by simp at h),IP _,by show 100+0+3200 * c<=200000;omega,(λw' pl h=>by
   have:=IT.mp h
   cases this
   decide),(λs w ix h=>by simp at h)⟩
 refine⟨λμ σ H2=>∃(M:Hp)(l sl:IN)(vs:List V)(st:List Tk)(n':Int)(k:Nat)(sd:List Int)(b:Nat)(v7 v8:Option V),σ=[some (.ref ka),some (.ref ra),some (.str w),some (.int n'),some (.int (k:Int)),some (.ref sl),some (.ref l),v7,v8]/\vX H H2 M l sl vs st n' k sd b/\Hh (rS B rs) st n' k sd=Hh (rS B rs) [.en w 0] n c []/\μ=1000 * k+wt st/\μ<=50000,
  ⟨_,_,l0,sl,[.ref t0],[.en w 0],n,c,[],100,none,none,rfl,M0,rfl,rfl,by show 1000 * c+1<=50000;omega⟩,?_⟩
 clear M0 eS eT a12 a3 a2 a1 hl0 ht0 hsl
 rintro μ σ H2 ⟨M,l,sl,vs,st,n1,k,sd,b,v7,v8,rfl,MC,hden,rfl,hμ⟩
 have hml:=Uy st
 have hvl:=NK MC.its
 refine⟨_,rfl,!(vs.reverse).isEmpty,.inl ⟨_,Av.of MC.lst,rfl⟩,Br (λc1=>?_) (λc1=>?_)⟩
 rotate_left
 ·cases vs with
  | cons v vs=>exact absurd (by rw[NE];simp) c1
  | nil=>
  cases st with
  | cons i st=>cases hvl
  | nil=>
   refine⟨_,rfl,by show 2<=IK;exact z2,λr hr'=>?_⟩
   have s3:=Af hr' (.tup [.str "said", .ref sl])
   refine g r _ ((MC.s0.trans MC.s1).trans s3) ?_
   rw[<- hden,Hh]
   exact⟨sl,Aa,s3 _ _ (MC.s1 _ _ MC.sd_),by have:=MC.bd.len;have:=MC.hi;omega⟩
 cases vs with
 | nil=>exact absurd c1 (by decide)
 | cons v vs=>
 cases st with
 | nil=>cases hvl
 | cons i st=>
 have hfin:∀(M2:Hp)(l2 sl2:IN)(vs2:List V)(st2:List Tk)(n2:Int)(k2:Nat)(sd2:List Int)(b2:Nat)(v7' v8':Option V)(H':Hp),vX H H' M2 l2 sl2 vs2 st2 n2 k2 sd2 b2->Hh (rS B rs) st2 n2 k2 sd2=Hh (rS B rs) [.en w 0] n c []->1000 * k2+wt st2 < 1000 * k+wt (i::st) ->
  ∃m',m' < 1000 * k+wt (i::st)/\∃(M:Hp)(l sl:IN)(vs:List V)(st:List Tk)(n':Int)(k:Nat)(sd:List Int)(b:Nat)(v7 v8:Option V),[some (V.ref ka),some (V.ref ra),some (V.str w),some (V.int n2),some (V.int (k2:Int)),some (V.ref sl2),some (V.ref l2),v7',v8']=[some (.ref ka),some (.ref ra),some (.str w),some (.int n'),some (.int (k:Int)),some (.ref sl),some (.ref l),v7,v8]/\vX H H' M l sl vs st n' k sd b/\Hh (rS B rs) st n' k sd=Hh (rS B rs) [.en w 0] n c []/\m'=1000 * k+wt st/\m'<=50000:=
  λM2 l2 sl2 vs2 st2 n2 k2 sd2 b2 v7' v8' H' T2 d2 h2=>⟨_,h2,M2,l2,sl2,vs2,st2,n2,k2,sd2,b2,v7',v8',rfl,T2,d2,rfl,by omega⟩
 refine⟨λσ' H'=>∃m',m' < 1000 * k+wt (i::st)/\∃(M:Hp)(l sl:IN)(vs:List V)(st:List Tk)(n':Int)(k:Nat)(sd:List Int)(b:Nat)(v7 v8:Option V),σ'=[some (.ref ka),some (.ref ra),some (.str w),some (.int n'),some (.int (k:Int)),some (.ref sl),some (.ref l),v7,v8]/\vX H H' M l sl vs st n' k sd b/\Hh (rS B rs) st n' k sd=Hh (rS B rs) [.en w 0] n c []/\m'=1000 * k+wt st/\m'<=50000,λσ' H' h=>h,?_⟩
 obtain⟨r1,r2⟩:=Ph v vs
 refine⟨_,rfl,.inl ⟨rfl,_,Av.of MC.lst⟩,l,_,_,rfl,rfl,MC.lst,r1,?_⟩
 rw[r2]
 obtain⟨hi,T1⟩:=MC.pop
 have bke:=MC.bk
 have pee:=MC.pe
 have pde:=MC.pd
 have hib:=MC.hi
 rw[Kf] at hib
 rw[Ju] at hfin hμ
 clear hvl hml MC
 generalize upd H2 l (.lst vs.reverse)=H3 at *
 have hvl1:=NK T1.its
 have hl1:vs.length<=50000:=by
  have a2:=Uy st
  omega
 have hsl1:=T1.s1 _ _ T1.sd_
 have nsl:sl≠l:=Ah T1.sd_ T1.nl
 cases i with
 | back n' sd' o=>
  obtain⟨a,lb,rfl,ha,hb⟩:=hi
  rw[Vp] at hden
  have haH:=T1.s1 _ _ ha
  refine⟨_,rfl,a,_,_,_,rfl,rfl,Cc.of haH,at0 _ _,rfl,_,rfl,Hk (by decide +kernel) ?_⟩
  refine⟨_,rfl,a,_,_,_,rfl,rfl,Cc.of haH,at0 _ _,rfl,_,rfl,Hk (by decide +kernel) ?_⟩
  exact hfin M l sl vs st n1 k sd b _ _ H3 T1 hden (by show _ < 1000 * k+(2+wt st);omega)
 | do_ s' w' ix=>
  obtain⟨a,bb,rfl,ha,hb,oks⟩:=hi
  rw[qH] at hden
  have haH:=T1.s1 _ _ ha
  have hbH:=T1.s1 _ _ hb
  have hix:=pde s' w' ix (JM ..)
  have hbl:=T1.bd.len
  have hib':b+(101+bt st)+3200 * k<=200000:=hib
  refine⟨_,rfl,a,_,_,_,rfl,rfl,Cc.of haH,at0 _ _,rfl,_,rfl,Rz ?_⟩
  refine⟨_,rfl,a,_,_,_,rfl,rfl,Cc.of haH,at1 _ _ _,_,rfl,a,_,_,_,rfl,rfl,Cc.of haH,at2 _ _ _ _,_,rfl,a,_,_,_,rfl,rfl,Cc.of haH,HC _ _ _ _ _,_,rfl,_,rfl,_,rfl,?_⟩
  refine⟨bb,sl,l,s',w',ix,n1,sd,vs.reverse,b,rfl,hbH,oks,hsl1,T1.lst,T1.bd.ab,by omega,by omega,by rw[LL];exact hl1,nsl,λr sl' l' vs' H4 s4 es4 er4 hl4 ns4 hp4=>?_⟩
  have haH4:=s4 _ _ haH
  refine⟨r,_,rfl,Cc.of er4,rfl,_,_,rfl,_,_,rfl,_,_,rfl,rfl,?_⟩
  refine⟨_,rfl,a,_,_,_,rfl,rfl,Cc.of haH4,at0 _ _,rfl,_,rfl,Hk (by decide +kernel) ?_⟩
  have nl':M l'=none:=by
   rcases hl4 with ⟨e,_⟩ | ⟨e,_⟩
   ·rw[e];exact T1.nl
   ·exact T1.s1.free e
  have sM:Am M (mask1 H4 l'):=Am.mask1 (T1.s1.trans s4) nl'
  have el4:H4 l'=some (.lst (vs'++vs).reverse):=by
   rcases hl4 with ⟨e,e'⟩ | ⟨_,e⟩
   ·rw[e,e',s4 _ _ T1.lst];rfl
   ·rw[e,List.reverse_append]
  have hb2:b<=b+101:=by omega
  have hbt:b+101+bt (pushS w' ix n1 sd s'++st)+3200 * k<=200000:=by
   rw[lV]
   have:bt (pushS w' ix n1 sd s')=0:=by cases s'<;>rfl
   omega
  have hbd:Bd (b+101) (EZ n1 s') (FW n1 sd s'):=by
   cases s' with
   | sm s=>exact T1.bd.step T1.lo oks
   | onw=>exact T1.bd.mono hb2
   | ask y=>exact T1.bd.mono hb2
   | tri y z=>exact T1.bd.mono hb2
  refine hfin (mask1 H4 l') l' sl' (vs'++vs) (pushS w' ix n1 sd s'++st) _ k _ (b+101) _ _ H4 ⟨T1.s0.trans sM,Hz,Iz _ _,el4,Pp hp4 (Ji sM T1.its),Cf es4 ns4,hbd,?_,by have:=T1.lo;omega,hbt,?_,?_⟩ hden ?_
  ·intro n' sd' o h
   rcases JO.mp h with h | h
   ·cases s' with
    | sm s=>exact nomatch h
    | onw=>exact absurd (IT.mp h) (λz=>nomatch z)
    | ask y=>exact absurd (IT.mp h) (λz=>nomatch z)
    | tri y z=>
     rcases IQ.mp h with h | h
     ·cases h
     ·cases IT.mp h
      exact T1.bd.mono hb2
   ·exact(T1.bk n' sd' o h).mono hb2
  ·intro w2 pl h
   rcases JO.mp h with h | h
   ·cases s' with
    | sm s=>exact nomatch h
    | onw=>
     cases IT.mp h
     omega
    | ask y=>
     cases IT.mp h
     exact KI _
    | tri y z=>
     rcases IQ.mp h with h | h
     ·cases h
      exact KI _
     ·exact absurd (IT.mp h) (λz=>nomatch z)
   ·exact T1.pe w2 pl h
  ·intro s2 w2 ix2 h
   rcases JO.mp h with h | h
   ·cases s' with
    | sm s=>exact nomatch h
    | onw=>exact absurd (IT.mp h) (λz=>nomatch z)
    | ask y=>exact absurd (IT.mp h) (λz=>nomatch z)
    | tri y z=>
     rcases IQ.mp h with h | h
     ·cases h
     ·exact absurd (IT.mp h) (λz=>nomatch z)
   ·exact T1.pd s2 w2 ix2 h
  ·rw[oB]
   cases s' with
   | sm s=>show 1000 * k+(0+wt st) < 1000 * k+(1+wt st);omega
   | onw=>show 1000 * k+(1+wt st) < 1000 * k+(2+wt st);omega
   | ask y=>show 1000 * k+(1+wt st) < 1000 * k+(2+wt st);omega
   | tri y z=>show 1000 * k+(3+wt st) < 1000 * k+(4+wt st);omega
 | en w' pl=>
  obtain⟨a,rfl,ha⟩:=hi
  have haH:=T1.s1 _ _ ha
  have hpl:=pee w' pl (JM ..)
  have sK:=T1.s0.trans T1.s1
  have KN3:=KN.same sK
  have hra3:=sK _ _ hra
  refine⟨_,rfl,a,_,_,_,rfl,rfl,Cc.of haH,at0 _ _,rfl,_,rfl,Hk (by decide +kernel) ?_⟩
  refine⟨_,rfl,a,_,_,_,rfl,rfl,Cc.of haH,at0 _ _,rfl,_,rfl,Rz ?_⟩
  refine⟨_,rfl,_,rfl,_,rfl,a,_,_,_,rfl,rfl,Cc.of haH,at1 _ _ _,_,rfl,a,_,_,_,rfl,rfl,Cc.of haH,at2 _ _ _ _,?_⟩
  refine⟨ka,ra,kvs,rs,B,w',pl,rfl,KN3.dc,hra3,hrl,by omega,λy hy=>KN3.no y hy w',λH4 s4=>⟨λix body hf=>?_,λhf=>?_⟩⟩
  ·-- found
   obtain⟨i1,i2,y,hy,hby⟩:=Up hf
   rw[LP] at i2
   obtain⟨hok,h30⟩:=KN.ok y (NP (IY hy)) w' body hby
   refine⟨_,_,rfl,rfl,_,rfl,Br (λ_=>?_) (λcc=>absurd (decide_eq_true (show (0:Int)<=(ix:Int) by omega)) cc)⟩
   refine⟨_,rfl,rfl,_,rfl,Br (λck=>?_) (λck=>?_)⟩
   ·have hk0:(k:Int)=0:=V.int.inj (of_decide_eq_true ck)
    obtain rfl:k=0:=by omega
    refine⟨by show 1<=IK;exact z1,λr hr'=>?_⟩
    have s5:=Af hr' (.tup [.str "spent"])
    refine g r _ (sK.trans (s4.trans s5)) ?_
    rw[<- hden,vQ hf]
    exact Aa
   ·obtain⟨k',rfl⟩:∃k',k=k'+1:=by
     cases k with
     | zero=>exact absurd (decide_eq_true rfl) ck
     | succ k'=>exact⟨k',rfl⟩
    rw[vL hf] at hden
    have ek:((k'+1:Nat):Int)-1=(k':Int):=by omega
    refine⟨_,rfl,_,_,rfl,rfl,?_⟩
    refine⟨_,rfl,_,rfl,_,rfl,_,rfl,?_⟩
    refine⟨ka,ra,a,l,kvs,rs,B,w',pl,ix,body,vs.reverse,rfl,KN3.same s4,s4 _ _ hra3,hrl,by omega,s4 _ _ haH,hf,s4 _ _ T1.lst,by rw[LL];exact hl1,λl' us H5 hl' s5 el' hp'=>?_⟩
    have nl':M l'=none:=T1.s1.free (s4.free hl')
    have sM:Am M (mask1 H5 l'):=Am.mask1 (T1.s1.trans (s4.trans s5)) nl'
    have z:=hfin (mask1 H5 l') l' sl (us++vs) (body.map (λs=>Tk.do_ s w' ix)++st) n1 k' sd b (some (.ref a)) v8 H5 ⟨T1.s0.trans sM,Hz,Iz _ _,by rw[el',List.reverse_append],Pp hp' (Ji sM T1.its),sM _ _ T1.sd_,T1.bd,?_,T1.lo,?_,?_,?_⟩ hden ?_
    ·rw[<- ek] at z
     exact z
    ·intro n' sd' o h
     rcases JO.mp h with h | h
     ·obtain⟨s2,_,h⟩:=KZ.mp h
      cases h
     ·exact T1.bk n' sd' o h
    ·rw[lV,oX]
     have hib':b+(0+bt st)+3200 * (k'+1)<=200000:=hib
     omega
    ·intro w2 pl2 h
     rcases JO.mp h with h | h
     ·obtain⟨s2,_,h⟩:=KZ.mp h
      cases h
     ·exact T1.pe w2 pl2 h
    ·intro s2 w2 ix2 h
     rcases JO.mp h with h | h
     ·obtain⟨s3,_,h⟩:=KZ.mp h
      cases h
      omega
     ·exact T1.pd s2 w2 ix2 h
    ·rw[oB]
     have:=qA w' ix body
     show 1000 * k'+(wt (body.map λs=>Tk.do_ s w' ix)+wt st) < 1000 * (k'+1)+(1+wt st)
     omega
  ·-- not found
   rw[rW hf] at hden
   refine⟨_,_,rfl,rfl,_,rfl,Br (λcc=>absurd (of_decide_eq_true cc) (by decide)) (λ_=>?_)⟩
   refine⟨_,rfl,M,l,vs,st,rfl,T1.s1.trans s4,s4 _ _ T1.lst,T1.its,hl1,λl' us' H5 hl' s5 el' hp'=>?_⟩
   have hvl':=NK hp'
   have nl':M l'=none:=T1.s1.free (s4.free hl')
   have sA:=T1.s1.trans (s4.trans s5)
   rw[<- Uz] at hden
   have fw:=Zd st
   have fb:=Yy st
   rcases bX st with hf0 | ⟨n',sd',o,u,hf0⟩
   ·rw[hf0] at hp' hden
    cases hp' with
    | nil=>
    refine⟨_,rfl,!(([]:List V).reverse).isEmpty,.inl ⟨_,Av.of el',rfl⟩,He ?_⟩
    refine⟨by show 1<=IK;exact z1,λr hr'=>?_⟩
    have s6:=Af hr' (.tup [.str "unanswered"])
    refine g r _ (T1.s0.trans (sA.trans s6)) ?_
    rw[<- hden,unw]
    exact Aa
   ·rw[hf0] at hp' hden fw fb
    have bks:=T1.bk n' sd' o (Oh (by rw[hf0];exact JM ..))
    have inu:∀ {j:Tk},j∈u->j∈st:=λ{j} h=>Oh (by rw[hf0];exact JC _ h)
    rw[Vn] at hden
    rw[Ju] at fw
    rw[Kf] at fb
    cases us' with
    | nil=>cases hp'
    | cons v1 us1=>
    cases hp' with
    | cons hv1 hp1=>
    obtain⟨a1,lb,rfl,ha1,hb1⟩:=hv1
    have ha5:=sA _ _ ha1
    obtain⟨r3,r4⟩:=Ph (.ref a1) us1
    refine⟨_,rfl,!((V.ref a1::us1).reverse).isEmpty,.inl ⟨_,Av.of el',rfl⟩,?_⟩
    have hne:(!((V.ref a1::us1).reverse).isEmpty)=true:=by rw[NE];simp
    rw[hne]
    refine Di ?_
    refine⟨_,rfl,.inl ⟨rfl,_,Av.of el'⟩,l',_,_,rfl,rfl,el',r3,?_⟩
    rw[r4]
    have ne1:a1≠l':=Ah ha1 nl'
    have ha6:(upd H5 l' (.lst us1.reverse)) a1=some (.tup [.str "back", .int n',.ref lb,.str o]):=by rw[Ai ne1];exact ha5
    have e6:(upd H5 l' (.lst us1.reverse)) l'=some (.lst us1.reverse):=Aa
    have s6:Am M (upd H5 l' (.lst us1.reverse)):=λc o e=>by rw[Ai (Ah e nl')];exact sA _ _ e
    generalize upd H5 l' (.lst us1.reverse)=H6 at *
    refine⟨_,rfl,a1,_,_,_,rfl,rfl,Cc.of ha6,at1 _ _ _,?_⟩
    refine⟨_,rfl,a1,_,_,_,rfl,rfl,Cc.of ha6,at2 _ _ _ _,?_⟩
    refine⟨_,rfl,.inl ⟨rfl,_,Av.of e6⟩,_,rfl,a1,_,_,_,rfl,rfl,Cc.of ha6,HC _ _ _ _ _,by show 3<=IK;exact z3,λtn htn=>?_⟩
    have s7:=Af htn (.tup [.str "enter", .str o,.int 0])
    refine⟨l',_,_,rfl,rfl,s7 _ _ e6,by rw[LL,JB];have:=NK hp1;have:=Uy u;omega,?_⟩
    have nt:tn≠l':=λz=>by rw[z,e6] at htn;cases htn
    have hMt:M tn=none:=s6.free htn
    have sU:=Af hMt (.tup [.str "enter", .str o,.int 0])
    refine hfin (upd M tn (.tup [.str "enter", .str o,.int 0])) l' lb (.ref tn::us1) (.en o 0::u) n' k sd' b _ _ _ ⟨T1.s0.trans sU,?_,by rw[Ai (KO nt)];exact nl',by rw[Aa,NE],.cons ⟨tn,rfl,Aa⟩ (Ji sU hp1),sU _ _ hb1,bks,?_,T1.lo,?_,?_,?_⟩ hden ?_
    ·intro c o' e
     by_cases hc':c=tn
     ·subst hc'
      rw[Aa] at e
      cases e
      rw[Ai nt]
      exact Aa
     ·rw[Ai hc'] at e
      have:c≠l':=Ah e nl'
      rw[Ai this]
      exact s7 _ _ (s6 _ _ e)
    ·intro n2 sd2 o2 h
     rcases IQ.mp h with h | h
     ·cases h
     ·exact T1.bk n2 sd2 o2 (inu h)
    ·rw[Kf]
     have hib':b+(0+bt st)+3200 * k<=200000:=hib
     show b+(0+bt u)+3200 * k<=200000
     omega
    ·intro w2 pl2 h
     rcases IQ.mp h with h | h
     ·cases h
      exact KI _
     ·exact T1.pe w2 pl2 (inu h)
    ·intro s2 w2 ix2 h
     rcases IQ.mp h with h | h
     ·cases h
     ·exact T1.pd s2 w2 ix2 (inu h)
    ·rw[Ju]
     have:2+wt u<=wt st:=fw
     show 1000 * k+(1+wt u) < 1000 * k+(1+wt st)
     omega
end
section
variable (CA CT CB CH CU CS:IN)
def Qf(m:Nat):Sp:=λvs H Q E=>∃(M:Hp)(q dx p d ra tq dt sa:IN)(L:List Ent)(rs:List Str)(B:Dg)(w:Str)(pl:Nat)(n:Int)(k:Nat)(sd:List Int)(b:Nat),
 vs=[.ref q,.str w,.int (pl:Int),.int n]/\Vv CA CB CH M q dx tq p d ra L rs B/\Rb M H CT tq dt sa k sd/\k < m/\pl<=2000/\Fits b n k sd/\Ts M CT CU CS tq dt Q E (Ek B rs m w pl n k sd)
def wB(m:Nat):Sp:=λvs H Q E=>∃(M:Hp)(q dx p d ra tq dt sa:IN)(L:List Ent)(rs:List Str)(B:Dg)(y z:Str)(n:Int)(k:Nat)(sd:List Int)(b:Nat),
 vs=[.ref q,.str y,.str z,.int n]/\Vv CA CB CH M q dx tq p d ra L rs B/\Rb M H CT tq dt sa k sd/\k < m/\Fits b n k sd/\Ts M CT CU CS tq dt Q E (Nk (Ek B rs m) y z n k sd)
def wW(m:Nat):Sp:=λvs H Q E=>∃(M:Hp)(q dx p d ra tq dt sa t:IN)(L:List Ent)(rs:List Str)(B:Dg)(w:Str)(ix:Nat)(n:Int)(k:Nat)(sd:List Int)(b:Nat)(s:Eg),
 vs=[.ref q,.ref t,.str w,.int (ix:Int),.int n]/\Vv CA CB CH M q dx tq p d ra L rs B/\Rb M H CT tq dt sa k sd/\M t=some (.tup (.str s.pr.1::s.pr.2))/\jM s/\k < m/\ix < 2000/\Fits b n k sd/\Ts M CT CU CS tq dt Q E (stepS (Ek B rs m) w ix n k sd s)
def wU(m:Nat):Sp:=λvs H Q E=>∃(M:Hp)(q dx p d ra tq dt sa l:IN)(L:List Ent)(rs:List Str)(B:Dg)(w:Str)(ix:Nat)(n:Int)(k:Nat)(sd:List Int)(b:Nat)(ts:List IN)(ss:List Eg),
 vs=[.ref q,.ref l,.str w,.int (ix:Int),.int n]/\Vv CA CB CH M q dx tq p d ra L rs B/\Rb M H CT tq dt sa k sd/\M l=some (.lst (ts.map V.ref))/\Df M ts (ss.map Eg.pr)/\(∀s∈ss,jM s)/\ss.length<=30/\k<=m/\ix < 2000/\Fits b n k sd/\Ts M CT CU CS tq dt Q E (inS (Ek B rs m) w n k sd ix ss)
end
theorem nV{s:Sm}(h:AG s){x:Str}(hx:x∉(("say" : Str)::Kz)):s.pr.1≠x:=λz=>hx (z ▸ (by
 cases s with
 | say=>exact JM
 | op kd a=>exact JC _ (gJ.mem h)))
section
variable {P:JJ} {w:KL} {K:IG} {mg:Str->Option II} {base:LO} {f fR fB fE fO fC fI fQ fT fN CA CT CB CH CU CS:IN} {fd dR dB dE dO dC dI dQ dT dN:JW} {bU bS:List II}
theorem hU:Ap ["self","step","word","index","number"] ["self","step","word","index","number"] (Ae Nr):=Fv (by decide +kernel)
theorem xT{m:Nat}(F:Dp K "behind" "Asking.behind" Nr f fd)(T:Wt K mg CA)(TT:Vg K mg CT)(GR:Aj P w K mg base Bh 2 fR dR ["step","number","said"] Vc)(kR:IR K (.ref fR)=true)(bR:Binds K dR ["step","number","said"] [])(mR:mg "reckoned" = some (.ref fR))(GQ:Aj P w K mg base (Hc P w) (4 * m+3) fQ dQ ["self","word","place","number"] (Qf CA CT CB CH CU CS m))(bQ:Binds K dQ ["self","word","place","number"] [])(mQ:Cr K CA "asked" fQ)(GT:Aj P w K mg base (Hc P w) (4 * m+4) fT dT ["self","word","other","number"] (wB CA CT CB CH CU CS m))(bT:Binds K dT ["self","word","other","number"] [])(mT:Cr K CA "tried" fT):
 Aj P w K mg base (Hc P w) (4 * m+5) f fd ["self","step","word","index","number"] (wW CA CT CB CH CU CS m):=by
 refine F.okX hU (λvs H Q E h=>?_) (λcdv A outer s H vs Q E hr h=>?_)
 ·obtain⟨M,q,dx,p,d,ra,tq,dt,sa,t,L,rs,B,w,ix,n,k,sd,b,s,rfl,_⟩:=h
  rfl
 obtain⟨M,q,dx,p,d,ra,tq,dt,sa,t,L,rs,B,w,ix,n,k,sd,b,s,rfl,U,C,ht,ok,hk,hix,ft,g⟩:=h
 have hr2:=hr.mono (j:=2) (by omega)
 have hr3:=hr.mono (j:=4 * m+3) (by omega)
 refine⟨_,Ac (Ax (Ao Bp (Aq Au (pv 1) Ad (λ_ _=>rfl)) Ar (As _)) (Ag (An (Ez (pv 0) T.cl mQ GQ hr3 bQ .nil (Ge (pv 2) (Ak Bv (pv 3) Ad) (pv 4))))) Al)
  (Ac (Ax (Ao Bp (Aq Au (pv 1) Ad (λ_ _=>rfl)) Ar (As _)) (Ag (An (Ez (pv 0) T.cl mQ GQ hr3 bQ .nil (Ge (Aq Au (pv 1) Ad (λ_ _=>rfl)) Ad (pv 4))))) Al)
  (Ac (Ax (Ao Bp (Aq Au (pv 1) Ad (λ_ _=>rfl)) Ar (As _)) (Ag (An (Ez (pv 0) T.cl mT GT hr bT .nil (Ge (Aq Au (pv 1) Ad (λ_ _=>rfl)) (Aq Au (pv 1) Ad (λ_ _=>rfl)) (pv 4))))) Al)
  (Ag (An (Ck GR hr2 mR kR bR (Ge (pv 1) (pv 4) (Cp (Cp (pv 0) rfl) rfl))))))),?_⟩
 have at0:Hx (V.str s.pr.1::s.pr.2) 0=some (.str s.pr.1):=Ba (j:=0) rfl
 have htH:=C.same _ _ ht
 refine⟨_,rfl,t,_,_,_,rfl,rfl,Cc.of htH,at0,rfl,_,rfl,Br (λc=>?_) (λc1=>?_)⟩
 ·have hs:s=.onw:=by
   cases s with
   | sm s=>exact absurd (Cb c) (nV ok (by decide +kernel))
   | onw=>rfl
   | ask w=>exact absurd (Cb c) (show ¬ ("ask" : Str) = "onwards" by decide +kernel)
   | tri w o=>exact absurd (Cb c) (show ¬ ("try" : Str) = "onwards" by decide +kernel)
  subst hs
  have e1:(ix:Int)+1=((ix+1:Nat):Int):=by omega
  refine⟨_,rfl,q,dx,_,rfl,C.same _ _ U.ob,Nh (by decide +kernel),_,rfl,_,rfl,_,_,rfl,rfl,_,rfl,?_⟩
  exact⟨M,q,dx,p,d,ra,tq,dt,sa,L,rs,B,w,ix+1,n,k,sd,b,by rw[<- e1];rfl,U,C,hk,by omega,ft,g⟩
 refine⟨_,rfl,t,_,_,_,rfl,rfl,Cc.of htH,at0,rfl,_,rfl,Br (λc=>?_) (λc2=>?_)⟩
 ·obtain⟨y,rfl⟩:∃y,s=.ask y:=by
   cases s with
   | sm s=>exact absurd (Cb c) (nV ok (by decide +kernel))
   | onw=>exact absurd (Cb c) (by decide +kernel)
   | ask w=>exact⟨w,rfl⟩
   | tri w o=>exact absurd (Cb c) (show ¬ ("try" : Str) = "ask" by decide +kernel)
  have at1:Hx [V.str "ask", V.str y] 1=some (.str y):=Ba (j:=1) rfl
  refine⟨_,rfl,q,dx,_,rfl,C.same _ _ U.ob,Nh (by decide +kernel),_,rfl,t,_,_,_,rfl,rfl,Cc.of htH,at1,_,rfl,?_⟩
  exact⟨M,q,dx,p,d,ra,tq,dt,sa,L,rs,B,y,0,n,k,sd,b,rfl,U,C,hk,by omega,ft,g⟩
 refine⟨_,rfl,t,_,_,_,rfl,rfl,Cc.of htH,at0,rfl,_,rfl,Br (λc=>?_) (λc3=>?_)⟩
 ·obtain⟨y,z,rfl⟩:∃y z,s=.tri y z:=by
   cases s with
   | sm s=>exact absurd (Cb c) (nV ok (by decide +kernel))
   | onw=>exact absurd (Cb c) (by decide +kernel)
   | ask w=>exact absurd (Cb c) (show ¬ ("ask" : Str) = "try" by decide +kernel)
   | tri w o=>exact⟨w,o,rfl⟩
  have at1:Hx [V.str "try", V.str y,V.str z] 1=some (.str y):=Ba (j:=1) rfl
  have at2:Hx [V.str "try", V.str y,V.str z] 2=some (.str z):=Ba (j:=2) rfl
  refine⟨_,rfl,q,dx,_,rfl,C.same _ _ U.ob,Nh (by decide +kernel),_,rfl,t,_,_,_,rfl,rfl,Cc.of htH,at1,_,rfl,t,_,_,_,rfl,rfl,Cc.of htH,at2,_,rfl,?_⟩
  exact⟨M,q,dx,p,d,ra,tq,dt,sa,L,rs,B,y,z,n,k,sd,b,rfl,U,C,hk,ft,g⟩
 obtain⟨s',rfl⟩:∃s',s=.sm s':=by
  cases s with
  | sm s=>exact⟨s,rfl⟩
  | onw=>exact absurd rfl (Ct c1)
  | ask w=>exact absurd rfl (Ct c2)
  | tri w o=>exact absurd rfl (Ct c3)
 have f2:=ft.hi
 have f3:=ft.len
 refine⟨_,rfl,_,rfl,_,rfl,q,CA,dx,_,_,rfl,C.same _ _ U.ob,T.cl,T.nTally,Jr _ _ _,tq,CT,dt,_,_,rfl,C.hq,TT.cl,TT.nSaid,Nq _ _,t,sa,n,s',sd,b,rfl,htH,ok,ft.ab,by omega,C.hs,by omega,λH' h1 h2=>?_⟩
 exact g H' sa (C.upd h1 h2)
theorem gB:Ap ["self","word","other","number","said_before"] ["self","word","other","number"] (Ae Ox):=Fv (by decide +kernel)
theorem zO{m:Nat}(F:Dp K "tried" "Asking.tried" Ox f fd)(T:Wt K mg CA)(TT:Vg K mg CT)(Tx:Txt mg)(X:cS K mg CU CS bU bS)(GQ:Aj P w K mg base (Hc P w) (4 * m+3) fQ dQ ["self","word","place","number"] (Qf CA CT CB CH CU CS m))(bQ:Binds K dQ ["self","word","place","number"] [])(mQ:Cr K CA "asked" fQ)(GN:Sb P w K mg base 1 fN dN ["self","length"] (Ti CT))(bN:Binds K dN ["self","length"] [])(mN:Cr K CT "take_back" fN):
 Aj P w K mg base (Hc P w) (4 * m+4) f fd ["self","word","other","number"] (wB CA CT CB CH CU CS m):=by
 refine F.okX gB (λvs H Q E h=>?_) (λcdv A outer s H vs Q E hr h=>?_)
 ·obtain⟨M,q,dx,p,d,ra,tq,dt,sa,L,rs,B,y,z,n,k,sd,b,rfl,_⟩:=h
  rfl
 obtain⟨M,q,dx,p,d,ra,tq,dt,sa,L,rs,B,y,z,n,k,sd,b,rfl,U,C,hk,ft,g⟩:=h
 have hr1:=hr.mono (j:=1) (by omega)
 refine⟨_,Ac (Bj 4 gB.nd (Cg Tx.len (Cp (Cp (pv 0) rfl) rfl)))
  (Ac (Zl (X:=Em (Hc P w) P w K mg base ["self","word","other","number","said_before"] "Asking.tried" (Ae Ox) f cdv A outer s H E) (EX:=λ_=>E) Ks (λ_ _ h=>h) (λpn EX1=>Ag (An (Ez (pv 0) T.cl mQ GQ hr bQ .nil (Ge (pv 1) Ad (pv 3)))))
   (λpn=>Pw (K:=K) rfl X.mgU (λx oe=>Ag (Ca (nZ (vB (K:=K) (pv 0) rfl) TT.cl mN GN (hr1.caught _) bN .nil (Dc (pv 4))))) (cA ⟨rfl,rfl,rfl⟩)))
  (Ag (An (Ez (pv 0) T.cl mQ GQ hr bQ .nil (Ge (pv 2) Ad (pv 3)))))),?_⟩
 have hgo:=Lu U.ok m y 0 n k sd b ft.ab ft.lo
 unfold Nk at g
 refine⟨_,rfl,q,CA,dx,_,_,rfl,C.same _ _ U.ob,T.cl,T.nTally,Jr _ _ _,tq,CT,dt,_,_,rfl,C.hq,TT.cl,TT.nSaid,Nq _ _,sa,_,rfl,.inl (Av.of C.hs),?_⟩
 refine⟨_,rfl,q,dx,_,rfl,C.same _ _ U.ob,Nh (by decide +kernel),_,rfl,_,rfl,?_⟩
 refine⟨M,q,dx,p,d,ra,tq,dt,sa,L,rs,B,y,0,n,k,sd,b,rfl,U,C,hk,by omega,ft,?_⟩
 cases e:Ek B rs m y 0 n k sd with
 | ok a c t=>
  rw[e] at g
  exact g
 | spent=>
  rw[e] at g
  exact λH' hs=>⟨false,X.su,Di (g H' hs)⟩
 | una k' sd'=>
  rw[e] at g hgo
  obtain⟨hk',t,rfl,_⟩:=hgo
  intro H' sa' C'
  refine⟨true,X.uu,He ?_⟩
  refine⟨_,rfl,q,CA,dx,_,_,rfl,C'.same _ _ U.ob,T.cl,T.nTally,Jr _ _ _,tq,dt,_,rfl,C'.hq,wC (by decide +kernel),_,rfl,?_⟩
  refine⟨M,tq,dt,sa',k',sd,t,by rw[Ke];rfl,C',λH2 sb C2=>?_⟩
  refine⟨_,rfl,q,dx,_,rfl,C2.same _ _ U.ob,Nh (by decide +kernel),_,rfl,_,rfl,?_⟩
  have f1:=ft.hi
  have f2:=ft.len
  exact⟨M,q,dx,p,d,ra,tq,dt,sb,L,rs,B,z,0,n,k',sd,b,rfl,U,C2,by omega,by omega,⟨ft.ab,ft.lo,by omega,by omega⟩,g⟩
theorem Ky:Ap ["self","body","word","index","number","step"] ["self","body","word","index","number"] (Ae Li):=Fv (by decide +kernel)
theorem zP{m:Nat}(F:Dp K "entered" "Asking.entered" Li f fd)(T:Wt K mg CA)(TT:Vg K mg CT)(X:cS K mg CU CS bU bS)(GB:Aj P w K mg base (Hc P w) (4 * m+5) fB dB ["self","step","word","index","number"] (wW CA CT CB CH CU CS m))(bB:Binds K dB ["self","step","word","index","number"] [])(mB:Cr K CA "behind" fB)(GT:Aj P w K mg base (Hc P w) 1 fT dT ["self"] (Oi CT CS))(bT:Binds K dT ["self"] [])(mT:Cr K CT "enter" fT):
 Aj P w K mg base (Hc P w) (4 * m+6) f fd ["self","body","word","index","number"] (wU CA CT CB CH CU CS m):=by
 refine F.okX Ky (λvs H Q E h=>?_) (λcdv A outer s H vs Q E hr h=>?_)
 ·obtain⟨M,q,dx,p,d,ra,tq,dt,sa,l,L,rs,B,w,ix,n,k,sd,b,ts,ss,rfl,_⟩:=h
  rfl
 obtain⟨M,q,dx,p,d,ra,tq,dt,sa,l,L,rs,B,w,ix,n,k,sd,b,ts,ss,rfl,U,C,hl,hst,hok,h30,hk,hix,ft,g⟩:=h
 have hr1:=hr.mono (j:=1) (by omega)
 refine⟨_,Ac (Ca (jI (Cp (pv 0) rfl) TT.cl mT GT hr1 bT .nil))
  (Ac (Eb (Wx.passesOwn Ks) rfl (De (pv 1)) (Cq 5 Ky.nd)
   (Ag (Bj 4 Ky.nd (Ez (pv 0) T.cl mB GB hr bB .nil (Qz (pv 5) (pv 2) (pv 3) (pv 4))))))
  (Ag (An (pv 4)))),?_⟩
 refine⟨_,rfl,q,CA,dx,_,_,rfl,C.same _ _ U.ob,T.cl,T.nTally,Jr _ _ _,tq,dt,_,rfl,C.hq,wC (by decide +kernel),?_⟩
 refine⟨M,tq,dt,sa,k,sd,rfl,C,λhk0=>?_,λk' hk' H1 C1=>?_⟩
 ·subst hk0
  exact g
 subst hk'
 replace g:Ts M CT CU CS tq dt Q E (Dw (Ek B rs m) w ix ss n k' sd):=g
 have f1:=ft.hi
 have f2:=ft.len
 have f3:=ft.lo
 refine⟨_,rfl,l,rfl,⟨_,Av.of (C1.same _ _ hl)⟩,Fe (K:=K) (a:=l) (xs:=ts.map V.ref) (λi σ H2=>∃(v5:Option V)(n1:Int)(k1:Nat)(sd1:List Int)(sa1:IN),σ=[some (.ref q),some (.ref l),some (.str w),some (.int (ix:Int)),some (.int n1),v5]/\Rb M H2 CT tq dt sa1 k1 sd1/\k1<=k'/\Ab (b+101 * i+3200 * (k'-k1)) n1/\sd1.length<=sd.length+i+31 * (k'-k1)/\Dw (Ek B rs m) w ix (ss.drop i) n1 k1 sd1=Dw (Ek B rs m) w ix ss n k' sd)
  ⟨none,n,k',sd,sa,rfl,C1,IP _,ft.ab.mono (by omega),by omega,rfl⟩ (λi σ H2 _ ⟨_,_,_,_,_,_,C2,_⟩=>Av.of (C2.same _ _ hl)) ?_ ?_⟩
 ·rintro i v σ H2 hi ⟨v5,n1,k1,sd1,sa1,rfl,C2,hk1,hab,hsl,hdr⟩
  obtain⟨t,ht,rfl⟩:=Ej hi
  have hil:i < ss.length:=by
   have:=(IH.mp ht).1
   rw[hst.1,IM] at this
   exact this
  have es:ss[i]? = some ss[i]:=IU hil
  have ep:(ss.map Eg.pr)[i]? = some (ss[i]).pr:=by rw[JU,es];rfl
  have et:=hst.2 i t _ ht ep
  have ok:=hok _ (LQ hil)
  have edr:ss.drop i=ss[i]::ss.drop (i+1):=KY hil
  rw[edr] at hdr
  generalize ss[i]=s at *
  have hsg:=Sj (Lu U.ok m) (w:=w) (ix:=ix) (k:=k1) (sd:=sd1) ok hab (by omega)
  have hdr2:(match stepS (Ek B rs m) w ix n1 k1 sd1 s with
   | .ok n' k' sd'=>Dw (Ek B rs m) w ix (ss.drop (i+1)) n' k' sd'
   | .una k' sd'=>.una k' sd'
   | .spent=>.spent)=Dw (Ek B rs m) w ix ss n k' sd:=hdr
  refine⟨_,rfl,q,dx,_,rfl,C2.same _ _ U.ob,Nh (by decide +kernel),_,rfl,_,rfl,_,rfl,_,rfl,?_⟩
  refine⟨M,q,dx,p,d,ra,tq,dt,sa1,t,L,rs,B,w,ix,n1,k1,sd1,_,s,rfl,U,C2,et,ok,by omega,hix,⟨hab,by omega,by omega,by omega⟩,?_⟩
  cases e:stepS (Ek B rs m) w ix n1 k1 sd1 s with
  | ok n2 k2 sd2=>
   rw[e] at hsg hdr2
   obtain⟨g1,g2,t2,rfl,g4⟩:=hsg
   intro H3 sa3 C3
   exact⟨_,n2,k2,_,sa3,rfl,C3,by omega,g2.mono (by omega),by rw[IV];omega,hdr2⟩
  | una k2 sd2=>
   rw[e] at hdr2
   rw[<- hdr2] at g
   exact g
  | spent=>
   rw[e] at hdr2
   rw[<- hdr2] at g
   exact g
 ·rintro σ H2 ⟨v5,n1,k1,sd1,sa1,rfl,C2,hk1,hab,hsl,hdr⟩
  have el:(ts.map V.ref).length=ss.length:=by rw[IM,hst.1,IM]
  rw[el,List.drop_length] at hdr
  rw[<- hdr] at g
  exact⟨_,rfl,g H2 sa1 C2⟩
theorem Ts.mono{M M2:Hp}{tq dt:IN}{Q:VK}{E:XK}{r:Res}(h:Ts M CT CU CS tq dt Q E r)(s:Am M M2):Ts M2 CT CU CS tq dt Q E r:=by
 have cm:∀ {H':Hp} {sa:IN} {k:Nat} {sd:List Int},Rb M2 H' CT tq dt sa k sd->Rb M H' CT tq dt sa k sd:=λC=>⟨s.trans C.same,s.free C.mq,s.free C.ms,C.hq,C.hs⟩
 cases r with
 | ok n k sd=>exact λH' sa C=>h H' sa (cm C)
 | una k sd=>exact λH' sa C=>h H' sa (cm C)
 | spent=>exact λH' hs=>h H' (s.trans hs)
theorem cG{B:Dg}{w:Str}{i:Nat}{y:Str}{ys:List Str}:findF B w i (y::ys)=match B y w with | some b=>some (i,b) | none=>findF B w (i+1) ys:=rfl
theorem Lw:Ap ["self","word","place","number","index","body"] ["self","word","place","number"] (Ae Qo):=Fv (by decide +kernel)
theorem xA{m:Nat}(F:Dp K "asked" "Asking.asked" Qo f fd)(T:Wt K mg CA)(TB:Fo K mg CB CH)(Tx:Txt mg)(X:cS K mg CU CS bU bS)(GE:Aj P w K mg base (Hc P w) (4 * m+6) fE dE ["self","body","word","index","number"] (wU CA CT CB CH CU CS m))(bE:Binds K dE ["self","body","word","index","number"] [])(mE:Cr K CA "entered" fE)(GB:Aj P w K mg base Bh 2 fB dB ["self","name","word"] (Uw CB CH))(bB:Binds K dB ["self","name","word"] [])(mB:Cr K CB "body" fB):Aj P w K mg base (Hc P w) (4 * (m+1)+3) f fd ["self","word","place","number"] (Qf CA CT CB CH CU CS (m+1)):=by
 refine F.okX Lw (λvs H Q E h=>?_) (λcdv A outer s H vs Q E hr h=>?_)
 ·obtain⟨M,q,dx,p,d,ra,tq,dt,sa,L,rs,B,w,pl,n,k,sd,b,rfl,_⟩:=h
  rfl
 obtain⟨M,q,dx,p,d,ra,tq,dt,sa,L,rs,B,w,pl,n,k,sd,b,rfl,U,C,hk,hpl,ft,g⟩:=h
 have hr2:=hr.mono (j:=2) (by omega)
 obtain⟨bx,hp⟩:=U.bk.ob
 refine⟨_,Ac (Eb (Wx.passesOwn Ks) rfl (Rv rfl Tx.range (Ea (pv 2) (Cg Tx.len (Cp (pv 0) rfl)))) (Cq 4 Lw.nd)
  (Ac (Bj 5 Lw.nd (Dv (Cp (pv 0) rfl) TB.clB mB GB hr2 bB .nil Cw (Ea (Aq Bc (Cp (pv 0) rfl) (pv 4) (λ_ _=>rfl)) (pv 1))))
  (Ag (Ax (Fj (Uc (pv 5))) (Ag (An (Ez (pv 0) T.cl mE GE hr bE .nil (Qz (pv 5) (pv 1) (pv 4) (pv 3))))) Al))))
  (Ag (Wv rfl X.exU X.baU X.inU rfl X.mgU (Dc Ar))),?_⟩
 have hrow:=C.same _ _ U.row
 have hrl:=U.rl
 have hlen:((Az rs).length:Int)=(rs.length:Int):=by rw[Aw]
 refine⟨_,rfl,_,rfl,q,CA,dx,_,_,rfl,C.same _ _ U.ob,T.cl,T.nRow,nH _ _ _,ra,_,rfl,.inl (Av.of hrow),_,_,rfl,⟨by omega,by omega,by omega,by omega⟩,Gq (n:=(((Az rs).length:Int)-(pl:Int)).toNat) (λi σ H2=>∃v4 v5:Option V,σ=[some (.ref q),some (.str w),some (.int (pl:Int)),some (.int n),v4,v5]/\H2=H/\findF B w (pl+i) (rs.drop (pl+i))=findF B w pl (rs.drop pl)) ⟨none,none,rfl,rfl,rfl⟩ ?_ ?_⟩
 ·rintro i σ H2 hi ⟨v4,v5,rfl,rfl,hf⟩
  have hil:pl+i < rs.length:=by omega
  have e0:(pl:Int)+(i:Int)=((pl+i:Nat):Int):=by omega
  rw[e0]
  have edr:rs.drop (pl+i)=rs[pl+i]::rs.drop (pl+i+1):=KY hil
  have hy:=LQ hil
  have aty:Hx (Az rs) ((pl+i:Nat):Int)=some (.str rs[pl+i]):=Ba (Gb (IU hil))
  rw[edr,cG] at hf
  generalize rs[pl+i]=y at *
  obtain⟨e,he⟩:=U.hs y hy
  have hpH:=C.same _ _ hp
  refine⟨_,rfl,q,CA,dx,_,_,rfl,C.same _ _ U.ob,T.cl,T.nBook,sY _ _ _,p,bx,_,rfl,hpH,Fx d (by decide +kernel),?_⟩
  refine⟨_,rfl,q,CA,dx,_,_,rfl,C.same _ _ U.ob,T.cl,T.nRow,nH _ _ _,_,rfl,ra,_,_,_,rfl,rfl,Av.of hrow,aty,_,rfl,?_⟩
  cases hB:B y w with
  | none=>
   rw[hB] at hf
   refine⟨p,d,L,y,w,e,rfl,U.bk.same C.same,he,.inl ⟨U.no y hy e w he hB,?_⟩⟩
   exact⟨_,rfl,_,rfl,Di ⟨_,_,rfl,rfl,hf⟩⟩
  | some ss=>
   rw[hB] at hf
   obtain⟨la,ts,hv,hla,hst⟩:=U.yes y hy e w ss he hB
   obtain⟨o1,o2⟩:=U.ok y hy w ss hB
   refine⟨p,d,L,y,w,e,rfl,U.bk.same C.same,he,.inr ⟨la,_,hv,C.same _ _ hla,λl hl=>?_⟩⟩
   refine⟨_,rfl,_,rfl,He ?_⟩
   have s1:=Af hl (.lst (ts.map V.ref))
   have C1:Rb M (upd H2 l (.lst (ts.map V.ref))) CT tq dt sa k sd:=⟨C.same.trans s1,C.mq,C.ms,s1 _ _ C.hq,s1 _ _ C.hs⟩
   obtain⟨C2,s2⟩:=C1.masked
   have hlM:mask (upd H2 l (.lst (ts.map V.ref))) tq sa l=some (.lst (ts.map V.ref)):=Oj Aa (KO (Ah C.hq hl)) (KO (Ah C.hs hl))
   refine⟨_,rfl,q,dx,_,rfl,C1.same _ _ U.ob,Nh (by decide +kernel),_,rfl,_,rfl,_,rfl,_,rfl,?_⟩
   refine⟨_,q,dx,p,d,ra,tq,dt,sa,l,L,rs,B,w,pl+i,n,k,sd,b,ts,ss,rfl,U.same s2,C2,hlM,hst.same s2,o1,o2,by omega,by omega,ft,?_⟩
   refine Ts.mono ?_ s2
   have hg:Ek B rs (m+1) w pl n k sd=inS (Ek B rs m) w n k sd (pl+i) ss:=by
    show (match findF B w pl (rs.drop pl) with
     | none=>Res.una k sd
     | some (ix,body)=>inS (Ek B rs m) w n k sd ix body)=_
    rw[<- hf]
   rw[hg] at g
   exact g
 ·rintro σ H2 ⟨v4,v5,rfl,rfl,hf⟩
  have hd0:rs.drop (pl+(((Az rs).length:Int)-(pl:Int)).toNat)=[]:=MZ (by omega)
  rw[hd0] at hf
  have hg:Ek B rs (m+1) w pl n k sd=.una k sd:=by
   show (match findF B w pl (rs.drop pl) with
    | none=>Res.una k sd
    | some (ix,body)=>inS (Ek B rs m) w n k sd ix body)=_
   rw[<- hf]
   rfl
  rw[hg] at g
  exact⟨by show 1<=IK;decide,g H2 sa C⟩
theorem rQ(F:Dp K "asked" "Asking.asked" Qo f fd):Aj P w K mg base (Hc P w) 3 f fd ["self","word","place","number"] (Qf CA CT CB CH CU CS 0):=by
 refine F.okX (k:=2) Lw (λvs H Q E h=>?_) (λcdv A outer s H vs Q E hr h=>?_)
 ·obtain⟨M,q,dx,p,d,ra,tq,dt,sa,L,rs,B,w,pl,n,k,sd,b,rfl,_⟩:=h
  rfl
 obtain⟨M,q,dx,p,d,ra,tq,dt,sa,L,rs,B,w,pl,n,k,sd,b,rfl,U,C,hk,_⟩:=h
 omega
theorem eK(FQ:Dp K "asked" "Asking.asked" Qo fQ dQ)(bQ:Binds K dQ ["self","word","place","number"] [])(mQ:Cr K CA "asked" fQ)(FE:Dp K "entered" "Asking.entered" Li fE dE)(bE:Binds K dE ["self","body","word","index","number"] [])(mE:Cr K CA "entered" fE)(FB:Dp K "behind" "Asking.behind" Nr fB dB)(bB:Binds K dB ["self","step","word","index","number"] [])(mB:Cr K CA "behind" fB)(FT:Dp K "tried" "Asking.tried" Ox fT dT)(bT:Binds K dT ["self","word","other","number"] [])(mT:Cr K CA "tried" fT){fV:IN}{dV:JW}(GN:Sb P w K mg base 1 fN dN ["self","length"] (Ti CT))(bN:Binds K dN ["self","length"] [])(mN:Cr K CT "take_back" fN)(GV:Aj P w K mg base (Hc P w) 1 fV dV ["self"] (Oi CT CS))(bV:Binds K dV ["self"] [])(mV:Cr K CT "enter" fV)(T:Wt K mg CA)(TT:Vg K mg CT)(TB:Fo K mg CB CH)(Tx:Txt mg)(X:cS K mg CU CS bU bS)(GR:Aj P w K mg base Bh 2 fR dR ["step","number","said"] Vc)(kR:IR K (.ref fR)=true)(bR:Binds K dR ["step","number","said"] [])(mR:mg "reckoned" = some (.ref fR))(GY:Aj P w K mg base Bh 2 fC dC ["self","name","word"] (Uw CB CH))(bY:Binds K dC ["self","name","word"] [])(mY:Cr K CB "body" fC):∀m,Aj P w K mg base (Hc P w) (4 * m+3) fQ dQ ["self","word","place","number"] (Qf CA CT CB CH CU CS m)
 | 0=>rQ FQ
 | m+1=>by
  have GQ:=eK FQ bQ mQ FE bE mE FB bB mB FT bT mT GN bN mN GV bV mV T TT TB Tx X GR kR bR mR GY bY mY m
  have GT:=zO FT T TT Tx X GQ bQ mQ GN bN mN
  have GB:=xT FB T TT GR kR bR mR GQ bQ mQ GT bT mT
  have GE:=zP FE T TT X GB bB mB GV bV mV
  exact xA FQ T TB Tx X GE bE mE GY bY mY
end
end Bk
namespace Mg
section
variable {α:Type} [DecidableEq α]
def after(rs:List (List α))(xs:List α):List (List α):=xs.foldl (λrs x=>rs.map (Cs x)) rs
theorem Yw(rs:List (List α))(xs:List α)(x:α):after rs (xs++[x])=(after rs xs).map (Cs x):=by
 unfold after
 rw[List.foldl_append]
 rfl
def Good(rs:List (List α))(xs:List α):Prop:=∀i x,xs[i]? = some x->pick (cnt (after rs (xs.take i))) (after rs (xs.take i))=some x
theorem pT(rs:List (List α)):Good rs []:=λi x h=>by simp at h
theorem iM{rs:List (List α)}{xs:List α}{x:α}(g:Good rs xs)(h:pick (cnt (after rs xs)) (after rs xs)=some x):Good rs (xs++[x]):=λi y hy=>by
 by_cases hi:i < xs.length
 ·rw[KA hi] at hy
  rw[List.take_append_of_le_length (by omega)]
  exact g i y hy
 ·by_cases he:i=xs.length
  ·subst he
   rw[JY] at hy
   cases hy
   rw[List.take_append_of_le_length (IP _),List.take_length]
   exact h
  ·rw[List.getElem?_eq_none (by rw[IV,JH];omega)] at hy
   cases hy
theorem Mv{f:α->Nat}:∀ {rs:List (List α)},pick f rs=none->∀r∈rs,∀x t,r=x::t->f x≠0
 | [],_,r,hr,_,_,_=>nomatch hr
 | []::rs,h,r,hr,x,t,e=>by
  rcases IQ.mp hr with rfl | hr
  ·cases e
  ·exact Mv (rs:=rs) h r hr x t e
 | (y::u)::rs,h,r,hr,x,t,e=>by
  unfold pick at h
  by_cases hy:f y=0
  ·rw[if_pos hy] at h
   cases h
  ·rw[if_neg hy] at h
   rcases IQ.mp hr with rfl | hr
   ·cases e
    exact hy
   ·exact Mv (rs:=rs) h r hr x t e
theorem rF{rs:List (List α)}{x:α}:cnt rs x≠0 ↔ ∃r∈rs,x∈r.tail:=by
 constructor
 ·intro h
  by_cases q:∃r∈rs,x∈r.tail
  ·exact q
  ·exact absurd (Jo.mpr λr hr hx=>q ⟨r,hr,hx⟩) h
 ·rintro⟨r,hr,hx⟩ z
  exact Jo.mp z r hr hx
variable {β:Type}
def Sv(rs:List (List α))(ls:List β)(x:α×α×β):Prop:=∃(i:Nat)(r:List α),rs[i]? = some (x.1::r)/\x.2.1∈r/\ls[i]? = some x.2.2
structure Tr(rs:List (List α))(ls:List β)(ring:List (α×α×β)):Prop where
 lean:∀x∈ring,Sv rs ls x
 cyc:∃c T,ring.map (·.1)=c::T/\ring.map (·.2.1)=T++[c]/\(c::T).Nodup/\T≠[]
structure Way(rs:List (List α))(ls:List β)(path:List (α×α×β))(ns:List α)(c:α):Prop where
 lean:∀x∈path,Sv rs ls x
 fst:path.map (·.1)=(ns++[c]).tail
 snd:path.map (·.2.1)=ns
 nd:ns.Nodup
 hd:∀x∈ns++[c],∃r∈rs,∃t,r=x::t
theorem Way.step{rs:List (List α)}{ls:List β}{path:List (α×α×β)}{ns:List α}{c a:α}{l:β}(w:Way rs ls path ns c)(hc:c∉ns)(hl:Sv rs ls (a,c,l)):Way rs ls (path++[(a,c,l)]) (ns++[c]) a where
 lean:=λx hx=>by
  rcases JO.mp hx with z | z
  ·exact w.lean x z
  ·rw[IT.mp z];exact hl
 fst:=by
  rw[JE,w.fst]
  show (ns++[c]).tail++[a]=_
  cases ns with
  | nil=>rfl
  | cons n ns=>rfl
 snd:=by
  rw[JE,w.snd]
  rfl
 nd:=by
  rw[PR]
  refine⟨w.nd,by simp,λx hx y hy e=>?_⟩
  rw[IT.mp hy] at e
  exact hc (e ▸ hx)
 hd:=λx hx=>by
  rcases JO.mp hx with z | z
  ·exact w.hd x z
  ·rw[IT.mp z]
   obtain⟨i,r,h1,_,_⟩:=hl
   exact⟨a::r,IY h1,r,rfl⟩
theorem Way.ring{rs:List (List α)}{ls:List β}{path:List (α×α×β)}{ns:List α}{c:α}{j:Nat}(w:Way rs ls path ns c)(hnd:∀r∈rs,r.Nodup)(hj:ns[j]? = some c):Tr rs ls (path.drop j).reverse:=by
 obtain⟨hjl,ej⟩:=IH.mp hj
 have hf:((path.drop j).reverse).map (·.1)=c::(ns.drop (j+1)).reverse:=by
  rw[List.map_reverse,QR,w.fst,List.drop_tail,List.drop_append_of_le_length (by omega),List.reverse_append]
  rfl
 have hs:((path.drop j).reverse).map (·.2.1)=(ns.drop (j+1)).reverse++[c]:=by
  rw[List.map_reverse,QR,w.snd,KY hjl,ej,NE]
 have hcn:c∉ns.drop (j+1):=λhm=>by
  have nd:=w.nd
  rw[<- List.take_append_drop j ns,KY hjl,ej,PR] at nd
  exact(LJ.mp nd.2.1).1 hm
 refine⟨λx hx=>w.lean x (NP (List.mem_reverse.mp hx)),c,_,hf,hs,LJ.mpr ⟨λz=>hcn (List.mem_reverse.mp z),?_⟩,λz=>?_⟩
 ·exact List.pairwise_reverse.mpr ((List.Sublist.nodup (List.drop_sublist _ _) w.nd).imp λh=>KO h)
 ·-- one leaning alone: its first one would stand behind itself
  rw[z] at hf hs
  cases hp:(path.drop j).reverse with
  | nil=>rw[hp] at hf;cases hf
  | cons x r=>
   rw[hp] at hf hs
   have e1:x.1=c:=(List.cons.inj hf).1
   have e2:x.2.1=c:=(List.cons.inj hs).1
   obtain⟨i,t,h1,h2,_⟩:=w.lean x (NP (List.mem_reverse.mp (by rw[hp];exact JM)))
   rw[e1] at h1
   rw[e2] at h2
   exact(LJ.mp (hnd _ (IY h1))).1 h2
theorem Xy:∀(xs ys:List α),xs.Nodup->(∀x∈xs,x∈ys)->xs.length<=ys.length
 | [],_,_,_=>KI _
 | x::xs,ys,h,hs=>by
  obtain⟨h1,h2⟩:=LJ.mp h
  have hx:=hs x JM
  have ih:=Xy xs (ys.erase x) h2 λy hy=>(List.mem_erase_of_ne (λe=>h1 (by rw[<- e];exact hy))).mpr (hs y (JC _ hy))
  rw[List.length_erase_of_mem hx] at ih
  have:0 < ys.length:=List.length_pos_of_mem hx
  rw[KH]
  omega
theorem Way.le{rs:List (List α)}{ls:List β}{path:List (α×α×β)}{ns:List α}{c:α}(w:Way rs ls path ns c):ns.length<=rs.length:=by
 have h:=Xy ns ((rs.map λr=>r.head?.toList).flatten) w.nd λx hx=>by
  obtain⟨r,hr,t,e⟩:=w.hd x (MU _ hx)
  exact List.mem_flatten.mpr ⟨[x],KZ.mpr ⟨r,hr,by rw[e];rfl⟩,by simp⟩
 have le:∀l:List (List α),((l.map λr=>r.head?.toList).flatten).length<=l.length:=λl=>by
  induction l with
  | nil=>exact IP _
  | cons r l ih=>
   rw[KR,List.flatten_cons,IV,KH]
   have:(r.head?.toList).length<=1:=by cases r<;>simp
   omega
 exact JR h (le rs)
theorem Way.lt{rs:List (List α)}{ls:List β}{path:List (α×α×β)}{ns:List α}{c:α}(w:Way rs ls path ns c)(hc:c∉ns)(hr:∃a l,Sv rs ls (a,c,l)):ns.length < rs.length:=by
 obtain⟨a,l,hl⟩:=hr
 have:=(w.step hc hl).le
 rw[IV,JH] at this
 omega
end
end Mg
namespace Bk
open PySem L2 Mg
abbrev Ln:=Str×Str×Str
def AM(x:Ln):List V:=[.str x.1,.str x.2.1,.str x.2.2]
structure Ga(H:Hp)(p:IN)(ts:List IN)(ring:List Ln):Prop where
 lst:H p=some (.lst (ts.map V.ref))
 len:ts.length=ring.length
 at_:∀(m:Nat)(t:IN)(x:Ln),ts[m]? = some t->ring[m]? = some x->H t=some (.tup (AM x))
theorem Ga.same{H H':Hp}{p:IN}{ts:List IN}{ring:List Ln}(R:Ga H p ts ring)(h:Am H H'):Ga H' p ts ring:=⟨h _ _ R.lst,R.len,λi a r h1 h2=>h _ _ (R.at_ i a r h1 h2)⟩
def dX:Sp:=λvs H Q _=>∃(ra:IN)(as:List IN)(rs:List (List Str)),vs=[.ref ra]/\Dd H ra as rs/\rs.length<=1000/\(∃r∈rs,r≠[]) /\
 ∀(x:Str)(r t:List Str)(H':Hp),r∈rs->r=x::t->Am H H'->Q (.str x) H'
def oN:Sp:=λvs H Q _=>∃(x:Str)(ra la:IN)(as:List IN)(rs:List (List Str))(ls:List Str),vs=[.str x,.ref ra,.ref la]/\Dd H ra as rs/\H la=some (.lst (Az ls))/\ls.length=rs.length/\rs.length<=1000/\(∃r∈rs,x∈r.tail) /\
 ∀(t:IN)(a l:Str)(H':Hp),Am H H'->H' t=some (.tup (AM (a,x,l)))->Sv rs ls (a,x,l)->Q (.ref t) H'
def aY:Sp:=λvs H Q _=>∃(ra la:IN)(as:List IN)(rs:List (List Str))(ls:List Str),vs=[.ref ra,.ref la]/\Dd H ra as rs/\H la=some (.lst (Az ls))/\ls.length=rs.length/\rs.length<=1000/\(∃r∈rs,r≠[])/\(∀r∈rs,r.Nodup) /\
 (∀r∈rs,∀x t,r=x::t->cnt rs x≠0)/\∀(p:IN)(ts:List IN)(ring:List Ln)(H':Hp),Am H H'->Ga H' p ts ring->Tr rs ls ring->Q (.ref p) H'
section
variable {P:JJ} {w:KL} {K:IG} {mg:Str->Option II} {base:LO} {f fF fL:IN} {fd dF dL:JW}
theorem EI:(["rest"]:List Str).Nodup:=by decide +kernel
theorem tY:Ap ["rests"] ["rests"] (Ae Qs):=Fv (by decide +kernel)
theorem oE(F:Dp K "first_name" "first_name" Qs f fd)(T:Txt mg):Aj P w K mg base Bh 1 f fd ["rests"] dX:=by
 refine F.ok tY (λvs H Q E h=>?_) (λcdv A outer s H vs Q E hr h=>?_)
 ·obtain⟨ra,as,rs,rfl,_⟩:=h
  rfl
 obtain⟨ra,as,rs,rfl,R,hn,⟨r0,hr0,ne0⟩,q⟩:=h
 refine⟨_,Ag (An (Aq (r:=gX K) Bc (Gi (Ae Qs) ["rests"] ["rest"] [] rfl (De (pv 0)) (Bs (i:=0) (by decide)) (λ_ _ _ _ _ _=>⟨Cq 0 EI,Th (Tl (K:=K) (pv 0)),Aq (r:=gX K) Bc (pv 0) Ad (λ_ _=>rfl)⟩)) Ad (λ_ _=>rfl))),?_⟩
 refine⟨_,rfl,ra,rfl,⟨_,Av.of R.lst⟩,Ol (K:=K) (a:=ra) (xs:=as.map V.ref) (λi ys H2=>H2=H/\∃zs:List Str,ys=Az zs/\zs.length<=i/\(∀z∈zs,∃r∈rs,∃t,r=z::t)/\((∃r∈rs.take i,r≠[])->zs≠[]))
  ⟨rfl,[],rfl,IP _,(λz hz=>nomatch hz),λ⟨r,hr',_⟩=>by simp at hr'⟩ (λi ys H2 _ h=>by rw[h.1];exact Av.of R.lst) ?_ ?_⟩
 ·rintro i y ys H2 hi ⟨rfl,zs,rfl,hz,hz2,hz3⟩
  obtain⟨a,ha,rfl⟩:=Ej hi
  obtain⟨r,hr',er⟩:=R.get ha
  have hil:i < rs.length:=(IH.mp hr').1
  have htk:rs.take (i+1)=rs.take i++[r]:=by rw[ND,hr'];rfl
  refine⟨_,rfl,_,.inl ⟨_,Av.of er,rfl⟩,?_⟩
  cases hrr:r with
  | nil=>
   refine Di ⟨rfl,zs,rfl,by omega,hz2,?_⟩
   rw[htk]
   rintro⟨r',hr2,ne⟩
   rcases JO.mp hr2 with z | z
   ·exact hz3 ⟨r',z,ne⟩
   ·rw[IT.mp z] at ne
    exact absurd hrr ne
  | cons x t=>
   rw[hrr] at er
   refine He ?_
   refine⟨_,rfl,a,_,_,_,rfl,rfl,Av.of er,Ba (j:=0) rfl,?_⟩
   refine⟨by rw[Aw,JB];omega,rfl,zs++[x],by unfold Az;rw[JE];rfl,by rw[IV,JH];omega,λz hz'=>?_,λ_ e=>?_⟩
   ·rcases JO.mp hz' with z1 | z1
    ·exact hz2 z z1
    ·rw[IT.mp z1]
     exact⟨r,IY hr',t,hrr⟩
   ·exact absurd e (by simp)
 ·rintro ys H2 ⟨rfl,zs,rfl,hz,hz2,hz3⟩ p hp
  have hlen:(as.map V.ref).length=rs.length:=by rw[IM,R.len]
  rw[hlen,KW (IP _)] at hz3
  cases zs with
  | nil=>exact absurd rfl (hz3 ⟨r0,hr0,ne0⟩)
  | cons x zs=>
   obtain⟨r,hr',t,e⟩:=hz2 x JM
   exact⟨p,_,_,_,rfl,rfl,Av.of Aa,Ba (j:=0) rfl,q x r t _ hr' e (Af hp _)⟩
theorem HD:(["rest","label","name"]:List Str).Nodup:=by decide +kernel
theorem yM:Ap ["name","rests","labels"] ["name","rests","labels"] (Ae Xr):=Fv (by decide +kernel)
theorem uA(F:Dp K "leaning_against" "leaning_against" Xr f fd)(T:Txt mg):Aj P w K mg base Bh 1 f fd ["name","rests","labels"] oN:=by
 refine F.ok yM (λvs H Q E h=>?_) (λcdv A outer s H vs Q E hr h=>?_)
 ·obtain⟨x,ra,la,as,rs,ls,rfl,_⟩:=h
  rfl
 obtain⟨x,ra,la,as,rs,ls,rfl,R,el,hll,hn,⟨r0,hr0,hx0⟩,q⟩:=h
 refine⟨_,Ag (An (Aq (r:=gX K) Bc (Gi (Ae Xr) ["name","rests","labels"] ["rest","label"] [("name", 0)] rfl (Tz rfl T.zip (Ea (pv 1) (pv 2)))
  (Nz (K:=K) (Ew (Bs (i:=0) (by decide)) (Ew (Bs (i:=1) (by decide)) Mb)))
  (λ_ _ _ _ _ _=>⟨Jm (n:=2) rfl (Bo (Cq 0 HD) (Bo (Cq 1 HD) Gg)),
   Th (Ao (r:=HG K false) Kb (pv 2) (Co (r:=lM K) En (pv 0) (Cy Ad) Dy) rfl),
   Bb (Ge (Aq (r:=gX K) Bc (pv 0) Ad (λ_ _=>rfl)) (pv 2) (pv 1))⟩)) Ad (λ_ _=>rfl))),?_⟩
 have inC:∀(y:Str)(zs:List Str),BE (.str y) (Az zs)=decide (y∈zs):=λy zs=>by
  unfold BE Az
  rw[List.any_map]
  by_cases hy:y∈zs
  ·rw[decide_eq_true hy,List.any_eq_true]
   exact⟨y,hy,by show (y == y)=true;exact beq_self_eq_true y⟩
  ·rw[decide_eq_false hy,List.any_eq_false]
   intro z hz e
   have e':(z == y)=true:=e
   exact hy (beq_iff_eq.mp e' ▸ hz)
 have flat:∀zs:List Str,(Az zs).all Jf=true:=λzs=>by
  unfold Az
  rw[List.all_map,NL]
  intro z _
  rfl
 refine⟨_,rfl,_,rfl,ra,la,rfl,⟨_,Av.of R.lst⟩,⟨_,Av.of el⟩,Sz (K:=K) (a:=ra) (b:=la) (xs:=as.map V.ref) (zs:=Az ls) (by rw[IM,Aw,R.len,hll])
  (λi ys H2=>Am H H2/\∃ts:List IN,ys=ts.map V.ref/\ts.length<=i/\(∀t∈ts,∃a l,Sv rs ls (a,x,l)/\H2 t=some (.tup (AM (a,x,l))))/\((∃r∈rs.take i,x∈r.tail)->ts≠[]))
  ⟨Am.refl _,[],rfl,IP _,(λz hz=>nomatch hz),λ⟨r,hr',_⟩=>by simp at hr'⟩ (λi ys H2 _ h=>⟨Av.of (h.1 _ _ R.lst),Av.of (h.1 _ _ el)⟩) ?_ ?_⟩
 ·rintro i y z ys H2 Tp hi hz ⟨s2,ts,rfl,hts,ht2,ht3⟩ hT
  obtain⟨a,ha,rfl⟩:=Ej hi
  obtain⟨l,hl,rfl⟩:=Ie hz
  obtain⟨r,hr',er⟩:=R.get ha
  have hil:i < rs.length:=(IH.mp hr').1
  have htk:rs.take (i+1)=rs.take i++[r]:=by rw[ND,hr'];rfl
  have s3:Am H2 (upd H2 Tp (.tup [.ref a,.str l])):=Af hT _
  have er3:=s3 _ _ (s2 _ _ er)
  refine⟨Tp,_,rfl,Cc.of Aa,rfl,_,_,rfl,_,_,rfl,rfl,?_⟩
  refine⟨_,rfl,_,rfl,_,rfl,a,_,rfl,Av.of er3,λp hp=>?_⟩
  rw[xE]
  have etl:(Az r).tail=Az r.tail:=by unfold Az;rw[List.map_tail]
  rw[etl]
  have s4:=s3.trans (Af hp (.lst (Az r.tail)))
  refine⟨p,_,rfl,.inl (Av.of Aa),rfl,flat _,_,rfl,?_⟩
  rw[if_neg IZ,inC]
  refine Br (λc=>?_) (λc=>?_)
  ·have c':x∈r.tail:=of_decide_eq_true c
   cases hrr:r with
   | nil=>rw[hrr] at c';cases c'
   | cons b t=>
    rw[hrr] at c' er3
    have er4:=Af hp (.lst (Az r.tail)) _ _ er3
    rw[<- hrr]
    refine⟨_,rfl,a,_,_,_,rfl,rfl,Av.of er4,Ba (j:=0) rfl,_,rfl,_,rfl,(by show 3<=IK;decide),λtp htp=>?_⟩
    have s5:=s4.trans (Af htp (.tup (AM (b,x,l))))
    refine⟨by rw[IM,JB];omega,s2.trans s5,ts++[tp],by rw[JE];rfl,by rw[IV,JH];omega,λt' ht'=>?_,λ_ e=>absurd e (by simp)⟩
    rcases JO.mp ht' with z1 | z1
    ·obtain⟨a',l',h1,h2⟩:=ht2 t' z1
     exact⟨a',l',h1,s5 _ _ h2⟩
    ·rw[IT.mp z1]
     exact⟨b,l,⟨i,t,by rw[hr',hrr],c',hl⟩,Aa⟩
  ·have c':¬ x∈r.tail:=of_decide_eq_false (MP.mpr c)
   refine⟨s2.trans s4,ts,rfl,by omega,λt' ht'=>?_,?_⟩
   ·obtain⟨a',l',h1,h2⟩:=ht2 t' ht'
    exact⟨a',l',h1,s4 _ _ h2⟩
   ·rw[htk]
    rintro⟨r',hr2,hx⟩
    rcases JO.mp hr2 with z1 | z1
    ·exact ht3 ⟨r',z1,hx⟩
    ·rw[IT.mp z1] at hx
     exact absurd hx c'
 ·rintro ys H2 ⟨s2,ts,rfl,hts,ht2,ht3⟩ p hp
  have hlen:(as.map V.ref).length=rs.length:=by rw[IM,R.len]
  rw[hlen,KW (IP _)] at ht3
  cases ts with
  | nil=>exact absurd rfl (ht3 ⟨r0,hr0,hx0⟩)
  | cons t ts=>
   obtain⟨a,l,h1,h2⟩:=ht2 t JM
   have s3:=Af (H:=H2) hp (.lst ((t::ts).map V.ref))
   exact⟨p,_,_,_,rfl,rfl,Av.of Aa,Ba (j:=0) rfl,q t a l _ (s2.trans s3) (s3 _ _ h2) h1⟩
end
section
variable {P:JJ} {w:KL} {K:IG} {mg:Str->Option II} {base:LO} {f fF fL:IN} {fd dF dL:JW}
structure Xj(kvs:List (Key×V))(ns:List Str):Prop where
 at_:∀(i:Nat)(x:Str),ns[i]? = some x->valV kvs (IW x:Key)=some (.int (i:Nat))
 no:∀x:Str,x∉ns->valV kvs (IW x:Key)=none
 len:kvs.length<=ns.length
theorem Xj.put{kvs:List (Key×V)}{ns:List Str}{c:Str}(m:Xj kvs ns)(hc:c∉ns):Xj (putK kvs (IW c:Key) (.int (ns.length:Nat))) (ns++[c]) where
 at_:=λi x hx=>by
  rw[Ec]
  by_cases hi:i < ns.length
  ·rw[KA hi] at hx
   have:x≠c:=λe=>hc (e ▸ IY hx)
   rw[if_neg (λz:(IW x:Key)=IW c=>this (IW.inj z))]
   exact m.at_ i x hx
  ·have hil:i < (ns++[c]).length:=(IH.mp hx).1
   rw[IV,JH] at hil
   obtain rfl:i=ns.length:=by omega
   rw[JY] at hx
   cases hx
   rw[if_pos rfl]
 no:=λx hx=>by
  rw[JO,not_or] at hx
  rw[Ec,if_neg (λz:(IW x:Key)=IW c=>hx.2 (by rw[IW.inj z];simp))]
  exact m.no x hx.1
 len:=by
  have:=Dq kvs (IW c:Key) (.int (ns.length:Nat))
  have h2:=m.len
  rw[IV,JH]
  omega
theorem Pb:Ap ["rests","labels","met","path","name"] ["rests","labels"] (Ae jU):=Fv (by decide +kernel)
theorem Ga.snoc{H:Hp}{p t:IN}{ts:List IN}{path:List Ln}{x:Ln}(L:Ga H p ts path)(ht:H t=some (.tup (AM x))):Ga (upd H p (.lst ((ts++[t]).map V.ref))) p (ts++[t]) (path++[x]) where
 lst:=Aa
 len:=by rw[IV,IV,L.len];rfl
 at_:=λm a y ha hy=>by
  have np:∀ {a:IN} {zs:List V},H a=some (.tup zs)->a≠p:=λ{a zs} e z=>by rw[z,L.lst] at e;cases e
  by_cases hm:m < ts.length
  ·rw[KA hm] at ha
   rw[KA (by rw[<- L.len];exact hm)] at hy
   have e:=L.at_ m a y ha hy
   rw[Ai (np e)]
   exact e
  ·have hml:m < (ts++[t]).length:=(IH.mp ha).1
   rw[IV,JH] at hml
   obtain rfl:m=ts.length:=by omega
   rw[JY] at ha
   rw[L.len,JY] at hy
   cases ha
   cases hy
   rw[Ai (np ht)]
   exact ht
theorem vD(F:Dp K "ring_of" "ring_of" jU f fd)(T:Txt mg)(FF:Dp K "first_name" "first_name" Qs fF dF)(bF:Binds K dF ["rests"] [])(mF:mg "first_name" = some (.ref fF))(FL:Dp K "leaning_against" "leaning_against" Xr fL dL)(bL:Binds K dL ["name","rests","labels"] [])(mL:mg "leaning_against" = some (.ref fL)):Aj P w K mg base Jh 2 f fd ["rests","labels"] aY:=by
 have GF:Aj P w K mg base Bh 1 fF dF ["rests"] dX:=oE FF T
 have GL:Aj P w K mg base Bh 1 fL dL ["name","rests","labels"] oN:=uA FL T
 refine F.ok1 Pb (λvs H Q E h=>?_) (λcdv A outer s H vs Q E hr h=>?_)
 ·obtain⟨ra,la,as,rs,ls,rfl,_⟩:=h
  rfl
 obtain⟨ra,la,as,rs,ls,rfl,R,el,hll,hn,hne,hnd,hcn,q⟩:=h
 have hu:=Gd hr
 refine⟨_,Ac (Bj 2 Pb.nd Mh)
  (Ac (Bj 3 Pb.nd (Bt Hn))
  (Ac (Bj 4 Pb.nd (Dl GF hr rfl mF FF.kp bF .nil Cw (Dc (pv 0))))
  (Ac (Jq LB (Fj (Ki hu (pv 4) (pv 2)))
   (Ac (Gh hu (pv 2) (pv 4) (Cg T.len (pv 3)) rfl)
   (Ac (Ca (Kq KQ MF ME Et (pv 3) (Dc (Dl GL hr rfl mL FL.kp bL .nil Cw (Ge (pv 4) (pv 0) (pv 1))))))
   (Ag (Bj 4 Pb.nd (Aq Au (Aq Bc (pv 3) (Hi Ff Ad) (λ_ _=>rfl)) Ad (λ_ _=>rfl)))))))
  (Ag (An (Dm (Rh rfl) rfl T.list LN (Dc (Dm Rl rfl T.rev boot_reversed (Dc (Co En (pv 3) (Cy (Iw hu (pv 2) (pv 4) (λ_ _=>rfl))) Dy)))))))))),?_⟩
 intro d hd
 have s1:Am H (upd H d (.dK [])):=Af hd _
 refine⟨(by show 0<=IK;decide),λpa hpa=>?_⟩
 have s2:Am H (upd (upd H d (.dK [])) pa (.lst [])):=s1.trans (Af hpa _)
 have npd:pa≠d:=λe=>by rw[e,Aa] at hpa;cases hpa
 have hpa0:H pa=none:=s1.free hpa
 refine⟨_,rfl,ra,as,rs,rfl,R.same s2,hn,hne,λc0 r0 t0 H3 hr0 er0 s3=>?_⟩
 refine⟨λm σ H5=>∃(path:List Ln)(ns:List Str)(c:Str)(kvs:List (Key×V))(ts:List IN),σ=[some (.ref ra),some (.ref la),some (.ref d),some (.ref pa),some (.str c)]/\Am H H5/\H5 d=some (.dK kvs)/\Xj kvs ns/\Ga H5 pa ts path/\Way rs ls path ns c/\m=rs.length-ns.length,
  ⟨_,[],[],c0,[],[],rfl,s2.trans s3,s3 _ _ (by rw[Ai (KO npd)];exact Aa),⟨λi x h=>(by simp at h),λx _=>rfl,IP _⟩,⟨s3 _ _ Aa,rfl,λm t x h=>(by simp at h)⟩,
   ⟨(λx hx=>nomatch hx),rfl,rfl,QG,λx hx=>⟨r0,hr0,t0,by rw[IT.mp hx];exact er0⟩⟩,rfl⟩,?_⟩
 rintro m σ H5 ⟨path,ns,c,kvs,ts,rfl,s5,ed,M,L,W,rfl⟩
 have hpl:path.length=ns.length:=by rw[<- W.snd,IM]
 refine⟨_,rfl,_,rfl,d,_,rfl,Fc.k (k:=IW c) ed,_,rfl,?_⟩
 by_cases hc:c∈ns
 ·obtain⟨j,hj⟩:=LD hc
  have hv:=M.at_ j c hj
  have hjl:j < ns.length:=(IH.mp hj).1
  rw[hv]
  refine Di ?_
  -- return list(reversed(path[met[name]:]))
  refine⟨_,rfl,_,rfl,_,rfl,d,.int (j:Nat),rfl,hv ▸ Fc.k (k:=IW c) ed,_,rfl,pa,_,rfl,Av.of L.lst,λp1 hp1=>?_⟩
  have hcut:Gj (ts.map V.ref) (some ((j:Nat):Int)) none=(ts.drop j).map V.ref:=by
   rw[Nu _ _ (by rw[IM,L.len,hpl];omega),QR]
  rw[hcut]
  have s6:=Af (H:=H5) hp1 (.lst ((ts.drop j).map V.ref))
  refine⟨p1,_,rfl,Av.of Aa,λit hit=>?_⟩
  have n1:p1≠it:=λe=>by rw[e,Aa] at hit;cases hit
  refine⟨it,p1,(ts.drop j).map V.ref,rfl,Aa,Av.of (by rw[Ai n1];exact Aa),λl hl=>?_⟩
  rw[rY hit]
  have hl':(upd H5 p1 (.lst ((ts.drop j).map V.ref))) l=none:=by
   by_cases e:l=it
   ·rw[e];exact hit
   ·rw[Ai e] at hl;exact hl
  have s7:=s6.trans (Af hl' (.lst ((ts.drop j).map V.ref).reverse))
  refine q l (ts.drop j).reverse (path.drop j).reverse _ (s5.trans s7) ⟨?_,?_,λm t x h1 h2=>?_⟩ (W.ring hnd hj)
  ·rw[Aa,List.map_reverse]
  ·rw[LL,LL,LP,LP,L.len]
  ·have hm:m < (ts.drop j).length:=by
    have:=(IH.mp h1).1
    rwa [LL] at this
   have hm2:m < (path.drop j).length:=by rw[LP,<- L.len,<- LP];exact hm
   rw[List.getElem?_reverse hm,List.getElem?_drop] at h1
   rw[List.getElem?_reverse hm2,List.getElem?_drop,LP,<- L.len,<- LP] at h2
   exact s7 _ _ (L.at_ _ t x h1 h2)
 ·rw[M.no c hc]
  refine He ?_
  obtain⟨r1,hr1,t1,e1⟩:=W.hd c (by simp)
  have hbe:∃r∈rs,c∈r.tail:=rF.mp (hcn r1 hr1 c t1 e1)
  refine⟨λσ' H'=>∃m',m' < rs.length-ns.length/\∃(path:List Ln)(ns:List Str)(c:Str)(kvs:List (Key×V))(ts:List IN),σ'=[some (.ref ra),some (.ref la),some (.ref d),some (.ref pa),some (.str c)]/\Am H H'/\H' d=some (.dK kvs)/\Xj kvs ns/\Ga H' pa ts path/\Way rs ls path ns c/\m'=rs.length-ns.length,λσ' H' h=>h,?_⟩
  have hle:=W.le
  have hkl:=M.len
  -- met[name]=len(path)
  refine⟨_,rfl,pa,_,rfl,.inl (Av.of L.lst),_,rfl,_,rfl,d,_,rfl,Kt.k (k:=IW c) ed (by rw[JB];omega),?_⟩
  have etl:(((ts.map V.ref).length:Nat):Int)=((ns.length:Nat):Int):=by rw[IM,L.len,hpl]
  rw[etl]
  have M2:=M.put hc
  have k6:∀b o,b≠d->H5 b=some o->(upd H5 d (.dK (putK kvs (IW c:Key) (.int (ns.length:Nat))))) b=some o:=λb o hb e=>by rw[Ai hb];exact e
  have s6:Am H (upd H5 d (.dK (putK kvs (IW c:Key) (.int (ns.length:Nat))))):=λb o e=>k6 b o (Ah e hd) (s5 b o e)
  have L6:Ga (upd H5 d (.dK (putK kvs (IW c:Key) (.int (ns.length:Nat))))) pa ts path:=⟨k6 _ _ npd L.lst,L.len,λm t x h1 h2=>k6 _ _ (λe=>by have:=L.at_ m t x h1 h2;rw[e,ed] at this;cases this) (L.at_ m t x h1 h2)⟩
  have ed6:=Aa (H:=H5) (a:=d) (o:=.dK (putK kvs (IW c:Key) (.int (ns.length:Nat))))
  generalize upd H5 d (.dK (putK kvs (IW c:Key) (.int (ns.length:Nat))))=H6 at *
  -- path.append(leaning_against(name,rests,labels))
  refine⟨_,rfl,.inl ⟨rfl,_,Av.of L6.lst⟩,_,rfl,_,rfl,_,rfl,c,ra,la,as,rs,ls,rfl,R.same s6,s6 _ _ el,hll,hn,hbe,λt a l H7 s7 et hl=>?_⟩
  have L7:=L6.same s7
  refine⟨pa,_,_,rfl,rfl,L7.lst,by rw[IM,L.len,hpl,JB];omega,?_⟩
  have em:ts.map V.ref++[V.ref t]=(ts++[t]).map V.ref:=by rw[JE];rfl
  rw[em]
  have L8:=L7.snoc et
  have s8:Am H (upd H7 pa (.lst ((ts++[t]).map V.ref))):=λb o e=>by rw[Ai (Ah e hpa0)];exact s7 _ _ (s6 b o e)
  have ed8:(upd H7 pa (.lst ((ts++[t]).map V.ref))) d=some (.dK (putK kvs (IW c:Key) (.int (ns.length:Nat)))):=by rw[Ai (KO npd)];exact s7 _ _ ed6
  -- name=path[-1][0]
  have lx:(upd H7 pa (.lst ((ts++[t]).map V.ref))) pa=some (.lst (ts.map V.ref++[V.ref t])):=by rw[L8.lst,<- em]
  have et8:(upd H7 pa (.lst ((ts++[t]).map V.ref))) t=some (.tup (AM (a,c,l))):=L8.at_ ts.length t _ (JY) (by rw[L.len];exact JY)
  refine⟨_,rfl,_,rfl,pa,_,_,_,rfl,rfl,Av.of lx,Pd _ _,t,_,_,_,rfl,rfl,Cc.of et8,Ba (j:=0) rfl,?_⟩
  have W2:=W.step hc hl
  have hlt:=W.lt hc ⟨a,l,hl⟩
  refine⟨_,?_,path++[(a,c,l)],ns++[c],a,_,ts++[t],rfl,s8,ed8,M2,L8,W2,rfl⟩
  rw[IV,JH]
  omega
end
def nO(K:IG):Sp:=λvs H Q _=>∃(x C:IN)(bm:List II)(t:IN)(v:V),vs=[.ref x,v]/\H x=some (qZ x C none t)/\Lc K C bm/\sR K C "ring" /\
 ∀dx,H dx=none->dx≠x->Q .non (upd (upd H x (qZ x C (some dx) t)) dx (.xd [("ring", v)]))
structure Ends(rows rs:List (List Str)):Prop where
 len:rs.length=rows.length
 suf:∀(i:Nat)(r s:List Str),rows[i]? = some r->rs[i]? = some s->∃a,r=a++s
def Ml(C:IN):Sp:=λvs H Q E=>∃(ra la:IN)(as:List IN)(rows:List (List Str))(ls:List Str),vs=[.ref ra,.ref la]/\Dd H ra as rows/\H la=some (.lst (Az ls))/\ls.length=rows.length/\Fm rows<=1000/\rows.length<=1000/\(∀r∈rows,r.Nodup) /\
 (∀(p:IN)(found:List Str)(H':Hp),H p=none->Am H H'->H' p=some (.lst (Az found))->Good rows found->(∀r∈after rows found,r=[])->found.length<=1000->Q (.ref p) H') /\
 ∀(dx p:IN)(ts:List IN)(ring:List Ln)(rs:List (List Str))(joined:List Str)(H':Hp),Am H H'->H' dx=some (.xd [("ring", .ref p)])->Ga H' p ts ring->Ends rows rs->Tr rs ls ring->Good rows joined->pick (cnt (after rows joined)) (after rows joined)=none->(∃r∈after rows joined,r≠[])->E (.ref C) (some dx) H'
theorem hV{K:IG}{H:Hp}{ps:List IN}{rs:List (List Str)}{ra:IN}(R:Dd H ra ps rs):Xv K H (ps.map V.ref) (rs.map λr=>!r.isEmpty):=by
 have go:∀(ps:List IN)(rs:List (List Str)),ps.length=rs.length->(∀(i:Nat)(a:IN)(r:List Str),ps[i]? = some a->rs[i]? = some r->H a=some (.lst (Az r)))->Xv K H (ps.map V.ref) (rs.map λr=>!r.isEmpty):=by
  intro ps
  induction ps with
  | nil=>
   intro rs hl _
   cases rs with
   | nil=>exact .nil
   | cons _ _=>cases hl
  | cons p ps ih=>
   intro rs hl h
   cases rs with
   | nil=>cases hl
   | cons r rs=>
    refine .cons (.inl ⟨_,Av.of (h 0 p r rfl rfl),?_⟩) (ih rs (by simpa using hl) λi a s h1 h2=>h (i+1) a s h1 h2)
    cases r<;>rfl
 exact go ps rs R.len R.row
section
variable {P:JJ} {w:KL} {K:IG} {mg:Str->Option II} {base:LO} {f fC fF fT fR fI C:IN} {fd dC dF dT dR dI:JW} {bm:List II}
theorem zY:Ap ["self","ring"] ["self","ring"] (Ae Pk):=Fv (by decide +kernel)
theorem uB(F:Dp K "__init__" "AtOdds.__init__" Pk f fd):Aj P w K mg base Bh 1 f fd ["self","ring"] (nO K):=by
 refine F.ok zY (λvs H Q E h=>?_) (λcdv A outer s H vs Q E hr h=>?_)
 ·obtain⟨x,C,bm,t,v,rfl,_⟩:=h
  rfl
 obtain⟨x,C,bm,t,v,rfl,hx,c,F',q⟩:=h
 exact⟨_,Ag (vF (pv 0) (pv 1)),_,rfl,_,rfl,x,C,bm,t,rfl,hx,c,F',q⟩
theorem vH{H:Hp}{x dx:IN}{o o' u:HO}(hx:H x=none)(hd:dx≠x):rem (upd (upd (upd H x o) x o') dx u) x=upd H dx u:=by
 funext b
 by_cases e:b=x
 ·subst e
  rw[Jn,Ai (KO hd),hx]
 ·rw[Vf e]
  by_cases e2:b=dx
  ·subst e2
   rw[Aa,Aa]
  ·rw[Ai e2,Ai e2,Ai e,Ai e]
abbrev We:List Str:=["rows","labels","starts","behind","joined","name","rests"]
theorem EF:(["row"]:List Str).Nodup:=by decide +kernel
theorem BK:(["row","start"]:List Str).Nodup:=by decide +kernel
theorem hZ(n:Nat):(JQ n (V.int 0))=Qc (JQ n 0):=by
 unfold Qc
 rw[List.map_replicate]
 rfl
theorem Ft:Ap ["rows","labels","starts","behind","joined","name","rests"] ["rows","labels"] (Ae Gf):=Fv (by decide +kernel)
theorem Yz(F:Dp K "merged" "merged" Gf f fd)(T:Txt mg)(FC:Dp K "counts_behind" "counts_behind" Ll fC dC)(bC:Binds K dC ["rows"] [])(mC:mg "counts_behind" = some (.ref fC))(FF:Dp K "free_name" "free_name" Xs fF dF)(bF:Binds K dF ["rows","starts","behind"] [])(mF:mg "free_name" = some (.ref fF))(FT:Dp K "take_out" "take_out" Wg fT dT)(bT:Binds K dT ["name","rows","starts","behind"] [])(mT:mg "take_out" = some (.ref fT))(GR:Aj P w K mg base Jh 2 fR dR ["rests","labels"] aY)(kR:IR K (.ref fR)=true)(bR:Binds K dR ["rests","labels"] [])(mR:mg "ring_of" = some (.ref fR))(FI:Dp K "__init__" "AtOdds.__init__" Pk fI dI)(bI:Binds K dI ["self","ring"] [])(mI:mg "AtOdds" = some (.ref C))(hc:Lc K C bm)(hf:sR K C "ring")(hbase:bm.contains (.type "BaseException")=true)(hi:LH K (.ref C) "__init__" = some (some (.ref fI)))(hfn:PySem.W.isFn K (.ref fI)=true):Aj P w K mg base (Hc P w) 3 f fd ["rows","labels"] (Ml C):=by
 have GC:Aj P w K mg base Bh 1 fC dC ["rows"] Qk:=Rw FC T
 have GF:Aj P w K mg base Bh 1 fF dF ["rows","starts","behind"] aR:=gK FF T
 have GT:Aj P w K mg base Bh 1 fT dT ["name","rows","starts","behind"] Yq:=fJ FT T
 have GI:Aj P w K mg base Bh 1 fI dI ["self","ring"] (nO K):=uB FI
 refine F.okX Ft (λvs H Q E h=>?_) (λcdv A outer s H vs Q E hr h=>?_)
 ·obtain⟨ra,la,as,rows,ls,rfl,_⟩:=h
  rfl
 obtain⟨ra,la,as,rows,ls,rfl,R,el,hll,ht,hrl,hnd,q,qE⟩:=h
 have hr1:=hr.mono (j:=1) (by decide)
 refine⟨_,Ac (Ed (i:=2) (Ae Gf) We ["row"] [] rfl Ft.nd rfl rfl (De (pv 0)) (Bs (i:=0) (by decide)) (λ_ _ _ _ _ _=>⟨Cq 0 EF,Dx,Ad⟩))
  (Ac (Bj 3 Ft.nd (Dl GC hr1 rfl mC FC.kp bC .nil Cw (Dc (pv 0))))
  (Ac (Bj 4 Ft.nd (Bt Hn))
  (Ac (Bj 5 Ft.nd (Dl GF hr1 rfl mF FF.kp bF .nil Cw (Ge (pv 0) (pv 2) (pv 3))))
  (Ac (Jq (Wx.passesOwn Ks) (Fj (Uc (pv 5)))
   (Ac (Ca (Kq KQ MF ME Et (pv 4) (Dc (pv 5))))
   (Ac (Ca (Dl GT hr1 rfl mT FT.kp bT .nil Cw (Qz (pv 5) (pv 0) (pv 2) (pv 3))))
   (Ag (Bj 5 Ft.nd (Dl GF hr1 rfl mF FF.kp bF .nil Cw (Ge (pv 0) (pv 2) (pv 3))))))))
  (Ac (Ed (i:=6) (Ae Gf) We ["row","start"] [] rfl Ft.nd rfl rfl (Tz rfl T.zip (Ea (pv 0) (pv 2))) (Nz (K:=K) (Ew (Bs (i:=0) (by decide)) (Ew (Bs (i:=1) (by decide)) Mb)))
   (λ_ _ _ _ _ _=>⟨Jm (n:=2) rfl (Bo (Cq 0 BK) (Bo (Cq 1 BK) Gg)),Dx,Co (r:=lM K) En (pv 0) (Cy (pv 1)) Dy⟩))
  (Ac (Ax (Gc (Bq (Qv rfl) rfl T.any Mn (Dc (pv 6))))
   (Ag (jE rfl hc hbase hi hfn GI hr bI rfl mI (Dc (Dl GR hr rfl mR kR bR .nil Wy (Ea (pv 6) (pv 1)))))) Al)
  (Ag (An (pv 4))))))))),?_⟩
 -- starts=[0 for row in rows]
 refine⟨_,rfl,ra,rfl,⟨_,Av.of R.lst⟩,Dr (K:=K) (a:=ra) (xs:=as.map V.ref) (λi ys H2=>H2=H/\ys=JQ i (V.int 0)) ⟨rfl,rfl⟩ (λi ys H2 _ h=>by rw[h.1];exact Av.of R.lst) ?_ ?_⟩
 ·rintro i y ys H2 hi ⟨rfl,rfl⟩
  refine⟨?_,rfl,?_⟩
  ·have hi':=(IH.mp hi).1
   rw[IM,R.len] at hi'
   rw[LV,JB]
   omega
  ·exact OI.symm
 rintro ys H2 ⟨rfl,rfl⟩ sa hsa
 rw[IM,R.len,hZ]
 have s1:Am H2 (upd H2 sa (.lst (Qc (JQ rows.length 0)))):=Af hsa _
 -- behind=counts_behind(rows)
 refine⟨_,rfl,ra,as,rows,rfl,R.same s1,by omega,λba kvs H3 hba s2 eb B hl=>?_⟩
 -- joined=[]
 refine⟨(by show 0<=IK;decide),λja hja=>?_⟩
 have s3:Am H3 (upd H3 ja (.lst [])):=Af hja _
 have hsa3:H3 sa=some (.lst (Qc (JQ rows.length 0))):=s2 _ _ Aa
 have n_sj:sa≠ja:=Ah hsa3 hja
 have n_bj:ba≠ja:=Ah eb hja
 have n_sb:sa≠ba:=Cd hsa3 eb (by intro z;cases z)
 have st0:Ql (upd H3 ja (.lst [])) rows sa ba (JQ rows.length 0) kvs:=⟨s3 _ _ hsa3,LV,s3 _ _ eb⟩
 have sH:Am H2 (upd H3 ja (.lst [])):=s1.trans (s2.trans s3)
 have hba2:H2 ba=none:=s1.free hba
 have hja2:H2 ja=none:=s1.free (s2.free hja)
 have nsr:sa≠ra:=KO (Ah R.lst hsa)
 have nsa:∀a∈as,a≠sa:=λa ha=>by
  obtain⟨i,hi⟩:=LD ha
  obtain⟨r,_,er⟩:=R.get hi
  exact Ah er hsa
 -- name=free_name(rows,starts,behind)
 refine⟨_,rfl,_,rfl,_,rfl,ra,sa,ba,as,rows,_,kvs,cnt rows,rfl,R.same sH,st0,B,λH4 s4=>?_⟩
 rw[Cv]
 have hb0:∀(i:Nat)(r:List Str)(m:Nat),rows[i]? = some r->(JQ rows.length 0)[i]? = some m->m<=r.length:=λi r m _ h2=>by
  rw[OV] at h2
  split at h2
  ·cases h2;exact KI _
  ·cases h2
 -- while name is not None
 refine⟨λm σ H5=>∃(joined:List Str)(st:List Nat)(kvs:List (Key×V))(v6:Option V),σ=[some (.ref ra),some (.ref la),some (.ref sa),some (.ref ba),some (.ref ja),some (Yg (pick (cnt (rests rows st)) (rests rows st))),v6] /\
  Am H2 H5/\H5 ja=some (.lst (Az joined))/\Ql H5 rows sa ba st kvs/\(∀(i:Nat)(r:List Str)(m:Nat),rows[i]? = some r->st[i]? = some m->m<=r.length)/\Ym kvs (cnt (rests rows st))/\kvs.length<=1000 /\
  (rests rows st=after rows joined/\Good rows joined)/\m=Fm (rests rows st)/\joined.length+Fm (rests rows st)<=Fm rows,
  ⟨_,[],JQ rows.length 0,kvs,none,by rw[Cv];rfl,sH.trans s4,s4 _ _ Aa,⟨s4 _ _ st0.lst,st0.len,s4 _ _ st0.dic⟩,hb0,by rw[Cv];exact B,by omega,by rw[Cv];exact⟨rfl,pT _⟩,rfl,by rw[Cv];simp⟩,?_⟩
 rintro m σ H5 ⟨joined,st,kvs,v6,rfl,s5,ej,S,hb,B,hl,⟨e1,e2⟩,rfl,hj⟩
 refine⟨_,rfl,_,rfl,?_⟩
 cases hp:pick (cnt (rests rows st)) (rests rows st) with
 | some x=>
  refine He ?_
  obtain⟨hx0,r0,hr0,t0,er0⟩:=Ia hp
  have hlt:Fm ((rests rows st).map (Cs x)) < Fm (rests rows st):=Jp (by rw[<- er0];exact hr0)
  refine⟨λσ' H'=>∃m',m' < Fm (rests rows st)/\∃(joined:List Str)(st:List Nat)(kvs:List (Key×V))(v6:Option V),σ'=[some (.ref ra),some (.ref la),some (.ref sa),some (.ref ba),some (.ref ja),some (Yg (pick (cnt (rests rows st)) (rests rows st))),v6] /\
   Am H2 H'/\H' ja=some (.lst (Az joined))/\Ql H' rows sa ba st kvs/\(∀(i:Nat)(r:List Str)(m:Nat),rows[i]? = some r->st[i]? = some m->m<=r.length)/\Ym kvs (cnt (rests rows st))/\kvs.length<=1000 /\
   (rests rows st=after rows joined/\Good rows joined)/\m'=Fm (rests rows st)/\joined.length+Fm (rests rows st)<=Fm rows,λσ' H' h=>h,?_⟩
  -- joined.append(name)
  refine⟨_,rfl,.inl ⟨rfl,_,Av.of ej⟩,_,rfl,ja,_,_,rfl,rfl,ej,by rw[Aw,JB];omega,?_⟩
  have ejx:Az joined++[V.str x]=Az (joined++[x]):=by unfold Az;rw[JE];rfl
  have hup:∀b o,b≠ja->H5 b=some o->(upd H5 ja (.lst (Az joined++[V.str x]))) b=some o:=λb o hne e=>by rw[Ai hne];exact e
  have s6:Am H2 (upd H5 ja (.lst (Az joined++[V.str x]))):=λb o e=>hup b o (Ah e hja2) (s5 b o e)
  -- take_out(name,rows,starts,behind)
  refine⟨_,rfl,_,rfl,_,rfl,_,rfl,x,ra,sa,ba,as,rows,st,kvs,rfl,R.same s6,⟨hup _ _ n_sj S.lst,S.len,hup _ _ n_bj S.dic⟩,hb,B,by omega,nsr,nsa,λst' kvs' H6 S6 h6 hb6 B6 hl6 k6=>?_⟩
  have s7:Am H2 H6:=λb o e=>k6 b o (s6 b o e) (Ah e hsa) (Ah e hba2)
  -- name=free_name(rows,starts,behind)
  refine⟨_,rfl,_,rfl,_,rfl,ra,sa,ba,as,rows,st',kvs',_,rfl,R.same s7,S6,B6,λH7 s8=>?_⟩
  refine⟨_,?_,joined++[x],st',kvs',v6,rfl,s7.trans s8,s8 _ _ ?_,⟨s8 _ _ S6.lst,S6.len,s8 _ _ S6.dic⟩,hb6,B6,by omega,⟨?_,?_⟩,rfl,?_⟩
  ·rw[h6];exact hlt
  ·rw[<- ejx]
   exact k6 _ _ Aa (KO n_sj) (KO n_bj)
  ·rw[h6,e1,Yw]
  ·rw[e1] at hp
   exact iM e2 hp
  ·rw[h6,IV,JH];omega
 | none=>
  refine Di ?_
  -- rests=[row[start:] for row,start in zip(rows,starts)]
  have R5:=R.same s5
  have hrl2:(rests rows st).length=rows.length:=Iv S.len
  refine⟨_,rfl,_,rfl,ra,sa,rfl,⟨_,Av.of R5.lst⟩,⟨_,Av.of S.lst⟩,Qj (K:=K) (a:=ra) (b:=sa) (xs:=as.map V.ref) (zs:=Qc st) (by rw[IM,Of,S.len,R.len])
   (λi ys H6=>Am H5 H6/\∃ps:List IN,ys=ps.map V.ref/\ps.length=i/\∀(j:Nat)(p:IN)(r:List Str),ps[j]? = some p->(rests rows st)[j]? = some r->H6 p=some (.lst (Az r))) ⟨Am.refl _,[],rfl,rfl,λj p r h=>by simp at h⟩ (λi ys H6 _ h=>⟨Av.of (h.1 _ _ R5.lst),Av.of (h.1 _ _ S.lst)⟩) ?_ ?_⟩
  ·rintro i y z ys H6 Tp hy hz ⟨s6,ps,rfl,hps,hpl⟩ hT
   obtain⟨a,ha,rfl⟩:=Ej hy
   obtain⟨j,hj',rfl⟩:=Tq hz
   obtain⟨r,hr',er⟩:=R5.get ha
   have s9:Am H5 (upd H6 Tp (.tup [.ref a,.int j])):=s6.trans (Af hT _)
   refine⟨Tp,_,rfl,Cc.of Aa,rfl,_,_,rfl,_,_,rfl,rfl,?_⟩
   refine⟨_,rfl,_,rfl,_,rfl,a,_,rfl,Av.of (s9 _ _ er),λp hp'=>?_⟩
   have hc':Gj (Az r) (some (j:Int)) none=Az (r.drop j):=by
    rw[Nu _ _ (by rw[Aw];exact hb i r j hr' hj')]
    unfold Az
    rw[<- QR]
   rw[hc']
   refine⟨?_,s9.trans (Af hp' _),ps++[p],by rw[JE];rfl,by rw[IV,hps];rfl,λj' p' r' hp2 hr2=>?_⟩
   ·have:=(IH.mp hr').1
    rw[IM,hps,JB]
    omega
   ·by_cases hj2:j' < ps.length
    ·rw[KA hj2] at hp2
     have e:=Af hT (.tup [.ref a,.int j]) _ _ (hpl j' p' r' hp2 hr2)
     exact Af hp' _ _ _ e
    ·have hjl:j' < (ps++[p]).length:=(IH.mp hp2).1
     rw[IV,JH] at hjl
     obtain rfl:j'=ps.length:=by omega
     rw[JY] at hp2
     cases hp2
     rw[hps,Gn hr' hj'] at hr2
     cases hr2
     exact Aa
  ·rintro ys H6 ⟨s6,ps,rfl,hps,hpl⟩ qa hqa
   -- if any(rests)
   have s9:=Af (H:=H6) hqa (.lst (ps.map V.ref))
   have Rq:Dd (upd H6 qa (.lst (ps.map V.ref))) qa ps (rests rows st):=⟨Aa,by rw[hps,IM,R.len,hrl2],λi a r h1 h2=>s9 _ _ (hpl i a r h1 h2)⟩
   refine⟨_,rfl,qa,_,_,rfl,Av.of Aa,hV Rq,_,rfl,?_⟩
   have sAll:Am H2 (upd H6 qa (.lst (ps.map V.ref))):=s5.trans (s6.trans s9)
   refine Br (λc=>?_) (λc=>?_)
   ·-- raise AtOdds(ring_of(rests,labels))
    obtain⟨k,hk,ek⟩:=List.any_eq_true.mp c
    obtain⟨r1,hr1',er1⟩:=KZ.mp hk
    have hsuf:Ends rows (rests rows st):=⟨hrl2,λi r s h1 h2=>by
     have hil:i < st.length:=by rw[S.len];exact(IH.mp h1).1
     rw[Gn h1 (IU hil)] at h2
     cases h2
     exact⟨r.take st[i],(List.take_append_drop _ _).symm⟩⟩
    have hne1:r1≠[]:=λe=>by rw[e] at er1;rw[<- er1] at ek;cases ek
    refine⟨_,rfl,_,rfl,qa,la,ps,rests rows st,ls,rfl,Rq,sAll _ _ el,by rw[hll,hrl2],by omega,⟨r1,hr1',hne1⟩,λr hr'=>?_,λr hr' x t e=>Mv hp r hr' x t e,λp ts ring H7 s10 L hring=>?_⟩
    ·obtain⟨i,hi'⟩:=LD hr'
     have hil:i < rows.length:=by rw[<- hrl2];exact(IH.mp hi').1
     obtain⟨a,ea⟩:=hsuf.suf i _ _ (IU hil) hi'
     have:=hnd _ (LQ hil)
     rw[ea,PR] at this
     exact this.2.1
    ·refine⟨by show 1<=IK;decide,λx tt hx=>⟨x,C,bm,tt,.ref p,rfl,Aa,hc,hf,λdx hdx hne=>⟨rfl,some dx,by rw[Ai (KO hne),Aa],?_⟩⟩⟩
     rw[vH hx hne]
     have hdx':H7 dx=none:=by rw[Ai hne] at hdx;exact hdx
     have s11:=Af hdx' (.xd [("ring", .ref p)])
     exact qE dx p ts ring (rests rows st) joined _ (sAll.trans (s10.trans s11)) Aa (L.same s11) hsuf hring e2 (by rw[<- e1];exact hp) ⟨r1,by rw[<- e1];exact hr1',hne1⟩
   ·-- return joined
    refine⟨_,rfl,q ja joined _ hja2 sAll (s9 _ _ (s6 _ _ ej)) e2 (λr hr'=>?_) (by omega)⟩
    rw[<- e1] at hr'
    cases r with
    | nil=>rfl
    | cons x t=>exact absurd (List.any_eq_true.mpr ⟨true,KZ.mpr ⟨_,hr',rfl⟩,rfl⟩) c
end
end Bk
namespace Bk
open PySem L2 Mg Nm
def Ul(C:IN):Sp:=λvs H Q E=>∃(x:Str)(ea oa:IN)(as:List IN)(el:List Str)(rows:List (List Str)),vs=[.str x,.ref ea,.ref oa]/\H ea=some (.lst (Az el))/\Dd H oa as rows/\el.length=rows.length/\Fm (rows++[el])<=900/\rows.length<=900/\(∀r∈rows++[el],r.Nodup) /\
 (∀(p:IN)(found:List Str)(H':Hp),H p=none->Am H H'->H' p=some (.lst (Az (x::found)))->Good (rows++[el]) found->(∀r∈after (rows++[el]) found,r=[])->found.length<=1000->Q (.ref p) H') /\
 ∀(dx p:IN)(ts:List IN)(ring:List Ln)(rs:List (List Str))(joined:List Str)(H':Hp),Am H H'->H' dx=some (.xd [("ring", .ref p)])->Ga H' p ts ring->Ends (rows++[el]) rs->Tr rs (el++[x]) ring->Good (rows++[el]) joined->pick (cnt (after (rows++[el]) joined)) (after (rows++[el]) joined)=none->(∃r∈after (rows++[el]) joined,r≠[])->E (.ref C) (some dx) H'
section
variable {P:JJ} {w:KL} {K:IG} {mg:Str->Option II} {base:LO} {f fM C:IN} {fd dM:JW}
theorem tR:Ap ["name","elders","orders"] ["name","elders","orders"] (Ae Xp):=Fv (by decide +kernel)
theorem oQ(F:Dp K "made_order" "made_order" Xp f fd)(T:Txt mg)(GM:Aj P w K mg base (Hc P w) 3 fM dM ["rows","labels"] (Ml C))(kM:IR K (.ref fM)=true)(bM:Binds K dM ["rows","labels"] [])(mM:mg "merged" = some (.ref fM)):
 Aj P w K mg base (Hc P w) 4 f fd ["name","elders","orders"] (Ul C):=by
 refine F.okX tR (λvs H Q E h=>?_) (λcdv A outer s H vs Q E hr h=>?_)
 ·obtain⟨x,ea,oa,as,el,rows,rfl,_⟩:=h
  rfl
 obtain⟨x,ea,oa,as,el,rows,rfl,eel,R,hle,ht,hrl,hnd,q,qE⟩:=h
 refine⟨_,Ag (An (Ak Fa (Bt (Dc (pv 0))) (Lp GM hr rfl mM kM bM .nil (Ea (Ak Fa (pv 2) (Bt (Dc (pv 1)))) (Ak Fa (pv 1) (Bt (Dc (pv 0)))))))),?_⟩
 have hlR:as.length=rows.length:=R.len
 refine⟨_,rfl,by show 1<=IK;decide,λl1 hl1=>?_⟩
 have s1:=Af hl1 (.lst [V.str x])
 refine⟨_,rfl,_,rfl,by show 1<=IK;decide,λl2 hl2=>?_⟩
 have s2:=Af hl2 (.lst [V.ref ea])
 refine⟨oa,l2,_,_,rfl,rfl,s2 _ _ (s1 _ _ R.lst),Aa,by rw[IM,JB,JH];omega,λl3 hl3=>?_⟩
 have s3:=Af hl3 (.lst (as.map V.ref++[V.ref ea]))
 refine⟨_,rfl,_,rfl,by show 1<=IK;decide,λl4 hl4=>?_⟩
 have s4:=Af hl4 (.lst [V.str x])
 have sA:=s1.trans (s2.trans (s3.trans s4))
 refine⟨ea,l4,_,_,rfl,rfl,sA _ _ eel,Aa,by rw[Aw,JB,JH];omega,λl5 hl5=>?_⟩
 have s5:=Af hl5 (.lst (Az el++[V.str x]))
 have sB:=sA.trans s5
 have e3:=s5 _ _ (s4 _ _ (Aa (H:=upd (upd H l1 (.lst [V.str x])) l2 (.lst [V.ref ea])) (a:=l3) (o:=.lst (as.map V.ref++[V.ref ea]))))
 have R5:=R.snoc sB (sB _ _ eel) (q:=l3) (by rw[JE];exact e3)
 have n1:=s5 _ _ (s4 _ _ (s3 _ _ (s2 _ _ (Aa (H:=H) (a:=l1) (o:=.lst [V.str x])))))
 refine⟨l3,l5,as++[ea],rows++[el],el++[x],rfl,R5,?_,by rw[IV,IV,hle];rfl,by omega,by rw[IV,JH];omega,hnd,λp found H6 hp s6 ep g1 g2 g3=>?_,λdx p ts ring rs joined H6 s6=>qE dx p ts ring rs joined H6 (sB.trans s6)⟩
 ·rw[Aa]
  unfold Az
  rw[JE]
  rfl
 refine⟨l1,p,_,_,rfl,rfl,s6 _ _ n1,ep,by rw[Aw,JB,JH];omega,λz hz=>?_⟩
 exact q z found _ (sB.free (s6.free hz)) (sB.trans (s6.trans (Af hz _))) Aa g1 g2 g3
end
def orders(L:List Ent)(el:List Str):List (List Str):=el.map λy=>((Ik L y).map (·.od)).getD []
structure Yk(CB CH:IN)(H:Hp)(p d:IN)(L:List Ent)(el:List Str):Prop where
 bk:Ay CB CH H p d L
 ell:el.length<=100
 ll:L.length<=1000
 nd:∀e∈L,e.od.Nodup
 Fm:Fm (orders L el++[el])<=900
structure wL(H:Hp)(x:Str)(el found:List Str)(e:Ent):Prop where
 nm:e.nm=x
 el:e.el=el
 od:e.od=x::found
 bd:e.bd=[]
 f1:H e.at_=none
 f2:H e.ea=none
 f3:H e.oa=none
 f4:H e.ba=none
def Ly(CB CH CO:IN):Sp:=λvs H Q E=>∃(p d a:IN)(L:List Ent)(x:Str)(el:List Str),vs=[.ref p,.str x,.ref a]/\Yk CB CH H p d L el/\H a=some (.lst (Az el))/\Fb x=true/\x.length<=1000/\Ik L x=none/\(∀y∈el,Ik L y≠none)/\el.Nodup /\
 (∀(e:Ent)(found:List Str)(H':Hp),wL H x el found e->Ay CB CH H' p d (L++[e])->(∀b o,H b=some o->b≠d->H' b=some o)->Good (orders L el++[el]) found->Q .non H') /\
 ∀(dx:IN)(joined:List Str)(H':Hp),Am H H'->(∃q:IN,H' dx=some (.xd [("ring", .ref q)]))->(∃r∈after (orders L el++[el]) joined,r≠[])->E (.ref CO) (some dx) H'
section
variable {P:JJ} {w:KL} {K:IG} {mg:Str->Option II} {base:LO} {f fO fN fM fI CB CH CO T0:IN} {fd dO dN dM dI:JW}
theorem Nj.okX{x qual:Str}{st:NW}{f T:IN}{fd:JW}{N ps:List Str}{k:Nat}{sp:Sp}(F:Nj K x qual st f fd T)(S:Ap N ps (Ae st))(len:∀vs H Q E,sp vs H Q E->vs.length=ps.length)(hbody:∀(cdv:II)(A:KG)(outer:List Env)(s:IL)(H:Hp)(vs:List V)(Q:VK)(E:XK),Cj k (A.deeper (LK qual (Ae st) s.heap.objs.size f cdv))->sp vs H Q E ->
  ∃t,Hs ((Em (Hc P w) P w K mg base N qual (Ae st) f cdv A outer s H E).thrown λ_=>E) (Bg st) t/\t { nx:=λ_ H'=>Q .non H',rt:=Q } (start N vs) H):
 Aj P w K mg base (Hc P w) (k+1) f fd ps sp:=by
 obtain⟨oc,od,kV,doc,pm,an,cdv,ct,osl,rfl,lk,hcd⟩:=F.ex
 refine Wn lk hcd S len λA outer s H vs Q E hr hsp=>?_
 obtain⟨t,h,q⟩:=hbody cdv A outer s H vs Q E hr hsp
 refine⟨t,λpins s' σ' H' D I hw=>?_,q⟩
 exact MI (h pins s' σ' H' D (I.wish _) hw) (λ_ _ z=>z.unwish) λe s2 z=>z.leaves
theorem iQ(F:Nj K "found" "Book.found" Ja f fd T0)(T:Fo K mg CB CH)(Tx:Txt mg)(GO:Aj P w K mg base Bh 2 fO dO ["self","name"] (Ep CB CH))(bO:Binds K dO ["self","name"] [])(mO:Cr K CB "order" fO)(GN:Aj P w K mg base Bh 1 fN dN ["value"] Hb)(kN:IR K (.ref fN)=true)(bNm:Binds K dN ["value"] [])(mN:mg "is_name" = some (.ref fN))(GM:Aj P w K mg base (Hc P w) 4 fM dM ["name","elders","orders"] (Ul CO))(kM:IR K (.ref fM)=true)(bM:Binds K dM ["name","elders","orders"] [])(mM:mg "made_order" = some (.ref fM))(GI:Aj P w K mg base Bh 1 fI dI ["self","elder_row","order_row"] (Ma CH))(bI:Binds K dI ["self","elder_row","order_row"] [])(MH:Mk K CH fI):Aj P w K mg base (Hc P w) 5 f fd ["self","name","elders"] (Ly CB CH CO):=by
 refine Nj.okX F Kk (λvs H Q E h=>?_) (λcdv A outer s H vs Q E hr h=>?_)
 ·obtain⟨p,d,a,L,x,el,rfl,_⟩:=h
  rfl
 obtain⟨p,d,a,L,x,el,rfl,⟨B,hell,hll,hodn,htot⟩,ea0,hok,hxl,hf,hin,hnd,q,qE⟩:=h
 have hu:=Gd hr
 have hr1:=hr.mono (j:=1) (by decide)
 have hr2:=hr.mono (j:=2) (by decide)
 obtain⟨dx,hp⟩:=B.ob
 refine⟨_,Ac (Ax (Ht (Gc (Ck GN hr1 mN kN bNm (Dc (pv 1))))) Bw Al)
  (Ac (Ax (Fj (cN hu (pv 1) (Cp (pv 0) rfl))) Bw Al)
  (Ac (Bj 3 Kk.nd (Xe (Fj (bZ (pv 2))) (Bt Hn) (Dm (Pc (K:=K)) rfl Tx.list LN (Dc (pv 2)))))
  (Ac (Ed (i:=4) (Ae Ja) qD ["elder"] [("self", 0)] rfl Kk.nd rfl rfl (De (pv 3)) (Bs (i:=0) (by decide)) (λ_ _ _ _ _ _=>⟨Cq 0 BV,Dx,Dv (pv 1) T.clB mO GO hr2 bO .nil Cw (Dc (pv 0))⟩))
  (Ac (Ax (Ao Sr (Bq Kp rfl Tx.len RD (Dc (Dm (Js rfl) rfl Tx.set Rr (Dc (pv 3))))) (Cg Tx.len (pv 3)) (As _)) Bw Al)
  (Ag (Gh hu (Cp (pv 0) rfl) (pv 1) (Oc MH GI hr2 rfl T.mgH bI .nil Cw (Ea (pv 3) (Lp GM hr rfl mM kM bM .nil (Ge (pv 1) (pv 3) (pv 4))))) rfl)))))),?_⟩
 refine⟨_,rfl,.str x,rfl,.inr ⟨x,rfl,by rw[JB];omega⟩,λH1 s1=>?_⟩
 rw[show AR (.str x)=true from hok]
 refine⟨_,rfl,Di ?_⟩
 have B1:=B.same s1
 refine⟨_,rfl,_,rfl,p,CB,dx,_,_,rfl,s1 _ _ hp,T.clB,T.nBy,Sq d,d,_,rfl,B1.no hf,_,rfl,Di ?_⟩
 -- elder_row
 refine⟨_,rfl,_,rfl,Di ⟨_,rfl,a,_,rfl,.inl (Av.of (s1 _ _ ea0)),λla hla=>?_⟩⟩
 have s2:=Af hla (.lst (Az el))
 have sA:=s1.trans s2
 have hla0:H la=none:=s1.free hla
 have ela:(upd H1 la (.lst (Az el))) la=some (.lst (Az el)):=Aa
 generalize upd H1 la (.lst (Az el))=H2 at *
 -- orders
 refine⟨_,rfl,la,rfl,⟨_,Av.of ela⟩,Dr (K:=K) (a:=la) (xs:=Az el) (λi ys H3=>Am H2 H3/\∃ps:List IN,ys=ps.map V.ref/\ps.length=i/\∀(j:Nat)(a:IN)(r:List Str),ps[j]? = some a->(orders L el)[j]? = some r->H3 a=some (.lst (Az r)))
  ⟨Am.refl _,[],rfl,rfl,λj a r h=>by simp at h⟩ (λi ys H3 _ h=>Av.of (h.1 _ _ ela)) ?_ ?_⟩
 ·rintro i y ys H3 hi ⟨s3,ps,rfl,hps,hpl⟩
  obtain⟨z,hz,rfl⟩:=Ie hi
  have sB:=sA.trans s3
  have hil:i < el.length:=(IH.mp hz).1
  have hzm:=IY hz
  obtain⟨e,he⟩:=Option.ne_none_iff_exists'.mp (hin z hzm)
  refine⟨_,rfl,p,dx,_,rfl,sB _ _ hp,Fx d (by decide +kernel),_,rfl,p,d,L,z,e,rfl,B.same sB,he,λl hl=>?_⟩
  have s4:=Af hl (.lst (Az e.od))
  refine⟨by rw[IM,hps,JB];omega,s3.trans s4,ps++[l],by rw[JE];rfl,by rw[IV,hps];rfl,λj a r h1 h2=>?_⟩
  by_cases hj:j < ps.length
  ·rw[KA hj] at h1
   exact s4 _ _ (hpl j a r h1 h2)
  ·have hjl:j < (ps++[l]).length:=(IH.mp h1).1
   rw[IV,JH] at hjl
   obtain rfl:j=ps.length:=by omega
   rw[JY] at h1
   cases h1
   unfold orders at h2
   rw[JU,hps,hz] at h2
   have h2':((Ik L z).map (·.od)).getD []=r:=KC h2
   rw[he] at h2'
   have h2'':e.od=r:=h2'
   rw[<- h2'']
   exact Aa
 rintro ys H3 ⟨s3,ps,rfl,hps,hpl⟩ qa hqa
 rw[Aw] at hps
 have hol:(orders L el).length=el.length:=IM _
 have s4:=Af hqa (.lst (ps.map V.ref))
 have R:Dd (upd H3 qa (.lst (ps.map V.ref))) qa ps (orders L el):=⟨Aa,by rw[hps,hol],λi a r h1 h2=>s4 _ _ (hpl i a r h1 h2)⟩
 have sB:=s3.trans s4
 have sC:=sA.trans sB
 generalize upd H3 qa (.lst (ps.map V.ref))=H4 at *
 -- len(set(elder_row)) < len(elder_row)
 refine⟨_,rfl,la,el,rfl,Av.of (sB _ _ ela),hnd,by show el.length+1 < 4096;omega,λsa hsa=>?_⟩
 have s5:=Af hsa (Wc P w sa el.length)
 refine⟨sa,_,rfl,Aa,_,rfl,la,_,rfl,.inl (Av.of (s5 _ _ (sB _ _ ela))),_,_,rfl,rfl,_,rfl,Br (λc=>?_) (λ_=>?_)⟩
 ·have:=of_decide_eq_true c
  rw[Aw] at this
  omega
 have sD:=sC.trans s5
 have R5:=R.same s5
 have ela5:=s5 _ _ (sB _ _ ela)
 have hndr:∀r∈orders L el++[el],r.Nodup:=λr hr'=>by
  rcases JO.mp hr' with h | h
  ·unfold orders at h
   obtain⟨y,hy,rfl⟩:=KZ.mp h
   cases e:Ik L y with
   | none=>exact absurd e (hin y hy)
   | some e'=>exact hodn e' (Hf e).1
  ·rw[IT.mp h]
   exact hnd
 -- self.by_name[name]=House(elder_row,made_order(name,elder_row,orders))
 refine⟨_,rfl,_,rfl,_,rfl,_,rfl,x,la,qa,ps,el,orders L el,rfl,ela5,R5,hol.symm,htot,by omega,hndr,λoa found H6 hoa s6 eoa k1 k2 k3=>?_,λdx q ts ring rs joined H6 s6 e6 _ _ _ _ _ ne=>qE dx joined H6 (sD.trans s6) ⟨q,e6⟩ ne⟩
 intro hx' hdx nx ndx nex
 have sE:=sD.trans s6
 have s7:Am H6 (upd (upd H6 hdx (.own hx')) hx' (.ins CH hdx [])):=λb o e=>by
  rw[Ai (Ah e nx),Ai (Ah e ndx)]
  exact e
 refine⟨hx',la,oa,hdx,rfl,Aa,λba H7 hba e1 e2 kp=>⟨rfl,?_⟩⟩
 have s8:Am H6 H7:=λb o e=>kp b o (s7 b o e) (Ah e nx)
 have sF:=sE.trans s8
 have B7:=B.same sF
 refine⟨_,rfl,p,CB,dx,_,_,rfl,sF _ _ hp,T.clB,T.nBy,Sq d,_,rfl,d,_,rfl,Kt.k (k:=(IW x:Key)) B7.dc (by unfold qS;rw[IM,JB];omega),?_⟩
 have hla6:H6 la=some (.lst (Az el)):=s6 _ _ ela5
 have hba6:H6 ba=none:=s7.free hba
 have N0:wL H x el found ⟨x,hx',hdx,la,oa,ba,el,x::found,[]⟩:=⟨rfl,rfl,rfl,rfl,sE.free nx,hla0,sD.free hoa,sE.free hba6⟩
 have k8:∀b o,H b=some o->b≠d->(upd H7 d (.dK (putK (qS L) (IW x:Key) (.ref hx')))) b=some o:=λb o e hb=>by rw[Ai hb];exact sF _ _ e
 have nd_of:∀b,H b=none->b≠d:=λb hb=>KO (Ah B.dc hb)
 refine q _ found _ N0 (B.add (e:=⟨x,hx',hdx,la,oa,ba,el,x::found,[]⟩) hf N0.f4 ⟨?_,?_,?_,?_⟩ Aa k8) k8 k1
 ·rw[Ai (nd_of _ N0.f1)];exact e1
 ·rw[Ai (nd_of _ N0.f2)];exact s8 _ _ hla6
 ·rw[Ai (nd_of _ N0.f3)];exact s8 _ _ eoa
 ·rw[Ai (nd_of _ N0.f4)];exact e2
end
end Bk
namespace Bk
open PySem L2 Mg Nm Rk
structure QB(CB CH:IN)(M:Hp)(p d:IN)(L:List Ent)(rs:List Str)(B:Dg):Prop where
 bk:Ay CB CH M p d L
 rl:rs.length<=1000
 hs:∀y∈rs,∃e,Ik L y=some e
 no:∀y∈rs,∀e w,Ik L y=some e->B y w=none->valV e.bd (IW w:Key)=none
 yes:∀y∈rs,∀e w ss,Ik L y=some e->B y w=some ss->∃(la:IN)(ts:List IN),valV e.bd (IW w:Key)=some (.ref la)/\M la=some (.lst (ts.map V.ref))/\Df M ts (ss.map Eg.pr)
 ok:BJ B rs
def GZ(H:Hp)(CU CS:IN)(Q:VK)(E:XK):Res->Prop
 | .ok _ _ sd=>∀(l:IN)(H':Hp),H l=none->Am H H'->H' l=some (.lst (Ig sd))->Q (.ref l) H'
 | .una _ _=>∀H':Hp,Am H H'->E (.ref CU) none H'
 | .spent=>∀H':Hp,Am H H'->E (.ref CS) none H'
def lJ(CB CH CU CS:IN):Sp:=λvs H Q E=>∃(p d:IN)(x y:Str)(n:Int)(c:Nat)(L:List Ent)(e:Ent)(B:Dg),vs=[.ref p,.str x,.str y,.int n,.int (c:Int)]/\Ik L x=some e/\QB CB CH H p d L e.od B /\ -big<=n/\n<=big/\c<=40/\GZ H CU CS Q E (rS B e.od y 0 n c [])
section
variable {P:JJ} {w:KL} {K:IG} {mg:Str->Option II} {base:LO} {f fO fC fI fN fQ CA CT CB CH CU CS T0:IN} {fd dO dC dI dN dQ:JW}
theorem qT:Ap ["book","name","word","number","count","row","asking"] ["book","name","word","number","count"] (Ae Gm):=Fv (by decide +kernel)
theorem zN(F:Nj K "answered" "answered" Gm f fd T0)(T:Wt K mg CA)(TT:Vg K mg CT)(TB:Fo K mg CB CH)(GO:Aj P w K mg base Bh 2 fO dO ["self","name"] (Ep CB CH))(bO:Binds K dO ["self","name"] [])(mO:Cr K CB "order" fO)(GC:Aj P w K mg base Bh 3 fC dC ["number","count"] Ur)(kC:IR K (.ref fC)=true)(bC:Binds K dC ["number","count"] [])(mC:mg "check_question" = some (.ref fC))(GI:Aj P w K mg base Bh 1 fI dI ["self","book","row","tally"] (Tw CA))(bI:Binds K dI ["self","book","row","tally"] [])(MA:Mk K CA fI)(GN:Aj P w K mg base Bh 1 fN dN ["self","left"] (Uq CT))(bN:Binds K dN ["self","left"] [])(MT:Mk K CT fN)(GQ:Aj P w K mg base (Hc P w) (4 * 41+3) fQ dQ ["self","word","place","number"] (Qf CA CT CB CH CU CS 41))(bQ:Binds K dQ ["self","word","place","number"] [])(mQ:Cr K CA "asked" fQ):Aj P w K mg base (Hc P w) 168 f fd ["book","name","word","number","count"] (lJ CB CH CU CS):=by
 refine Nj.okX F qT (λvs H Q E h=>?_) (λcdv A outer s H vs Q E hr h=>?_)
 ·obtain⟨p,d,x,y,n,c,L,e,B,rfl,_⟩:=h
  rfl
 obtain⟨p,d,x,y,n,c,L,e,B,rfl,he,U0,n0,n1,hc,g⟩:=h
 have hr2:=hr.mono (j:=2) (by decide)
 have hr3:=hr.mono (j:=3) (by decide)
 have hrQ:=hr.mono (j:=4 * 41+3) (by decide)
 obtain⟨bx,hp⟩:=U0.bk.ob
 refine⟨_,Ac (Bj 5 qT.nd (Dv (pv 0) TB.clB mO GO hr2 bO .nil Cw (Dc (pv 1))))
  (Ac (Ca (Ck GC hr3 mC kC bC (Ea (pv 3) (pv 4))))
  (Ac (Bj 6 qT.nd (Oc MA GI hr2 rfl T.mgA bI .nil Cw (Ge (pv 0) (pv 5) (Oc MT GN hr2 rfl TT.mgT bN .nil Cw (Dc (pv 4))))))
  (Ac (Ca (Ez (pv 6) T.cl mQ GQ hrQ bQ .nil (Ge (pv 2) Ad (pv 3))))
  (Ag (An (Cp (Cp (pv 6) rfl) rfl)))))),?_⟩
 refine⟨_,rfl,p,bx,_,rfl,hp,Fx d (by decide +kernel),_,rfl,p,d,L,x,e,rfl,U0.bk,he,λra hra=>?_⟩
 obtain⟨H1,zz,s1,era⟩:=lay hra (.lst (Az e.od))
 rw[zz]
 refine⟨_,rfl,_,rfl,n,(c:Int),rfl,n0,n1,by omega,by omega,?_⟩
 refine⟨_,rfl,_,rfl,_,rfl,λtq tx nt ntx net=>?_⟩
 have s2:Am H1 (upd (upd H1 tx (.own tq)) tq (.ins CT tx [])):=λb o e=>by
  rw[Ai (Ah e nt),Ai (Ah e ntx)]
  exact e
 refine⟨tq,tx,(c:Int),rfl,Aa,λsa H2 hsa e1 e2 kp=>⟨rfl,?_⟩⟩
 have s3:Am H1 H2:=λb o e=>kp b o (s2 b o e) (Ah e nt)
 have hsa1:H1 sa=none:=s2.free hsa
 intro q qx nq nqx neq
 have s5:Am H2 (upd (upd H2 qx (.own q)) q (.ins CA qx [])):=λb o e=>by
  rw[Ai (Ah e nq),Ai (Ah e nqx)]
  exact e
 refine⟨q,p,ra,tq,qx,rfl,Aa,λH3 e3 kp3=>⟨rfl,?_⟩⟩
 have s6:Am H2 H3:=λb o e=>kp3 b o (s5 b o e) (Ah e nq)
 have s7:=s3.trans s6
 have SM:Am H1 (mask H3 tq sa):=λb o hb=>Oj (s7 _ _ hb) (Ah hb nt) (Ah hb hsa1)
 have nqt:q≠tq:=λz=>by rw[z,e1] at nq;cases nq
 have nqs:q≠sa:=λz=>by rw[z,e2] at nq;cases nq
 have C:Rb (mask H3 tq sa) H3 CT tq tx sa c []:=by
  refine⟨Yb,?_,?_,s6 _ _ e1,s6 _ _ e2⟩
  ·unfold mask
   rw[if_pos (.inl rfl)]
  ·unfold mask
   rw[if_pos (.inr rfl)]
 have sA:=s1.trans SM
 have U:Vv CA CB CH (mask H3 tq sa) q qx tq p d ra L e.od B:=⟨Oj e3 nqt nqs,U0.bk.same sA,SM _ _ era,U0.rl,U0.hs,U0.no,λy hy e w ss h1 h2=>let ⟨la,ts,a,b,c⟩:=U0.yes y hy e w ss h1 h2;⟨la,ts,a,sA _ _ b,c.same sA⟩,U0.ok⟩
 generalize mask H3 tq sa=M at *
 refine⟨_,rfl,q,qx,_,rfl,e3,Nh (by decide +kernel),_,rfl,_,rfl,?_⟩
 refine⟨M,q,qx,p,d,ra,tq,tx,sa,L,e.od,B,y,0,n,c,[],100,rfl,U,C,by omega,by omega,⟨Pn n0 n1,IP _,by omega,by rw[List.length_nil];omega⟩,?_⟩
 rw[pG B e.od (show c < 41 by omega)]
 cases hres:rS B e.od y 0 n c [] with
 | ok a k' sd=>
  rw[hres] at g
  intro H' sa' C'
  refine⟨_,rfl,q,CA,qx,_,_,rfl,C'.same _ _ U.ob,T.cl,T.nTally,Jr _ _ _,tq,CT,tx,_,_,rfl,C'.hq,TT.cl,TT.nSaid,Nq _ _,?_⟩
  exact g sa' H' (sA.free C'.ms) (sA.trans C'.same) C'.hs
 | una k' sd=>
  rw[hres] at g
  exact λH' sa' C'=>g H' (sA.trans C'.same)
 | spent=>
  rw[hres] at g
  exact λH' hs=>g H' (sA.trans hs)
end
def HF:Res->Ou
 | .ok _ _ sd=>.said sd
 | .una _ _=>.una
 | .spent=>.spent
theorem oF(R:Dt)(w:Str)(n:Int)(c:Nat):Hh R [.en w 0] n c []=HF (R w 0 n c []):=by
 rw[Im]
 cases R w 0 n c [] with
 | ok a b d=>
  show Hh R [] a b d=_
  rw[Hh]
  rfl
 | una b d=>
  show unw R [] b=_
  rw[unw]
  rfl
 | spent=>rfl
theorem yI{B:Dg}{rs:List Str}(hB:BJ B rs){w:Str}{n:Int}{c:Nat}(hn:Ab 100 n)(hc:c<=40){a:Int}{k:Nat}{sd:List Int}(h:rS B rs w 0 n c []=.ok a k sd):sd.length<=2000:=by
 have g:=Lu hB (c+1) w 0 n c [] 100 hn (IP _)
 rw[show Ek B rs (c+1) w 0 n c []=rS B rs w 0 n c [] from rfl,h] at g
 obtain⟨_,_,t,e,hl⟩:=g
 rw[e,List.nil_append]
 omega
def Lb(CB CH:IN):Sp:=λvs H Q _=>∃(p d:IN)(x y:Str)(n:Int)(c:Nat)(L:List Ent)(e:Ent)(B:Dg),vs=[.ref p,.str x,.str y,.int n,.int (c:Int)]/\Ik L x=some e/\QB CB CH H p d L e.od B /\ -big<=n/\n<=big/\c<=40 /\
 ∀(r:IN)(H':Hp),Am H H'->Ng H' r (HF (rS B e.od y 0 n c []))->Q (.ref r) H'
section
variable {P:JJ} {w:KL} {K:IG} {mg:Str->Option II} {base:LO} {f fQ CB CH CU CS:IN} {fd dQ:JW} {bU bS:List II} {tk:Tok}
abbrev wK:List Str:=["_law_book","_law_name","_law_word","_law_number","_law_count","_law_said"]
theorem aZ:Ap wK ["_law_book","_law_name","_law_word","_law_number","_law_count"] (Ae eI):=Fv (by decide +kernel)
theorem yO:(["_law_one"]:List Str).Nodup:=by decide +kernel
theorem uZ(F:Dp K "_law_told" "_law_told" eI f fd)(T:Txt mg)(X:cS K mg CU CS bU bS)(ss:QD K (.ref CS) (.ref CS)=some true)(GQ:Aj P w K mg base (Hc P w) 168 fQ dQ ["book","name","word","number","count"] (lJ CB CH CU CS))(kQ:IR K (.ref fQ)=true)(bQ4:Binds K dQ ["book","name","word","number","count"] [.int 40 tk])(bQ5:Binds K dQ ["book","name","word","number","count"] [])(mQ:mg "answered" = some (.ref fQ)):
 Aj P w K mg base Jh 169 f fd ["_law_book","_law_name","_law_word","_law_number","_law_count"] (Lb CB CH):=by
 refine F.ok1 aZ (λvs H Q E h=>?_) (λcdv A outer s H vs Q E hr h=>?_)
 ·obtain⟨p,d,x,y,n,c,L,e,B,rfl,_⟩:=h
  rfl
 obtain⟨p,d,x,y,n,c,L,e,B,rfl,he,U,n0,n1,hc,g⟩:=h
 refine⟨_,Ac (Zl (EX:=zA) Ks (λ_ _ h=>AT h) (λpn EX1=>Ag (Ax (Ao Bp (pv 4) Ad (As _))
  (Ag (Bj 5 aZ.nd (Lp GQ hr rfl mQ kQ bQ4 (dvs:=[.int 40]) (.cons ⟨_,rfl⟩ .nil) (Qz (pv 0) (pv 1) (pv 2) (pv 3)))))
  (Ag (Bj 5 aZ.nd (Lp GQ hr rfl mQ kQ bQ5 .nil (Er (pv 0) (Qz (pv 1) (pv 2) (pv 3) (pv 4))))))))
  (λpn=>Pw (K:=K) rfl X.mgU (λx oe=>Ag (An (Bb (Dc Ar)))) (Pw (K:=K) rfl X.mgS (λx oe=>Ag (An (Bb (Dc Ar)))) (cA ⟨rfl,rfl,rfl⟩))))
  (Ac (Ax (PW.pt (eC (Ht (Gc (Bq Dn rfl T.isi LG (Ea (pv 5) (Gk (v:=.ty "list") rfl T.list LN rfl)))))
   (aJ (Gc (Bq (Qv rfl) rfl T.any Mn (Dc (Gi (Ae eI) wK ["_law_one"] [] rfl (De (pv 5)) (Bs (i:=0) (by decide)) (λ_ _ _ _ _ _=>⟨Cq 0 yO,Dx,
    BG (Bq (Sx (K:=K)) rfl T.isi LG (Ea (pv 0) (Gk (v:=.ty "bool") rfl T.bool PyProof.Rows.boot_bool rfl))) (Qr (qP (Bq (Sx (K:=K)) rfl T.isi LG (Ea (pv 0) (Gk (v:=.ty "int") rfl T.int PyProof.Rows.boot_int rfl)))))⟩)))))))) Bw Al)
  (Ag (An (Bb (Ea Ar (pv 5)))))),?_⟩
 have z2:2<=IK:=by rw[JB];decide
 have z1:1<=IK:=by rw[JB];decide
 have hlen:=λ{a k sd} (h:rS B e.od y 0 n c []=.ok a k sd)=>yI U.ok (Pn n0 n1) hc h
 refine⟨_,rfl,rfl,_,rfl,Br (λc40=>?_) (λ_=>?_)⟩
 ·have h40:(c:Int)=40:=V.int.inj (of_decide_eq_true c40)
  obtain rfl:c=40:=by omega
  refine⟨_,rfl,_,rfl,_,rfl,_,rfl,p,d,x,y,n,40,L,e,B,rfl,he,U,n0,n1,hc,?_⟩
  cases hres:rS B e.od y 0 n 40 [] with
  | ok a k sd=>
   have hsd:=hlen hres
   rw[hres] at g
   intro l5 H5 hl5 s5 e5
   refine⟨_,rfl,_,_,_,_,rfl,.lst e5,Fh K "list", _,rfl,Di ?_⟩
   refine⟨_,rfl,l5,rfl,⟨_,Av.of e5⟩,Dr (K:=K) (a:=l5) (xs:=Ig sd) (λi ys H2=>H2=H5/\ys=(JQ i false).map V.bl) ⟨rfl,rfl⟩ (λi ys H2 _ h=>Av.of (by rw[h.1];exact e5)) ?_ ?_⟩
   ·rintro i v ys H2 hi ⟨rfl,rfl⟩
    obtain⟨m,hm,rfl⟩:∃m,sd[i]? = some m/\v=.int m:=by
     unfold Ig at hi
     rw[JU] at hi
     cases hm:sd[i]? with
     | none=>rw[hm] at hi;cases hi
     | some m=>rw[hm] at hi;cases hi;exact⟨m,rfl,rfl⟩
    have hil:i < sd.length:=(IH.mp hm).1
    refine⟨_,rfl,_,_,_,_,rfl,.int _,(show NT K (.type "int") (.type "bool")=some false from rfl),_,rfl,Di ?_⟩
    refine⟨_,rfl,_,_,_,_,rfl,.int _,Fh K "int", _,rfl,by rw[IM,LV,JB];omega,rfl,?_⟩
    rw[OI,JE]
    rfl
   ·rintro ys H2 ⟨rfl,rfl⟩ lc hlc
    refine⟨lc,_,JQ (Ig sd).length false,rfl,Av.of Aa,Fk _,?_⟩
    have e0:(JQ (Ig sd).length false).any id=false:=by simp
    rw[e0]
    refine⟨_,rfl,Di ?_⟩
    have s6:=Af hlc (.lst ((JQ (Ig sd).length false).map V.bl))
    refine⟨_,rfl,by show 2<=IK;exact z2,λr hr'=>?_⟩
    have s7:=Af hr' (.tup [.str "said", .ref l5])
    exact g r _ (s5.trans (s6.trans s7)) ⟨l5,Aa,s7 _ _ (s6 _ _ e5),hsd⟩
  | una k sd=>
   rw[hres] at g
   intro H5 s5
   refine⟨true,X.uu,He ⟨by show 1<=IK;exact z1,λr hr'=>?_⟩⟩
   exact g r _ (s5.trans (Af hr' _)) Aa
  | spent=>
   rw[hres] at g
   intro H5 s5
   refine⟨false,X.su,Di ⟨true,ss,He ⟨by show 1<=IK;exact z1,λr hr'=>?_⟩⟩⟩
   exact g r _ (s5.trans (Af hr' _)) Aa
 ·refine⟨_,rfl,_,rfl,_,rfl,_,rfl,_,rfl,p,d,x,y,n,c,L,e,B,rfl,he,U,n0,n1,hc,?_⟩
  cases hres:rS B e.od y 0 n c [] with
  | ok a k sd=>
   have hsd:=hlen hres
   rw[hres] at g
   intro l5 H5 hl5 s5 e5
   refine⟨_,rfl,_,_,_,_,rfl,.lst e5,Fh K "list", _,rfl,Di ?_⟩
   refine⟨_,rfl,l5,rfl,⟨_,Av.of e5⟩,Dr (K:=K) (a:=l5) (xs:=Ig sd) (λi ys H2=>H2=H5/\ys=(JQ i false).map V.bl) ⟨rfl,rfl⟩ (λi ys H2 _ h=>Av.of (by rw[h.1];exact e5)) ?_ ?_⟩
   ·rintro i v ys H2 hi ⟨rfl,rfl⟩
    obtain⟨m,hm,rfl⟩:∃m,sd[i]? = some m/\v=.int m:=by
     unfold Ig at hi
     rw[JU] at hi
     cases hm:sd[i]? with
     | none=>rw[hm] at hi;cases hi
     | some m=>rw[hm] at hi;cases hi;exact⟨m,rfl,rfl⟩
    have hil:i < sd.length:=(IH.mp hm).1
    refine⟨_,rfl,_,_,_,_,rfl,.int _,(show NT K (.type "int") (.type "bool")=some false from rfl),_,rfl,Di ?_⟩
    refine⟨_,rfl,_,_,_,_,rfl,.int _,Fh K "int", _,rfl,by rw[IM,LV,JB];omega,rfl,?_⟩
    rw[OI,JE]
    rfl
   ·rintro ys H2 ⟨rfl,rfl⟩ lc hlc
    refine⟨lc,_,JQ (Ig sd).length false,rfl,Av.of Aa,Fk _,?_⟩
    have e0:(JQ (Ig sd).length false).any id=false:=by simp
    rw[e0]
    refine⟨_,rfl,Di ?_⟩
    have s6:=Af hlc (.lst ((JQ (Ig sd).length false).map V.bl))
    refine⟨_,rfl,by show 2<=IK;exact z2,λr hr'=>?_⟩
    have s7:=Af hr' (.tup [.str "said", .ref l5])
    exact g r _ (s5.trans (s6.trans s7)) ⟨l5,Aa,s7 _ _ (s6 _ _ e5),hsd⟩
  | una k sd=>
   rw[hres] at g
   intro H5 s5
   refine⟨true,X.uu,He ⟨by show 1<=IK;exact z1,λr hr'=>?_⟩⟩
   exact g r _ (s5.trans (Af hr' _)) Aa
  | spent=>
   rw[hres] at g
   intro H5 s5
   refine⟨false,X.su,Di ⟨true,ss,He ⟨by show 1<=IK;exact z1,λr hr'=>?_⟩⟩⟩
   exact g r _ (s5.trans (Af hr' _)) Aa
end
end Bk
namespace Bk
open PySem L2 Mg Nm
theorem Xo{α:Type}[DecidableEq α]:∀t:List α,t.Nodup->Ei t.length [t,[]]=(t,[[],[]])
 | [],_=>Yi rfl
 | a::t,h=>by
  obtain⟨h1,h2⟩:=LJ.mp h
  have hp:pick (cnt [a::t,[]]) [a::t,[]]=some a:=Qa (Jo.mpr λr hr=>by
   rcases IQ.mp hr with rfl | hr
   ·exact h1
   ·rw[IT] at hr
    subst hr
    exact JG)
  rw[KH,Ow hp]
  have e:[a::t,[]].map (Cs a)=[t,[]]:=by rw[KR,Ii];rfl
  rw[e,Xo t h2]
theorem uK{α:Type}[DecidableEq α]{a:α}{t:List α}(h:(a::t).Nodup):Ei (t.length+1) [a::t,[a]]=(a::t,[[],[]]):=by
 obtain⟨h1,h2⟩:=LJ.mp h
 have hp:pick (cnt [a::t,[a]]) [a::t,[a]]=some a:=Qa (Jo.mpr λr hr=>by
  rcases IQ.mp hr with rfl | hr
  ·exact h1
  ·rw[IT] at hr
   subst hr
   exact JG)
 rw[Ow hp]
 have e:[a::t,[a]].map (Cs a)=[t,[]]:=by rw[KR,Ii,KR,Ii];rfl
 rw[e,Xo t h2]
theorem Ni{H:Hp}{a b:IN}{o:HO}(h:upd H a o b=none):H b=none:=by
 by_cases e:b=a
 ·rw[e,Aa] at h
  cases h
 ·rw[Ai e] at h
  exact h
theorem vS{CB CH:IN}{H:Hp}{p d:IN}{L:List Ent}{x:Str}{e:Ent}{t:List Str}(B:Ay CB CH H p d L)(hx:iU x)(hn:Ik L x=none)(hl:L.length<=100)(he:e∈L)(ho:e.od=e.nm::t)(hd:e.od.Nodup)(hle:e.od.length<=100):Yc CB CH H p d L x [e.nm] (t.length+1)/\(Ei (t.length+1) (rowsOf L [e.nm])).1=e.od:=by
 have hf:=Jk B.nd he
 have er:rowsOf L [e.nm]=[e.nm::t,[e.nm]]:=by
  unfold rowsOf
  rw[KR,gC hf,ho]
  rfl
 have hr:Ei (t.length+1) (rowsOf L [e.nm])=(e.nm::t,[[],[]]):=by rw[er];exact uK (by rw[<- ho];exact hd)
 refine⟨⟨B,Iq hx,by rw[JB];have:=hx.2.1;omega,hn,λy hy=>?_,by simp,by simp,hl,?_,λr hr'=>?_,?_⟩,by rw[hr,ho]⟩
 ·rw[IT] at hy
  subst hy
  exact⟨e,hf⟩
 ·rw[er]
  rw[ho] at hle
  have:Fm [e.nm::t,[e.nm]]=(e.nm::t).length+(1+0):=rfl
  omega
 ·rw[hr] at hr'
  simpa using hr'
 ·rw[hr]
  rw[ho] at hle
  show (e.nm::t).length<=900
  omega
end Bk
namespace Mg
section
variable {α:Type} [DecidableEq α]
theorem Tc{rs:List (List α)}{x:α}{xs:List α}(h:Good rs (x::xs)):pick (cnt rs) rs=some x/\Good (rs.map (Cs x)) xs:=
 ⟨h 0 x rfl,λi y hy=>h (i+1) y (by rw[List.getElem?_cons_succ];exact hy)⟩
theorem hX{x y:α}{r:List α}(h:y∈Cs x r):y∈r:=by
 cases r with
 | nil=>exact h
 | cons z r=>
  rw[Fs] at h
  by_cases e:z=x
  ·rw[if_pos e] at h;exact JC _ h
  ·rw[if_neg e] at h;exact h
theorem Om:∀ {xs:List α} {rs:List (List α)},Good rs xs->∀x∈xs,∃r∈rs,x∈r
 | [],_,_,x,hx=>nomatch hx
 | y::xs,rs,h,x,hx=>by
  obtain⟨h1,h2⟩:=Tc h
  rcases IQ.mp hx with rfl | hx
  ·obtain⟨_,r,hr,t,rfl⟩:=Ia h1
   exact⟨_,hr,JM⟩
  ·obtain⟨r,hr,hm⟩:=Om h2 x hx
   obtain⟨r0,hr0,rfl⟩:=KZ.mp hr
   exact⟨r0,hr0,hX hm⟩
theorem Qn:∀ {xs:List α} {rs:List (List α)},Good rs xs->xs.Nodup
 | [],_,_=>QG
 | y::xs,rs,h=>by
  obtain⟨h1,h2⟩:=Tc h
  refine LJ.mpr ⟨λhy=>?_,Qn h2⟩
  obtain⟨r,hr,hm⟩:=Om h2 y hy
  obtain⟨r0,hr0,rfl⟩:=KZ.mp hr
  have hz:=Jo.mp (Ia h1).1 r0 hr0
  cases r0 with
  | nil=>exact nomatch hm
  | cons z t=>
   rw[Fs] at hm
   by_cases e:z=y
   ·rw[if_pos e] at hm;exact hz hm
   ·rw[if_neg e] at hm
    rcases IQ.mp hm with q | q
    ·exact e q.symm
    ·exact hz q
theorem len_sub:∀ {l m:List α},l.Nodup->(∀x∈l,x∈m)->l.length<=m.length
 | [],m,_,_=>KI _
 | x::l,m,nd,h=>by
  obtain⟨n1,n2⟩:=LJ.mp nd
  have hx:=h x JM
  have:=len_sub (l:=l) (m:=m.erase x) n2 λy hy=>(List.mem_erase_of_ne (λz=>n1 (by rw[<- z];exact hy))).mpr (h y (JC _ hy))
  rw[List.length_erase_of_mem hx] at this
  have hp:0 < m.length:=List.length_pos_of_mem hx
  rw[KH]
  omega
end
end Mg
namespace L2
open PySem PySem.Spec PyProof.Rows
section
variable {Y:Cx} {pins:List (IN×Obj)} {σ:St} {H:Hp} {s:IL}
open Classical in
theorem Inv.env0W(I:Inv Y pins σ H s){x:IN}{oe:Obj}{vs:Array II}(hx:(x,oe)∈Y.pn)(d:oe.data=.fields vs):
 ∃base':LO,Uu Y.prog Y.w Y.K Y.mg base' Y.A Y.stack s H/\base'.get? x=some oe:=by
 obtain⟨gx,hx0,_,_,_⟩:=I.pin (x,oe) (MU _ hx)
 let HX:Hp:=λb=>if (Y.base.get? b).isSome=true∨b=x then none else some (.own 0)
 have up:∀b o,Y.base.get? b=some o->(Mc s.heap HX).get? b=some o:=λb o e=>Pa (I.bk b o e) (if_pos (.inl (by rw[e];rfl)))
 have only:∀b o,(Mc s.heap HX).get? b=some o->s.heap.get? b=some o/\((∃u,Y.base.get? b=some u)∨b=x):=λb o e=>by
  obtain⟨e1,e2⟩:=gA e
  refine⟨e1,?_⟩
  by_cases z:(Y.base.get? b).isSome=true∨b=x
  ·rcases z with z | z
   ·exact .inl (Option.isSome_iff_exists.mp z)
   ·exact .inr z
  ·have:HX b=some (.own 0):=if_neg z
   rw[this] at e2
   cases e2
 refine⟨Mc s.heap HX,⟨I.ok.frames,⟨I.mod.kin.keeps up,I.mod.glob.keeps up,(let ⟨mb,h1,h2⟩:=I.mod.blt;⟨mb,h1.keeps up,h2⟩),I.mod.nolimit.keeps up⟩,λb o e=>?_,PP (Sg _ _),?_,I.stkFree,I.hok,I.bare⟩,Pa gx (if_pos (.inr rfl))⟩
 ·obtain⟨e1,z⟩:=only b o e
  rcases z with ⟨u,z⟩ | rfl
  ·exact⟨e1,(I.bs b u z).2⟩
  ·exact⟨e1,hx0⟩
 ·have all:∀l:List Env,s.heap.FunFrames Y.base l->s.heap.FunFrames (Mc s.heap HX) l:=by
   intro l
   induction l with
   | nil=>intro _;trivial
   | cons env r ih=>
    intro hl
    obtain⟨hk,⟨L,o,hf,hn,ho,hd⟩,hr⟩:=hl
    refine⟨hk,⟨L,o,hf,?_,ho,hd⟩,ih hr⟩
    cases q:(Mc s.heap HX).get? L with
    | none=>rfl
    | some u=>
     obtain⟨e1,z⟩:=only L u q
     rcases z with ⟨v,z⟩ | rfl
     ·rw[hn] at z
      cases z
     ·rw[gx] at ho
      cases ho
      exact absurd d (hd vs)
  exact all Y.stack I.stack
end
def Wq(P:JJ)(w:KL)(K:IG)(mg:Str->Option II)(k:Nat)(f:IN)(fd:JW)(ps:List Str)(sp:Sp):Prop:=∀base:LO,K.In base->base.Ns KE mg->Aj P w K mg base Bh k f fd ps sp
section
variable {Y:Cx} {k:Nat} {f C x:IN} {oe:Obj} {ws:Array II} {fd:JW} {ps:List Str} {sp:Sp} {dvs:List V} {ds:List II} {m:Str} {p pos apos:Pos} {e o:Expr} {es:List Expr} {ta:TE} {t:TA}
theorem tP{pins:List (IN×Obj)}{σ:St}{H:Hp}{s:IL}{Q:VK}{us:List II}{vs:List V}(F:Wq Y.prog Y.w Y.K Y.mg k f fd ps sp)(hA:Y.A.handled=some (.ref x))(hx:(x,oe)∈Y.pn)(d:oe.data=.fields ws)(c:ws[2]? = some .none)(hr:Cj k Y.A)(hb:Binds Y.K fd ps ds)(hd:Be dvs ds)(I:Inv Y pins σ H s)(r:Be vs us)(h:sp (vs++dvs) H Q E0):JT (JV Y.prog Y.w) Y.A (call (.ref f) us) (EP Y pins σ Q) Y.xe s:=by
 obtain⟨base',e0,gx⟩:=I.env0W hx d
 have G:=F base' e0.mod.kin e0.mod.glob
 have r2:Be (vs++dvs) (us++ds):=r.append hd
 have hl:(us++ds).length=ps.length:=by rw[<- r2.length];exact G.len _ _ _ _ h
 refine QZ (OL (G.run Y.A Y.stack s H ⟨us,[]⟩ (us++ds) (vs++dvs) Q E0 ⟨hr,(λz=>nomatch z),.inr ⟨x,oe,ws,hA,gx,d,c⟩⟩ e0 (hb s us I.kIn hl) r2 h) λr s' hq=>?_)
 cases r with
 | error e=>exact LF hq
 | ok fl=>
  cases fl with
  | ret u=>exact I.after hq
  | next=>exact LF hq
  | brk=>exact LF hq
  | cont=>exact LF hq
theorem kX{pl:Sem Bool}(he:PE Y o ta)(cl:Vk Y.K C)(hm:Cr Y.K C m f)(F:Wq Y.prog Y.w Y.K Y.mg k f fd ps sp)(hA:Y.A.handled=some (.ref x))(hx:(x,oe)∈Y.pn)(d:oe.data=.fields ws)(c:ws[2]? = some .none)(hr:Cj k Y.A)(hb:Binds Y.K fd ps ds)(hd:Be dvs ds)(ha:PA Y (e::es) t)(hst:JS (e::es) Y.env=(false,OA e Y.env)::JS es Y.env:=by rfl)(hpl:(PD pos (JS es Y.env)).any (·.1)=false:=by rfl)(ht:OA (.Call (.Attribute o m apos) (e::es) [] pos) Y.env=(do
  let ov <- OA o Y.env
  standAt apos.atName
  let (f,first) <- holding [ov] (getMethod ov m pl)
  callWith pos f first (PD pos (JS (e::es) Y.env)) (backToKw pos (QC [] Y.env))):=by rfl):
 PE Y (.Call (.Attribute o m apos) (e::es) [] pos) (qI C m sp dvs E0 ta t):=by
 intro pins s σ H Q I h
 refine OD (pl:=pl) (Bx (he pins s σ H _ I h) λu s1 ⟨y,H1,I1,rx,a,dx,fs,ex,ea,l,q⟩=>?_) ht
 subst ex
 obtain rfl:u=JD a:=rx
 refine Fu I1 ea cl hm l ?_
 refine MS (first:=[.ref a]) (h₀:=Y.base) I.ok.mod.kin hm.kp (Bx (ha pos pins s1 σ H1 _ I1 q) λus s2 ⟨vs,H2,I2,r,q2⟩=>⟨I2.kIn,?_⟩) hst hpl
 exact tP (us:=.ref a::us) (vs:=.ref a::vs) F hA hx d c hr hb hd I2 (.cons rfl r) q2
end
theorem oK{X:Cx}{K:IG}{EX:XS}{th:Ends->XS}{hs:List RM}{C:IN}{c:Str}{np pos:Pos}{b₀:NW}{suite:List NW}{tsu:TS}(hcls:Gl X c)(hm:X.mg c=some (.ref C))(hsu:∀x oe ws,oe.data=.fields ws->ws[2]? = some .none->Hs (Io X x oe) (b₀::suite) tsu)(hr:PH X hs EX th)(hK:X.K=K:=by rfl)(hdb:(c == ("__debug__" : Str))=false:=by decide):PH X (.ExceptHandler (some (.Name c np)) none (b₀::suite) pos::hs) EX (HN K C tsu th):=by
 subst hK
 intro σ H s x cls dx T oe oT vs ts D I fx fT a h
 refine eP (ts':=λ_ ye=>λD σ H=>(∃ws,ye.data=.fields ws/\ws[2]? = some .none)/\tsu D σ H) hcls hm (λy ye pn s' σ' H' D' I' ⟨⟨ws,d,c⟩,h'⟩=>hsu y ye ws d c pn s' σ' H' D' I' h') hr hdb σ H s x cls dx T oe oT vs ts D I fx fT a ?_
 obtain⟨b,hb,h⟩:=h
 refine⟨b,hb,?_⟩
 cases b with
 | true=>rw[if_pos rfl] at h ⊢;exact λ_ _ _ _ _ w=>⟨w,h⟩
 | false=>rw[if_neg IZ] at h ⊢;exact h
end L2
namespace Bk
open PySem L2 Mg Nm Rk PySem.SeqAt
def Gw(L:List Ent):Prop:=∀e∈L,e.od.Nodup/\(∃t,e.od=e.nm::t)/\∀y∈e.od,y∈L.map (·.nm)
theorem Lh{L:List Ent}(h:Gw L){e:Ent}(he:e∈L):e.od.length<=L.length:=by
 have:=len_sub (h e he).1 (h e he).2.2
 rwa [IM] at this
theorem fU{L:List Ent}{e:Ent}{x:Str}{found:List Str}(h:Gw L)(nm:e.nm=x)(od:e.od=x::found)(nd:found.Nodup)(hin:∀y∈found,y∈L.map (·.nm))(hx:x∉L.map (·.nm)):Gw (L++[e]):=by
 intro e' he'
 rcases JO.mp he' with h1 | h1
 ·obtain⟨a,b,c⟩:=h e' h1
  exact⟨a,b,λy hy=>by rw[JE];exact MU _ (c y hy)⟩
 ·rw[IT.mp h1,od,nm]
  refine⟨LJ.mpr ⟨λz=>hx (hin x z),nd⟩,⟨found,rfl⟩,λy hy=>?_⟩
  rw[JE]
  rcases IQ.mp hy with rfl | hy
  ·exact JK _ (by simp[nm])
  ·exact MU _ (hin y hy)
theorem oM{L:List Ent}{y:Str}(h:y∈L.map (·.nm)):Ik L y≠none:=λz=>by
 obtain⟨e,he,rfl⟩:=KZ.mp h
 have:=List.find?_eq_none.mp z e he
 exact this (by simp)
theorem Rt{L:List Ent}(h:Gw L){el:List Str}:∀r∈orders L el,r.length<=L.length/\∀y∈r,y∈L.map (·.nm):=by
 intro r hr
 obtain⟨y,_,rfl⟩:=KZ.mp hr
 cases q:Ik L y with
 | none=>exact⟨KI _,λz hz=>nomatch hz⟩
 | some e=>
  have he:=(Hf q).1
  exact⟨Lh h he,(h e he).2.2⟩
theorem pH{n:Nat}:∀ {rs:List (List Str)},(∀r∈rs,r.length<=n)->Fm rs<=n * rs.length:=by
 intro rs
 induction rs with
 | nil=>intro _;exact KI _
 | cons r rs ih=>
  intro h
  have h1:=h r JM
  have h2:=ih λr' hr'=>h r' (JC _ hr')
  have:Fm (r::rs)=r.length+Fm rs:=rfl
  rw[this,KH,Nat.mul_succ]
  omega
theorem lQ{rs:List (List Str)}{r:List Str}:Fm (rs++[r])=Fm rs+r.length:=by
 induction rs with
 | nil=>show r.length+0=0+r.length;omega
 | cons q rs ih=>
  have e1:Fm (q::rs++[r])=q.length+Fm (rs++[r]):=rfl
  have e2:Fm (q::rs)=q.length+Fm rs:=rfl
  rw[e1,e2,ih]
  omega
theorem Ss:∀(xs:List Str){rs:List (List Str)},(∀r∈rs,r=[])->∀r∈after rs xs,r=[]
 | [],_,h=>h
 | x::xs,rs,h=>by
  show ∀r∈after (rs.map (Cs x)) xs,r=[]
  refine Ss xs λr hr=>?_
  obtain⟨r',hr',rfl⟩:=KZ.mp hr
  rw[h r' hr']
  rfl
theorem Wb(xs:List V)(y:V):Gj (xs++[y]) (some (-1)) none=[y]:=by
 have e:HT.sIx (xs++[y]).length 0 (some (-1))=xs.length:=by
  show (if (-1:Int) < 0 then ((-1:Int)+((xs++[y]).length:Int)).toNat else min (-1:Int).toNat (xs++[y]).length)=xs.length
  rw[if_pos (by decide),IV,JH]
  omega
 unfold Gj
 rw[e,List.drop_left]
 show List.take ((xs++[y]).length-xs.length) [y]=[y]
 rw[IV,JH,Nat.add_sub_cancel_left]
 rfl
def jX(CB CH:IN)(H:Hp)(p d:IN)(L:List Ent)(x:Str)(Q:VK):Prop:=∀(H':Hp)(e:Ent),Ay CB CH H' p d (L++[e])->e.nm=x->e.bd=[]->Gw (L++[e])->gI H e->(∀b o,H b=some o->b≠d->H' b=some o)->Q .non H'
abbrev HL:List Str:=["_law_book","_law_names","_law_name","_law_cell","_law_mixed_here","_law_elders"]
section
variable {P:JJ} {w:KL} {K:IG} {mg:Str->Option II} {base:LO} {f fF CB CH CO:IN} {fd dF:JW}
theorem Vx(T:Fo K mg CB CH)(mO:mg "AtOdds" = some (.ref CO))(eO:QD K (.ref CO) (.ref CO)=some true)(GX:Aj P w K mg base (Hc P w) 5 fF dF ["self","name","elders"] (Ly CB CH CO))(GF:Wq P w K mg 4 fF dF ["self","name","elders"] (Oe CB CH))(bF3:Binds K dF ["self","name","elders"] [])(mF:Cr K CB "found" fF)(cdv:II)(A:KG)(outer:List Env)(s:IL)(H:Hp)(E:XK)(hr:Cj 5 (A.deeper (LK "_law_founded" (Ae El) s.heap.objs.size f cdv)))(Q:VK):
 ∃tt,Hs (Em Jh P w K mg base HL "_law_founded" (Ae El) f cdv A outer s H E).nox ((Bg El).drop 5) tt /\
  ∀(H1:Hp)(p d na ea:IN)(L:List Ent)(x:Str)(el:List Str)(c m:V),Ay CB CH H1 p d L->H1 na=some (.lst (Az (L.map (·.nm))))->Gw L->L.length<=40->iU x->Ik L x=none->H1 ea=some (.lst (Az el))->el.Nodup->(∀y∈el,y∈L.map (·.nm))->el.length<=7->jX CB CH H1 p d L x Q ->
   tt { nx:=λ_ H'=>Q .non H',rt:=Q } [some (.ref p),some (.ref na),some (.str x),some c,some m,some (.ref ea)] H1:=by
 have hr4:=hr.mono (j:=4) (by decide)
 refine⟨_,Ag (Zl (EX:=zA) Ks (λ_ _ h=>AT h) (λpn EX1=>Ag (Ca (Ez (pv 0) T.clB mF GX hr bF3 .nil (Ea (pv 2) (pv 5)))))
  (λpn=>oK (K:=K) rfl mO (λy oe ws hd hc=>Ag (Ca (kX (pv 0) T.clB mF GF rfl (JM) hd hc ⟨hr4.dp,hr4.un⟩ bF3 .nil (Ea (pv 2) (Co lY (pv 1) (Cy (Hi Ff Ad)) Dy))))) (cA ⟨rfl,rfl,rfl⟩))),?_⟩
 intro H1 p d na ea L x el c m B ena O hL hx hn eea nd hin hel q
 obtain⟨dx,hp⟩:=B.ob
 have xin:x∉L.map (·.nm):=λz=>oM z hn
 have M:Yk CB CH H1 p d L el:=⟨B,by omega,by omega,λe he=>(O e he).1,by
  rw[lQ]
  have h1:=pH (n:=40) λr hr'=>JR (Rt O (el:=el) r hr').1 hL
  have h2:(orders L el).length=el.length:=IM _
  rw[h2] at h1
  omega⟩
 refine⟨_,rfl,p,dx,_,rfl,hp,Fx d (by decide +kernel),_,rfl,_,rfl,p,d,ea,L,x,el,rfl,M,eea,Iq hx,(by have:=hx.2.1;omega),hn,(λy hy=>oM (hin y hy)),nd,λe found H2 hnew B2 k2 hg=>?_,λex joined H2 s2 edx hne=>?_⟩
 ·refine q H2 e B2 hnew.nm hnew.bd (fU O hnew.nm hnew.od (Qn hg) (λy hy=>?_) xin) ⟨hnew.f1,hnew.f2,hnew.f3,hnew.f4⟩ k2
  obtain⟨r,hr',hy'⟩:=Om hg y hy
  rcases JO.mp hr' with z | z
  ·exact(Rt O r z).2 y hy'
  ·rw[IT.mp z] at hy'
   exact hin y hy'
 ·-- the last one alone
  have hLn:L≠[]:=λz=>by
   subst z
   have hel0:el=[]:=List.eq_nil_iff_forall_not_mem.mpr λy hy=>absurd (hin y hy) (by simp)
   subst hel0
   obtain⟨r,hr',hne'⟩:=hne
   exact hne' (Ss joined (by intro r hr;simpa [orders] using hr) r hr')
  obtain⟨L0,eL,rfl⟩:∃L0 eL,L=L0++[eL]:=⟨L.dropLast,L.getLast hLn,(List.dropLast_concat_getLast hLn).symm⟩
  have B2:=B.same s2
  obtain⟨dx2,hp2⟩:=B2.ob
  have ena2:H2 na=some (.lst (Az (L0.map (·.nm))++[V.str eL.nm])):=by
   rw[s2 _ _ ena,JE]
   unfold Az
   rw[JE]
   rfl
  have meL:eL∈L0++[eL]:=JK _ (IT.mpr rfl)
  obtain⟨ndL,⟨tL,odL⟩,inL⟩:=O eL meL
  refine⟨true,eO,He ?_⟩
  refine⟨_,rfl,p,dx2,_,rfl,hp2,Fx d (by decide +kernel),_,rfl,_,rfl,_,rfl,_,rfl,na,_,rfl,Av.of ena2,λc3 hc3=>?_⟩
  rw[Wb]
  obtain⟨H3,zz,s3,e3⟩:=lay hc3 (.lst [V.str eL.nm])
  rw[zz]
  have e3:H3 c3=some (.lst (Az [eL.nm])):=e3
  have can:=vS (B2.same s3) hx hn (by omega) meL odL ndL (by have:=Lh O meL;omega)
  refine⟨p,d,L0++[eL],x,.ref c3,[eL.nm],_,rfl,can.1,.inr ⟨c3,rfl,e3⟩,λe H4 hnew B4 k4=>?_⟩
  obtain⟨nm,_,od,bd,fr⟩:=hnew
  rw[can.2] at od
  have sf:=s2.trans s3
  exact q H4 e B4 nm bd (fU O nm od ndL inL xin) ⟨sf.free fr.at_,sf.free fr.ea,sf.free fr.oa,sf.free fr.ba⟩ λb o hb hne'=>k4 b o ((s2.trans s3) _ _ hb) hne'
end
end Bk
namespace L2
open PySem PySem.Spec PyProof.Rows
theorem cT{lo:Int}{k n:Nat}{fr:List (Str×Nat)}{g:TG}{tc:TT}{te:TE}{σ:St}{H:Hp}{F:List V->Hp->Prop}(Pv:Nat->List V->Hp->Prop)(h0:Pv 0 [] H)(hs:∀i ys H,i < k->Pv i ys H->g (.int (lo-i)) (stC n fr σ) H λσ2 H2=>tc σ2 H2 λb H3=>if b=true then te σ2 H3 λy H4=>ys.length < IK/\Pv (i+1) (ys++[y]) H4 else Pv (i+1) ys H3)(hd:∀ys H,Pv k ys H->F ys H):Fq n fr g tc te σ (tK lo k) H F:=by
 refine⟨λi m ys H=>m=k-i/\i<=k/\Pv i ys H,⟨k,by simp,KI _,h0⟩,?_⟩
 rintro i m ys H ⟨rfl,hi,p⟩
 by_cases hlt:i < k
 ·refine .inr ⟨hlt,Pv (i+1),λys' H' p'=>⟨k-(i+1),by omega,rfl,hlt,p'⟩,λx H' y=>?_⟩
  obtain⟨e,y⟩:=y
  subst e y
  exact hs i ys _ hlt p
 ·have e:i=k:=by omega
  subst e
  exact .inl ⟨IP _,hd ys H p⟩
end L2
namespace Bk
open PySem L2 Mg Nm Rk PySem.SeqAt
structure vU(ns el:List Str):Prop where
 nd:el.Nodup
 sub:∀y∈el,y∈ns
theorem pY{ns:List Str}(hn:ns.Nodup):∃el,Gj (Az ns) (some (-1)) none=Az el/\vU ns el/\el.length<=1:=by
 by_cases h:ns=[]
 ·subst h
  exact⟨[],rfl,⟨QG,λy hy=>nomatch hy⟩,KI _⟩
 ·have e:ns=ns.dropLast++[ns.getLast h]:=(List.dropLast_concat_getLast h).symm
  refine⟨[ns.getLast h],?_,⟨by simp,λy hy=>?_⟩,IP _⟩
  ·generalize ns.getLast h=z at e
   generalize ns.dropLast=r at e
   subst e
   unfold Az
   rw[JE]
   exact Wb _ _
  ·rw[IT.mp hy]
   exact List.getLast_mem h
def Kj(CB CH:IN):Sp:=λvs H Q _=>∃(p d na:IN)(L:List Ent)(x:Str)(c:Int),vs=[.ref p,.ref na,.str x,.int c]/\Ay CB CH H p d L/\H na=some (.lst (Az (L.map (·.nm))))/\Gw L/\L.length<=40/\iU x/\Ik L x=none/\jX CB CH H p d L x Q
section
variable {P:JJ} {w:KL} {K:IG} {mg:Str->Option II} {base:LO} {f fF CB CH CO:IN} {fd dF:JW}
theorem BD:(["_law_k","_law_mixed_here","_law_names"]:List Str).Nodup:=by decide +kernel
theorem Gr:Ap ["_law_book","_law_names","_law_name","_law_cell","_law_mixed_here","_law_elders"] ["_law_book","_law_names","_law_name","_law_cell"] (Ae El):=Fv (by decide +kernel)
theorem jX.same{CB CH:IN}{H H':Hp}{p d:IN}{L:List Ent}{x:Str}{Q:VK}(h:jX CB CH H p d L x Q)(s:Am H H'):jX CB CH H' p d L x Q:=λH2 e a b c o fr k=>h H2 e a b c o ⟨s.free fr.at_,s.free fr.ea,s.free fr.oa,s.free fr.ba⟩ λb' o' hb hne=>k b' o' (s _ _ hb) hne
theorem Zg(F:Dp K "_law_founded" "_law_founded" El f fd)(T:Fo K mg CB CH)(Tx:Txt mg)(mO:mg "AtOdds" = some (.ref CO))(eO:QD K (.ref CO) (.ref CO)=some true)(GX:Aj P w K mg base (Hc P w) 5 fF dF ["self","name","elders"] (Ly CB CH CO))(GF:Wq P w K mg 4 fF dF ["self","name","elders"] (Oe CB CH))(bF3:Binds K dF ["self","name","elders"] [])(mF:Cr K CB "found" fF):
 Aj P w K mg base Jh 6 f fd ["_law_book","_law_names","_law_name","_law_cell"] (Kj CB CH):=by
 refine F.ok1 Gr (λvs H Q E h=>?_) (λcdv A outer s H vs Q E hr h=>?_)
 ·obtain⟨p,d,na,L,x,c,rfl,_⟩:=h
  rfl
 obtain⟨p,d,na,L,x,c,rfl,B,ena,O,hL,hx,hn,q⟩:=h
 obtain⟨t5,h5,p5⟩:=Vx (f:=f) T mO eO GX GF bF3 mF cdv A outer s H E hr Q
 have nd:(L.map (·.nm)).Nodup:=B.nd
 have ln:(L.map (·.nm)).length=L.length:=IM _
 -- if len(names) > 6
 refine Kd (tail:=(Bg El).drop 4) (λtt=>∀(H1:Hp)(ea:IN)(el:List Str)(m:V),Am H H1->H1 ea=some (.lst (Az el))->vU (L.map (·.nm)) el->el.length<=L.length->tt { nx:=λ_ H'=>Q .non H',rt:=Q } [some (.ref p),some (.ref na),some (.str x),some (.int c),some m,some (.ref ea)] H1) ?_ ?_
 ·refine⟨_,Ac (Ax (Ao Wj (Cg Tx.len (pv 1)) Ad (As _)) (Ag (Bj 5 Gr.nd (Co En (pv 1) (Cy (Hi Ff Ad)) Dy))) Al) h5,λH1 ea el m s1 eea hel hl=>?_⟩
  refine⟨_,rfl,na,_,rfl,.inl (Av.of (s1 _ _ ena)),_,_,rfl,rfl,_,rfl,Br (λc1=>?_) (λc1=>?_)⟩
  ·refine⟨_,rfl,_,rfl,_,rfl,na,_,rfl,Av.of (s1 _ _ ena),λc2 hc2=>?_⟩
   obtain⟨el2,e2,k2,l2⟩:=pY nd
   rw[e2]
   obtain⟨H2,zz,s2,e3⟩:=lay hc2 (.lst (Az el2))
   rw[zz]
   have sA:=s1.trans s2
   exact p5 H2 p d na c2 L x el2 _ _ (B.same sA) (sA _ _ ena) O hL hx hn e3 k2.nd k2.sub (by omega) (q.same sA)
  ·have c1':¬ (6:Int) < ((Az (L.map (·.nm))).length:Int):=λz=>c1 (decide_eq_true z)
   rw[Aw,ln] at c1'
   exact p5 H1 p d na ea L x el _ _ (B.same s1) (s1 _ _ ena) O hL hx hn eea hel.nd hel.sub (by omega) (q.same s1)
 intro t4 h4 p4
 -- two of them the other way round
 refine Kd (tail:=(Bg El).drop 3) (λtt=>∀(H1:Hp)(ea:IN)(el:List Str)(m:Int),Am H H1->H1 ea=some (.lst (Az el))->vU (L.map (·.nm)) el->el.length<=L.length->tt { nx:=λ_ H'=>Q .non H',rt:=Q } [some (.ref p),some (.ref na),some (.str x),some (.int c),some (.int m),some (.ref ea)] H1) ?_ ?_
 ·refine⟨_,Ac (Ax (PW.pt (Qx (Ao Bp (Ak Bi (pv 4) Ad) Ad (As _)) (Le (Ao Wj (Cg Tx.len (pv 5)) Ad (As _)))))
   (Ag (Bj 5 Gr.nd (Ak Fa (Bt (Ea (Aq Bc (pv 5) Ad (λ_ _=>rfl)) (Aq Bc (pv 5) Ad (λ_ _=>rfl)))) (Co En (pv 5) (Cy Ad) Dy)))) Al) h4,λH1 ea el m s1 eea hel hl=>?_⟩
  refine⟨_,rfl,_,_,rfl,rfl,(by show (0:Int) < 5;decide),rfl,_,rfl,Br (λc1=>?_) (λc1=>p4 H1 ea el _ s1 eea hel hl)⟩
  refine⟨_,rfl,ea,_,rfl,.inl (Av.of eea),_,_,rfl,rfl,_,rfl,Br (λc2=>?_) (λc2=>p4 H1 ea el _ s1 eea hel hl)⟩
  have c2':(1:Int) < ((Az el).length:Int):=of_decide_eq_true c2
  rw[Aw] at c2'
  match el,hel,hl,eea,c2' with
  | a0::a1::r,hel,hl,eea,_=>
   refine⟨_,rfl,ea,_,_,_,rfl,rfl,Av.of eea,Ba (j:=1) rfl,_,rfl,ea,_,_,_,rfl,rfl,Av.of eea,Ba (j:=0) rfl,by show 2<=IK;decide,λl2 hl2=>?_⟩
   obtain⟨H2,zz,s2,e2⟩:=lay hl2 (.lst [V.str a1,V.str a0])
   rw[zz]
   refine⟨_,rfl,_,rfl,ea,_,rfl,Av.of (s2 _ _ eea),λl3 hl3=>?_⟩
   have ecut:Gj (Az (a0::a1::r)) (some 2) none=Az r:=by
    have e:HT.sIx (Az (a0::a1::r)).length 0 (some ((2:Nat):Int))=2:=by rw[HT.sIx_nat,Aw];simp
    unfold Gj
    rw[show HT.sIx (Az (a0::a1::r)).length 0 (some 2)=2 from e]
    show List.take ((Az (a0::a1::r)).length-2) (Az r)=Az r
    refine KW ?_
    rw[Aw,Aw]
    simp
   rw[ecut]
   obtain⟨H3,zz,s3,e3⟩:=lay hl3 (.lst (Az r))
   rw[zz]
   refine⟨l2,l3,_,_,rfl,rfl,s3 _ _ e2,e3,by rw[Aw,JB];simp only[KH,List.length_nil] at *;omega,λl4 hl4=>?_⟩
   have s4:=Af hl4 (.lst ([V.str a1,V.str a0]++Az r))
   have nd':=hel.nd
   refine p4 _ l4 (a1::a0::r) _ (((s1.trans s2).trans s3).trans s4) Aa ⟨?_,λy hy=>hel.sub y ?_⟩ hl
   ·simp only[LJ,IQ,not_or] at nd' ⊢
    exact⟨⟨KO nd'.1.1,nd'.2.1⟩,nd'.1.2,nd'.2.2⟩
   ·simp only[IQ] at hy ⊢
    rcases hy with h | h | h
    ·exact .inr (.inl h)
    ·exact .inl h
    ·exact .inr (.inr h)
 intro t3 h3 p3
 -- the last one alone
 refine Kd (tail:=(Bg El).drop 2) (λtt=>∀(H1:Hp)(ea:IN)(el:List Str)(m:Int),Am H H1->H1 ea=some (.lst (Az el))->vU (L.map (·.nm)) el->el.length<=L.length->tt { nx:=λ_ H'=>Q .non H',rt:=Q } [some (.ref p),some (.ref na),some (.str x),some (.int c),some (.int m),some (.ref ea)] H1) ?_ ?_
 ·refine⟨_,Ac (Ax (Ao Bp (Ak Bi (pv 4) Ad) Ad (As _)) (Ag (Bj 5 Gr.nd (Co En (pv 1) (Cy (Hi Ff Ad)) Dy))) Al) h3,λH1 ea el m s1 eea hel hl=>?_⟩
  refine⟨_,rfl,_,_,rfl,rfl,(by show (0:Int) < 5;decide),rfl,_,rfl,Br (λc1=>?_) (λc1=>p3 H1 ea el m s1 eea hel hl)⟩
  refine⟨_,rfl,_,rfl,_,rfl,na,_,rfl,Av.of (s1 _ _ ena),λc2 hc2=>?_⟩
  obtain⟨el2,e2,k2,l2⟩:=pY nd
  rw[e2]
  have s2:=Af hc2 (.lst (Az el2))
  refine p3 _ c2 el2 m (s1.trans s2) Aa k2 ?_
  have:=len_sub k2.nd k2.sub
  omega
 intro t2 h2 p2
 refine⟨_,Ac (Ot (i:=4) Gr.nd rfl (Or.inr rfl) (Ak Bi (Ak Jt (pv 3) Ad) Ad))
  (Ac (Ed (i:=5) (Ae El) HL ["_law_k"] [("_law_mixed_here", 4),("_law_names", 1)] rfl Gr.nd rfl rfl (vI rfl Tx.range (Ge (Ak Hq (Cg Tx.len (pv 1)) Ad) (Hi Ff Ad) (Hi Ff Ad))) (Bs (i:=0) (by decide)) (λ_ _ _ _ _ _=>⟨Cq 0 BD,
   Th (Ao Wj (Ak Bi (Ak Ce (pv 1) (Ak Bv (pv 0) Ad)) Ad) Ad (As _)),Aq (qU (K:=K)) (pv 2) (pv 0) (λ_ _=>rfl)⟩)) h2),?_⟩
 refine⟨_,rfl,_,_,rfl,rfl,.inr ⟨by decide,by decide⟩,_,_,rfl,rfl,(by show (0:Int) < 2147483647;decide),?_⟩
 dsimp only
 generalize c * 48271 % 2147483647=m
 have lsv:(Az (L.map (·.nm))).length=L.length:=by rw[Aw,ln]
 refine⟨_,rfl,na,_,rfl,.inl (Av.of ena),_,_,rfl,rfl,_,rfl,_,rfl,_,_,rfl,⟨by omega,by omega,by decide,by decide⟩,?_⟩
 refine cT (λi ys H1=>H1=H/\∃el,ys=Az el/\el.Nodup/\el.length<=i/\∀y∈el,∃j:Nat,L.length<=j+i/\(L.map (·.nm))[j]? = some y) ⟨rfl,[],rfl,QG,KI _,λy hy=>nomatch hy⟩ ?_ ?_
 ·rintro i ys H1 hi ⟨rfl,el,rfl,nde,hle,hin⟩
  have hi':i < L.length:=by omega
  have hk:(((Az (L.map (·.nm))).length:Int)-1-(i:Int))=((L.length-1-i:Nat):Int):=by omega
  rw[hk]
  have hlt:L.length-1-i < (L.map (·.nm)).length:=by omega
  obtain⟨y,hy⟩:∃y,(L.map (·.nm))[L.length-1-i]? = some y:=⟨_,IU hlt⟩
  refine⟨_,rfl,_,rfl,_,_,rfl,rfl,_,_,rfl,rfl,⟨by omega,by omega⟩,_,_,rfl,rfl,(by show (0:Int) < 3;decide),_,_,rfl,rfl,_,rfl,Br (λc1=>?_) (λc1=>?_)⟩
  ·refine⟨_,rfl,_,rfl,na,_,_,_,rfl,rfl,Av.of ena,Ba (j:=L.length-1-i) (by unfold Az;rw[JU,hy];rfl),by rw[Aw,JB];omega,rfl,el++[y],by unfold Az;rw[JE];rfl,?_,by rw[IV,JH];omega,λz hz=>?_⟩
   ·refine PR.mpr ⟨nde,by simp,λa ha b hb=>?_⟩
    rw[IT.mp hb]
    intro e
    subst e
    obtain⟨j,hj,hjy⟩:=hin a ha
    have:=(List.getElem?_inj (IH.mp hjy).1 nd).mp (hjy.trans hy.symm)
    omega
   ·rcases JO.mp hz with h | h
    ·obtain⟨j,hj,hjy⟩:=hin z h
     exact⟨j,by omega,hjy⟩
    ·rw[IT.mp h]
     exact⟨L.length-1-i,by omega,hy⟩
  ·exact⟨rfl,el,rfl,nde,by omega,λz hz=>let ⟨j,a,b⟩:=hin z hz;⟨j,by omega,b⟩⟩
 ·rintro ys H1 ⟨rfl,el,rfl,nde,hle,hin⟩ ea hea
  refine p2 _ ea el m (Af hea _) Aa ⟨nde,λy hy=>let ⟨j,_,b⟩:=hin y hy;IY b⟩ ?_
  have:=len_sub nde (m:=L.map (·.nm)) λy hy=>let ⟨j,_,b⟩:=hin y hy;IY b
  omega
end
def Dj(H:Hp)(la:IN)(ss:List Eg):Prop:=∃ts:List IN,H la=some (.lst (ts.map V.ref))/\Df H ts (ss.map Eg.pr)
def kJ(H H':Hp)(ba:IN):Prop:=∀b o,H b=some o->b≠ba->H' b=some o
theorem Dj.keep{H H':Hp}{la:IN}{ss:List Eg}(h:Dj H la ss)(k:∀b o,H b=some o->((∃xs,o=.lst xs) ∨ ∃xs,o=.tup xs)->H' b=some o):Dj H' la ss:=by
 obtain⟨ts,e,c1,c2⟩:=h
 exact⟨ts,k _ _ e (.inl ⟨_,rfl⟩),c1,λi t pr h1 h2=>k _ _ (c2 i t pr h1 h2) (.inr ⟨_,rfl⟩)⟩
theorem Ds{α β:Type}{f:α->β}{L:List α}{a:Nat}{e e':α}(h:L[a]? = some e)(he:f e'=f e):(L.set a e').map f=L.map f:=by
 refine List.ext_getElem? λj=>?_
 rw[JU,JU]
 by_cases hj:a=j
 ·subst hj
  rw[MY (IH.mp h).1,h]
  show some (f e')=some (f e)
  rw[he]
 ·rw[MM hj]
theorem Hm{α:Type}{L:List α}{a j:Nat}{e b:α}(ha:a < L.length)(h:(L.set a e)[j]? = some b):(j=a/\b=e)∨(j≠a/\L[j]? = some b):=by
 by_cases hj:a=j
 ·subst hj
  rw[MY ha] at h
  exact .inl ⟨rfl,(KC h).symm⟩
 ·rw[MM hj] at h
  exact .inr ⟨KO hj,h⟩
theorem Ay.putBd{CB CH:IN}{H H':Hp}{p d:IN}{L:List Ent}{a:Nat}{e:Ent}{bd:List (Key×V)}(B:Ay CB CH H p d L)(he:L[a]? = some e)(k:kJ H H' e.ba)(hb:H' e.ba=some (.dK bd)):Ay CB CH H' p d (L.set a { e with bd:=bd }):=by
 have hem:=IY he
 have hal:a < L.length:=(IH.mp he).1
 have E:=B.en e hem
 obtain⟨dx,hp⟩:=B.ob
 have kd:∀b o,H b=some o->(∀z,o ≠ .dK z)->H' b=some o:=λb o h hn=>k b o h (Cd h E.bd (hn _))
 have ed:qS (L.set a { e with bd:=bd })=qS L:=Ds he rfl
 refine⟨⟨dx,kd _ _ hp (by intro _ z;cases z)⟩,?_,λx hx=>?_,λx hx=>?_,?_,?_⟩
 ·rw[ed]
  exact k _ _ B.dc (KO (B.nb e hem))
 ·obtain⟨j,hj⟩:=LD hx
  rcases Hm hal hj with ⟨rfl,rfl⟩ | ⟨hne,hj'⟩
  ·exact⟨kd _ _ E.ob (by intro _ z;cases z),kd _ _ E.el (by intro _ z;cases z),kd _ _ E.od (by intro _ z;cases z),hb⟩
  ·have hx':=IY hj'
   have A:=B.en x hx'
   have nb:x.ba≠e.ba:=λz=>by
    have hx1:(L.map (·.ba))[j]? = some x.ba:=by rw[JU,hj'];rfl
    have hx2:(L.map (·.ba))[a]? = some e.ba:=by rw[JU,he];rfl
    rw[z] at hx1
    have l1:j < (L.map (·.ba)).length:=(IH.mp hx1).1
    exact hne ((List.getElem?_inj l1 B.nn).mp (hx1.trans hx2.symm))
   exact⟨kd _ _ A.ob (by intro _ z;cases z),kd _ _ A.el (by intro _ z;cases z),kd _ _ A.od (by intro _ z;cases z),k _ _ A.bd nb⟩
 ·obtain⟨j,hj⟩:=LD hx
  rcases Hm hal hj with ⟨rfl,rfl⟩ | ⟨hne,hj'⟩
  ·exact B.nb e hem
  ·exact B.nb x (IY hj')
 ·rw[Ds (f:=λx:Ent=>x.nm) (e':={ e with bd:=bd }) he rfl]
  exact B.nd
 ·rw[Ds (f:=λx:Ent=>x.ba) (e':={ e with bd:=bd }) he rfl]
  exact B.nn
structure Ra(CB CH:IN)(H:Hp)(p d:IN)(L:List Ent)(ka:IN)(kvs:List (List Key×V))(B:Dg):Prop where
 bk:Ay CB CH H p d L
 od:Gw L
 dc:H ka=some (.dT kvs)
 no:∀e∈L,∀w,B e.nm w=none->valV e.bd (IW w:Key)=none/\valV kvs [(IW e.nm:Key),IW w]=none
 yes:∀e∈L,∀w ss,B e.nm w=some ss->∃la lb:IN,valV e.bd (IW w:Key)=some (.ref la)/\Dj H la ss/\valV kvs [(IW e.nm:Key),IW w]=some (.ref lb)/\Dj H lb ss
 ok:∀y w ss,B y w=some ss->(∀s∈ss,jM s)/\ss.length<=30
section
variable {CB CH:IN} {H H':Hp} {p d ka:IN} {L:List Ent} {kvs:List (List Key×V)} {B:Dg}
theorem Ra.qb(S:Ra CB CH H p d L ka kvs B)(hl:L.length<=1000){e:Ent}(he:e∈L):QB CB CH H p d L e.od B:=by
 have inn:=(S.od e he).2.2
 have fn:∀y∈e.od,∃e',Ik L y=some e':=λy hy=>by
  obtain⟨e',he',rfl⟩:=KZ.mp (inn y hy)
  exact⟨e',Jk S.bk.nd he'⟩
 refine⟨S.bk,JR (Lh S.od he) hl,fn,λy _ e' w h1 h2=>?_,λy _ e' w ss h1 h2=>?_,λy _ w ss h=>S.ok y w ss h⟩
 ·obtain⟨m,rfl⟩:=Hf h1
  exact(S.no e' m w h2).1
 ·obtain⟨m,rfl⟩:=Hf h1
  obtain⟨la,_,a,⟨ts,b,c⟩,_⟩:=S.yes e' m w ss h2
  exact⟨la,ts,a,b,c⟩
theorem Ra.kn(S:Ra CB CH H p d L ka kvs B){e:Ent}(he:e∈L):zZ H ka kvs e.od B:=by
 have inn:=(S.od e he).2.2
 refine⟨S.dc,λy hy w=>⟨λh=>?_,λh=>?_⟩,λy hy w ss h=>?_,λy _ w ss h=>S.ok y w ss h⟩
 ·obtain⟨e',he',rfl⟩:=KZ.mp (inn y hy)
  exact(S.no e' he' w h).2
 ·obtain⟨e',he',rfl⟩:=KZ.mp (inn y hy)
  cases q:B e'.nm w with
  | none=>rfl
  | some ss=>
   obtain⟨_,_,_,_,z,_⟩:=S.yes e' he' w ss q
   rw[h] at z
   cases z
 ·obtain⟨e',he',rfl⟩:=KZ.mp (inn y hy)
  obtain⟨_,lb,_,_,a,ts,b,c⟩:=S.yes e' he' w ss h
  exact⟨lb,ts,a,b,c⟩
theorem Ra.same(S:Ra CB CH H p d L ka kvs B)(s:Am H H'):Ra CB CH H' p d L ka kvs B:=
 ⟨S.bk.same s,S.od,s _ _ S.dc,S.no,λe he w ss h=>let ⟨la,lb,a,b,c,d'⟩:=S.yes e he w ss h;⟨la,lb,a,b.keep λx o hx _=>s x o hx,c,d'.keep λx o hx _=>s x o hx⟩,S.ok⟩
def Qm(B:Dg)(x w:Str)(o:Option (List Eg)):Dg:=λy v=>if y=x/\v=w then o else B y v
theorem Ay.keepT{CB CH:IN}{H H':Hp}{p d:IN}{L:List Ent}(B:Ay CB CH H p d L)(k:∀b o,H b=some o->(∀z,o ≠ .dT z)->H' b=some o):Ay CB CH H' p d L:=
 ⟨let ⟨dx,e⟩:=B.ob;⟨dx,k _ _ e (by intro z y;cases y)⟩,k _ _ B.dc (by intro z y;cases y),λe he=>let E:=B.en e he;⟨k _ _ E.ob (by intro z y;cases y),k _ _ E.el (by intro z y;cases y),k _ _ E.od (by intro z y;cases y),k _ _ E.bd (by intro z y;cases y)⟩,B.nb,B.nd,B.nn⟩
theorem Gw.set{L:List Ent}(h:Gw L){i:Nat}{e:Ent}(he:L[i]? = some e)(bd:List (Key×V)):Gw (L.set i { e with bd:=bd }):=by
 intro e' he'
 rw[Ds (f:=λx:Ent=>x.nm) (e':={ e with bd:=bd }) he rfl]
 rcases QH he' with z | z
 ·exact h e' z
 ·rw[z]
  exact h e (IY he)
theorem vW{L:List Ent}(nd:(L.map (·.nm)).Nodup){i j:Nat}{e e':Ent}(h:L[i]? = some e)(h':L[j]? = some e')(hne:j≠i):e'.nm≠e.nm:=λz=>by
 have a1:(L.map (·.nm))[j]? = some e'.nm:=by rw[JU,h'];rfl
 have a2:(L.map (·.nm))[i]? = some e.nm:=by rw[JU,h];rfl
 rw[z] at a1
 exact hne ((List.getElem?_inj (IH.mp a1).1 nd).mp (a1.trans a2.symm))
theorem key_ne{x y v w:Str}(h:¬ (y=x/\v=w)):¬ ([(IW y:Key),IW v]=[(IW x:Key),IW w]):=λz=>by
 injection z with z1 z2
 injection z2 with z3 _
 exact h ⟨IW.inj z1,IW.inj z3⟩
theorem Ra.put(S:Ra CB CH H p d L ka kvs B){i:Nat}{e:Ent}(he:L[i]? = some e){w:Str}{ss:List Eg}{la lb:IN}{H2:Hp}(hok:(∀s∈ss,jM s)/\ss.length<=30)(hk:∀b o,H b=some o->b≠ka->H' b=some o)(hd:H' ka=some (.dT (putK kvs [(IW e.nm:Key),IW w] (.ref lb))))(hb:Dj H' lb ss)(k2:kJ H' H2 e.ba)(hba:H2 e.ba=some (.dK (putK e.bd (IW w:Key) (.ref la))))(hla:Dj H2 la ss):
 Ra CB CH H2 p d (L.set i { e with bd:=putK e.bd (IW w:Key) (.ref la) }) ka (putK kvs [(IW e.nm:Key),IW w] (.ref lb)) (Qm B e.nm w (some ss)):=by
 have hem:=IY he
 have hal:i < L.length:=(IH.mp he).1
 have B1:Ay CB CH H' p d L:=S.bk.keepT λb o h hn=>hk b o h (Cd h S.dc (hn _))
 have E1:=(B1.en e hem).bd
 have lt1:∀b o,H b=some o->((∃xs,o=.lst xs) ∨ ∃xs,o=.tup xs)->H2 b=some o:=λb o h z=>by
  have e1:H' b=some o:=hk b o h (Cd h S.dc (by rcases z with ⟨xs,rfl⟩ | ⟨xs,rfl⟩<;>intro y<;>cases y))
  exact k2 b o e1 (Cd e1 E1 (by rcases z with ⟨xs,rfl⟩ | ⟨xs,rfl⟩<;>intro y<;>cases y))
 have lt2:∀b o,H' b=some o->((∃xs,o=.lst xs) ∨ ∃xs,o=.tup xs)->H2 b=some o:=λb o e1 z=>k2 b o e1 (Cd e1 E1 (by rcases z with ⟨xs,rfl⟩ | ⟨xs,rfl⟩<;>intro y<;>cases y))
 have hpos:Qm B e.nm w (some ss) e.nm w=some ss:=if_pos ⟨rfl,rfl⟩
 refine⟨B1.putBd he k2 hba,S.od.set he _,k2 _ _ hd (Cd hd E1 (by intro z;cases z)),λe1 he1 v h=>?_,λe1 he1 v ss1 h=>?_,λy v ss1 h=>?_⟩
 ·obtain⟨j,hj⟩:=LD he1
  have hno:¬ (e1.nm=e.nm/\v=w):=λz=>by
   rw[z.1,z.2,hpos] at h
   cases h
  have hB:B e1.nm v=none:=by
   have:=h
   unfold Qm at this
   rwa [if_neg hno] at this
  rw[Ec,if_neg (key_ne hno)]
  rcases Hm hal hj with ⟨rfl,rfl⟩ | ⟨hne,hj'⟩
  ·have hv:¬ v=w:=λz=>hno ⟨rfl,z⟩
   have z:=S.no e hem v hB
   refine⟨?_,z.2⟩
   show valV (putK e.bd (IW w:Key) (.ref la)) (IW v:Key)=none
   rw[Ec,if_neg (λy=>hv (IW.inj y))]
   exact z.1
  ·exact S.no e1 (IY hj') v hB
 ·obtain⟨j,hj⟩:=LD he1
  by_cases hyes:e1.nm=e.nm/\v=w
  ·obtain⟨z1,z2⟩:=hyes
   subst z2
   rw[z1,hpos] at h
   cases h
   rcases Hm hal hj with ⟨rfl,rfl⟩ | ⟨hne,hj'⟩
   ·refine⟨la,lb,?_,hla,?_,hb.keep lt2⟩
    ·show valV (putK e.bd (IW v:Key) (.ref la)) (IW v:Key)=_
     rw[Ec,if_pos rfl]
    ·show valV _ [(IW e.nm:Key),IW v]=_
     rw[Ec,if_pos rfl]
   ·exact absurd z1 (vW S.bk.nd he hj' hne)
  ·have hB:B e1.nm v=some ss1:=by
    have:=h
    unfold Qm at this
    rwa [if_neg hyes] at this
   rw[Ec,if_neg (key_ne hyes)]
   rcases Hm hal hj with ⟨rfl,rfl⟩ | ⟨hne,hj'⟩
   ·have hv:¬ v=w:=λz=>hyes ⟨rfl,z⟩
    obtain⟨a,b,c1,c2,c3,c4⟩:=S.yes e hem v ss1 hB
    refine⟨a,b,?_,c2.keep lt1,c3,c4.keep lt1⟩
    show valV (putK e.bd (IW w:Key) (.ref la)) (IW v:Key)=_
    rw[Ec,if_neg (λy=>hv (IW.inj y))]
    exact c1
   ·obtain⟨a,b,c1,c2,c3,c4⟩:=S.yes e1 (IY hj') v ss1 hB
    exact⟨a,b,c1,c2.keep lt1,c3,c4.keep lt1⟩
 ·by_cases hyes:y=e.nm/\v=w
  ·rw[hyes.1,hyes.2,hpos] at h
   cases h
   exact hok
  ·unfold Qm at h
   rw[if_neg hyes] at h
   exact S.ok y v ss1 h
end
end Bk
namespace Bk
open PySem L2 Mg Nm Rk
def kG(ws:List Str):Eg->Prop
 | .sm s=>AG s
 | .onw=>True
 | .ask y=>y∈ws
 | .tri y z=>y∈ws/\z∈ws
theorem kG.ok{ws:List Str}:∀ {s:Eg},kG ws s->jM s
 | .sm _,h=>h
 | .onw,_=>trivial
 | .ask _,_=>trivial
 | .tri _ _,_=>trivial
def Nt:Sp:=λvs H Q _=>∃c k:Int,vs=[.int c,.int k]/\∀m:Int,0<=m->Q (.int m) H
def Qt:Sp:=λvs H Q _=>∃(wa:IN)(ws:List Str)(a:Nat)(m:Int),vs=[.ref wa,.int (a:Int),.int m]/\H wa=some (.lst (Az ws))/\a < ws.length/\ws.length<=1000/\∀(t:IN)(H':Hp)(s:Eg),Am H H'->H' t=some (.tup (.str s.pr.1::s.pr.2))->kG ws s->Q (.ref t) H'
def Jv:Sp:=λvs H Q _=>∃(wa:IN)(ws:List Str)(a:Nat)(c:Int),vs=[.ref wa,.int (a:Int),.int c]/\H wa=some (.lst (Az ws))/\a < ws.length/\ws.length<=1000/\∀(l:IN)(ts:List IN)(ss:List Eg)(H':Hp),H l=none->Am H H'->H' l=some (.lst (ts.map V.ref))->Df H' ts (ss.map Eg.pr)->(∀s∈ss,kG ws s)->ss.length<=4->Q (.ref l) H'
def Rj:List Str:=["say","say","say","plus","times","odd","part","onwards","onwards","ask","ask","ask"]
def Rc:List Str:=["try","try","try","try","try","put","both","any","over","up","down"]
def kdAt(c:Int):Str:=(Rj++Rc).getD (c % 23).toNat "say"
theorem uG(c:Int):Hx (Rj.map V.str++Rc.map V.str) (c % 23)=some (.str (kdAt c)):=by
 have h:(c % 23).toNat < (Rj++Rc).length:=by
  show (c % 23).toNat < 23
  omega
 obtain⟨n,hn⟩:=LW (KJ c (show (23:Int)≠0 by decide))
 unfold kdAt
 rw[hn] at h ⊢
 rw[show ((n:Int)).toNat=n from LR n] at h ⊢
 refine Ba ?_
 rw[<- JE,JU,IU h,MJ,IU h]
 rfl
theorem qG(c:Int):kdAt c∈Rj++Rc:=by
 unfold kdAt
 have h:(c % 23).toNat < (Rj++Rc).length:=by
  show (c % 23).toNat < 23
  omega
 rw[MJ,IU h]
 exact LQ h
theorem xS:∀x∈Rj++Rc,¬ x = "say" -> ¬ x = "onwards" -> ¬ x = "ask" -> ¬ x = "try" -> x∈Kz:=by decide +kernel
theorem Yh{kd p q:Str}:BE (V.str kd) [V.str p,V.str q]=true ↔ kd=p∨kd=q:=by
 show ((p == kd) || ((q == kd) || false))=true ↔ _
 rw[Bool.or_false,Bool.or_eq_true,beq_iff_eq,beq_iff_eq]
 exact⟨λh=>h.imp Eq.symm Eq.symm,λh=>h.imp Eq.symm Eq.symm⟩
abbrev HW:List Str:=["_law_words","_law_first","_law_mixed_here","_law_sorts","_law_sort","_law_amount","_law_some","_law_word"]
def sA:NW:=(Bg Hl).getD 0 (.Pass ⟨0,0,0,0⟩)
def sB:NW:=(Bg Hl).getD 1 (.Pass ⟨0,0,0,0⟩)
theorem uR{X:Cx}{i:Nat}{x y:Str}{es:List Expr}{t:TA}{tn:TE}{pos pos' p1 p2 p3:Pos}(hN:X.N.Nodup)(hi:X.N[i]? = some x)(hx:Loc X.env.scope x)(hv:PE X (.Name y p1) tn)(h:EQ X es t)(hf:X.fn x=true∨X.env.scope.names.lookup x=some .local)(hs:swapsWith (.BinOp (.Name y p1) .Add (.List es p2) p3) (some (.Name x pos')) pos.line X.env=pure false):BR X (.Assign [.Name x pos'] (.BinOp (.Name y p1) .Add (.List es p2) p3) pos) (Xn (AJ zH tn (oS t)) (Ko i)):=⟨Ot hN hi hx (Ak Fa hv (Bt h.ok)) hs hf⟩
theorem CQ{X:Cx}{tail:List NW}{t:TS}(_:Hs X tail t)(hN:X.N=(["_law_words","_law_first","_law_mixed_here","_law_sorts","_law_sort","_law_amount","_law_some","_law_word"]:List Str))(hs:X.env.scope=Ae Hl):BR X sA (Xn (oS (eN (Rj.map V.str))) (Ko 3)):=by
 refine tG (x := "_law_sorts") ?_ ?_ ?_ (Xl (xs:=Rj) (by rfl)) ?_
 ·rw[hN];decide +kernel
 ·rw[hN];rfl
 ·rw[hs];exact Or.inl rfl
 ·rw[hs];exact Or.inr rfl
theorem BC{X:Cx}{tail:List NW}{t:TS}{tn:TE}(_:Hs X tail t)(hN:X.N=(["_law_words","_law_first","_law_mixed_here","_law_sorts","_law_sort","_law_amount","_law_some","_law_word"]:List Str))(hs:X.env.scope=Ae Hl)(hv:∀p1,PE X (.Name "_law_sorts" p1) tn):BR X sB (Xn (AJ zH tn (oS (eN (Rc.map V.str)))) (Ko 3)):=by
 refine uR (x := "_law_sorts") (y := "_law_sorts") ?_ ?_ ?_ (hv _) (Xl (xs:=Rc) (by rfl)) ?_ ?_
 ·rw[hN];decide +kernel
 ·rw[hN];rfl
 ·rw[hs];exact Or.inl rfl
 ·rw[hs];exact Or.inr rfl
 ·rfl
theorem Iy{x:Int}{n:Nat}(h:0 < n):∃k:Nat,x % (n:Int)=(k:Int)/\k < n:=by
 have b0:0<=x % (n:Int):=KJ _ (by omega)
 have b1:x % (n:Int) < (n:Int):=JZ _ (by omega)
 obtain⟨k,hk⟩:=LW b0
 exact⟨k,hk,by omega⟩
section
variable {P:JJ} {w:KL} {K:IG} {mg:Str->Option II} {base:LO} {f fM fS:IN} {fd dM dS:JW}
theorem eZ:Ap ["_law_cell","_law_k","_law_found"] ["_law_cell","_law_k"] (Ae Zh):=Fv (by decide +kernel)
theorem nJ(F:Dp K "_law_mixed" "_law_mixed" Zh f fd):Aj P w K mg base Bh 1 f fd ["_law_cell","_law_k"] Nt:=by
 refine F.ok eZ (λvs H Q E h=>?_) (λcdv A outer s H vs Q E hr h=>?_)
 ·obtain⟨c,k,rfl,_⟩:=h
  rfl
 obtain⟨c,k,rfl,q⟩:=h
 refine⟨_,Ac (Bj 2 eZ.nd (Ak Bi (Ak Jt (Ak Bv (Ak Bv (pv 0) (Ak Jt Ad (pv 1))) Ad) Ad) Ad))
  (Ag (An (Ak Bi (Ak Jt (pv 2) (pv 2)) Ad))),?_⟩
 refine⟨_,rfl,_,rfl,_,_,rfl,rfl,.inl ⟨by decide,by decide⟩,_,_,rfl,rfl,_,_,rfl,rfl,_,_,rfl,rfl,.inr ⟨by decide,by decide⟩,_,_,rfl,rfl,(by show (0:Int) < 2147483647;decide),?_⟩
 have b0:0<=(c+977 * k+31) * 48271 % 2147483647:=KJ _ (by decide)
 have b1:(c+977 * k+31) * 48271 % 2147483647 < 2147483647:=JZ _ (by decide)
 generalize (c+977 * k+31) * 48271 % 2147483647=y at *
 refine⟨_,rfl,_,rfl,_,_,rfl,rfl,.inl ⟨by omega,by omega⟩,_,_,rfl,rfl,(by show (0:Int) < 2147483629;decide),?_⟩
 exact q _ (KJ _ (by decide))
theorem jR:Ap HW ["_law_words","_law_first","_law_mixed_here"] (Ae Hl):=Fv (by decide +kernel)
theorem AV(F:Dp K "_law_step_by" "_law_step_by" Hl f fd)(T:Txt mg)(mAbs:mg "abs" = none):Aj P w K mg base Bh 1 f fd ["_law_words","_law_first","_law_mixed_here"] Qt:=by
 refine F.ok jR (λvs H Q E h=>?_) (λcdv A outer s H vs Q E hr h=>?_)
 ·obtain⟨wa,ws,a,m,rfl,_⟩:=h
  rfl
 obtain⟨wa,ws,a,m,rfl,hwa,ha,hwl,q⟩:=h
 -- what stands behind the two rows of texts
 refine Kd (tail:=(Bg Hl).drop 2) (λtt=>∀(D:L2.Ends)(H1:Hp)(l:IN),D.rt=Q->Am H H1->H1 l=some (.lst (Rj.map V.str++Rc.map V.str))->tt D [some (.ref wa),some (.int (a:Int)),some (.int m),some (.ref l),none,none,none,none] H1) ?_ ?_
 ·refine⟨_,Ac (Bj 4 jR.nd (Aq Bc (pv 3) (Ak Bi (pv 2) Ad) (λ_ _=>rfl)))
   (Ac (Bj 5 jR.nd (Ak Hq (Ak Bi (Ak Ce (pv 2) Ad) Ad) Ad))
   (Ac (Bj 6 jR.nd (Co En (pv 0) (Cy (pv 1)) Dy))
   (Ac (Bj 7 jR.nd (Aq Bc (pv 6) (Ak Bi (Ak Ce (pv 2) Ad) (Cg T.len (pv 6))) (λ_ _=>rfl)))
   (Ac (Ax (Ao Kb (pv 4) (Bb (Lz (xs:=["say","onwards"]) (by rfl))) rfl) (Ag (An (Bb (Dc (pv 4))))) Al)
   (Ac (Ax (Ao Bp (pv 4) Ar (As _)) (Ag (An (Bb (Ea (pv 4) (pv 7))))) Al)
   (Ac (Ax (Ao Bp (pv 4) Ar (As _)) (Ag (An (Bb (Ge (pv 4) (pv 7) (Aq Bc (pv 6) (Ak Bi (Ak Ce (pv 2) Ad) (Cg T.len (pv 6))) (λ_ _=>rfl)))))) Al)
   (Ac (Ax (PW.pt (Qx (Ao Kb (pv 4) (Bb (Lz (xs:=["part","over"]) (by rfl))) rfl) (Le (Ao Bp (pv 5) Ad (As _))))) (Ag (An (Bb (Ea (pv 4) (Hi Ff Ad))))) Al)
   (Ac (Ax (Ao Kb (pv 4) (Bb (Lz (xs:=["down","up"]) (by rfl))) rfl) (Ag (An (Bb (Ea (pv 4) (Bq jS rfl mAbs PyProof.Rows.boot_abs (Dc (pv 5))))))) Al)
   (Ag (An (Bb (Ea (pv 4) (pv 5))))))))))))),λD H1 l hD s1 el=>?_⟩
  refine⟨_,rfl,_,rfl,_,_,rfl,rfl,(by show (0:Int) < 23;decide),l,_,_,_,rfl,rfl,Av.of el,uG m,?_⟩
  have kop:=xS _ (qG m)
  generalize kdAt m=kd at *
  refine⟨_,rfl,_,_,rfl,rfl,⟨by decide,by decide⟩,_,_,rfl,rfl,(by show (0:Int) < 15;decide),_,_,rfl,rfl,?_⟩
  have a0:0<=m / 23 % 15:=KJ _ (by decide)
  have a1:m / 23 % 15 < 15:=JZ _ (by decide)
  generalize m / 23 % 15=am at *
  refine⟨_,rfl,_,rfl,_,rfl,wa,_,rfl,Av.of (s1 _ _ hwa),λsm hsm=>?_⟩
  rw[Nu _ _ (by rw[Aw];omega)]
  have e2:(Az ws).drop a=Az (ws.drop a):=by unfold Az;rw[QR]
  rw[e2]
  obtain⟨H2,zz,s2,esm⟩:=lay hsm (.lst (Az (ws.drop a)))
  rw[zz]
  have hdl:0 < (ws.drop a).length:=by rw[LP];omega
  have sA':=s1.trans s2
  have pick:∀x:Int,∃y,Hx (Az (ws.drop a)) (x % ((Az (ws.drop a)).length:Int))=some (.str y)/\y∈ws:=λx=>by
   rw[Aw]
   obtain⟨k,hk,hk2⟩:=Iy (x:=x) hdl
   rw[hk]
   exact⟨(ws.drop a)[k],Ba (Gb (IU hk2)),NP (LQ hk2)⟩
  obtain⟨y1,hy1,hy1m⟩:=pick (m / 345)
  obtain⟨y2,hy2,hy2m⟩:=pick (m / 2415)
  have hln:(0:Int) < ((Az (ws.drop a)).length:Int):=by rw[Aw];omega
  refine⟨_,rfl,_,rfl,_,_,rfl,rfl,⟨by decide,by decide⟩,_,rfl,sm,_,rfl,.inl (Av.of esm),_,_,rfl,rfl,hln,sm,_,_,_,rfl,rfl,Av.of esm,hy1,?_⟩
  have z2:2<=IK:=by rw[JB];decide
  have z1:1<=IK:=by rw[JB];decide
  refine⟨_,rfl,by show 2<=IK;exact z2,λtp htp=>⟨tp,_,rfl,.inr (Cc.of Aa),rfl,rfl,_,rfl,?_⟩⟩
  have s3:=Af htp (.tup ((["say","onwards"]:List Str).map V.str))
  have sB':=sA'.trans s3
  have esm3:=s3 _ _ esm
  generalize upd H2 tp (.tup ((["say","onwards"]:List Str).map V.str))=H3 at *
  refine Br (λc=>?_) (λc=>?_)
  ·refine⟨_,rfl,by show 1<=IK;exact z1,λt ht=>?_⟩
   rw[hD]
   rcases Yh.mp c with e | e
   ·subst e
    exact q t _ (.sm .say) (sB'.trans (Af ht _)) Aa trivial
   ·subst e
    exact q t _ .onw (sB'.trans (Af ht _)) Aa trivial
  have c1:¬ kd = "say" := λz=>c (Yh.mpr (.inl z))
  have c2:¬ kd = "onwards" := λz=>c (Yh.mpr (.inr z))
  refine⟨_,rfl,rfl,_,rfl,Br (λc3=>?_) (λc3=>?_)⟩
  ·refine⟨_,rfl,_,rfl,by show 2<=IK;exact z2,λt ht=>?_⟩
   rw[hD]
   obtain rfl:=Cb c3
   exact q t _ (.ask y1) (sB'.trans (Af ht _)) Aa hy1m
  refine⟨_,rfl,rfl,_,rfl,Br (λc4=>?_) (λc4=>?_)⟩
  ·refine⟨_,rfl,_,rfl,_,rfl,_,rfl,_,_,rfl,rfl,⟨by decide,by decide⟩,_,rfl,sm,_,rfl,.inl (Av.of esm3),_,_,rfl,rfl,hln,sm,_,_,_,rfl,rfl,Av.of esm3,hy2,by rw[JB];show 3<=_;decide,λt ht=>?_⟩
   rw[hD]
   obtain rfl:=Cb c4
   exact q t _ (.tri y1 y2) (sB'.trans (Af ht _)) Aa ⟨hy1m,hy2m⟩
  have hm:=kop c1 c2 (Ct c3) (Ct c4)
  have eb:big=1000000000000000000000000000000:=by decide
  have fin:∀(b:Int)(t:IN)(H4:Hp),Am H3 H4->H4 t=none -> -big<=b->b<=big->(kd = "over" ∨ kd = "part" -> b≠0)->(kd = "up" ∨ kd = "down" -> 0<=b/\b<=64)->Q (.ref t) (upd H4 t (.tup [.str kd,.int b])):=λb t H4 s4 ht b0 b1 b2 b3=>
   q t _ (.sm (.op kd b)) (sB'.trans (s4.trans (Af ht _))) Aa ⟨hm,b0,b1,b2,b3⟩
  refine⟨_,rfl,by show 2<=IK;exact z2,λtp2 htp2=>⟨tp2,_,rfl,.inr (Cc.of Aa),rfl,rfl,_,rfl,?_⟩⟩
  have s4:=Af htp2 (.tup ((["part","over"]:List Str).map V.str))
  generalize upd H3 tp2 (.tup ((["part","over"]:List Str).map V.str))=H4 at *
  have z7:∀ {p q:Str},kd=p->kd=q->p≠q->False:=λh1 h2 h3=>h3 (h1.symm.trans h2)
  refine Br (λc5=>?_) (λc5=>Di ?_)
  ·have k5:=Yh.mp c5
   refine⟨_,rfl,rfl,_,rfl,Br (λc6=>?_) (λc6=>?_)⟩
   ·refine⟨_,rfl,_,rfl,by show 2<=IK;exact z2,λt ht=>?_⟩
    rw[hD]
    refine fin (-5) t H4 s4 ht (by rw[eb];decide) (by rw[eb];decide) (λ_=>by decide) (λz=>?_)
    rcases k5 with h | h<;>rcases z with z | z<;>rw[h] at z<;>revert z<;>decide +kernel
   ·have c7:am-7≠0:=λh=>c6 (decide_eq_true (congrArg V.int h))
    refine⟨_,rfl,by show 2<=IK;exact z2,λtp3 htp3=>⟨tp3,_,rfl,.inr (Cc.of Aa),rfl,rfl,_,rfl,?_⟩⟩
    have s5:=s4.trans (Af htp3 (.tup ((["down","up"]:List Str).map V.str)))
    refine Br (λc8=>?_) (λc8=>?_)
    ·exfalso
     rcases Yh.mp c8 with z | z<;>rcases k5 with h | h<;>rw[h] at z<;>revert z<;>decide +kernel
    ·refine⟨_,rfl,_,rfl,by show 2<=IK;exact z2,λt ht=>?_⟩
     rw[hD]
     exact fin _ t _ s5 ht (by rw[eb];omega) (by rw[eb];omega) (λ_=>c7) (λz=>absurd (Yh.mpr z.symm) c8)
  ·have k5:¬ (kd = "part" ∨ kd = "over"):=λz=>c5 (Yh.mpr z)
   refine⟨_,rfl,by show 2<=IK;exact z2,λtp3 htp3=>⟨tp3,_,rfl,.inr (Cc.of Aa),rfl,rfl,_,rfl,?_⟩⟩
   have s5:=s4.trans (Af htp3 (.tup ((["down","up"]:List Str).map V.str)))
   refine Br (λc8=>?_) (λc8=>?_)
   ·refine⟨_,rfl,_,rfl,_,rfl,by show 2<=IK;exact z2,λt ht=>?_⟩
    rw[hD]
    exact fin _ t _ s5 ht (by rw[eb];split<;>omega) (by rw[eb];split<;>omega) (λz=>absurd z.symm k5) (λ_=>by split<;>omega)
   ·refine⟨_,rfl,_,rfl,by show 2<=IK;exact z2,λt ht=>?_⟩
    rw[hD]
    exact fin _ t _ s5 ht (by rw[eb];omega) (by rw[eb];omega) (λz=>absurd z.symm k5) (λz=>absurd (Yh.mpr z.symm) c8)
 intro t4 h4 p4
 have hA:=CQ h4 rfl rfl
 have hB:=BC h4 rfl rfl (λ_=>pv 3)
 refine eM hA ?_
 refine eM hB ?_
 refine⟨_,h4,?_⟩
 refine⟨by show 12<=IK;decide,λl1 hl1=>?_⟩
 refine⟨_,rfl,by show 11<=IK;decide,λl2 hl2=>?_⟩
 have n12:l1≠l2:=λz=>by rw[<- z,Aa] at hl2;cases hl2
 have s1:=Af hl1 (.lst (Rj.map V.str))
 have s2:=Af hl2 (.lst (Rc.map V.str))
 refine⟨l1,l2,_,_,rfl,rfl,by rw[Ai n12];exact Aa,Aa,by show 23<=IK;decide,λl3 hl3=>?_⟩
 exact p4 _ _ l3 rfl ((s1.trans s2).trans (Af hl3 _)) Aa
abbrev HI:List Str:=["_law_words","_law_first","_law_cell"]
theorem FA:Ap HI ["_law_words","_law_first","_law_cell"] (Ae Nv):=Fv (by decide +kernel)
theorem EE:(["_law_k","_law_cell","_law_first","_law_words"]:List Str).Nodup:=by decide +kernel
theorem BI(F:Dp K "_law_body_by" "_law_body_by" Nv f fd)(T:Txt mg)(GM:Aj P w K mg base Bh 1 fM dM ["_law_cell","_law_k"] Nt)(kM:IR K (.ref fM)=true)(bM:Binds K dM ["_law_cell","_law_k"] [])(mM:mg "_law_mixed" = some (.ref fM))(GS:Aj P w K mg base Bh 1 fS dS ["_law_words","_law_first","_law_mixed_here"] Qt)(kS:IR K (.ref fS)=true)(bS:Binds K dS ["_law_words","_law_first","_law_mixed_here"] [])(mS:mg "_law_step_by" = some (.ref fS)):Aj P w K mg base Bh 2 f fd ["_law_words","_law_first","_law_cell"] Jv:=by
 refine F.ok FA (λvs H Q E h=>?_) (λcdv A outer s H vs Q E hr h=>?_)
 ·obtain⟨wa,ws,a,c,rfl,_⟩:=h
  rfl
 obtain⟨wa,ws,a,c,rfl,hwa,ha,hwl,q⟩:=h
 refine⟨_,Ag (An (Gi (Ae Nv) HI ["_law_k"] [("_law_cell", 2),("_law_first", 1),("_law_words", 0)] rfl (Fl rfl T.range (Dc (Ak Bi (pv 2) Ad))) (Bs (i:=0) (by decide))
  (λ_ _ _ _ _ _=>⟨Cq 0 EE,Dx,Ck GS hr mS kS bS (Ge (pv 3) (pv 2) (Ck GM hr mM kM bM (Ea (Ak Ce (pv 1) Ad) (pv 0))))⟩))),?_⟩
 have b0:0<=c % 5:=KJ _ (by decide)
 have b1:c % 5 < 5:=JZ _ (by decide)
 refine⟨_,rfl,_,_,rfl,rfl,(by show (0:Int) < 5;decide),_,rfl,by omega,by omega,Il (k:=(c % 5).toNat) (λi ys H2=>Am H H2/\∃(ts:List IN)(ss:List Eg),ys=ts.map V.ref/\ts.length=i/\Df H2 ts (ss.map Eg.pr)/\∀s∈ss,kG ws s) ⟨Am.refl _,[],[],rfl,rfl,⟨rfl,λi t p h=>by simp at h⟩,λs hs=>nomatch hs⟩ ?_ ?_⟩
 ·rintro i ys H2 hi ⟨s2,ts,ss,rfl,htl,hst,hok⟩
  refine⟨_,rfl,_,rfl,_,rfl,_,_,rfl,rfl,⟨by decide,by decide⟩,_,rfl,_,_,rfl,λm hm=>?_⟩
  refine⟨wa,ws,a,m,rfl,s2 _ _ hwa,ha,hwl,λt H3 s' s3 et hw=>?_⟩
  have hsl:ss.length=ts.length:=by rw[hst.1,IM]
  refine⟨by rw[IM,htl,JB];omega,s2.trans s3,ts++[t],ss++[s'],by rw[JE];rfl,by rw[IV,htl];rfl,⟨by rw[IV,JE,IV,hst.1];rfl,λj t' p h1 h2=>?_⟩,λz hz=>?_⟩
  ·by_cases hj:j < ts.length
   ·rw[KA hj] at h1
    rw[JE,KA (by rw[IM,hsl];exact hj)] at h2
    exact s3 _ _ (hst.2 j t' p h1 h2)
   ·have hjl:j < (ts++[t]).length:=(IH.mp h1).1
    rw[IV,JH] at hjl
    obtain rfl:j=ts.length:=by omega
    rw[JY] at h1
    cases h1
    rw[JE,<- hsl,<- IM (f:=Eg.pr),List.map_singleton,JY] at h2
    cases h2
    exact et
  ·rcases JO.mp hz with h | h
   ·exact hok z h
   ·rw[IT.mp h]
    exact hw
 ·rintro ys H2 ⟨s2,ts,ss,rfl,htl,hst,hok⟩ l hl
  have s3:=Af hl (.lst (ts.map V.ref))
  refine q l ts ss _ (s2.free hl) (s2.trans s3) Aa (hst.same s3) hok ?_
  have:ss.length=ts.length:=by rw[hst.1,IM]
  omega
end
end Bk
namespace Bk
open PySem L2 Mg Nm Rk PySem.SeqAt
structure Ri(ks:List (Str×IN×List Str)):Prop where
 non:∀kd∈(["say","onwards"]:List Str),∃a,kindsOf ks kd=some (a,[])
 amt:∀kd∈(["put","plus","times","both","any","odd"]:List Str),∃a,kindsOf ks kd=some (a,([("amount" : Str)]:List Str))
 dv:∀kd∈(["over","part"]:List Str),∃a,kindsOf ks kd=some (a,([("divisor" : Str)]:List Str))
 sh:∀kd∈(["up","down"]:List Str),∃a,kindsOf ks kd=some (a,([("shift" : Str)]:List Str))
 ask:∃a,kindsOf ks "ask" = some (a,([("word" : Str)]:List Str))
 try_:∃a,kindsOf ks "try" = some (a,([("word" : Str),("word" : Str)]:List Str))
theorem Tt{y:Str}(h:Fb y=true):Fd "word" (.str y)=true:=by
 unfold Fd
 rw[if_pos rfl]
 exact h
theorem Oq{lo hi a:Int}(h0:lo<=a)(h1:a<=hi):uJ lo hi (.int a)=true:=by
 show (decide (lo<=a) && decide (a<=hi))=true
 rw[decide_eq_true h0,decide_eq_true h1]
 rfl
theorem nD{a:Int}(h0 : -big<=a)(h1:a<=big):Fd "amount" (.int a)=true:=by
 unfold Fd
 rw[if_neg (by decide +kernel),if_neg (by decide +kernel),if_neg (by decide +kernel)]
 exact Oq h0 h1
theorem vJ{a:Int}(h0 : -big<=a)(h1:a<=big)(hz:a≠0):Fd "divisor" (.int a)=true:=by
 unfold Fd
 rw[if_neg (by decide +kernel),if_neg (by decide +kernel),if_pos rfl,Oq h0 h1,decide_eq_false (λz=>hz (V.int.inj z))]
 rfl
theorem rB{a:Int}(h0:0<=a)(h1:a<=64):Fd "shift" (.int a)=true:=by
 unfold Fd
 rw[if_neg (by decide +kernel),if_pos rfl]
 exact Oq h0 h1
theorem Ta{ks:List (Str×IN×List Str)}{kd:Str}{ad:IN}(hk:kindsOf ks kd=some (ad,[])):Hy ks kd []:=⟨ad,[],hk,rfl,λi v k hv _=>by simp at hv⟩
theorem Md{ks:List (Str×IN×List Str)}{kd k:Str}{u:V}{ad:IN}(hk:kindsOf ks kd=some (ad,[k]))(hp:Fd k u=true):Hy ks kd [u]:=⟨ad,[k],hk,rfl,λi v k' hv hk'=>by
 have hi:i < 1:=(IH.mp hv).1
 obtain rfl:i=0:=by omega
 cases hv
 cases hk'
 exact hp⟩
theorem kI{ks:List (Str×IN×List Str)}{kd k k2:Str}{u u2:V}{ad:IN}(hk:kindsOf ks kd=some (ad,[k,k2]))(hp:Fd k u=true)(hp2:Fd k2 u2=true):Hy ks kd [u,u2]:=⟨ad,[k,k2],hk,rfl,λi v k' hv hk'=>by
 have hi:i < 2:=(IH.mp hv).1
 match i,hi with
 | 0,_=>cases hv;cases hk';exact hp
 | 1,_=>cases hv;cases hk';exact hp2⟩
theorem nE{ks:List (Str×IN×List Str)}(T:Ri ks){ws:List Str}(hw:∀y∈ws,Fb y=true){s:Eg}(h:kG ws s):Hy ks s.pr.1 s.pr.2/\(∀v∈s.pr.2,PV v)/\s.pr.2.length<=100:=by
 have pvs:∀ {y:Str},y∈ws->PV (.str y):=λ{y} hy=>.inr ⟨y,rfl,by
  have:=hw y hy
  unfold Fb at this
  rw[LC,LC] at this
  have:=of_decide_eq_true this.1.2
  rw[JB]
  omega⟩
 cases s with
 | onw=>
  obtain⟨a,ha⟩:=T.non "onwards" (by decide +kernel)
  exact⟨Ta ha,(λv hv=>nomatch hv),by show 0<=100;decide⟩
 | ask y=>
  obtain⟨a,ha⟩:=T.ask
  have hy:y∈ws:=h
  refine⟨Md ha (Tt (hw y hy)),λv hv=>?_,by show 1<=100;decide⟩
  rw[IT.mp hv]
  exact pvs hy
 | tri y z=>
  obtain⟨a,ha⟩:=T.try_
  have hh:y∈ws/\z∈ws:=h
  refine⟨kI ha (Tt (hw y hh.1)) (Tt (hw z hh.2)),λv hv=>?_,by show 2<=100;decide⟩
  rcases IQ.mp hv with rfl | hv
  ·exact pvs hh.1
  ·rw[IT.mp hv]
   exact pvs hh.2
 | sm s=>
  cases s with
  | say=>
   obtain⟨a,ha⟩:=T.non "say" (by decide +kernel)
   exact⟨Ta ha,(λv hv=>nomatch hv),by show 0<=100;decide⟩
  | op kd a=>
   have h':gJ kd a:=h
   refine⟨?_,λv hv=>.inl ⟨a,IT.mp hv⟩,by show 1<=100;decide⟩
   have m:=h'.mem
   unfold Kz at m
   simp only[IQ,JG,or_false] at m
   by_cases hd:kd = "over" ∨ kd = "part"
   ·obtain⟨ad,e⟩:=T.dv kd (by rcases hd with rfl | rfl<;>decide +kernel)
    exact Md e (vJ h'.lo h'.hi (h'.dv hd))
   by_cases hs:kd = "up" ∨ kd = "down"
   ·obtain⟨ad,e⟩:=T.sh kd (by rcases hs with rfl | rfl<;>decide +kernel)
    exact Md e (rB (h'.sh hs).1 (h'.sh hs).2)
   ·obtain⟨ad,e⟩:=T.amt kd (by
     rcases m with rfl | rfl | rfl | rfl | rfl | rfl | rfl | rfl | rfl | rfl
     ·decide +kernel
     ·decide +kernel
     ·decide +kernel
     ·exact absurd (.inl rfl) hd
     ·decide +kernel
     ·decide +kernel
     ·decide +kernel
     ·exact absurd (.inl rfl) hs
     ·exact absurd (.inr rfl) hs
     ·exact absurd (.inr rfl) hd)
    exact Md e (nD h'.lo h'.hi)
theorem Mr{ks:List (Str×IN×List Str)}(T:Ri ks){ws:List Str}(hw:∀y∈ws,Fb y=true){ss:List Eg}(h:∀s∈ss,kG ws s)(hl:ss.length<=30):Mx ks (ss.map Eg.pr):=by
 refine⟨by rw[IM];exact hl,λp hp=>?_⟩
 obtain⟨s,hs,rfl⟩:=KZ.mp hp
 exact nE T hw (h s hs)
def Hd(H H':Hp):Prop:=∀b o,H b=some o->(∀z,o ≠ .dK z)->(∀z,o ≠ .dT z)->H' b=some o
theorem Hd.of_same{H H':Hp}(s:Am H H'):Hd H H':=λb o h _ _=>s b o h
theorem Hd.trans{H H' H'':Hp}(a:Hd H H')(b:Hd H' H''):Hd H H'':=λc o h n m=>b c o (a c o h n m) n m
theorem Hd.lst{H H':Hp}(k:Hd H H'){b:IN}{xs:List V}(h:H b=some (.lst xs)):H' b=some (.lst xs):=k b _ h (by intro z e;cases e) (by intro z e;cases e)
theorem Dj.kp{H H':Hp}{la:IN}{ss:List Eg}(h:Dj H la ss)(k:Hd H H'):Dj H' la ss:=h.keep λb o e z=>k b o e (by rcases z with ⟨xs,rfl⟩ | ⟨xs,rfl⟩<;>intro y e<;>cases e) (by rcases z with ⟨xs,rfl⟩ | ⟨xs,rfl⟩<;>intro y e<;>cases e)
def Jg(CB CH:IN)(H0 H:Hp)(p d ka:IN)(ns:List Str)(m:Nat):Prop:=∃(L:List Ent)(kvs:List (List Key×V))(B:Dg),Ra CB CH H p d L ka kvs B/\L.map (·.nm)=ns/\kvs.length<=m/\(∀e∈L,e.bd.length<=m)/\Hd H0 H
theorem Jg.same{CB CH:IN}{H0 H H':Hp}{p d ka:IN}{ns:List Str}{m:Nat}(h:Jg CB CH H0 H p d ka ns m)(s:Am H H'):Jg CB CH H0 H' p d ka ns m:=
 let ⟨L,kvs,B,a,b,c,e,k⟩:=h;⟨L,kvs,B,a.same s,b,c,e,k.trans (Hd.of_same s)⟩
theorem Jg.mono{CB CH:IN}{H0 H:Hp}{p d ka:IN}{ns:List Str}{m m':Nat}(h:Jg CB CH H0 H p d ka ns m)(hm:m<=m'):Jg CB CH H0 H p d ka ns m':=
 let ⟨L,kvs,B,a,b,c,e,k⟩:=h;⟨L,kvs,B,a,b,JR c hm,λx hx=>JR (e x hx) hm,k⟩
def Kg(CB CH:IN):Sp:=λvs H Q _=>∃(p d na wa:IN)(L:List Ent)(ws:List Str)(sd:Int),vs=[.ref p,.ref na,.ref wa,.int sd]/\Ay CB CH H p d L/\Gw L/\L.length<=40/\(∀e∈L,e.bd=[])/\H na=some (.lst (Az (L.map (·.nm))))/\H wa=some (.lst (Az ws))/\ws.length<=7/\(∀y∈ws,Fb y=true) /\
 ∀ka H',Jg CB CH H H' p d ka (L.map (·.nm)) 300->Q (.ref ka) H'
section
variable {P:JJ} {w:KL} {K:IG} {mg:Str->Option II} {base:LO} {f fM fB fE CB CH:IN} {fd dM dB dE:JW} {ks:List (Str×IN×List Str)}
theorem Fi:Ap ["_law_book","_law_names","_law_words","_law_seed","_law_known","_law_at","_law_k","_law_mixed_here","_law_first"] ["_law_book","_law_names","_law_words","_law_seed"] (Ae Uh):=Fv (by decide +kernel)
theorem cD(F:Dp K "_law_taught" "_law_taught" Uh f fd)(T:Fo K mg CB CH)(Tx:Txt mg)(Tp:Ri ks)(GM:Aj P w K mg base Bh 1 fM dM ["_law_cell","_law_k"] Nt)(kM:IR K (.ref fM)=true)(bM:Binds K dM ["_law_cell","_law_k"] [])(mM:mg "_law_mixed" = some (.ref fM))(GB:Aj P w K mg base Bh 3 fB dB ["_law_words","_law_first","_law_cell"] Jv)(kB:IR K (.ref fB)=true)(bB:Binds K dB ["_law_words","_law_first","_law_cell"] [])(mB:mg "_law_body_by" = some (.ref fB))(GE:Aj P w K mg base Bh 6 fE dE ["self","name","word","body"] (Hj CB CH ks))(bE:Binds K dE ["self","name","word","body"] [])(mE:Cr K CB "teach" fE):Aj P w K mg base Bh 7 f fd ["_law_book","_law_names","_law_words","_law_seed"] (Kg CB CH):=by
 refine F.ok Fi (λvs H Q E h=>?_) (λcdv A outer s H vs Q E hr h=>?_)
 ·obtain⟨p,d,na,wa,L,ws,sd,rfl,_⟩:=h
  rfl
 obtain⟨p,d,na,wa,L,ws,sd,rfl,B,O,hL,hbd,ena,ewa,hws,hok,q⟩:=h
 have hr1:=hr.mono (j:=1) (by decide)
 have hr3:=hr.mono (j:=3) (by decide)
 have hu:=Gd hr
 refine⟨_,Ac (Bj 4 Fi.nd qF)
  (Ac (Eb LB rfl (Fl rfl Tx.range (Dc (Cg Tx.len (pv 1)))) (Cq 5 Fi.nd)
   (Ag (Eb LB rfl (Fl rfl Tx.range (Dc (Ak Hq (Cg Tx.len (pv 2)) Ad))) (Cq 6 Fi.nd)
    (Ac (Bj 7 Fi.nd (Ck GM hr1 mM kM bM (Ea (pv 3) (Ak Bv (Ak Jt Ad (pv 5)) (pv 6)))))
    (Ag (Ax (Ao Wj (Ak Bi (pv 7) Ad) Ad (As _))
     (Ac (Bj 8 Fi.nd Ad)
     (Ac (Ax (Ao Wj (Ak Bi (pv 3) Ad) Ad (As _)) (Ag (Bj 8 Fi.nd (Ak Bv (pv 6) Ad))) Al)
     (Ac (Gh hu (pv 4) (Bb (Ea (Aq Bc (pv 1) (pv 5) (λ_ _=>rfl)) (Aq Bc (pv 2) (pv 6) (λ_ _=>rfl)))) (Ck GB hr3 mB kB bB (Ge (pv 2) (pv 8) (Ak Ce (pv 7) Ad))) rfl)
     (Ag (Ca (Dv (pv 0) T.clB mE GE hr bE .nil Cw (Ge (Aq Bc (pv 1) (pv 5) (λ_ _=>rfl)) (Aq Bc (pv 2) (pv 6) (λ_ _=>rfl)) (Iw hu (pv 4) (Bb (Ea (Aq Bc (pv 1) (pv 5) (λ_ _=>rfl)) (Aq Bc (pv 2) (pv 6) (λ_ _=>rfl)))) (λ_ _=>rfl))))))))) Al))))))
  (Ag (An (pv 4)))),?_⟩
 intro ka hka
 obtain⟨H1,zz,s1,e1⟩:=lay hka (.dT [])
 rw[zz]
 have S1:Jg CB CH H H1 p d ka (L.map (·.nm)) 0:=⟨L,[],λ_ _=>none,⟨B.same s1,O,e1,λe he w _=>⟨by rw[hbd e he];rfl,rfl⟩,(λe he w ss h=>nomatch h),λy w ss h=>nomatch h⟩,rfl,IP _,λe he=>by rw[hbd e he];exact IP _,Hd.of_same s1⟩
 have ln:(Az (L.map (·.nm))).length=L.length:=by rw[Aw,IM]
 have lw:(Az ws).length=ws.length:=Aw ws
 refine⟨_,rfl,na,_,rfl,.inl (Av.of (s1 _ _ ena)),_,rfl,by rw[ln];omega,by rw[ln];omega,Gq (n:=((Az (L.map (·.nm))).length:Int).toNat) (λi σ H2=>∃v5 v6 v7 v8,σ=[some (.ref p),some (.ref na),some (.ref wa),some (.int sd),some (.ref ka),v5,v6,v7,v8]/\Jg CB CH H H2 p d ka (L.map (·.nm)) (i * 7)) ⟨_,_,_,_,rfl,S1⟩ ?_ ?_⟩
 ·rintro i σ H2 hi ⟨v5,v6,v7,v8,rfl,S2⟩
  rw[Int.zero_add]
  have hi':i < L.length:=by omega
  have ena2:H2 na=some (.lst (Az (L.map (·.nm)))):=let ⟨_,_,_,_,_,_,_,kx⟩:=S2;kx.lst ena
  have ewa2:H2 wa=some (.lst (Az ws)):=let ⟨_,_,_,_,_,_,_,kx⟩:=S2;kx.lst ewa
  obtain⟨x,hx⟩:∃x,(L.map (·.nm))[i]? = some x:=⟨_,IU (by rw[IM];exact hi')⟩
  have atx:Hx (Az (L.map (·.nm))) (i:Int)=some (.str x):=Ba (by unfold Az;rw[JU,hx];rfl)
  refine⟨_,rfl,wa,_,rfl,.inl (Av.of ewa2),_,_,rfl,rfl,_,rfl,by rw[lw];omega,by rw[lw];omega,Gq (n:=(((Az ws).length:Int)-1).toNat) (λj σ H3=>∃v6 v7 v8,σ=[some (.ref p),some (.ref na),some (.ref wa),some (.int sd),some (.ref ka),some (.int (i:Int)),v6,v7,v8]/\Jg CB CH H H3 p d ka (L.map (·.nm)) (i * 7+j)) ⟨_,_,_,rfl,S2⟩ ?_ ?_⟩
  ·rintro j σ H3 hj ⟨v6,v7,v8,rfl,hS⟩
   rw[Int.zero_add]
   have hj':j+1 < ws.length:=by omega
   have ena3:H3 na=some (.lst (Az (L.map (·.nm)))):=let ⟨_,_,_,_,_,_,_,kx⟩:=hS;kx.lst ena
   have ewa3:H3 wa=some (.lst (Az ws)):=let ⟨_,_,_,_,_,_,_,kx⟩:=hS;kx.lst ewa
   obtain⟨y,hy⟩:∃y,ws[j]? = some y:=⟨_,IU (by omega)⟩
   have aty:Hx (Az ws) (j:Int)=some (.str y):=Ba (by unfold Az;rw[JU,hy];rfl)
   refine⟨_,rfl,_,rfl,_,_,rfl,rfl,.inl ⟨by decide,by decide⟩,_,rfl,_,_,rfl,rfl,sd,_,rfl,λm hm=>?_⟩
   refine⟨_,rfl,_,_,rfl,rfl,(by show (0:Int) < 4;decide),_,_,rfl,rfl,_,rfl,Br (λc1=>?_) (λc1=>⟨_,_,_,rfl,hS.mono (by omega)⟩)⟩
   refine⟨_,rfl,_,_,rfl,rfl,(by show (0:Int) < 3;decide),_,_,rfl,rfl,_,rfl,Br (λc2=>⟨_,rfl,_,_,rfl,rfl,?_⟩) (λc2=>?_)⟩
   all_goals
    first
     | refine⟨_,rfl,_,rfl,_,rfl,_,_,rfl,rfl,⟨by decide,by decide⟩,wa,ws,j+1,_,rfl,ewa3,by omega,by omega,λlb ts ss H4 hlb s4 elb hst hss hsl=>?_⟩
     | refine⟨_,rfl,_,rfl,_,rfl,_,_,rfl,rfl,⟨by decide,by decide⟩,wa,ws,0,_,rfl,ewa3,by omega,by omega,λlb ts ss H4 hlb s4 elb hst hss hsl=>?_⟩
    obtain⟨L',kvs,Bd,S,hns,hkl,hbl,kx⟩:=(hS.same s4)
    have ena4:=s4 _ _ ena3
    have ewa4:=s4 _ _ ewa3
    obtain⟨e,he,hnm⟩:∃e,L'[i]? = some e/\e.nm=x:=by
     rw[<- hns,JU] at hx
     cases z:L'[i]? with
     | none=>rw[z] at hx;cases hx
     | some e=>rw[z] at hx;exact⟨e,rfl,KC hx⟩
    subst hnm
    refine⟨_,rfl,_,rfl,_,rfl,na,_,_,_,rfl,rfl,Av.of ena4,atx,_,rfl,_,rfl,wa,_,_,_,rfl,rfl,Av.of ewa4,aty,by show 2<=IK;decide,λtk htk=>?_⟩
    obtain⟨H5,zz,s5,e5⟩:=lay htk (.tup [V.str e.nm,V.str y])
    rw[zz]
    have S5:=S.same s5
    refine⟨ka,_,rfl,Kt.t (k:=[(IW e.nm:Key),IW y]) S5.dc e5 (by rw[JB];omega),?_⟩
    have k6:∀b o,H5 b=some o->b≠ka->(upd H5 ka (.dT (putK kvs [(IW e.nm:Key),IW y] (.ref lb)))) b=some o:=λb o h n=>by rw[Ai n];exact h
    have d6:(upd H5 ka (.dT (putK kvs [(IW e.nm:Key),IW y] (.ref lb)))) ka=some (.dT (putK kvs [(IW e.nm:Key),IW y] (.ref lb))):=Aa
    generalize upd H5 ka (.dT (putK kvs [(IW e.nm:Key),IW y] (.ref lb)))=H6 at *
    have kx6:Hd H5 H6:=λb o h _ n=>k6 b o h (Cd h S5.dc (n _))
    have ena6:=kx6.lst (s5 _ _ ena4)
    have ewa6:=kx6.lst (s5 _ _ ewa4)
    have B6:Ay CB CH H6 p d L':=S5.bk.keepT λb o h n=>k6 b o h (Cd h S5.dc (n _))
    obtain⟨dx6,hp6⟩:=B6.ob
    refine⟨_,rfl,p,dx6,_,rfl,hp6,Fx d (by decide +kernel),_,rfl,_,rfl,na,_,_,_,rfl,rfl,Av.of ena6,atx,_,rfl,_,rfl,wa,_,_,_,rfl,rfl,Av.of ewa6,aty,_,rfl,_,rfl,_,rfl,na,_,_,_,rfl,rfl,Av.of ena6,atx,_,rfl,_,rfl,wa,_,_,_,rfl,rfl,Av.of ewa6,aty,by show 2<=IK;decide,λtk2 htk2=>?_⟩
    obtain⟨H7,zz,s7,e7⟩:=lay htk2 (.tup [V.str e.nm,V.str y])
    rw[zz]
    have d7:=s7 _ _ d6
    have g7:=Fc.t (k:=[(IW e.nm:Key),IW y]) d7 e7
    rw[Ec,if_pos rfl] at g7
    have hb5:Dj H5 lb ss:=Dj.kp ⟨ts,elb,hst⟩ (Hd.of_same s5)
    have hb7:Dj H7 lb ss:=(hb5.kp kx6).kp (Hd.of_same s7)
    have k57:∀b o,H5 b=some o->b≠ka->H7 b=some o:=λb o h n=>s7 _ _ (k6 b o h n)
    obtain⟨ts',elb7,hst7⟩:=hb7
    have B7:=B6.same s7
    have hem:=IY he
    have hyk:=hok y (IY hy)
    have hyl:y.length<=20:=by
     unfold Fb at hyk
     rw[LC,LC] at hyk
     exact of_decide_eq_true hyk.1.2
    refine⟨ka,.ref lb,rfl,g7,p,d,lb,L',e.nm,y,e,ts',ss.map Eg.pr,rfl,B7,Jk B7.nd hem,hyk,by rw[JB];omega,elb7,hst7,Mr Tp hok hss (by omega),by have:=hbl e hem;omega,λla H8 hla ela eba k8=>?_⟩
    have E7:=(B7.en e hem).bd
    have kx8:Hd H7 H8:=λb o h n _=>k8 b o h (Cd h E7 (n _))
    have hla8:Dj H8 la ss:=⟨ts',ela,hst7.1,λa t pr h1 h2=>kx8 _ _ (hst7.2 a t pr h1 h2) (by intro z e;cases e) (by intro z e;cases e)⟩
    have S8:=S5.put he (w:=y) (ss:=ss) ⟨λs hs=>(hss s hs).ok,by omega⟩ k57 d7 ⟨ts',elb7,hst7⟩ k8 eba hla8
    refine⟨_,_,_,rfl,_,_,_,S8,(Ds (f:=λx:Ent=>x.nm) (e':={ e with bd:=putK e.bd (IW y:Key) (.ref la) }) he rfl).trans hns,?_,λe1 he1=>?_,(((kx.trans (Hd.of_same s5)).trans kx6).trans (Hd.of_same s7)).trans kx8⟩
    ·have:=Dq kvs [(IW e.nm:Key),IW y] (.ref lb)
     omega
    ·rcases QH he1 with z | z
     ·have:=hbl e1 z
      omega
     ·rw[z]
      have h1:=Dq e.bd (IW y:Key) (.ref la)
      have h2:=hbl e hem
      show (putK e.bd (IW y:Key) (.ref la)).length<=_
      omega
  ·rintro σ H3 ⟨v6,v7,v8,rfl,hS⟩
   exact⟨_,_,_,_,rfl,hS.mono (by omega)⟩
 ·rintro σ H2 ⟨v5,v6,v7,v8,rfl,S2⟩
  exact⟨_,rfl,q ka H2 (S2.mono (by omega))⟩
end
theorem Gp{κ:Type}[DecidableEq κ](k j:κ):∀kvs:List (κ×V),valV (Ci kvs k) j=if j=k then none else valV kvs j
 | []=>by split<;>rfl
 | kv::r=>by
  have ih:=Gp k j r
  by_cases h:kv.1=k
  ·have e:Ci (kv::r) k=Ci r k:=by unfold Ci;rw[QU (by simp[h])]
   rw[e,ih]
   by_cases hj:j=k
   ·rw[if_pos hj,if_pos hj]
   ·rw[if_neg hj,if_neg hj,Cm (λz=>hj (z.symm.trans h))]
  ·have e:Ci (kv::r) k=kv::Ci r k:=by unfold Ci;rw[QT (by simp[h])]
   rw[e]
   by_cases hk:kv.1=j
   ·rw[Cu hk,Cu hk,if_neg (λz=>h (hk.trans z))]
   ·rw[Cm hk,Cm hk,ih]
section
variable {CB CH:IN} {H H':Hp} {p d ka:IN} {L:List Ent} {kvs:List (List Key×V)} {B:Dg}
theorem Ra.drop(S:Ra CB CH H p d L ka kvs B){i:Nat}{e:Ent}(he:L[i]? = some e){w:Str}{H2:Hp}(hk:∀b o,H b=some o->b≠ka->H' b=some o)(hd:H' ka=some (.dT (Ci kvs [(IW e.nm:Key),IW w])))(k2:kJ H' H2 e.ba)(hba:H2 e.ba=some (.dK (Ci e.bd (IW w:Key)))):
 Ra CB CH H2 p d (L.set i { e with bd:=Ci e.bd (IW w:Key) }) ka (Ci kvs [(IW e.nm:Key),IW w]) (Qm B e.nm w none):=by
 have hem:=IY he
 have hal:i < L.length:=(IH.mp he).1
 have B1:Ay CB CH H' p d L:=S.bk.keepT λb o h hn=>hk b o h (Cd h S.dc (hn _))
 have E1:=(B1.en e hem).bd
 have lt1:∀b o,H b=some o->((∃xs,o=.lst xs) ∨ ∃xs,o=.tup xs)->H2 b=some o:=λb o h z=>by
  have e1:H' b=some o:=hk b o h (Cd h S.dc (by rcases z with ⟨xs,rfl⟩ | ⟨xs,rfl⟩<;>intro y<;>cases y))
  exact k2 b o e1 (Cd e1 E1 (by rcases z with ⟨xs,rfl⟩ | ⟨xs,rfl⟩<;>intro y<;>cases y))
 refine⟨B1.putBd he k2 hba,S.od.set he _,k2 _ _ hd (Cd hd E1 (by intro z;cases z)),λe1 he1 v h=>?_,λe1 he1 v ss1 h=>?_,λy v ss1 h=>?_⟩
 ·obtain⟨j,hj⟩:=LD he1
  rw[Gp]
  by_cases hno:e1.nm=e.nm/\v=w
  ·rw[if_pos (by rw[hno.1,hno.2])]
   refine⟨?_,rfl⟩
   rcases Hm hal hj with ⟨rfl,rfl⟩ | ⟨hne,hj'⟩
   ·show valV (Ci e.bd (IW w:Key)) (IW v:Key)=none
    rw[Gp,if_pos (by rw[hno.2])]
   ·exact absurd hno.1 (vW S.bk.nd he hj' hne)
  have hB:B e1.nm v=none:=by
   have:=h
   unfold Qm at this
   rwa [if_neg hno] at this
  rw[if_neg (key_ne hno)]
  rcases Hm hal hj with ⟨rfl,rfl⟩ | ⟨hne,hj'⟩
  ·have hv:¬ v=w:=λz=>hno ⟨rfl,z⟩
   have z:=S.no e hem v hB
   refine⟨?_,z.2⟩
   show valV (Ci e.bd (IW w:Key)) (IW v:Key)=none
   rw[Gp,if_neg (λy=>hv (IW.inj y))]
   exact z.1
  ·exact S.no e1 (IY hj') v hB
 ·obtain⟨j,hj⟩:=LD he1
  have hno:¬ (e1.nm=e.nm/\v=w):=λz=>by
   have:=h
   unfold Qm at this
   rw[if_pos z] at this
   cases this
  have hB:B e1.nm v=some ss1:=by
   have:=h
   unfold Qm at this
   rwa [if_neg hno] at this
  rw[Gp,if_neg (key_ne hno)]
  rcases Hm hal hj with ⟨rfl,rfl⟩ | ⟨hne,hj'⟩
  ·have hv:¬ v=w:=λz=>hno ⟨rfl,z⟩
   obtain⟨a,b,c1,c2,c3,c4⟩:=S.yes e hem v ss1 hB
   refine⟨a,b,?_,c2.keep lt1,c3,c4.keep lt1⟩
   show valV (Ci e.bd (IW w:Key)) (IW v:Key)=_
   rw[Gp,if_neg (λy=>hv (IW.inj y))]
   exact c1
  ·obtain⟨a,b,c1,c2,c3,c4⟩:=S.yes e1 (IY hj') v ss1 hB
   exact⟨a,b,c1,c2.keep lt1,c3,c4.keep lt1⟩
 ·by_cases hyes:y=e.nm/\v=w
  ·unfold Qm at h
   rw[if_pos hyes] at h
   cases h
  ·unfold Qm at h
   rw[if_neg hyes] at h
   exact S.ok y v ss1 h
end
end Bk
namespace L2
open PySem PySem.Spec PyProof.Rows
section
variable {prog:JJ} {w:KL} {A:KG} {s:IL} {E:II->IL->Prop}
theorem Xk{it l:IN}{items:Array II}(ne:l≠it):∀(n i:Nat)(s:IL)(Q:List II->IL->Prop),s.heap.IsListIter it l i->s.heap.IsList l items->i+n<=items.size ->
 (∀h',h'.IsListIter it l (i+n)->OQ it s.heap h'->Q ((items.toList.drop i).take n) { s with heap:=h' })->JT (JV prog w) A (draw (.ref it) n) Q E s
 | 0,i,s,Q,h1,_,_,q=>JA (by simpa using q s.heap h1 (Heap.SameBut.refl ..))
 | n+1,i,s,Q,h1,h2,le,q=>by
  have lt:i < items.size:=by omega
  refine IF (m:=OX (.ref it)) (PQ h1 h2 (x:=items[i]) (by simp[lt]) λh' a1 b1=>?_)
  refine IF (LI (Xk ne n (i+1) _ _ a1 (h2.extBut b1.extBut ne) (by omega) λh'' a2 b2=>JA ?_))
  have z:=q h'' (by rw[show i+(n+1)=i+1+n by omega];exact a2) (b1.trans b2)
  rw[show items.toList.drop i=items[i]::items.toList.drop (i+1) by simp[KY,lt],List.take_succ_cons] at z
  exact z
theorem sI{l:IN}{items:Array II}{Q:List II->IL->Prop}(hh:Bm A s.heap)(hl:s.heap.IsList l items)(hQ:∀h',NA s.heap.objs.size s.heap h'->Q items.toList { s with heap:=h' }):JT (JV prog w) A (unpackItems (.ref l) items.size none) Q E s:=by
 have ne0:l≠s.heap.objs.size:=by
  obtain⟨o,g,_⟩:=hl
  exact JP (JF g)
 unfold unpackItems notIterableAtAll
 refine IF (IF (wpAny_specialOf hl.typeIs slot_list_iter.lookup (JA ?_)))
 simp only[LZ,if_false]
 refine IF (LI (wpAny_pyIter_list hl (IF (LI (Xk ne0 items.size 0 _ _ ⟨_,JI _ rfl,rfl,rfl⟩ (hl.push _) (by omega) λh1 i1 s1=>?_)))))
 rw[show List.take items.size (List.drop 0 items.toList)=items.toList by rw[List.drop_zero];exact KW (by simp),if_neg (by simp)]
 have hl1:h1.IsList l items:=(hl.push _).extBut s1.extBut ne0
 have kp:NA s.heap.objs.size s.heap h1:=λb o hb g=>s1.extBut b o hb (IJ _ g)
 have hh1:Bm A h1:=by
  rcases hh with z | ⟨x,o,vs,a,g,d,c⟩
  ·exact .inl z
  ·exact .inr ⟨x,o,vs,a,kp _ _ (JP (JF g)) g,d,c⟩
 have i1':h1.IsListIter s.heap.objs.size l items.size:=by simpa using i1
 refine IF (LI (Us hh1 i1' hl1 (by simp) λh2 e2=>?_))
 simp only[Option.isSome_none,LZ,if_false]
 exact JA (hQ h2 (kp.trans e2))
theorem vG{env:Env}{elts:List Expr}{x1}{pos:Pos}{l:IN}{items:Array II}{Q:Unit->IL->Prop}(hh:Bm A s.heap)(hl:s.heap.IsList l items)(hn:(OH elts env).length=items.size)(hst:(OH elts env).findIdx? (·.1)=none)(h:∀h',NA s.heap.objs.size s.heap h'->JT (JV prog w) A (assignInOrder ((OH elts env).map (·.2)) items.toList) Q E { s with heap:=h' }):JT (JV prog w) A (assign (.Tuple elts x1 pos) env (.ref l)) Q E s:=by
 rw[assign_Tuple]
 refine IF (PK ?_)
 unfold unpack
 rw[hn,hst]
 exact IF (LI (sI hh hl h))
end
section
variable {X:Cx} {pos:Pos}
def FV(K:IG)(n:Nat)(t:jK):TG:=λv σ H Q=>∃a xs,v=.ref a/\Av K H a xs/\xs.length=n/\t xs σ H Q
theorem xW{es:List Expr}{k:Nat}{t:jK}{n:Nat}(hc:X.calm=true)(h:CV X es t)(hn:(OH es X.env).length=n:=by rfl)(hst:(OH es X.env).findIdx? (·.1)=none:=by rfl):PG X (.Tuple es k pos) (FV X.K n t):=by
 intro pins s σ H v u Q I r hw
 obtain⟨a,xs,e1,hq,hl,hw⟩:=hw
 subst e1
 cases r
 obtain⟨its,rv,p,hz⟩:=I.list hq
 refine vG (I.calmS hc) p.isList (by simp[hn,<- hl,rv.length]) hst λh' hx=>?_
 have I1:Inv X pins σ H { s with heap:=h' }:=I.kept (t':=s.toks) λb o e=>hx b o (JP (JF e)) e
 exact h pins _ σ H xs _ Q I1 (by simpa using rv) hw
end
section
variable {κ:Type} [DecidableEq κ]
def Jd(xs:List (κ×IN×II))(k:κ):List (κ×IN×II):=xs.filter λx=>!decide (x.1=k)
theorem qX:∀ {xs:List (κ×IN×II)} {k:κ},k∉xs.map (·.1)->Jd xs k=xs:=by
 intro xs k h
 refine List.filter_eq_self.mpr λx hx=>?_
 have:x.1≠k:=λe=>h (e ▸ KZ.mpr ⟨x,hx,rfl⟩)
 simp[this]
theorem Xh{β:Type}(f:κ×IN×II->β):∀ {xs:List (κ×IN×II)} {j:Nat} {k:κ} {p:IN×II},(xs.map (·.1)).Nodup->xs[j]? = some (k,p)->(xs.map f).eraseIdx j=(Jd xs k).map f:=by
 intro xs
 induction xs with
 | nil=>intro j k p _ h;simp at h
 | cons x r ih=>
  intro j k p hn hj
  rw[KR,LJ] at hn
  cases j with
  | zero=>
   simp only[List.getElem?_cons_zero,Option.some.injEq] at hj
   subst hj
   have e:Jd ((k,p)::r) k=Jd r k:=by unfold Jd;rw[QU (by simp)]
   rw[e,qX hn.1,KR,List.eraseIdx_cons_zero]
  | succ j=>
   simp only[List.getElem?_cons_succ] at hj
   have hm:k∈r.map (·.1):=KZ.mpr ⟨(k,p),IY hj,rfl⟩
   have hne:¬ x.1=k:=λe=>hn.1 (e ▸ hm)
   have e:Jd (x::r) k=x::Jd r k:=by unfold Jd;rw[QT (by simp[hne])]
   rw[e,KR,KR,List.eraseIdx_cons_succ,ih hn.2 hj]
end
section
variable {prog:JJ} {w:KL} {κ:Type} [DecidableEq κ] {knd:HeapKind prog w κ} {A:KG} {E:II->IL->Prop} {s:IL}
theorem Vd{d a:IN}{xs:List (κ×IN×II)}{k:κ}{Q:Option DictEntry->IL->Prop}(hu:knd.room A)(hkey:knd.is s.heap k a)(hm:s.heap.DictOfH knd d xs)(hnone:atKey xs k=none->Q none { s with toks:=s.toks+knd.draws k })(hsome:∀e p,atKey xs k=some p->e.val=p.2->∀h',h'.DictOfH knd d (Jd xs k)->OQ d s.heap h'->Q (some e) { s with heap:=h',toks:=s.toks+knd.draws k })(hsz:xs.length<=IK):
 JT (JV prog w) A (Builtin.Dict.takeOut d (.ref a)) Q E s:=by
 obtain⟨o,es,ep,ho,hc,hd,he,his,hn⟩:=hm
 unfold Builtin.Dict.takeOut
 try with_reducible refine LI ?_
 refine IF (knd.pyHash hu hkey ?_)
 refine IF (wpAny_dictFind_heap (s:={ s with toks:=s.toks+knd.draws k }) hu hkey ho hd he his hn ?_ ?_)
 ·intro hno
  exact JA (hnone (atKey_none_of_get hno))
 ·intro j p hj
  refine IF (wpAny_dictEntries (s:={ s with toks:=s.toks+knd.draws k }) ho hd ?_)
  rw[entry_at he j,hj]
  refine IF (wpAny_updateDictKeys (hz:=by have e:=size_of_entries he;omega) (s:={ s with toks:=s.toks+knd.draws k }) ho hd (JA (hsome _ p (atKey_of_get hn hj) rfl _ ⟨_,_,ep+1,LM _ ho (Obj.isFreed_of_dict (Obj.data_mapDictKeys hd _)),
   hc.mapDictKeys _,Obj.data_mapDictKeys hd _,?_,?_,?_⟩ (NH ..))))
  ·have:=Xh (entryOfKey knd) hn hj
   rw[<- he] at this
   obtain⟨l⟩:=es
   simpa using this
  ·intro x hx
   exact knd.keeps (his x (List.mem_filter.mp hx).1) ho hd (NH ..)
  ·exact List.Sublist.nodup (List.Sublist.map _ (List.filter_sublist)) hn
theorem Yn(d a:IN)(hd:(d == NG)=false)(dflt:II):
 MeetsIn prog w (Builtin.«dict.pop» ⟨[.ref d,.ref a,dflt],[]⟩) (λA R s=>knd.room A.in1/\∃k xs,knd.is s.heap k a/\s.heap.DictOfH knd d xs/\xs.length<=IK /\
  (∀p,atKey xs k=some p->∀h',h'.DictOfH knd d (Jd xs k)->OQ d s.heap h'->R (.ok (.ret p.2)) { s with heap:=h',toks:=s.toks+knd.draws k }) /\
  (atKey xs k=none->∀t,R (.ok (.ret dflt)) { s with toks:=t })):=
 .of_wp λA R s ⟨hu,k,xs,hkey,hm,hsz,h1,h2⟩=>by
  obtain⟨o,es,ep,ho,hc,hdat,he,his,hn⟩:=id hm
  unfold Builtin.«dict.pop»
  refine IF ?_
  unfold Builtin.Dict.keyAndDefault
  refine IF (wpAny_notOrdered_dict hm.typeIs ?_)
  show JT _ _ (pure (d,JD a,some dflt)) _ _ s
  refine JA ?_
  have hkp:(keyPart (JD a)).isSome=false:=rfl
  simp only[hkp,LZ,if_false]
  refine IF (wpAny_dictEntries ho hdat (IF (JA ?_)))
  by_cases hemp:es.isEmpty=true
  ·simp only[hemp,if_true]
   refine IF (NF (IF (JA ?_)))
   simp only[Option.isNone_none,if_true]
   refine IF (wpAny_missedRemoval_other hd ?_)
   have hx:xs=[]:=by
    have:=size_of_entries he
    have h0:es.size=0:=by simpa using hemp
    exact List.length_eq_zero_iff.mp (by omega)
   exact IF (NF (JA ⟨dflt,rfl,h2 (by subst hx;rfl) s.toks⟩))
  ·simp only[hemp,LZ,if_false]
   refine IF (Vd hu hkey hm (λhno=>?_) (λe p hp hev h' hm' hs'=>?_) hsz)
   ·simp only[Option.isNone_none,if_true]
    refine IF (wpAny_missedRemoval_other hd ?_)
    exact IF (NF (JA ⟨dflt,rfl,h2 hno _⟩))
   ·simp only[Option.isNone_some,LZ,if_false]
    exact IF (QA (JA ⟨e.val,rfl,by rw[hev];exact h1 p hp h' hm' hs'⟩))
end
theorem KT.drop{H:Hp}{kvs:List (List Key×V)}{xs:List (List Key×IN×II)}(r:KT H kvs xs)(k:List Key):KT H (Ci kvs k) (Jd xs k):=by
 induction r with
 | nil=>exact .nil
 | @cons p q ps qs h t ih=>
  obtain⟨h1,h2,h3⟩:=h
  unfold Ci Jd
  by_cases e:p.1=k
  ·rw[QU (by simp[e]),QU (by simp[h1.symm.trans e])]
   exact ih
  ·have e':¬ q.1=k:=λz=>e (h1.trans z)
   rw[QT (by simp[e]),QT (by simp[e'])]
   exact .cons ⟨h1,h2,h3⟩ ih
section
variable {X:Cx} {pins:List (IN×Obj)} {σ:St} {H:Hp} {s:IL} {a b:IN} {kvs:List (List Key×V)} {k:List Key} {r:II} {A:KG} {E:II->IL->Prop}
theorem yL{Q:II->IL->Prop}(hu:A.units+1 < cLine)(I:Inv X pins σ H s)(e:H a=some (.dT kvs))(eb:H b=some (.tup (k.map kV)))(h1:∀v,valV kvs k=some v->∀w' s',Inv X pins σ (upd H a (.dT (Ci kvs k))) s'->RelV v w'->Q w' s')(h2:valV kvs k=none->∀s',Inv X pins σ H s'->Q r s'):
 JT (JV X.prog X.w) A (call (.builtin "dict.pop") [.ref a,.ref b,r]) Q E s:=by
 obtain⟨z,hd,xs,rel,dd⟩:=wD I.hok e
 have hz:xs.length<=IK:=by rw[<- NK rel];exact z
 have rv:=rel.val k
 refine call_meetsIn RI dd.typeIs PySem.F.entry_dict_pop (PySem.F.args_dict_pop_3 _ _ _) (Yn (knd:=tupleKind (Bz X.prog X.w)) a b hd r) ⟨PU hu,k,xs,Ld I.hok eb,dd,hz,λp hp h' dd' hs=>?_,λhn t=>?_⟩
 ·rw[hp] at rv
  cases q:valV kvs k with
  | none=>rw[q] at rv;cases rv
  | some v=>
   rw[q] at rv
   refine h1 v q _ _ ?_ (show RelV v p.2 from rv)
   obtain⟨qo,es,ep,hq,c2,c3,c4,_,c5⟩:=dd'
   have hl:(Ci kvs k).length<=IK:=JR (List.length_filter_le _ _) z
   refine Lr I (by rw[e];exact NI) hs ⟨qo,hq⟩ ⟨hl,hd,_,(rel.drop k).keeps λc ys ec=>?_,qo,es,ep,hq,c2,c3,c4,c5⟩
   rw[Ai (Cd ec e (λz=>nomatch z))]
   exact ec
 ·rw[hn] at rv
  cases q:valV kvs k with
  | none=>exact h2 q _ (I.tok _)
  | some v=>rw[q] at rv;cases rv
end
def xJ(td ty tx:TE):TE:=λσ H Q=>td σ H λx H1=>∃a,x=.ref a/\DQ H1 a/\ty σ H1 λy H2=>tx σ H2 λz H3=>∃b kvs k,y=.ref b/\H3 a=some (.dT kvs)/\H3 b=some (.tup (k.map kV)) /\
 (∀v,valV kvs k=some v->Q v (upd H3 a (.dT (Ci kvs k))))/\(valV kvs k=none->Q z H3)
section
variable {X:Cx} {o e f:Expr} {apos cpos:Pos} {td ty tx:TE}
theorem pR(hu:X.A.units+1 < cLine)(ho:PE X o td)(he:PE X e ty)(hf:PE X f tx)(m:M2 X o "pop" apos e f cpos):PE X (.Call (.Attribute o "pop" apos) [e,f] [] cpos) (xJ td ty tx):=by
 intro pins s σ H Q I h
 refine wpAny_Call_method m.base m.few m.line QP RI PySem.F.type_dict_pop (Bx (ho pins s σ H _ I h) λu s1 ⟨x,H1,I1,rx,a,ex,d,q1⟩=>?_)
 subst ex
 obtain rfl:u=JD a:=rx
 obtain⟨t1,t2,_⟩:=bJ I1 d
 refine⟨t1,t2,?_⟩
 rw[m.trees]
 refine OG rfl (QO (OR (Bx (he pins s1 σ H1 _ I1 q1) λiv s2 ⟨y,H2,I2,ry,q2⟩=>
  OR (Bx (hf pins s2 σ H2 _ I2 q2) λfv s3 ⟨z,H3,I3,rz,b,kvs,k,ey,ea,eb,q3,q4⟩=>Calls.spliced_nil ?_))))
 subst ey
 cases (show iv=JD b from ry)
 exact yL hu I3 ea eb (λv l w' s4 I4 rw'=>⟨v,_,I4,rw',q3 v l⟩) (λl s4 I4=>⟨z,H3,I4,rz,q4 l⟩)
end
end L2
namespace Bk
open PySem L2 Mg Nm Rk PySem.SeqAt
theorem Hd.tup{H H':Hp}(k:Hd H H'){b:IN}{xs:List V}(h:H b=some (.tup xs)):H' b=some (.tup xs):=k b _ h (by intro z e;cases e) (by intro z e;cases e)
section
variable {CB CH:IN} {H0 H H2 H3:Hp} {p d ka:IN} {L:List Ent} {kvs:List (List Key×V)} {B:Dg} {ns:List Str} {m:Nat}
theorem Jg.at(S:Jg CB CH H0 H p d ka ns m){x:Str}(hx:x∈ns):∃(L:List Ent)(kvs:List (List Key×V))(B:Dg)(i:Nat)(e:Ent),Ra CB CH H p d L ka kvs B/\L.map (·.nm)=ns/\kvs.length<=m/\(∀e∈L,e.bd.length<=m)/\Hd H0 H/\L[i]? = some e/\e.nm=x:=by
 obtain⟨L,kvs,B,S,hns,hk,hb,kx⟩:=S
 rw[<- hns] at hx
 obtain⟨e,he,hnm⟩:=KZ.mp hx
 obtain⟨i,hi⟩:=LD he
 exact⟨L,kvs,B,i,e,S,hns,hk,hb,kx,hi,hnm⟩
theorem Ra.put1(S:Ra CB CH H p d L ka kvs B){y x:Str}{lb:IN}(s:Am (upd H ka (.dT (putK kvs [(IW x:Key),IW y] (.ref lb)))) H2):
 (∀b o,H b=some o->b≠ka->H2 b=some o)/\Ay CB CH H2 p d L/\Hd H H2/\H2 ka=some (.dT (putK kvs [(IW x:Key),IW y] (.ref lb))):=by
 have k:∀b o,H b=some o->b≠ka->H2 b=some o:=λb o h n=>s _ _ (by rw[Ai n];exact h)
 exact⟨k,S.bk.keepT λb o h n=>k b o h (Cd h S.dc (n _)),λb o h _ n=>k b o h (Cd h S.dc (n _)),s _ _ Aa⟩
theorem Ra.put2(S:Ra CB CH H p d L ka kvs B)(hns:L.map (·.nm)=ns)(hkl:kvs.length<=m)(hbl:∀e∈L,e.bd.length<=m)(kx:Hd H0 H){i:Nat}{e:Ent}(he:L[i]? = some e){y:Str}{ss:List Eg}{la lb:IN}(hok:(∀s∈ss,jM s)/\ss.length<=30)(hb:Dj H lb ss)(s:Am (upd H ka (.dT (putK kvs [(IW e.nm:Key),IW y] (.ref lb)))) H2)(k8:∀b o,H2 b=some o->b≠e.ba->H3 b=some o)(eba:H3 e.ba=some (.dK (putK e.bd (IW y:Key) (.ref la))))(hla:Dj H3 la ss):
 Jg CB CH H0 H3 p d ka ns (m+1):=by
 obtain⟨k2,B2,kx2,d2⟩:=S.put1 s
 have hem:=IY he
 have E7:=(B2.en e hem).bd
 have kx8:Hd H2 H3:=λb o h n _=>k8 b o h (Cd h E7 (n _))
 have S8:=S.put he (w:=y) (ss:=ss) hok k2 d2 (hb.kp kx2) k8 eba hla
 refine⟨_,_,_,S8,(Ds (f:=λx:Ent=>x.nm) (e':={ e with bd:=putK e.bd (IW y:Key) (.ref la) }) he rfl).trans hns,?_,λe1 he1=>?_,(kx.trans kx2).trans kx8⟩
 ·have:=Dq kvs [(IW e.nm:Key),IW y] (.ref lb)
  omega
 ·rcases QH he1 with z | z
  ·have:=hbl e1 z
   omega
  ·rw[z]
   have h1:=Dq e.bd (IW y:Key) (.ref la)
   have h2:=hbl e hem
   show (putK e.bd (IW y:Key) (.ref la)).length<=_
   omega
end
theorem cV{y:Str}(h:Fb y=true):y.length<=20:=by
 unfold Fb at h
 rw[LC,LC] at h
 exact of_decide_eq_true h.1.2
def Ro(ns ws:List Str)(H:Hp)(v:V):Prop:=∃(t l:IN)(h y:Str)(ss:List Eg),v=.ref t/\H t=some (.tup [.str h,.str y,.ref l])/\Dj H l ss/\h∈ns/\Fb y=true/\(∀s∈ss,kG ws s)/\ss.length<=4
theorem Ro.kp{ns ws:List Str}{H H':Hp}{v:V}(h:Ro ns ws H v)(k:Hd H H'):Ro ns ws H' v:=
 let ⟨t,l,h',y,ss,a,b,c,r⟩:=h;⟨t,l,h',y,ss,a,k.tup b,c.kp k,r⟩
def Oy(CB CH:IN):Sp:=λvs H Q _=>∃(p d ka:IN)(ns:List Str)(m:Nat)(x:Str)(c:Int)(H0:Hp),vs=[.ref p,.ref ka,.str x,.int c]/\Jg CB CH H0 H p d ka ns m/\m<=900/\ns.length<=40/\x∈ns/\∀(r:IN)(a b e:Str)(H':Hp),H' r=some (.lst [.str a,.str b,.str e])->Jg CB CH H0 H' p d ka ns (m+3)->Q (.ref r) H'
section
variable {P:JJ} {w:KL} {K:IG} {mg:Str->Option II} {base:LO} {f fO fN fE CB CH:IN} {fd dO dN dE:JW} {ks:List (Str×IN×List Str)}
abbrev DN:List Str:=["_law_book","_law_known","_law_name","_law_cell","_law_line","_law_first","_law_second","_law_other","_law_lost","_law_change","_law_house","_law_body","_law_taught_here","_law_word","_law_steps"]
theorem Kx:Ap DN ["_law_book","_law_known","_law_name","_law_cell"] (Ae Fw):=Fv (by decide +kernel)
theorem cQ(T:Fo K mg CB CH)(Tx:Txt mg)(Tp:Ri ks)(GE:Aj P w K mg base Bh 6 fE dE ["self","name","word","body"] (Hj CB CH ks))(bE:Binds K dE ["self","name","word","body"] [])(mE:Cr K CB "teach" fE)(cdv:II)(A:KG)(outer:List Env)(s:IL)(H:Hp)(E:XK)(hr:Cj 6 (A.deeper (LK "_law_tried" (Ae Fw) s.heap.objs.size f cdv)))(Q:VK):
 ∃tt,Hs (Em Bh P w K mg base DN "_law_tried" (Ae Fw) f cdv A outer s H E).nox ((Bg Fw).drop 8) tt /\
  ∀(H0 H1:Hp)(p d ka ta:IN)(ns ws:List Str)(m:Nat)(a b e:Str)(v2 v3 v4 v8 v9 v10 v11:Option V)(us:List V),Jg CB CH H0 H1 p d ka ns m->m<=900->(∀y∈ws,Fb y=true)->H1 ta=some (.lst us)->us.length=3->(∀v∈us,Ro ns ws H1 v)->(∀(r:IN)(H':Hp),H' r=some (.lst [.str a,.str b,.str e])->Jg CB CH H0 H' p d ka ns (m+3)->Q (.ref r) H') ->
   tt { nx:=λ_ H'=>Q .non H',rt:=Q } [some (.ref p),some (.ref ka),v2,v3,v4,some (.str a),some (.str b),some (.str e),v8,v9,v10,v11,some (.ref ta),none,none] H1:=by
 have hu:=Gd hr
 refine⟨_,Ac (Eb LB rfl (De (pv 12)) (Jm (n:=3) rfl (Bo (Cq 10 Kx.nd) (Bo (Cq 13 Kx.nd) (Bo (Cq 14 Kx.nd) Gg))))
  (Ac (Gh hu (pv 1) (Bb (Ea (pv 10) (pv 13))) (pv 14) rfl)
  (Ag (Ca (Dv (pv 0) T.clB mE GE hr bE .nil Cw (Ge (pv 10) (pv 13) (Dm Ef rfl Tx.list LN (Dc (pv 14)))))))))
  (Ag (An (Bt (Ge (pv 5) (pv 6) (pv 7))))),?_⟩
 intro H0 H1 p d ka ta ns ws m a b e v2 v3 v4 v8 v9 v10 v11 us S hm hws eta hul hus q
 refine⟨_,rfl,ta,rfl,⟨_,Av.of eta⟩,Fe (K:=K) (a:=ta) (xs:=us) (λi σ H2=>∃v10 v13 v14,σ=[some (.ref p),some (.ref ka),v2,v3,v4,some (.str a),some (.str b),some (.str e),v8,v9,v10,v11,some (.ref ta),v13,v14]/\Jg CB CH H0 H2 p d ka ns (m+i)/\Hd H1 H2) ⟨_,_,_,rfl,S,Hd.of_same (Am.refl _)⟩ (λi σ H2 _ ⟨_,_,_,_,_,k⟩=>Av.of (k.lst eta)) ?_ ?_⟩
 ·rintro i v σ H2 hi ⟨v10,v13,v14,rfl,S2,k2⟩
  have hil:i < 3:=by rw[<- hul];exact(IH.mp hi).1
  obtain⟨t,l,h,y,ss,rfl,et,hb,hh,hy,hss,hsl⟩:=(hus _ (IY hi)).kp k2
  have hyl:=cV hy
  obtain⟨L,kvs,B,j,en,SK,hns,hkl,hbl,kx,hj,rfl⟩:=S2.at hh
  refine⟨t,_,rfl,Cc.of et,rfl,_,_,rfl,_,_,rfl,_,_,rfl,rfl,?_⟩
  refine⟨_,rfl,_,rfl,_,rfl,_,rfl,by show 2<=IK;decide,λtk htk=>?_⟩
  obtain⟨H5,zz,s5,e5⟩:=lay htk (.tup [V.str en.nm,V.str y])
  rw[zz]
  have S5:=SK.same s5
  have hb5:Dj H5 l ss:=hb.kp (Hd.of_same s5)
  refine⟨ka,_,rfl,Kt.t (k:=[(IW en.nm:Key),IW y]) S5.dc e5 (by rw[JB];omega),?_⟩
  obtain⟨k6,B6,kx6,d6⟩:=S5.put1 (y:=y) (x:=en.nm) (lb:=l) (Am.refl _)
  have e6:Am (upd H5 ka (.dT (putK kvs [(IW en.nm:Key),IW y] (.ref l)))) (upd H5 ka (.dT (putK kvs [(IW en.nm:Key),IW y] (.ref l)))):=Am.refl _
  generalize hH6:upd H5 ka (.dT (putK kvs [(IW en.nm:Key),IW y] (.ref l)))=H6 at *
  obtain⟨dx6,hp6⟩:=B6.ob
  obtain⟨ts,el6,hst6⟩:=hb5.kp kx6
  refine⟨_,rfl,p,dx6,_,rfl,hp6,Fx d (by decide +kernel),_,rfl,_,rfl,_,rfl,l,_,rfl,.inl (Av.of el6),λlc hlc=>?_⟩
  obtain⟨H7,zz,s7,e7⟩:=lay hlc (.lst (ts.map V.ref))
  rw[zz]
  have B7:=B6.same s7
  have hst7:=hst6.same s7
  have hem:=IY hj
  refine⟨p,d,lc,L,en.nm,y,en,ts,ss.map Eg.pr,rfl,B7,Jk B7.nd hem,hy,by rw[JB];omega,e7,hst7,Mr Tp hws hss (by omega),by have:=hbl en hem;omega,λla H8 hla ela eba k8=>?_⟩
  have E7:=(B7.en en hem).bd
  have kx8:Hd H7 H8:=λb o h n _=>k8 b o h (Cd h E7 (n _))
  have hla8:Dj H8 la ss:=⟨ts,ela,hst7.1,λa t pr h1 h2=>kx8 _ _ (hst7.2 a t pr h1 h2) (by intro z e;cases e) (by intro z e;cases e)⟩
  have S8:=S5.put2 (m:=m+i) hns hkl hbl (kx.trans (Hd.of_same s5)) hj (y:=y) (ss:=ss) (la:=la) (lb:=l) ⟨λs hs=>(hss s hs).ok,by omega⟩ hb5 (by rw[hH6];exact s7) k8 eba hla8
  exact⟨_,_,_,rfl,S8,((((k2.trans (Hd.of_same s5)).trans kx6).trans (Hd.of_same s7)).trans kx8)⟩
 ·rintro σ H2 ⟨v10,v13,v14,rfl,S2,k2⟩
  rw[hul] at S2
  refine⟨_,rfl,_,rfl,_,rfl,by show 3<=IK;decide,λr hr'=>?_⟩
  exact q r _ Aa (S2.same (Af hr' _))
end
theorem Ny{H:Hp}:Df H [] []:=⟨rfl,λi t p h _=>by simp at h⟩
theorem qJ{H:Hp}{t:IN}{ts:List IN}{p:Str×List V}{ss:List (Str×List V)}(h:H t=some (.tup (.str p.1::p.2)))(r:Df H ts ss):Df H (t::ts) (p::ss):=by
 refine⟨by rw[KH,KH,r.1],λi t' p' h1 h2=>?_⟩
 cases i with
 | zero=>cases h1;cases h2;exact h
 | succ i=>exact r.2 i t' p' h1 h2
theorem Gu{H:Hp}{t:IN}{ts:List IN}{s:Eg}{ss:List Eg}(h:H t=some (.tup (.str s.pr.1::s.pr.2)))(r:Df H ts (ss.map Eg.pr)):Df H (t::ts) ((s::ss).map Eg.pr):=qJ h r
theorem Dj.same{H H':Hp}{la:IN}{ss:List Eg}(h:Dj H la ss)(s:Am H H'):Dj H' la ss:=h.kp (Hd.of_same s)
theorem Ro.same{ns ws:List Str}{H H':Hp}{v:V}(h:Ro ns ws H v)(s:Am H H'):Ro ns ws H' v:=h.kp (Hd.of_same s)
theorem Vb{M H:Hp}{l:IN}{o:HO}(s:Am M H)(h:M l=none):Am M (upd H l o):=λb o' e=>by
 rw[Ai (Ah e h)]
 exact s _ _ e
section
variable {P:JJ} {w:KL} {K:IG} {mg:Str->Option II} {base:LO} {f fO fN fE CB CH:IN} {fd dO dN dE:JW} {ks:List (Str×IN×List Str)}
theorem Zz(T:Fo K mg CB CH)(Tx:Txt mg)(Tp:Ri ks)(GE:Aj P w K mg base Bh 6 fE dE ["self","name","word","body"] (Hj CB CH ks))(bE:Binds K dE ["self","name","word","body"] [])(mE:Cr K CB "teach" fE)(cdv:II)(A:KG)(outer:List Env)(s:IL)(H:Hp)(E:XK)(hr:Cj 6 (A.deeper (LK "_law_tried" (Ae Fw) s.heap.objs.size f cdv)))(Q:VK):
 ∃tt,Hs (Em Bh P w K mg base DN "_law_tried" (Ae Fw) f cdv A outer s H E).nox ((Bg Fw).drop 6) tt /\
  ∀(H0 H1:Hp)(p d ka la lb:IN)(ns ws od:List Str)(m:Nat)(a b e h y0:Str)(v2 v3 v8 v9:Option V)(ss:List Eg),Jg CB CH H0 H1 p d ka ns m->m<=900->(∀y∈ws,Fb y=true)->a∈ws->b∈ws->e∈ws->H1 la=some (.lst (Az (y0::od)))->y0∈ns->h∈ns->Dj H1 lb ss->(∀s∈ss,kG ws s)->ss.length<=4->(∀(r:IN)(H':Hp),H' r=some (.lst [.str a,.str b,.str e])->Jg CB CH H0 H' p d ka ns (m+3)->Q (.ref r) H') ->
   tt { nx:=λ_ H'=>Q .non H',rt:=Q } [some (.ref p),some (.ref ka),v2,v3,some (.ref la),some (.str a),some (.str b),some (.str e),v8,v9,some (.str h),some (.ref lb),none,none,none] H1:=by
 obtain⟨t8,h8,p8⟩:=cQ (f:=f) T Tx Tp GE bE mE cdv A outer s H E hr Q
 refine⟨_,Ac (Bj 12 Kx.nd (Bt (Ea (Bb (Ge (pv 10) (pv 6) (pv 11))) (Bb (Ge (Aq Bc (pv 4) Ad (λ_ _=>rfl)) (pv 7) (Bt (Ea (Bb (Dc Ar)) (Bb (Ea Ar Ad)))))))))
  (Ac (Ca (Kq KQ MF ME Et (pv 12) (Dc (Bb (Ge (Aq Bc (pv 4) Ad (λ_ _=>rfl)) (pv 5) (Bt (Ge (Bb (Ea Ar Ad)) (Bb (Ge Ar (pv 6) (pv 7))) (Bb (Dc Ar))))))))) h8),?_⟩
 intro H0 H1 p d ka la lb ns ws od m a b e h y0 v2 v3 v8 v9 ss S hm hws ha hb he ela hy0 hh hbd hss hsl q
 have z1:1<=IK:=by rw[JB];decide
 have z2:2<=IK:=by rw[JB];decide
 have z3:3<=IK:=by rw[JB];decide
 have at0:Hx (Az (y0::od)) 0=some (.str y0):=Ba (j:=0) rfl
 refine⟨_,rfl,_,rfl,_,rfl,by show 3<=IK;exact z3,λt1 ht1=>?_⟩
 obtain⟨H2,zz,s1,e1⟩:=lay ht1 (.tup [.str h,.str b,.ref lb])
 rw[zz]
 refine⟨_,rfl,la,_,_,_,rfl,rfl,Av.of (s1 _ _ ela),at0,_,rfl,by show 1<=IK;exact z1,λa1 ha1=>?_⟩
 obtain⟨H3,zz,s2,e2⟩:=lay ha1 (.tup [.str "say"])
 rw[zz]
 refine⟨by show 2<=IK;exact z2,λa2 ha2=>?_⟩
 obtain⟨H4,zz,s3,e3⟩:=lay ha2 (.tup [.str "plus", .int 2])
 rw[zz]
 refine⟨by show 2<=IK;exact z2,λl2 hl2=>?_⟩
 have s4:=Af hl2 (.lst [.ref a1,.ref a2])
 have e4:(upd H4 l2 (.lst [.ref a1,.ref a2])) l2=some (.lst ([a1,a2].map V.ref)):=Aa
 generalize hH5:upd H4 l2 (.lst [.ref a1,.ref a2])=H5 at *
 refine⟨by show 3<=IK;exact z3,λt2 ht2=>?_⟩
 obtain⟨H6,zz,s5,e5⟩:=lay ht2 (.tup [.str y0,.str e,.ref l2])
 rw[zz]
 have s16:=(((s1.trans s2).trans s3).trans s4).trans s5
 refine⟨by show 2<=IK;exact z2,λta hta=>?_⟩
 obtain⟨H7,zz,s6,e6⟩:=lay hta (.lst [.ref t1,.ref t2])
 rw[zz]
 have R1:Ro ns ws H6 (.ref t1):=⟨t1,lb,h,b,ss,rfl,(((s2.trans s3).trans s4).trans s5) _ _ e1,hbd.same s16,hh,hws b hb,hss,hsl⟩
 have okp:∀ {x:Int},-big<=x->x<=big->kG ws (.sm (.op "plus" x)):=λh0 h1=>⟨by decide +kernel,h0,h1,λz=>by rcases z with z | z<;>exact absurd z (by decide +kernel),λz=>by rcases z with z | z<;>exact absurd z (by decide +kernel)⟩
 have B2:Dj H6 l2 [.sm .say,.sm (.op "plus" 2)]:=⟨[a1,a2],s5 _ _ e4,Gu (((s3.trans s4).trans s5) _ _ e2) (Gu ((s4.trans s5) _ _ e3) Ny)⟩
 have R2:Ro ns ws H6 (.ref t2):=⟨t2,l2,y0,e,_,rfl,e5,B2,hy0,hws e he,(λs hs=>by
  rcases IQ.mp hs with rfl | hs
  ·exact trivial
  ·rw[IT.mp hs];exact okp (by decide) (by decide)),by show 2<=4;decide⟩
 refine⟨_,rfl,.inl ⟨rfl,_,Av.of e6⟩,_,rfl,la,_,_,_,rfl,rfl,Av.of ((s16.trans s6) _ _ ela),at0,_,rfl,by show 2<=IK;exact z2,λb1 hb1=>?_⟩
 obtain⟨H8,zz,s7,e7⟩:=lay hb1 (.tup [.str "plus", .int 1])
 rw[zz]
 refine⟨_,rfl,_,rfl,by show 3<=IK;exact z3,λb2 hb2=>?_⟩
 obtain⟨H9,zz,s8,e8⟩:=lay hb2 (.tup [.str "try", .str b,.str e])
 rw[zz]
 refine⟨by show 1<=IK;exact z1,λb3 hb3=>?_⟩
 obtain⟨H10,zz,s9,e9⟩:=lay hb3 (.tup [.str "say"])
 rw[zz]
 refine⟨by show 3<=IK;exact z3,λl3 hl3=>?_⟩
 obtain⟨H11,zz,s10,e10⟩:=lay hl3 (.lst [.ref b1,.ref b2,.ref b3])
 rw[zz]
 have e10:H11 l3=some (.lst ([b1,b2,b3].map V.ref)):=e10
 refine⟨by show 3<=IK;exact z3,λt3 ht3=>?_⟩
 obtain⟨H12,zz,s11,e11⟩:=lay ht3 (.tup [.str y0,.str a,.ref l3])
 rw[zz]
 have s7b:=(((s7.trans s8).trans s9).trans s10).trans s11
 have ta12:=s7b _ _ e6
 refine⟨ta,_,_,rfl,rfl,ta12,by show 2 < IK;rw[JB];decide,?_⟩
 -- what lies beside the list
 have sM:Am H6 (mask1 H12 ta):=Am.mask1 (s6.trans s7b) hta
 have nta:∀ {b o},H12 b=some o->(∀xs,o ≠ .lst xs)->b≠ta:=λ{b o} hb n z=>by
  subst z
  rw[ta12] at hb
  exact n _ (KC hb).symm
 have sN:Am (mask1 H12 ta) (upd H12 ta (.lst ([.ref t1,.ref t2]++[.ref t3]))):=Vb Hz (Iz _ _)
 have nl3:l3≠ta:=λz=>by
  subst z
  rw[(((s7.trans s8).trans s9)) _ _ e6] at hl3
  cases hl3
 have c1:=(((s8.trans s9).trans s10).trans s11) _ _ e7
 have c2:=((s9.trans s10).trans s11) _ _ e8
 have c3:=(s10.trans s11) _ _ e9
 have B3:Dj (mask1 H12 ta) l3 [.sm (.op "plus" 1),.tri b e,.sm .say]:=⟨[b1,b2,b3],Cf (s11 _ _ e10) nl3,Gu (Cf c1 (nta c1 (by intro xs z;cases z))) (Gu (Cf c2 (nta c2 (by intro xs z;cases z))) (Gu (Cf c3 (nta c3 (by intro xs z;cases z))) Ny))⟩
 have R3:Ro ns ws (mask1 H12 ta) (.ref t3):=⟨t3,l3,y0,a,_,rfl,Cf e11 (nta e11 (by intro xs z;cases z)),B3,hy0,hws a ha,(λs hs=>by
  rcases IQ.mp hs with rfl | hs
  ·exact okp (by decide) (by decide)
  ·rcases IQ.mp hs with rfl | hs
   ·exact⟨hb,he⟩
   ·rw[IT.mp hs];exact trivial),by show 3<=4;decide⟩
 refine p8 H0 _ p d ka ta ns ws m a b e _ _ _ _ _ _ _ _ ((S.same s16).same (sM.trans sN)) hm hws Aa rfl (λv hv=>?_) q
 rcases JO.mp hv with hv | hv
 ·rcases IQ.mp hv with rfl | hv
  ·exact(R1.same sM).same sN
  ·rw[IT.mp hv]
   exact(R2.same sM).same sN
 ·rw[IT.mp hv]
  exact R3.same sN
end
theorem Xm{xs:List Str}(h:xs≠[]):Hx (Az xs) (-1)=some (.str (xs.getLast h)):=by
 have e:Az xs=Az xs.dropLast++[.str (xs.getLast h)]:=by
  conv=>lhs;rw[<- List.dropLast_concat_getLast h]
  unfold Az
  rw[JE]
  rfl
 rw[e]
 exact Pd _ _
theorem rA{t1 t2 t3 t4:IN}{H:Hp}{c k:Int}(e1:H t1=some (.tup [.str "plus", .int (1+k)]))(e2:H t2=some (.tup [.str "times", .int 2]))(e3:H t3=some (.tup [.str "put", .int (-3)]))(e4:H t4=some (.tup [.str "odd", .int 5]))(h0:0<=k)(h1:k < 9):
 ∃(t:IN)(kd:Str)(a:Int),Hx [V.ref t1,.ref t2,.ref t3,.ref t4] (c % 4)=some (.ref t)/\H t=some (.tup [.str kd,.int a])/\gJ kd a:=by
 have n0:0<=c % 4:=KJ _ (by decide)
 have n1:c % 4 < 4:=JZ _ (by decide)
 generalize c % 4=i at *
 have hb:big=1000000000000000000000000000000:=by decide
 have ok:∀ {kd:Str} {a:Int},kd∈(["plus","times","put","odd"]:List Str) -> -big<=a->a<=big->gJ kd a:=λ{kd a} m l u=>by
  simp only[IQ,JG,or_false] at m
  rcases m with rfl | rfl | rfl | rfl<;>exact⟨by decide +kernel,l,u,(λz=>by rcases z with z | z<;>exact absurd z (by decide +kernel)),(λz=>by rcases z with z | z<;>exact absurd z (by decide +kernel))⟩
 have:i=0∨i=1∨i=2∨i=3:=by omega
 rcases this with rfl | rfl | rfl | rfl
 ·exact⟨t1,"plus", 1+k,Ba (j:=0) rfl,e1,ok (by decide +kernel) (by rw[hb];omega) (by rw[hb];omega)⟩
 ·exact⟨t2,"times", 2,Ba (j:=1) rfl,e2,ok (by decide +kernel) (by decide) (by decide)⟩
 ·exact⟨t3,"put", -3,Ba (j:=2) rfl,e3,ok (by decide +kernel) (by decide) (by decide)⟩
 ·exact⟨t4,"odd", 5,Ba (j:=3) rfl,e4,ok (by decide +kernel) (by decide) (by decide)⟩
section
variable {P:JJ} {w:KL} {K:IG} {mg:Str->Option II} {base:LO} {f fO fN fE CB CH:IN} {fd dO dN dE:JW} {ks:List (Str×IN×List Str)}
theorem BU:(["_law_k","_law_cell"]:List Str).Nodup:=by decide +kernel
theorem gN(F:Dp K "_law_tried" "_law_tried" Fw f fd)(T:Fo K mg CB CH)(Tx:Txt mg)(Tp:Ri ks)(GO:Aj P w K mg base Bh 2 fO dO ["self","name"] (Ep CB CH))(bO:Binds K dO ["self","name"] [])(mO:Cr K CB "order" fO)(GN:Aj P w K mg base Bh 1 fN dN ["_law_k","_law_cell"] Mp)(kN:IR K (.ref fN)=true)(bN:Binds K dN ["_law_k","_law_cell"] [])(mN:mg "_law_name_by" = some (.ref fN))(GE:Aj P w K mg base Bh 6 fE dE ["self","name","word","body"] (Hj CB CH ks))(bE:Binds K dE ["self","name","word","body"] [])(mE:Cr K CB "teach" fE):
 Aj P w K mg base Bh 7 f fd ["_law_book","_law_known","_law_name","_law_cell"] (Oy CB CH):=by
 refine F.ok Kx (λvs H Q E h=>?_) (λcdv A outer s H vs Q E hr h=>?_)
 ·obtain⟨p,d,ka,ns,m,x,c,H0,rfl,_⟩:=h
  rfl
 obtain⟨p,d,ka,ns,m,x,c,H0,rfl,S,hm,hns,hx,q⟩:=h
 obtain⟨t6,h6,p6⟩:=Zz (f:=f) T Tx Tp GE bE mE cdv A outer s H E hr Q
 have hr1:=hr.mono (j:=1) (by decide)
 have hr2:=hr.mono (j:=2) (by decide)
 obtain⟨L,kvs,B,i,e,SK,hLn,_,_,_,hi,hex⟩:=S.at hx
 have hem:=IY hi
 obtain⟨_,⟨tl,odE⟩,inE⟩:=SK.od e hem
 have odl:=Lh SK.od hem
 have hLl:L.length=ns.length:=by rw[<- hLn,IM]
 rw[hLn] at inE
 refine⟨_,Ac (Bj 4 Kx.nd (Dv (pv 0) T.clB mO GO hr2 bO .nil Cw (Dc (pv 2))))
  (Ac (Zq (Gi (Ae Fw) DN ["_law_k"] [("_law_cell", 3)] rfl (Fl rfl Tx.range (Dc Ad)) (Bs (i:=0) (by decide)) (λ_ _ _ _ _ _=>⟨Cq 0 BU,Dx,Ck GN hr1 mN kN bN (Ea (Ak Bv Ad (pv 0)) (pv 1))⟩))
   (xW (n:=4) rfl (Bo (Cq 5 Kx.nd) (Bo (Cq 6 Kx.nd) (Bo (Cq 7 Kx.nd) (Bo (Cq 8 Kx.nd) Gg))))))
  (Ac (Bj 9 Kx.nd (Aq Bc (Bt (Qz (Bb (Ea Ar (Ak Bv Ad (Ak Bi (pv 3) Ad)))) (Bb (Ea Ar Ad)) (Bb (Ea Ar (Hi Ff Ad))) (Bb (Ea Ar Ad)))) (Ak Bi (Ak Ce (pv 3) Ad) Ad) (λ_ _=>rfl)))
  (Ac (Bj 10 Kx.nd (Aq Bc (pv 4) (Ak Bi (Ak Ce (pv 3) Ad) (Cg Tx.len (pv 4))) (λ_ _=>rfl)))
  (Ac (Bj 11 Kx.nd (Bt (Ge (pv 9) (Bb (Dc Ar)) (Bb (Ea Ar (pv 8))))))
  (Ac (Ax (Ao Bp (Ak Bi (Ak Ce (pv 3) Ad) Ad) Ad (As _))
   (Ac (Bj 10 Kx.nd (Aq Bc (pv 4) (Hi Ff Ad) (λ_ _=>rfl)))
   (Ag (Bj 11 Kx.nd (Bt (Ge (Bb (Dc Ar)) (pv 9) (Bb (Dc Ar))))))) Al) h6))))),?_⟩
 have z1:1<=IK:=by rw[JB];decide
 have z2:2<=IK:=by rw[JB];decide
 have z3:3<=IK:=by rw[JB];decide
 have z4:4<=IK:=by rw[JB];decide
 obtain⟨dx,hp⟩:=SK.bk.ob
 refine⟨_,rfl,p,dx,_,rfl,hp,Fx d (by decide +kernel),_,rfl,p,d,L,x,e,rfl,SK.bk,by rw[<- hex];exact Jk SK.bk.nd hem,λla hla=>?_⟩
 obtain⟨H1,zz,s1,e1⟩:=lay hla (.lst (Az e.od))
 rw[zz]
 refine⟨_,rfl,by decide,by decide,Il (k:=(4:Int).toNat) (λi ys H2=>H2=H1/\ys=(List.range i).map λj:Nat=>V.str (nameBy (40+(j:Int)) c)) ⟨rfl,rfl⟩ ?_ ?_⟩
 ·rintro i ys H2 hi' ⟨rfl,rfl⟩
  have hi4:i < 4:=hi'
  rw[Int.zero_add]
  refine⟨_,rfl,_,_,rfl,rfl,_,rfl,_,_,rfl,by rw[IM,List.length_range,JB];omega,rfl,?_⟩
  rw[List.range_succ,JE]
  rfl
 rintro ys H2 ⟨rfl,rfl⟩ lw hlw
 obtain⟨H3,zz,s2,e2⟩:=lay hlw (.lst ((List.range (4:Int).toNat).map λj:Nat=>V.str (nameBy (40+(j:Int)) c)))
 rw[zz]
 have e2:H3 lw=some (.lst [V.str (nameBy (40+((0:Nat):Int)) c),.str (nameBy (40+((1:Nat):Int)) c),.str (nameBy (40+((2:Nat):Int)) c),.str (nameBy (40+((3:Nat):Int)) c)]):=e2
 have n0:=Iq (Jz (40+((0:Nat):Int)) c)
 have n1:=Iq (Jz (40+((1:Nat):Int)) c)
 have n2:=Iq (Jz (40+((2:Nat):Int)) c)
 have n3:=Iq (Jz (40+((3:Nat):Int)) c)
 generalize nameBy (40+((0:Nat):Int)) c=wa at *
 generalize nameBy (40+((1:Nat):Int)) c=wb at *
 generalize nameBy (40+((2:Nat):Int)) c=wc at *
 generalize nameBy (40+((3:Nat):Int)) c=wd at *
 refine⟨lw,_,rfl,Av.of e2,rfl,_,_,rfl,_,_,rfl,_,_,rfl,_,_,rfl,rfl,?_⟩
 refine⟨_,rfl,_,_,rfl,rfl,(by show (0:Int) < 9;decide),_,_,rfl,rfl,by show 2<=IK;exact z2,λt1 ht1=>?_⟩
 have k0:0<=c % 9:=KJ _ (by decide)
 have k1:c % 9 < 9:=JZ _ (by decide)
 have f1:(upd H3 t1 (.tup [.str "plus", .int (1+c % 9)])) t1=some (.tup [.str "plus", .int (1+c % 9)]):=Aa
 have s3:=Af ht1 (.tup [.str "plus", .int (1+c % 9)])
 generalize upd H3 t1 (.tup [.str "plus", .int (1+c % 9)])=H4 at *
 refine⟨by show 2<=IK;exact z2,λt2 ht2=>?_⟩
 have f2:(upd H4 t2 (.tup [.str "times", .int 2])) t2=some (.tup [.str "times", .int 2]):=Aa
 have s4:=Af ht2 (.tup [.str "times", .int 2])
 generalize upd H4 t2 (.tup [.str "times", .int 2])=H5 at *
 refine⟨_,rfl,by show 2<=IK;exact z2,λt3 ht3=>?_⟩
 have f3:(upd H5 t3 (.tup [.str "put", .int (-3)])) t3=some (.tup [.str "put", .int (-3)]):=Aa
 have s5:=Af ht3 (.tup [.str "put", .int (-3)])
 generalize upd H5 t3 (.tup [.str "put", .int (-3)])=H6 at *
 refine⟨by show 2<=IK;exact z2,λt4 ht4=>?_⟩
 have f4:(upd H6 t4 (.tup [.str "odd", .int 5])) t4=some (.tup [.str "odd", .int 5]):=Aa
 have s6:=Af ht4 (.tup [.str "odd", .int 5])
 generalize upd H6 t4 (.tup [.str "odd", .int 5])=H7 at *
 refine⟨by show 4<=IK;exact z4,λl4 hl4=>?_⟩
 obtain⟨H8,zz,s7,e7⟩:=lay hl4 (.lst [.ref t1,.ref t2,.ref t3,.ref t4])
 rw[zz]
 obtain⟨tc,kd,am,hat,htc,hka⟩:=rA (c:=c / 2) ((((s4.trans s5).trans s6).trans s7) _ _ f1) (((s5.trans s6).trans s7) _ _ f2) ((s6.trans s7) _ _ f3) (s7 _ _ f4) k0 k1
 have sA:=(s2.trans s3).trans (((s4.trans s5).trans s6).trans s7)
 have ela:=sA _ _ e1
 have SS:Jg CB CH H0 H8 p d ka ns m:=(S.same s1).same sA
 clear f1 f2 f3 f4 ht1 ht2 ht3 ht4 s3 s4 s5 s6
 refine⟨_,rfl,_,_,rfl,rfl,⟨by decide,by decide⟩,_,_,rfl,rfl,(by show (0:Int) < 4;decide),l4,_,_,_,rfl,rfl,Av.of e7,hat,?_⟩
 have odp:0 < e.od.length:=by rw[odE];exact Nat.succ_pos _
 have svl:(Az e.od).length=e.od.length:=Aw _
 obtain⟨k8,hk8,hk8l⟩:=Iy (x:=c / 8) odp
 have pick:Hx (Az e.od) (c / 8 % ((Az e.od).length:Int))=some (.str e.od[k8]):=by
  rw[svl,hk8]
  exact Ba (Gb (IU hk8l))
 have hpk:=inE _ (LQ hk8l)
 generalize e.od[k8]=hs at *
 refine⟨_,rfl,_,rfl,_,_,rfl,rfl,⟨by decide,by decide⟩,_,rfl,la,_,rfl,.inl (Av.of ela),_,_,rfl,rfl,(by rw[svl];omega),la,_,_,_,rfl,rfl,Av.of ela,pick,?_⟩
 refine⟨_,rfl,by show 1<=IK;exact z1,λg1 hg1=>?_⟩
 have s9:=Af hg1 (.tup [.str "say"])
 have f9:(upd H8 g1 (.tup [.str "say"])) g1=some (.tup [.str "say"]):=Aa
 generalize upd H8 g1 (.tup [.str "say"])=H9 at *
 refine⟨_,rfl,by show 2<=IK;exact z2,λg2 hg2=>?_⟩
 have s10:=Af hg2 (.tup [.str "ask", .str wd])
 have f10:(upd H9 g2 (.tup [.str "ask", .str wd])) g2=some (.tup [.str "ask", .str wd]):=Aa
 generalize upd H9 g2 (.tup [.str "ask", .str wd])=H10 at *
 refine⟨by show 3<=IK;exact z3,λg3 hg3=>?_⟩
 have s11:=Af hg3 (.lst [.ref tc,.ref g1,.ref g2])
 have f11:(upd H10 g3 (.lst [.ref tc,.ref g1,.ref g2])) g3=some (.lst ([tc,g1,g2].map V.ref)):=Aa
 generalize upd H10 g3 (.lst [.ref tc,.ref g1,.ref g2])=H11 at *
 have sB:=(s9.trans s10).trans s11
 have ws4:∀y∈[wa,wb,wc,wd],Fb y=true:=λy hy=>by
  simp only[IQ,JG,or_false] at hy
  rcases hy with rfl | rfl | rfl | rfl<;>assumption
 have fin:∀(H':Hp)(lb:IN)(h:Str)(ss:List Eg),Am H8 H'->h∈ns->Dj H' lb ss->(∀s∈ss,kG [wa,wb,wc,wd] s)->ss.length<=4->t6 { nx:=λ_ H'=>Q .non H',rt:=Q } [some (.ref p),some (.ref ka),some (.str x),some (.int c),some (.ref la),some (.str wa),some (.str wb),some (.str wc),some (.str wd),some (.ref tc),some (.str h),some (.ref lb),none,none,none] H':=λH' lb h ss s hh hb hss hsl=>
  p6 H0 H' p d ka la lb ns [wa,wb,wc,wd] tl m wa wb wc h e.nm _ _ _ _ ss (SS.same s) hm ws4 (by simp) (by simp) (by simp) (by rw[<- odE];exact s _ _ ela) (inE _ (by rw[odE];exact JM)) hh hb hss hsl λr H' a b=>q r wa wb wc H' a b
 refine⟨_,rfl,_,_,rfl,rfl,⟨by decide,by decide⟩,_,_,rfl,rfl,(by show (0:Int) < 2;decide),rfl,_,rfl,Br (λc1=>?_) (λc1=>?_)⟩
 ·have odN:e.od≠[]:=by rw[odE];exact λz=>nomatch z
  have hlast:=Xm odN
  refine⟨_,rfl,_,rfl,la,_,_,_,rfl,rfl,Av.of (sB _ _ ela),hlast,?_⟩
  refine⟨by show 1<=IK;exact z1,λj1 hj1=>?_⟩
  have s12:=Af hj1 (.tup [.str "say"])
  have f12:(upd H11 j1 (.tup [.str "say"])) j1=some (.tup [.str "say"]):=Aa
  generalize upd H11 j1 (.tup [.str "say"])=H12 at *
  refine⟨_,rfl,by show 1<=IK;exact z1,λj2 hj2=>?_⟩
  have s13:=Af hj2 (.tup [.str "onwards"])
  have f13:(upd H12 j2 (.tup [.str "onwards"])) j2=some (.tup [.str "onwards"]):=Aa
  generalize upd H12 j2 (.tup [.str "onwards"])=H13 at *
  refine⟨by show 3<=IK;exact z3,λj3 hj3=>?_⟩
  have s14:=Af hj3 (.lst [.ref j1,.ref tc,.ref j2])
  have f14:(upd H13 j3 (.lst [.ref j1,.ref tc,.ref j2])) j3=some (.lst ([j1,tc,j2].map V.ref)):=Aa
  generalize upd H13 j3 (.lst [.ref j1,.ref tc,.ref j2])=H14 at *
  have sC:=(s12.trans s13).trans s14
  refine fin H14 j3 _ [.sm .say,.sm (.op kd am),.onw] (sB.trans sC) (inE _ (List.getLast_mem odN)) ⟨[j1,tc,j2],f14,Gu ((s13.trans s14) _ _ f12) (Gu ((sB.trans sC) _ _ htc) (Gu (s14 _ _ f13) Ny))⟩ (λs hs=>?_) (by show 3<=4;decide)
  simp only[IQ,JG,or_false] at hs
  rcases hs with rfl | rfl | rfl
  ·exact trivial
  ·exact hka
  ·exact trivial
 ·refine fin H11 g3 hs [.sm (.op kd am),.sm .say,.ask wd] sB hpk ⟨[tc,g1,g2],f11,Gu (sB _ _ htc) (Gu ((s10.trans s11) _ _ f9) (Gu (s11 _ _ f10) Ny))⟩ (λs hs=>?_) (by show 3<=4;decide)
  simp only[IQ,JG,or_false] at hs
  rcases hs with rfl | rfl | rfl
  ·exact hka
  ·exact trivial
  ·show wd∈[wa,wb,wc,wd]
   simp
end
def tX:Ou->PyData
 | .said sd=>.tuple [.str "said", .list (sd.map PyData.int)]
 | .una=>.tuple [.str "unanswered"]
 | .spent=>.tuple [.str "spent"]
theorem lC{K:IG}{H:Hp}:∀sd:List Int,DVs K H (Ig sd) (sd.map PyData.int)
 | []=>.nil
 | i::sd=>.cons (.int i) (lC sd)
theorem nI{K:IG}{H:Hp}{r:IN}:∀ {o:Ou},Ng H r o->DV K H (.ref r) (tX o)
 | .said sd,h=>by
  obtain⟨sl,a,b,_⟩:=h
  exact .tup (Cc.of a) (.cons (.str _) (.cons (.lst (Av.of b) (lC sd)) .nil))
 | .una,h=>.tup (Cc.of h) (.cons (.str _) .nil)
 | .spent,h=>.tup (Cc.of h) (.cons (.str _) .nil)
theorem Pl:∀sd:List Int,plainDs (sd.map PyData.int)=true
 | []=>rfl
 | i::sd=>by
  show (true && plainDs (sd.map PyData.int))=true
  rw[Pl sd]
  rfl
theorem Pi:∀sd:List Int,RJ (sd.map PyData.int)=0
 | []=>by simp[RJ]
 | i::sd=>by simp[RJ,PyData.depth,Pi sd]
theorem nX:∀o:Ou,Ij (tX o)=true
 | .said sd=>by
  simp only[tX,Ij,plainDs,Pl sd]
  decide +kernel
 | .una=>by decide +kernel
 | .spent=>by decide +kernel
theorem Wp:∀o:Ou,(tX o).depth<=64
 | .said sd=>by simp[tX,PyData.depth,RJ,Pi sd]
 | .una=>by simp[tX,PyData.depth,RJ]
 | .spent=>by simp[tX,PyData.depth,RJ]
theorem Ng.same{H H':Hp}{r:IN}(s:Am H H'):∀ {o:Ou},Ng H r o->Ng H' r o
 | .said sd,h=>let ⟨sl,a,b,c⟩:=h;⟨sl,s _ _ a,s _ _ b,c⟩
 | .una,h=>s _ _ h
 | .spent,h=>s _ _ h
theorem Xw{K:IG}{H:Hp}{r r':IN}{o:Ou}{Q:VK}(h:Ng H r o)(h':Ng H r' o)(q:Q (.bl false) H):CG K true (.ref r) (.ref r') H Q:=by
 have p:=nX o
 obtain⟨s1,s2,_⟩:=same_self _ p
 refine⟨tX o,tX o,nI h,nI h',Rx p (Wp o),Rx p (Wp o),s2,?_⟩
 rw[s1]
 exact q
theorem Hd.seq{K:IG}{H H':Hp}(k:Hd H H'){a:IN}{xs:List V}(h:Av K H a xs):Av K H' a xs:=by
 rcases h with (h | ⟨o,h⟩) | h
 ·exact .inl (.inl (k.lst h))
 ·exact .inl (.inr ⟨o,k _ _ h (by intro z e;cases e) (by intro z e;cases e)⟩)
 ·exact .inr h
theorem Jg.re{CB CH:IN}{H0 H:Hp}{p d ka:IN}{ns:List Str}{m:Nat}(h:Jg CB CH H0 H p d ka ns m):Jg CB CH H H p d ka ns m:=
 let ⟨L,kvs,B,a,b,c,e,_⟩:=h;⟨L,kvs,B,a,b,c,e,Hd.of_same (Am.refl _)⟩
structure BP(CB CH:IN)(H:Hp)(p d ka:IN)(x:Str)(L:List Ent)(kvs:List (List Key×V))(e:Ent)(B:Dg):Prop where
 bk:Ay CB CH H p d L
 fn:Ik L x=some e
 kn:zZ H ka kvs e.od B
 qb:QB CB CH H p d L e.od B
 le:e.od.length<=1000
theorem Jg.ask{CB CH:IN}{H0 H:Hp}{p d ka:IN}{ns:List Str}{m:Nat}(S:Jg CB CH H0 H p d ka ns m){x:Str}(hx:x∈ns)(hl:ns.length<=40):∃L kvs e B,∀H',Am H H'->BP CB CH H' p d ka x L kvs e B:=by
 obtain⟨L,kvs,B,i,e,SK,hLn,_,_,_,hi,hex⟩:=S.at hx
 have hem:=IY hi
 have hLl:L.length=ns.length:=by rw[<- hLn,IM]
 have odl:=Lh SK.od hem
 exact⟨L,kvs,e,B,λH' s=>⟨(SK.same s).bk,by rw[<- hex];exact Jk SK.bk.nd hem,(SK.same s).kn hem,(SK.same s).qb (by omega) hem,by omega⟩⟩
def Ls(K:IG)(CB CH:IN):Sp:=λvs H Q _=>∃(p d ka na sa:IN)(ns:List Str)(m:Nat)(zs:List Int)(H0:Hp),vs=[.ref p,.ref ka,.ref na,.ref sa]/\Jg CB CH H0 H p d ka ns m/\m<=900/\0 < ns.length/\ns.length<=40/\H na=some (.lst (Az ns))/\Av K H sa (zs.map V.int)/\∀H',Q (.bl true) H'
section
variable {P:JJ} {w:KL} {K:IG} {mg:Str->Option II} {base:LO} {f fO fC fT fD fL CB CH:IN} {fd dO dC dT dD dL:JW}
abbrev FK:List Str:=["_law_book","_law_known","_law_names","_law_script","_law_cell","_law_name","_law_word","_law_count","_law_due_here"]
theorem Kh:Ap FK ["_law_book","_law_known","_law_names","_law_script"] (Ae Uv):=Fv (by decide +kernel)
theorem pS(F:Dp K "_law_tries_right" "_law_tries_right" Uv f fd)(T:Fo K mg CB CH)(Tx:Txt mg)(GO:Aj P w K mg base Bh 2 fO dO ["self","name"] (Ep CB CH))(bO:Binds K dO ["self","name"] [])(mO:Cr K CB "order" fO)(GC:Aj P w K mg base Bh 1 fC dC ["_law_script","_law_k"] (Jb K))(kC:IR K (.ref fC)=true)(bC:Binds K dC ["_law_script","_law_k"] [])(mC:mg "_law_cell_at" = some (.ref fC))(GT:Aj P w K mg base Bh 7 fT dT ["_law_book","_law_known","_law_name","_law_cell"] (Oy CB CH))(kT:IR K (.ref fT)=true)(bT:Binds K dT ["_law_book","_law_known","_law_name","_law_cell"] [])(mT:mg "_law_tried" = some (.ref fT))(GD:Aj P w K mg base Bh 3 fD dD ["_law_known","_law_line","_law_word","_law_number","_law_count"] Po)(kD:IR K (.ref fD)=true)(bD:Binds K dD ["_law_known","_law_line","_law_word","_law_number","_law_count"] [])(mD:mg "_law_due" = some (.ref fD))(GL:Aj P w K mg base Jh 169 fL dL ["_law_book","_law_name","_law_word","_law_number","_law_count"] (Lb CB CH))(kL:IR K (.ref fL)=true)(bL:Binds K dL ["_law_book","_law_name","_law_word","_law_number","_law_count"] [])(mL:mg "_law_told" = some (.ref fL)):
 Aj P w K mg base Jh 170 f fd ["_law_book","_law_known","_law_names","_law_script"] (Ls K CB CH):=by
 refine F.ok1 Kh (λvs H Q E h=>?_) (λcdv A outer s H vs Q E hr h=>?_)
 ·obtain⟨p,d,ka,na,sa,ns,m,zs,H0,rfl,_⟩:=h
  rfl
 obtain⟨p,d,ka,na,sa,ns,m,zs,H0,rfl,S,hm,hn0,hn,ena,esa,q⟩:=h
 have hr1:=hr.mono (j:=1) (by decide)
 have hr2:=hr.mono (j:=2) (by decide)
 have hr3:=hr.mono (j:=3) (by decide)
 have hr7:=hr.mono (j:=7) (by decide)
 have hu64:(A.deeper (LK "_law_tries_right" (Ae Uv) s.heap.objs.size f cdv)).units+64 < cLine:=by have:=hr.un;omega
 refine⟨_,Ac (Bj 4 Kh.nd (Ak Bv (Ck GC hr1 mC kC bC (Ea (pv 3) Ad)) (Ck GC hr1 mC kC bC (Ea (pv 3) Ad))))
  (Ac (Bj 5 Kh.nd (Aq Bc (pv 2) (Ak Bi (pv 4) (Cg Tx.len (pv 2))) (λ_ _=>rfl)))
  (Ac (Eb LB rfl (De (Ck GT hr7 mT kT bT (Qz (pv 0) (pv 1) (pv 5) (Ak Ce (pv 4) Ad)))) (Cq 6 Kh.nd)
   (Ag (Eb LB rfl (De (Bt (Qz Ad Ad Ad (Ak Bi (Ak Ce (Ck GC hr1 mC kC bC (Ea (pv 3) Ad)) Ad) Ad)))) (Cq 7 Kh.nd)
    (Ac (Bj 8 Kh.nd (Ck GD hr3 mD kD bD (Er (pv 1) (Qz (Dv (pv 0) T.clB mO GO hr2 bO .nil Cw (Dc (pv 5))) (pv 6) (Ak Hq (Ak Bi (pv 4) Ad) Ad) (pv 7)))))
    (Ag (Ax (Ao (qK hu64) (Dl GL hr rfl mL kL bL .nil Wy (Er (pv 0) (Qz (pv 5) (pv 6) (Ak Hq (Ak Bi (pv 4) Ad) Ad) (pv 7)))) (pv 8) (As _)) Bw Al))))))
  (Ag (An nP)))),?_⟩
 refine⟨_,rfl,sa,zs,3,rfl,esa,_,rfl,sa,zs,4,rfl,esa,_,_,rfl,rfl,?_⟩
 dsimp only
 generalize zs.getD 3 0+zs.getD 4 0=c
 have lsv:(Az ns).length=ns.length:=Aw _
 obtain⟨k5,hk5,hk5l⟩:=Iy (x:=c) hn0
 have pick:Hx (Az ns) (c % ((Az ns).length:Int))=some (.str ns[k5]):=by
  rw[lsv,hk5]
  exact Ba (Gb (IU hk5l))
 have hxm:ns[k5]∈ns:=LQ hk5l
 generalize ns[k5]=x at *
 refine⟨_,rfl,_,rfl,_,rfl,na,_,rfl,.inl (Av.of ena),_,_,rfl,rfl,(by rw[lsv];omega),na,_,_,_,rfl,rfl,Av.of ena,pick,?_⟩
 refine⟨_,rfl,_,rfl,_,rfl,_,rfl,_,_,rfl,rfl,⟨by decide,by decide⟩,p,d,ka,ns,m,x,_,H,rfl,S.re,hm,hn,hxm,λr wa wb wc H1 er S1=>?_⟩
 have kx:Hd H H1:=let ⟨_,_,_,_,_,_,_,k⟩:=S1;k
 have esa1:=kx.seq esa
 obtain⟨L,kvs,e,B,AK⟩:=S1.ask hxm hn
 have b0 : -big<=c % 99-49:=by
  have:0<=c % 99:=KJ _ (by decide)
  have hb:big=1000000000000000000000000000000:=by decide
  rw[hb];omega
 have b1:c % 99-49<=big:=by
  have:c % 99 < 99:=JZ _ (by decide)
  have hb:big=1000000000000000000000000000000:=by decide
  rw[hb];omega
 have f0:0<=zs.getD 4 0 / 5 % 41:=KJ _ (by decide)
 have f1:zs.getD 4 0 / 5 % 41 < 41:=JZ _ (by decide)
 refine⟨r,rfl,⟨_,Av.of er⟩,Fe (K:=K) (a:=r) (xs:=[.str wa,.str wb,.str wc]) (λi σ H2=>∃v6 v7 v8,σ=[some (.ref p),some (.ref ka),some (.ref na),some (.ref sa),some (.int c),some (.str x),v6,v7,v8]/\Am H1 H2) ⟨_,_,_,rfl,Am.refl _⟩ (λi σ H2 _ ⟨_,_,_,_,s2⟩=>Av.of (s2 _ _ er)) ?_ ?_⟩
 ·rintro i v σ H2 hi ⟨v6,v7,v8,rfl,s2⟩
  obtain⟨y,rfl⟩:∃y,v=.str y:=by
   have hv:=IY hi
   simp only[IQ,JG,or_false] at hv
   rcases hv with rfl | rfl | rfl<;>exact⟨_,rfl⟩
  refine⟨_,rfl,sa,zs,4,rfl,s2.seq esa1,_,_,rfl,rfl,⟨by decide,by decide⟩,_,_,rfl,rfl,(by show (0:Int) < 41;decide),by show 4<=IK;rw[JB];decide,λlc hlc=>?_⟩
  obtain⟨H3,zz,s3,e3⟩:=lay hlc (.lst [.int 40,.int 3,.int 2,.int (zs.getD 4 0 / 5 % 41)])
  rw[zz]
  refine⟨lc,rfl,⟨_,Av.of e3⟩,Fe (K:=K) (a:=lc) (xs:=[.int 40,.int 3,.int 2,.int (zs.getD 4 0 / 5 % 41)]) (λi σ H4=>∃v7 v8,σ=[some (.ref p),some (.ref ka),some (.ref na),some (.ref sa),some (.int c),some (.str x),some (.str y),v7,v8]/\Am H3 H4) ⟨_,_,rfl,Am.refl _⟩ (λi σ H4 _ ⟨_,_,_,s4⟩=>Av.of (s4 _ _ e3)) ?_ ?_⟩
  ·rintro j v σ H4 hj ⟨v7,v8,rfl,s4⟩
   obtain⟨k,rfl,hk⟩:∃k:Nat,v=.int (k:Int)/\k<=40:=by
    have hv:=IY hj
    simp only[IQ,JG,or_false] at hv
    rcases hv with rfl | rfl | rfl | rfl
    ·exact⟨40,rfl,by decide⟩
    ·exact⟨3,rfl,by decide⟩
    ·exact⟨2,rfl,by decide⟩
    ·obtain⟨n,hn'⟩:=LW f0
     exact⟨n,by rw[hn'],by omega⟩
   have sA:=(s2.trans s3).trans s4
   have A4:=AK H4 sA
   obtain⟨dx,hp⟩:=A4.bk.ob
   refine⟨_,rfl,_,rfl,p,dx,_,rfl,hp,Fx d (by decide +kernel),_,rfl,p,d,L,x,e,rfl,A4.bk,A4.fn,λlo hlo=>?_⟩
   obtain⟨H5,zz,s5,e5⟩:=lay hlo (.lst (Az e.od))
   rw[zz]
   have A5:=AK H5 (sA.trans s5)
   refine⟨_,rfl,_,rfl,_,_,rfl,rfl,(by show (0:Int) < 99;decide),_,_,rfl,rfl,_,rfl,ka,lo,kvs,e.od,B,y,_,k,rfl,A5.kn,e5,A5.le,Pn b0 b1,hk,λr6 H6 s6 D6=>?_⟩
   have A6:=AK H6 ((sA.trans s5).trans s6)
   refine⟨_,rfl,_,rfl,_,rfl,_,rfl,_,_,rfl,rfl,(by show (0:Int) < 99;decide),_,_,rfl,rfl,_,rfl,p,d,x,y,_,k,L,e,B,rfl,A6.fn,A6.qb,b0,b1,hk,λr7 H7 s7 D7=>?_⟩
   rw[oF] at D6
   exact⟨_,rfl,Xw D7 (D6.same s7) ⟨_,rfl,Di ⟨_,_,rfl,((s4.trans s5).trans s6).trans s7⟩⟩⟩
  ·rintro σ H4 ⟨v7,v8,rfl,s4⟩
   exact⟨_,_,_,rfl,(s2.trans s3).trans s4⟩
 ·rintro σ H2 ⟨v6,v7,v8,rfl,s2⟩
  exact q H2
end
theorem wJ(zs:List Str):(Az zs).all Jf=true:=by
 unfold Az
 rw[List.all_map]
 exact NL.mpr λx _=>rfl
theorem HE(y z:Str):fZ (.str y) (.str z)=decide (y=z):=by
 show (y == z)=decide (y=z)
 by_cases h:y=z
 ·subst h;simp
 ·simp[h]
theorem wN{zs:List Str}{j:Nat}{y:Str}(hnd:zs.Nodup)(h:zs[j]? = some y):(∃z,(Az zs)[j]? = some z/\fZ z (.str y)=true)/\∀m z,m < j->(Az zs)[m]? = some z->fZ z (.str y)=false:=by
 refine⟨⟨_,Gb h,by rw[HE,decide_eq_true rfl]⟩,λm z hm hz=>?_⟩
 obtain⟨u,hu,rfl⟩:=Ie hz
 rw[HE,decide_eq_false]
 rintro rfl
 obtain⟨h1,e1⟩:=IH.mp hu
 obtain⟨h2,e2⟩:=IH.mp h
 have:=(List.getElem_inj hnd).mp (e1.trans e2.symm)
 omega
abbrev Rg:List Str:=["_law_script","_law_book","_law_names","_law_many","_law_k","_law_name","_law_words","_law_known","_law_cell","_law_key","_law_again","_law_word","_law_number","_law_count","_law_due_here"]
theorem Eu:Ap Rg ["_law_script"] (Ae Ey):=Fv (by decide +kernel)
abbrev ES:NW:=.Pass ⟨0,0,0,0⟩
section
variable {P:JJ} {w:KL} {K:IG} {mg:Str->Option II} {base:LO} {f fO fC fD fL CB CH:IN} {fd dO dC dD dL:JW}
theorem rX(T:Fo K mg CB CH)(Tx:Txt mg)(GO:Aj P w K mg base Bh 2 fO dO ["self","name"] (Ep CB CH))(bO:Binds K dO ["self","name"] [])(mO:Cr K CB "order" fO)(GC:Aj P w K mg base Bh 1 fC dC ["_law_script","_law_k"] (Jb K))(kC:IR K (.ref fC)=true)(bC:Binds K dC ["_law_script","_law_k"] [])(mC:mg "_law_cell_at" = some (.ref fC))(GD:Aj P w K mg base Bh 3 fD dD ["_law_known","_law_line","_law_word","_law_number","_law_count"] Po)(kD:IR K (.ref fD)=true)(bD:Binds K dD ["_law_known","_law_line","_law_word","_law_number","_law_count"] [])(mD:mg "_law_due" = some (.ref fD))(GL:Aj P w K mg base Jh 169 fL dL ["_law_book","_law_name","_law_word","_law_number","_law_count"] (Lb CB CH))(kL:IR K (.ref fL)=true)(bL:Binds K dL ["_law_book","_law_name","_law_word","_law_number","_law_count"] [])(mL:mg "_law_told" = some (.ref fL))(cdv:II)(A:KG)(outer:List Env)(s:IL)(H:Hp)(E:XK)(hr:Cj 170 (A.deeper (LK "law" (Ae Ey) s.heap.objs.size f cdv))):
 ∃tt,Hs (Em Jh P w K mg base Rg "law" (Ae Ey) f cdv A outer s H E).nox ((fBody ((fBody ((Bg Ey).getD 8 ES)).getD 0 ES)).drop 4) tt /\
  ∀(D:L2.Ends)(H0 H1:Hp)(a p d ka na wa:IN)(ns ws:List Str)(m j:Nat)(zs:List Int)(x y:Str)(c n:Int)(v3 v4 v9 v10 v13 v14:Option V),Jg CB CH H0 H1 p d ka ns m->ns.length<=40->x∈ns->H1 wa=some (.lst (Az ws))->ws.Nodup->ws[j]? = some y->Av K H1 a (zs.map V.int) -> -big<=n->n<=big ->
   (∀(v13 v14:Option V)(H':Hp),Am H1 H'->D.nx [some (.ref a),some (.ref p),some (.ref na),v3,v4,some (.str x),some (.ref wa),some (.ref ka),some (.int c),v9,v10,some (.str y),some (.int n),v13,v14] H') ->
   tt D [some (.ref a),some (.ref p),some (.ref na),v3,v4,some (.str x),some (.ref wa),some (.ref ka),some (.int c),v9,v10,some (.str y),some (.int n),v13,v14] H1:=by
 have hr1:=hr.mono (j:=1) (by decide)
 have hr2:=hr.mono (j:=2) (by decide)
 have hr3:=hr.mono (j:=3) (by decide)
 have hrL:=hr.mono (j:=169) (by decide)
 have hu64:(A.deeper (LK "law" (Ae Ey) s.heap.objs.size f cdv)).units+64 < cLine:=by have:=hr.un;omega
 refine⟨_,Ag (Eb LB rfl (De (Bt (Ge Ad (Ak Bv Ad (Ak Bi (Ak Bv (pv 8) (Kq KQ PySem.F.slot_list_index PySem.F.type_list_index Vm (pv 6) (Dc (pv 11)))) Ad)) (Ak Bi (Ak Ce (Ck GC hr1 mC kC bC (Ea (pv 0) Ad)) Ad) Ad)))) (Cq 13 Eu.nd)
  (Ac (Bj 14 Eu.nd (Ck GD hr3 mD kD bD (Er (pv 7) (Qz (Dv (pv 1) T.clB mO GO hr2 bO .nil Cw (Dc (pv 5))) (pv 11) (pv 12) (pv 13)))))
  (Ag (Ax (Ao (qK hu64) (Dl GL hrL rfl mL kL bL .nil Wy (Er (pv 1) (Qz (pv 5) (pv 11) (pv 12) (pv 13)))) (pv 14) (As _)) Bw Al)))),?_⟩
 intro D H0 H1 a p d ka na wa ns ws m j zs x y c n v3 v4 v9 v10 v13 v14 S hn hx ewa wnd hy esa n0 n1 hD
 obtain⟨L,kvs,e,B,AK⟩:=S.ask hx hn
 obtain⟨i1,i2⟩:=wN wnd hy
 have f0:0<=zs.getD 4 0 / 5 % 41:=KJ _ (by decide)
 have f1:zs.getD 4 0 / 5 % 41 < 41:=JZ _ (by decide)
 have g0:0<=(c+(j:Int)) % 6:=KJ _ (by decide)
 have g1:(c+(j:Int)) % 6 < 6:=JZ _ (by decide)
 refine⟨_,rfl,_,rfl,.inl ⟨rfl,_,Av.of ewa⟩,_,rfl,wa,_,_,j,rfl,rfl,Av.of ewa,rfl,wJ _,i1,i2,_,_,rfl,rfl,_,_,rfl,rfl,(by show (0:Int) < 6;decide),_,_,rfl,rfl,?_⟩
 refine⟨_,rfl,a,zs,4,rfl,esa,_,_,rfl,rfl,⟨by decide,by decide⟩,_,_,rfl,rfl,(by show (0:Int) < 41;decide),by show 3<=IK;rw[JB];decide,λlc hlc=>?_⟩
 obtain⟨H3,zz,s3,e3⟩:=lay hlc (.lst [.int 40,.int (1+(c+(j:Int)) % 6),.int (zs.getD 4 0 / 5 % 41)])
 rw[zz]
 refine⟨lc,rfl,⟨_,Av.of e3⟩,Fe (K:=K) (a:=lc) (xs:=[.int 40,.int (1+(c+(j:Int)) % 6),.int (zs.getD 4 0 / 5 % 41)]) (λi σ H4=>∃v13 v14,σ=[some (.ref a),some (.ref p),some (.ref na),v3,v4,some (.str x),some (.ref wa),some (.ref ka),some (.int c),v9,v10,some (.str y),some (.int n),v13,v14]/\Am H3 H4) ⟨_,_,rfl,Am.refl _⟩ (λi σ H4 _ ⟨_,_,_,s4⟩=>Av.of (s4 _ _ e3)) ?_ ?_⟩
 ·rintro i v σ H4 hi ⟨v13,v14,rfl,s4⟩
  obtain⟨k,rfl,hk⟩:∃k:Nat,v=.int (k:Int)/\k<=40:=by
   have hv:=IY hi
   simp only[IQ,JG,or_false] at hv
   rcases hv with rfl | rfl | rfl
   ·exact⟨40,rfl,by decide⟩
   ·obtain⟨n,hn'⟩:=LW g0
    exact⟨1+n,by rw[hn'];rfl,by omega⟩
   ·obtain⟨n,hn'⟩:=LW f0
    exact⟨n,by rw[hn'],by omega⟩
  have sA:=s3.trans s4
  have A4:=AK H4 sA
  obtain⟨dx,hp⟩:=A4.bk.ob
  refine⟨_,rfl,_,rfl,p,dx,_,rfl,hp,Fx d (by decide +kernel),_,rfl,p,d,L,x,e,rfl,A4.bk,A4.fn,λlo hlo=>?_⟩
  obtain⟨H5,zz,s5,e5⟩:=lay hlo (.lst (Az e.od))
  rw[zz]
  have A5:=AK H5 (sA.trans s5)
  refine⟨_,rfl,_,rfl,_,rfl,ka,lo,kvs,e.od,B,y,n,k,rfl,A5.kn,e5,A5.le,Pn n0 n1,hk,λr6 H6 s6 D6=>?_⟩
  have A6:=AK H6 ((sA.trans s5).trans s6)
  refine⟨_,rfl,_,rfl,_,rfl,_,rfl,_,rfl,p,d,x,y,n,k,L,e,B,rfl,A6.fn,A6.qb,n0,n1,hk,λr7 H7 s7 D7=>?_⟩
  rw[oF] at D6
  exact⟨_,rfl,Xw D7 (D6.same s7) ⟨_,rfl,Di ⟨_,_,rfl,((s4.trans s5).trans s6).trans s7⟩⟩⟩
 ·rintro σ H4 ⟨v13,v14,rfl,s4⟩
  exact hD _ _ _ (s3.trans s4)
end
theorem Zp{kvs:List (List Key×V)}{k:List Key}(h:valV kvs k=none):Ci kvs k=kvs:=by
 unfold Ci
 refine List.filter_eq_self.mpr λkv hkv=>decide_eq_true λz=>?_
 have h2:=Fy k kvs
 rw[h] at h2
 have h3:=List.any_eq_false.mp h2 kv hkv
 exact h3 (decide_eq_true z)
theorem Wr{κ:Type}[DecidableEq κ](kvs:List (κ×V))(k:κ):(Ci kvs k).length<=kvs.length:=List.length_filter_le _ _
theorem jV(c:Int): -big<=c / 49 % (2 * 10 ^ (30:Int).toNat+1)-10 ^ (30:Int).toNat/\c / 49 % (2 * 10 ^ (30:Int).toNat+1)-10 ^ (30:Int).toNat<=big:=by
 have hb:big=1000000000000000000000000000000:=by decide
 have hp:(10:Int) ^ (30:Int).toNat=1000000000000000000000000000000:=by decide
 rw[hb,hp]
 have h1:=KJ (c / 49) (show (2 * 1000000000000000000000000000000+1:Int)≠0 by decide)
 have h2:=JZ (c / 49) (show (0:Int) < 2 * 1000000000000000000000000000000+1 by decide)
 omega
theorem eU(c:Int): -big<=c / 49 % 19-9/\c / 49 % 19-9<=big:=by
 have hb:big=1000000000000000000000000000000:=by decide
 rw[hb]
 omega
section
variable {CB CH:IN} {H0 H H2 H3:Hp} {p d ka:IN} {L:List Ent} {kvs:List (List Key×V)} {B:Dg} {ns:List Str} {m:Nat}
theorem Ra.drop2(S:Ra CB CH H p d L ka kvs B)(hns:L.map (·.nm)=ns)(hkl:kvs.length<=m)(hbl:∀e∈L,e.bd.length<=m)(kx:Hd H0 H){i:Nat}{e:Ent}(he:L[i]? = some e){y:Str}(k2:∀b o,H b=some o->b≠ka->H2 b=some o)(d2:H2 ka=some (.dT (Ci kvs [(IW e.nm:Key),IW y])))(k8:∀b o,H2 b=some o->b≠e.ba->H3 b=some o)(eba:H3 e.ba=some (.dK (Ci e.bd (IW y:Key)))):
 Jg CB CH H0 H3 p d ka ns m:=by
 have kx2:Hd H H2:=λb o h _ n=>k2 b o h (Cd h S.dc (n _))
 have B2:Ay CB CH H2 p d L:=S.bk.keepT λb o h n=>k2 b o h (Cd h S.dc (n _))
 have hem:=IY he
 have E7:=(B2.en e hem).bd
 have kx8:Hd H2 H3:=λb o h n _=>k8 b o h (Cd h E7 (n _))
 have S8:=S.drop he (w:=y) k2 d2 k8 eba
 refine⟨_,_,_,S8,(Ds (f:=λx:Ent=>x.nm) (e':={ e with bd:=Ci e.bd (IW y:Key) }) he rfl).trans hns,JR (Wr _ _) hkl,λe1 he1=>?_,(kx.trans kx2).trans kx8⟩
 rcases QH he1 with z | z
 ·exact hbl e1 z
 ·rw[z]
  exact JR (Wr _ _) (hbl e hem)
end
section
variable {P:JJ} {w:KL} {K:IG} {mg:Str->Option II} {base:LO} {f fO fC fD fL fG fT CB CH:IN} {fd dO dC dD dL dG dT:JW}
theorem Zt(T:Fo K mg CB CH)(Tx:Txt mg)(GG:Aj P w K mg base Bh 2 fG dG ["self","name","word"] (Hw CB CH))(bG:Binds K dG ["self","name","word"] [])(mG:Cr K CB "forget" fG)(cdv:II)(A:KG)(outer:List Env)(s:IL)(H:Hp)(E:XK)(hr:Cj 170 (A.deeper (LK "law" (Ae Ey) s.heap.objs.size f cdv))):
 ∃tt,Hs (Em Jh P w K mg base Rg "law" (Ae Ey) f cdv A outer s H E).nox ((fBody ((Bg Ey).getD 8 ES)).drop 3) tt /\
  ∀(D:L2.Ends)(H0 H1 H2:Hp)(a p d ka na wa tk:IN)(L:List Ent)(kvs:List (List Key×V))(B:Dg)(ns:List Str)(m i:Nat)(e:Ent)(y:Str)(v3 v4 v5 v8 v10 v11 v12 v13 v14:Option V),Ra CB CH H1 p d L ka kvs B->L.map (·.nm)=ns->kvs.length<=m->(∀e∈L,e.bd.length<=m)->Hd H0 H1->L[i]? = some e ->
   (∀b o,H1 b=some o->b≠ka->H2 b=some o)->H2 ka=some (.dT (Ci kvs [(IW e.nm:Key),IW y]))->H2 tk=some (.tup [.str e.nm,.str y]) ->
   (∀H3,Jg CB CH H0 H3 p d ka ns m->D.nx [some (.ref a),some (.ref p),some (.ref na),v3,v4,v5,some (.ref wa),some (.ref ka),v8,some (.ref tk),v10,v11,v12,v13,v14] H3) ->
   tt D [some (.ref a),some (.ref p),some (.ref na),v3,v4,v5,some (.ref wa),some (.ref ka),v8,some (.ref tk),v10,v11,v12,v13,v14] H2:=by
 have hr2:=hr.mono (j:=2) (by decide)
 refine⟨_,Ag (Ca (Dv (pv 1) T.clB mG GG hr2 bG .nil Cw (Ea (Aq Au (pv 9) Ad (λ_ _=>rfl)) (Aq Au (pv 9) Ad (λ_ _=>rfl))))),?_⟩
 intro D H0 H1 H2 a p d ka na wa tk L kvs B ns m i e y v3 v4 v5 v8 v10 v11 v12 v13 v14 S hns hkl hbl kx he k2 d2 etk hD
 have B2:Ay CB CH H2 p d L:=S.bk.keepT λb o h n=>k2 b o h (Cd h S.dc (n _))
 obtain⟨dx,hp⟩:=B2.ob
 have hem:=IY he
 refine⟨_,rfl,p,dx,_,rfl,hp,Fx d (by decide +kernel),_,rfl,tk,_,_,_,rfl,rfl,Cc.of etk,rfl,_,rfl,tk,_,_,_,rfl,rfl,Cc.of etk,rfl,p,d,L,e.nm,y,e,rfl,B2,Jk B2.nd hem,λH3 e3 k3=>?_⟩
 exact hD H3 (S.drop2 hns hkl hbl kx he k2 d2 k3 e3)
theorem iW(T:Fo K mg CB CH)(Tx:Txt mg)(GO:Aj P w K mg base Bh 2 fO dO ["self","name"] (Ep CB CH))(bO:Binds K dO ["self","name"] [])(mO:Cr K CB "order" fO)(GC:Aj P w K mg base Bh 1 fC dC ["_law_script","_law_k"] (Jb K))(kC:IR K (.ref fC)=true)(bC:Binds K dC ["_law_script","_law_k"] [])(mC:mg "_law_cell_at" = some (.ref fC))(GD:Aj P w K mg base Bh 3 fD dD ["_law_known","_law_line","_law_word","_law_number","_law_count"] Po)(kD:IR K (.ref fD)=true)(bD:Binds K dD ["_law_known","_law_line","_law_word","_law_number","_law_count"] [])(mD:mg "_law_due" = some (.ref fD))(GL:Aj P w K mg base Jh 169 fL dL ["_law_book","_law_name","_law_word","_law_number","_law_count"] (Lb CB CH))(kL:IR K (.ref fL)=true)(bL:Binds K dL ["_law_book","_law_name","_law_word","_law_number","_law_count"] [])(mL:mg "_law_told" = some (.ref fL))(GG:Aj P w K mg base Bh 2 fG dG ["self","name","word"] (Hw CB CH))(bG:Binds K dG ["self","name","word"] [])(mG:Cr K CB "forget" fG)(GT:Aj P w K mg base Jh 170 fT dT ["_law_book","_law_known","_law_names","_law_script"] (Ls K CB CH))(kT:IR K (.ref fT)=true)(bT:Binds K dT ["_law_book","_law_known","_law_names","_law_script"] [])(mT:mg "_law_tries_right" = some (.ref fT))(cdv:II)(A:KG)(outer:List Env)(s:IL)(H:Hp)(E:XK)(hr:Cj 170 (A.deeper (LK "law" (Ae Ey) s.heap.objs.size f cdv)))(Q:VK):
 ∃tt,Hs (Em Jh P w K mg base Rg "law" (Ae Ey) f cdv A outer s H E).nox ((Bg Ey).drop 8) tt /\
  ∀(H1:Hp)(a p d ka na wa:IN)(ns ws:List Str)(m:Nat)(zs:List Int)(v3 v4 v5 v8 v9 v10 v11 v12 v13 v14:Option V),Jg CB CH H1 H1 p d ka ns m->m<=900->0 < ns.length->ns.length<=40->H1 na=some (.lst (Az ns))->H1 wa=some (.lst (Az ws))->ws.Nodup->0 < ws.length->(∀y∈ws,Fb y=true)->Av K H1 a (zs.map V.int)->(∀H',Q (.bl true) H') ->
   tt { nx:=λ_ H'=>Q .non H',rt:=Q } [some (.ref a),some (.ref p),some (.ref na),v3,v4,v5,some (.ref wa),some (.ref ka),v8,v9,v10,v11,v12,v13,v14] H1:=by
 have hr1:=hr.mono (j:=1) (by decide)
 have hu:=Gd hr
 obtain⟨t4,h4,p4⟩:=rX (f:=f) T Tx GO bO mO GC kC bC mC GD kD bD mD GL kL bL mL cdv A outer s H E hr
 obtain⟨t3,h3,p3⟩:=Zt (f:=f) T Tx GG bG mG cdv A outer s H E hr
 refine⟨_,Ac (Eb LB rfl (Fl rfl Tx.range (Dc Ad)) (Cq 10 Eu.nd)
  (Ac (Eb LB rfl (De (pv 6)) (Cq 11 Eu.nd)
   (Ac (Bj 8 Eu.nd (Ak Bv (Ak Bv (Ck GC hr1 mC kC bC (Ea (pv 0) Ad)) (Bq Ih rfl Tx.len RD (Dc (pv 11)))) (Ak Jt Ad (pv 10))))
   (Ac (Bj 5 Eu.nd (Aq Bc (pv 2) (Ak Bi (Ak Bv (Ak Ce (pv 8) Ad) (Kq KQ PySem.F.slot_list_index PySem.F.type_list_index Vm (pv 6) (Dc (pv 11)))) (Cg Tx.len (pv 2))) (λ_ _=>rfl)))
   (Ac (Bj 12 Eu.nd (Ak Hq (Ak Bi (Ak Ce (pv 8) Ad) Ad) Ad))
   (Ac (Ax (Ao Bp (Ak Bi (pv 8) Ad) Ad (As _)) (Ag (Bj 12 Eu.nd (Ak Hq (Ak Bi (Ak Ce (pv 8) Ad) (Ak Bv (Ak Jt Ad (Ak Tj Ad Ad)) Ad)) (Ak Tj Ad Ad)))) Al) h4)))))
  (Ac (Bj 9 Eu.nd (Bb (Ea (Aq Bc (pv 2) (Hi Ff Ad) (λ_ _=>rfl)) (Aq Bc (pv 6) (Ak Bi (Ck GC hr1 mC kC bC (Ea (pv 0) Ad)) (Cg Tx.len (pv 6))) (λ_ _=>rfl)))))
  (Ac (Ca (pR hu (pv 7) (pv 9) Zj ⟨rfl,rfl,rfl,rfl⟩)) h3))))
  (Ag (An (Dl GT hr rfl mT kT bT .nil Wy (Qz (pv 1) (pv 7) (pv 2) (pv 0))))),?_⟩
 intro H1 a p d ka na wa ns ws m zs v3 v4 v5 v8 v9 v10 v11 v12 v13 v14 S hm hn0 hn ena ewa wnd hw0 hws esa q
 have lsv:(Az ns).length=ns.length:=Aw _
 have lsw:(Az ws).length=ws.length:=Aw _
 refine⟨2,rfl,by decide,by decide,Gq (n:=2) (λi σ H2=>∃v5 v8 v9 v10 v11 v12 v13 v14:Option V,σ=[some (.ref a),some (.ref p),some (.ref na),v3,v4,v5,some (.ref wa),some (.ref ka),v8,v9,v10,v11,v12,v13,v14]/\Jg CB CH H1 H2 p d ka ns m) ⟨_,_,_,_,_,_,_,_,rfl,S⟩ ?_ ?_⟩
 ·rintro ag σ H2 hag ⟨v5,v8,v9,v10,v11,v12,v13,v14,rfl,S2⟩
  rw[Int.zero_add]
  have kx:Hd H1 H2:=let ⟨_,_,_,_,_,_,_,k⟩:=S2;k
  have ena2:=kx.lst ena
  have ewa2:=kx.lst ewa
  have esa2:=kx.seq esa
  refine⟨_,rfl,wa,rfl,⟨_,Av.of ewa2⟩,Fe (K:=K) (a:=wa) (xs:=Az ws) (λj σ H3=>∃v5 v8 v11 v12 v13 v14:Option V,σ=[some (.ref a),some (.ref p),some (.ref na),v3,v4,v5,some (.ref wa),some (.ref ka),v8,v9,some (.int (ag:Int)),v11,v12,v13,v14]/\Am H2 H3) ⟨_,_,_,_,_,_,rfl,Am.refl _⟩ (λi σ H3 _ ⟨_,_,_,_,_,_,_,s3⟩=>Av.of (s3 _ _ ewa2)) ?_ ?_⟩
  ·rintro j v σ H3 hj ⟨v5,v8,v11,v12,v13,v14,rfl,s3⟩
   obtain⟨y,hy,rfl⟩:=Ie hj
   have ena3:=s3 _ _ ena2
   have ewa3:=s3 _ _ ewa2
   have esa3:=s3.seq esa2
   have hyk:=hws y (IY hy)
   have hyl:=cV hyk
   obtain⟨i1,i2⟩:=wN wnd hy
   refine⟨_,rfl,a,zs,0,rfl,esa3,_,rfl,y,rfl,by rw[JB];omega,_,_,rfl,rfl,_,rfl,_,_,rfl,rfl,.inl ⟨by decide,by decide⟩,_,_,rfl,rfl,?_⟩
   dsimp only
   generalize zs.getD 0 0+(y.length:Int)+3 * (ag:Int)=c
   obtain⟨k5,hk5,hk5l⟩:=Iy (x:=c / 7+(j:Int)) hn0
   have pick:Hx (Az ns) ((c / 7+(j:Int)) % ((Az ns).length:Int))=some (.str ns[k5]):=by
    rw[lsv,hk5]
    exact Ba (Gb (IU hk5l))
   have hxm:ns[k5]∈ns:=LQ hk5l
   generalize ns[k5]=x at *
   refine⟨_,rfl,_,rfl,_,_,rfl,rfl,⟨by decide,by decide⟩,_,rfl,.inl ⟨rfl,_,Av.of ewa3⟩,_,rfl,wa,_,_,j,rfl,rfl,Av.of ewa3,rfl,wJ _,i1,i2,_,_,rfl,rfl,_,rfl,na,_,rfl,.inl (Av.of ena3),_,_,rfl,rfl,(by rw[lsv];omega),na,_,_,_,rfl,rfl,Av.of ena3,pick,?_⟩
   refine⟨_,rfl,_,_,rfl,rfl,⟨by decide,by decide⟩,_,_,rfl,rfl,(by show (0:Int) < 19;decide),_,_,rfl,rfl,?_⟩
   refine⟨_,rfl,_,_,rfl,rfl,(by show (0:Int) < 3;decide),rfl,_,rfl,Br (λe=>?_) (λe=>?_)⟩
   ·refine⟨_,rfl,_,_,rfl,rfl,⟨by decide,by decide⟩,_,_,rfl,rfl,⟨by decide,by decide,by decide⟩,_,_,rfl,rfl,.inl ⟨by decide,by decide⟩,_,_,rfl,rfl,_,_,rfl,rfl,(by show (0:Int) < 2 * 10 ^ (30:Int).toNat+1;decide),_,_,rfl,rfl,⟨by decide,by decide,by decide⟩,_,_,rfl,rfl,?_⟩
    refine p4 _ H1 H3 a p d ka na wa ns ws m j zs x y c _ v3 v4 v9 _ v13 v14 (S2.same s3) hn hxm ewa3 wnd hy esa3 ?_ ?_ (λv13 v14 H4 s4=>⟨_,_,_,_,_,_,rfl,s3.trans s4⟩)
    ·exact(jV c).1
    ·exact(jV c).2
   ·refine p4 _ H1 H3 a p d ka na wa ns ws m j zs x y c _ v3 v4 v9 _ v13 v14 (S2.same s3) hn hxm ewa3 wnd hy esa3 ?_ ?_ (λv13 v14 H4 s4=>⟨_,_,_,_,_,_,rfl,s3.trans s4⟩)
    ·exact(eU c).1
    ·exact(eU c).2
  ·rintro σ H3 ⟨v5,v8,v11,v12,v13,v14,rfl,s3⟩
   have ena3:=s3 _ _ ena2
   have ewa3:=s3 _ _ ewa2
   have esa3:=s3.seq esa2
   have nsN:ns≠[]:=λz=>by rw[z] at hn0;exact absurd hn0 (by decide)
   obtain⟨k6,hk6,hk6l⟩:=Iy (x:=zs.getD 2 0) hw0
   have pick:Hx (Az ws) (zs.getD 2 0 % ((Az ws).length:Int))=some (.str ws[k6]):=by
    rw[lsw,hk6]
    exact Ba (Gb (IU hk6l))
   have hlast:=Xm nsN
   have hxm:ns.getLast nsN∈ns:=List.getLast_mem nsN
   generalize ns.getLast nsN=x at *
   generalize ws[k6]=y at *
   refine⟨_,rfl,_,rfl,na,_,_,_,rfl,rfl,Av.of ena3,hlast,_,rfl,_,rfl,a,zs,2,rfl,esa3,_,rfl,wa,_,rfl,.inl (Av.of ewa3),_,_,rfl,rfl,(by rw[lsw];omega),wa,_,_,_,rfl,rfl,Av.of ewa3,pick,by show 2<=IK;decide,λtk htk=>?_⟩
   obtain⟨H4,zz,s4,e4⟩:=lay htk (.tup [V.str x,V.str y])
   rw[zz]
   obtain⟨L,kvs,B,i,e,SK,hns,hkl,hbl,kx4,hi,rfl⟩:=((S2.same s3).same s4).at hxm
   refine⟨_,rfl,ka,rfl,.inr ⟨kvs,.inl SK.dc⟩,_,rfl,tk,kvs,[(IW e.nm:Key),IW y],rfl,SK.dc,e4,λv hv=>?_,λhv=>?_⟩
   ·refine p3 _ H1 H4 _ a p d ka na wa tk L kvs B ns m i e y v3 v4 _ _ _ _ _ _ _ SK hns hkl hbl kx4 hi (λb o h n=>by rw[Ai n];exact h) Aa ?_ (λH5 S5=>⟨_,_,_,_,_,_,_,_,rfl,S5⟩)
    rw[Ai (Cd e4 SK.dc (by intro z;cases z))]
    exact e4
   ·refine p3 _ H1 H4 _ a p d ka na wa tk L kvs B ns m i e y v3 v4 _ _ _ _ _ _ _ SK hns hkl hbl kx4 hi (λb o h n=>h) ?_ e4 (λH5 S5=>⟨_,_,_,_,_,_,_,_,rfl,S5⟩)
    rw[Zp hv]
    exact SK.dc
 ·rintro σ H2 ⟨v5,v8,v9,v10,v11,v12,v13,v14,rfl,S2⟩
  have kx:Hd H1 H2:=let ⟨_,_,_,_,_,_,_,k⟩:=S2;k
  exact⟨_,rfl,_,rfl,_,rfl,_,rfl,p,d,ka,na,a,ns,m,zs,H1,rfl,S2,hm,hn0,hn,kx.lst ena,kx.seq esa,q⟩
end
theorem lL(ns:List Int)(lo hi:Nat):∃ms:List Int,Gj (ns.map V.int) (some (lo:Int)) (some (hi:Int))=ms.map V.int/\ms.length<=hi-lo:=by
 refine⟨(ns.drop (HT.sIx (ns.map V.int).length 0 (some (lo:Int)))).take (HT.sIx (ns.map V.int).length (ns.map V.int).length (some (hi:Int))-HT.sIx (ns.map V.int).length 0 (some (lo:Int))),?_,?_⟩
 ·unfold Gj
  rw[List.map_take,QR]
 ·rw[OB,LP,HT.sIx_nat,HT.sIx_nat,IM]
  omega
theorem pP{ms:List Int}{i:Nat}{v:V}(h:(ms.map V.int)[i]? = some v):∃c,ms[i]? = some c/\v=V.int c:=by
 rw[JU] at h
 cases e:ms[i]? with
 | none=>rw[e] at h;cases h
 | some c=>rw[e] at h;exact⟨c,rfl,(KC h).symm⟩
theorem Jg.kp{CB CH:IN}{H0 H:Hp}{p d ka:IN}{ns:List Str}{m:Nat}(h:Jg CB CH H0 H p d ka ns m):Hd H0 H:=let ⟨_,_,_,_,_,_,_,k⟩:=h;k
section
variable {P:JJ} {w:KL} {K:IG} {mg:Str->Option II} {base:LO} {f fO fC fD fL fG fT fB fE CB CH:IN} {fd dO dC dD dL dG dT dB dE:JW} {ks:List (Str×IN×List Str)}
theorem cL(T:Fo K mg CB CH)(Tx:Txt mg)(Tp:Ri ks)(GO:Aj P w K mg base Bh 2 fO dO ["self","name"] (Ep CB CH))(bO:Binds K dO ["self","name"] [])(mO:Cr K CB "order" fO)(GC:Aj P w K mg base Bh 1 fC dC ["_law_script","_law_k"] (Jb K))(kC:IR K (.ref fC)=true)(bC:Binds K dC ["_law_script","_law_k"] [])(mC:mg "_law_cell_at" = some (.ref fC))(GD:Aj P w K mg base Bh 3 fD dD ["_law_known","_law_line","_law_word","_law_number","_law_count"] Po)(kD:IR K (.ref fD)=true)(bD:Binds K dD ["_law_known","_law_line","_law_word","_law_number","_law_count"] [])(mD:mg "_law_due" = some (.ref fD))(GL:Aj P w K mg base Jh 169 fL dL ["_law_book","_law_name","_law_word","_law_number","_law_count"] (Lb CB CH))(kL:IR K (.ref fL)=true)(bL:Binds K dL ["_law_book","_law_name","_law_word","_law_number","_law_count"] [])(mL:mg "_law_told" = some (.ref fL))(GG:Aj P w K mg base Bh 2 fG dG ["self","name","word"] (Hw CB CH))(bG:Binds K dG ["self","name","word"] [])(mG:Cr K CB "forget" fG)(GT:Aj P w K mg base Jh 170 fT dT ["_law_book","_law_known","_law_names","_law_script"] (Ls K CB CH))(kT:IR K (.ref fT)=true)(bT:Binds K dT ["_law_book","_law_known","_law_names","_law_script"] [])(mT:mg "_law_tries_right" = some (.ref fT))(GB:Aj P w K mg base Bh 3 fB dB ["_law_words","_law_first","_law_cell"] Jv)(kB:IR K (.ref fB)=true)(bB:Binds K dB ["_law_words","_law_first","_law_cell"] [])(mB:mg "_law_body_by" = some (.ref fB))(GE:Aj P w K mg base Bh 6 fE dE ["self","name","word","body"] (Hj CB CH ks))(bE:Binds K dE ["self","name","word","body"] [])(mE:Cr K CB "teach" fE)(cdv:II)(A:KG)(outer:List Env)(s:IL)(H:Hp)(E:XK)(hr:Cj 170 (A.deeper (LK "law" (Ae Ey) s.heap.objs.size f cdv)))(Q:VK):
 ∃tt,Hs (Em Jh P w K mg base Rg "law" (Ae Ey) f cdv A outer s H E).nox ((Bg Ey).drop 7) tt /\
  ∀(H1:Hp)(a p d ka na wa:IN)(ns ws:List Str)(m:Nat)(zs:List Int)(v3 v4 v5 v8 v9 v10 v11 v12 v13 v14:Option V),Jg CB CH H1 H1 p d ka ns m->m<=800->0 < ns.length->ns.length<=40->H1 na=some (.lst (Az ns))->H1 wa=some (.lst (Az ws))->ws.Nodup->0 < ws.length->ws.length<=7->(∀y∈ws,Fb y=true)->Av K H1 a (zs.map V.int)->(∀H',Q (.bl true) H') ->
   tt { nx:=λ_ H'=>Q .non H',rt:=Q } [some (.ref a),some (.ref p),some (.ref na),v3,v4,v5,some (.ref wa),some (.ref ka),v8,v9,v10,v11,v12,v13,v14] H1:=by
 have hr1:=hr.mono (j:=1) (by decide)
 have hr3:=hr.mono (j:=3) (by decide)
 have hr6:=hr.mono (j:=6) (by decide)
 have hu:=Gd hr
 obtain⟨t8,h8,p8⟩:=iW (f:=f) T Tx GO bO mO GC kC bC mC GD kD bD mD GL kL bL mL GG bG mG GT kT bT mT cdv A outer s H E hr Q
 refine⟨_,Ac (Eb LB rfl (De (Co En (pv 0) (Cy Ad) (Cy Ad))) (Cq 8 Eu.nd)
  (Ac (Bj 9 Eu.nd (Bb (Ea (Aq Bc (pv 2) (Ak Bi (pv 8) (Cg Tx.len (pv 2))) (λ_ _=>rfl)) (Aq Bc (pv 6) (Ak Bi (Ak Ce (pv 8) Ad) (Cg Tx.len (pv 6))) (λ_ _=>rfl)))))
  (Ac (Gh hu (pv 7) (pv 9) (Ck GB hr3 mB kB bB (Ge (pv 6) Ad (Ak Ce (pv 8) Ad))) rfl)
  (Ag (Ca (Dv (pv 1) T.clB mE GE hr6 bE .nil Cw (Ge (Aq Au (pv 9) Ad (λ_ _=>rfl)) (Aq Au (pv 9) Ad (λ_ _=>rfl)) (Iw hu (pv 7) (pv 9) (λ_ _=>rfl))))))))) h8,?_⟩
 intro H1 a p d ka na wa ns ws m zs v3 v4 v5 v8 v9 v10 v11 v12 v13 v14 S hm hn0 hn ena ewa wnd hw0 hwl hws esa q
 have lsv:(Az ns).length=ns.length:=Aw _
 have lsw:(Az ws).length=ws.length:=Aw _
 refine⟨_,rfl,_,rfl,_,rfl,a,_,rfl,esa,λsl hsl=>?_⟩
 obtain⟨ms,ems,hms⟩:=lL zs 5 63
 rw[show Gj (zs.map V.int) (some 5) (some 63)=ms.map V.int from ems]
 obtain⟨H2,zz,s1,esl⟩:=lay hsl (.lst (ms.map V.int))
 rw[zz]
 have S2:=(S.same s1).re
 have ena2:=s1 _ _ ena
 have ewa2:=s1 _ _ ewa
 have esa2:=s1.seq esa
 refine⟨sl,rfl,⟨_,Av.of esl⟩,Fe (K:=K) (a:=sl) (xs:=ms.map V.int) (λi σ H3=>∃v8 v9:Option V,σ=[some (.ref a),some (.ref p),some (.ref na),v3,v4,v5,some (.ref wa),some (.ref ka),v8,v9,v10,v11,v12,v13,v14]/\Jg CB CH H2 H3 p d ka ns (m+i)) ⟨_,_,rfl,S2⟩ (λi σ H3 _ ⟨_,_,_,S3⟩=>Av.of (S3.kp.lst esl)) ?_ ?_⟩
 ·rintro i v σ H3 hi ⟨v8,v9,rfl,S3⟩
  obtain⟨c,hc,rfl⟩:=pP hi
  have hil:i < ms.length:=(IH.mp hc).1
  have ena3:=S3.kp.lst ena2
  have ewa3:=S3.kp.lst ewa2
  obtain⟨k5,hk5,hk5l⟩:=Iy (x:=c) hn0
  have pickn:Hx (Az ns) (c % ((Az ns).length:Int))=some (.str ns[k5]):=by
   rw[lsv,hk5]
   exact Ba (Gb (IU hk5l))
  have hxm:ns[k5]∈ns:=LQ hk5l
  generalize ns[k5]=x at *
  obtain⟨k6,hk6,hk6l⟩:=Iy (x:=c / 7) hw0
  have pickw:Hx (Az ws) (c / 7 % ((Az ws).length:Int))=some (.str ws[k6]):=by
   rw[lsw,hk6]
   exact Ba (Gb (IU hk6l))
  have hyw:ws[k6]∈ws:=LQ hk6l
  generalize ws[k6]=y at *
  have hyk:=hws y hyw
  have hyl:=cV hyk
  refine⟨_,rfl,_,rfl,_,rfl,na,_,rfl,.inl (Av.of ena3),_,_,rfl,rfl,(by rw[lsv];omega),na,_,_,_,rfl,rfl,Av.of ena3,pickn,_,rfl,_,rfl,_,_,rfl,rfl,⟨by decide,by decide⟩,_,rfl,wa,_,rfl,.inl (Av.of ewa3),_,_,rfl,rfl,(by rw[lsw];omega),wa,_,_,_,rfl,rfl,Av.of ewa3,pickw,by show 2<=IK;decide,λtk htk=>?_⟩
  obtain⟨H4,zz,s4,e4⟩:=lay htk (.tup [V.str x,V.str y])
  rw[zz]
  refine⟨_,rfl,_,rfl,_,_,rfl,rfl,⟨by decide,by decide⟩,wa,ws,0,_,rfl,s4 _ _ ewa3,hw0,by omega,λlb ts ss H5 hlb s5 elb hst hss hsl=>?_⟩
  have e5:=s5 _ _ e4
  obtain⟨L,kvs,B,j,en,S5,hns,hkl,hbl,kx,hj,rfl⟩:=((S3.same s4).same s5).at hxm
  refine⟨_,rfl,_,rfl,ka,_,rfl,Kt.t (k:=[(IW en.nm:Key),IW y]) S5.dc e5 (by rw[JB];omega),?_⟩
  obtain⟨k6,B6,kx6,d6⟩:=S5.put1 (y:=y) (x:=en.nm) (lb:=lb) (Am.refl _)
  have e6:=kx6.tup e5
  have hb5:Dj H5 lb ss:=⟨ts,elb,hst⟩
  have sm6:Am (upd H5 ka (.dT (putK kvs [(IW en.nm:Key),IW y] (.ref lb)))) (upd H5 ka (.dT (putK kvs [(IW en.nm:Key),IW y] (.ref lb)))):=Am.refl _
  generalize hH6:upd H5 ka (.dT (putK kvs [(IW en.nm:Key),IW y] (.ref lb)))=H6 at *
  obtain⟨dx6,hp6⟩:=B6.ob
  obtain⟨ts',el6,hst6⟩:=hb5.kp kx6
  have g6:=Fc.t (k:=[(IW en.nm:Key),IW y]) d6 e6
  rw[Ec,if_pos rfl] at g6
  have hem:=IY hj
  refine⟨_,rfl,p,dx6,_,rfl,hp6,Fx d (by decide +kernel),_,rfl,tk,_,_,_,rfl,rfl,Cc.of e6,rfl,_,rfl,tk,_,_,_,rfl,rfl,Cc.of e6,rfl,_,rfl,_,rfl,ka,.ref lb,rfl,g6,p,d,lb,L,en.nm,y,en,ts',ss.map Eg.pr,rfl,B6,Jk B6.nd hem,hyk,by rw[JB];omega,el6,hst6,Mr Tp hws hss (by omega),by have:=hbl en hem;omega,λla H8 hla ela eba k8=>?_⟩
  have E6:=(B6.en en hem).bd
  have kx8:Hd H6 H8:=λb o h n _=>k8 b o h (Cd h E6 (n _))
  have hla8:Dj H8 la ss:=⟨ts',ela,hst6.1,λa t pr h1 h2=>kx8 _ _ (hst6.2 a t pr h1 h2) (by intro z e;cases e) (by intro z e;cases e)⟩
  exact⟨_,_,rfl,S5.put2 (m:=m+i) hns hkl hbl kx hj (y:=y) (ss:=ss) (la:=la) (lb:=lb) ⟨λs hs=>(hss s hs).ok,by omega⟩ hb5 (by rw[hH6];exact sm6) k8 eba hla8⟩
 ·rintro σ H3 ⟨v8,v9,rfl,S3⟩
  rw[IM] at S3
  exact p8 H3 a p d ka na wa ns ws _ zs _ _ _ _ _ _ _ _ _ _ S3.re (by omega) hn0 hn (S3.kp.lst ena2) (S3.kp.lst ewa2) wnd hw0 hws (S3.kp.seq esa2) q
end
def row(c:Int)(n:Nat):List Str:=(List.range n).map λi:Nat=>nameBy (i:Int) c
theorem Vh(c:Int)(n:Nat):(row c n).length=n:=by unfold row;simp
theorem xG{c:Int}{n:Nat}{x:Str}(h:x∈row c n):iU x:=by
 unfold row at h
 obtain⟨i,_,e⟩:=KZ.mp h
 rw[<- e]
 exact Jz _ _
theorem lW(c:Int)(n:Nat):Az (row c n)++[V.str (nameBy (n:Int) c)]=Az (row c (n+1)):=by
 unfold Az row
 rw[List.range_succ,JE,JE]
 rfl
theorem pC{c:Int}{n i:Nat}(h:i < (row c n).length):(row c n)[i]=nameBy (i:Int) c:=by
 simp[row]
theorem AA{c:Int}{n:Nat}(h:n<=676):(row c n).Nodup:=by
 refine List.pairwise_iff_getElem.mpr λi j hi hj hlt z=>?_
 rw[pC hi,pC hj] at z
 rw[Vh] at hi hj
 have:=Ye (by omega) (by omega) (by omega) (by omega) z
 omega
theorem Kc{H:Hp}{l b:IN}{o:HO}(h:mask1 H l b=some o):b≠l:=λz=>by
 rw[z,Iz] at h
 cases h
theorem pZ(H:Hp)(l:IN)(o:HO):mask1 (upd H l o) l=mask1 H l:=by
 funext b
 unfold mask1
 by_cases h:b=l
 ·rw[if_pos h,if_pos h]
 ·rw[if_neg h,if_neg h,Ai h]
theorem Ay.mask{CB CH:IN}{H:Hp}{p d na:IN}{L:List Ent}(B:Ay CB CH H p d L)(hp:p≠na)(hd:d≠na)(he:∀e∈L,e.at_≠na/\e.ea≠na/\e.oa≠na/\e.ba≠na):Ay CB CH (mask1 H na) p d L:=
 ⟨let ⟨dx,e⟩:=B.ob;⟨dx,Cf e hp⟩,Cf B.dc hd,λe m=>let E:=B.en e m;let ⟨n1,n2,n3,n4⟩:=he e m;⟨Cf E.ob n1,Cf E.el n2,Cf E.od n3,Cf E.bd n4⟩,B.nb,B.nd,B.nn⟩
theorem Ay.maskAdd{CB CH:IN}{H H':Hp}{p d na:IN}{L:List Ent}{e:Ent}{o:HO}(B:Ay CB CH (mask1 H na) p d L)(B':Ay CB CH H' p d (L++[e]))(fr:gI H e)(ho:H na=some o):Ay CB CH (mask1 H' na) p d (L++[e]):=by
 obtain⟨dx,hp⟩:=B.ob
 refine B'.mask (Kc hp) (Kc B.dc) λe' he'=>?_
 rcases JO.mp he' with z | z
 ·have E:=B.en e' z
  exact⟨Kc E.ob,Kc E.el,Kc E.od,Kc E.bd⟩
 ·rw[IT.mp z]
  have nn:∀ {b:IN},H b=none->b≠na:=λ{b} hb z=>by
   rw[z,ho] at hb
   cases hb
  exact⟨nn fr.at_,nn fr.ea,nn fr.oa,nn fr.ba⟩
def eA(K:IG):Sp:=λvs H Q _=>∃(a:IN)(ns:List Int),vs=[.ref a]/\Av K H a (ns.map V.int)/\ns.length<=63/\∀H',Q (.bl true) H'
section
variable {P:JJ} {w:KL} {K:IG} {mg:Str->Option II} {base:LO} {f fO fC fD fL fG fT fB fE fN fK fF fI CB CH:IN} {fd dO dC dD dL dG dT dB dE dN dK dF dI:JW} {ks:List (Str×IN×List Str)}
theorem FY:(["_law_k","_law_script"]:List Str).Nodup:=by decide +kernel
theorem gW(T:Fo K mg CB CH)(Tx:Txt mg)(Tp:Ri ks)(GC:Aj P w K mg base Bh 1 fC dC ["_law_script","_law_k"] (Jb K))(kC:IR K (.ref fC)=true)(bC:Binds K dC ["_law_script","_law_k"] [])(mC:mg "_law_cell_at" = some (.ref fC))(GN:Aj P w K mg base Bh 1 fN dN ["_law_k","_law_cell"] Mp)(kN:IR K (.ref fN)=true)(bN:Binds K dN ["_law_k","_law_cell"] [])(mN:mg "_law_name_by" = some (.ref fN))(GK:Aj P w K mg base Bh 7 fK dK ["_law_book","_law_names","_law_words","_law_seed"] (Kg CB CH))(kK:IR K (.ref fK)=true)(bK:Binds K dK ["_law_book","_law_names","_law_words","_law_seed"] [])(mK:mg "_law_taught" = some (.ref fK))(cdv:II)(A:KG)(outer:List Env)(s:IL)(H:Hp)(E:XK)(hr:Cj 170 (A.deeper (LK "law" (Ae Ey) s.heap.objs.size f cdv)))(Q:VK)(h7:∃tt,Hs (Em Jh P w K mg base Rg "law" (Ae Ey) f cdv A outer s H E).nox ((Bg Ey).drop 7) tt /\
  ∀(H1:Hp)(a p d ka na wa:IN)(ns ws:List Str)(m:Nat)(zs:List Int)(v3 v4 v5 v8 v9 v10 v11 v12 v13 v14:Option V),Jg CB CH H1 H1 p d ka ns m->m<=800->0 < ns.length->ns.length<=40->H1 na=some (.lst (Az ns))->H1 wa=some (.lst (Az ws))->ws.Nodup->0 < ws.length->ws.length<=7->(∀y∈ws,Fb y=true)->Av K H1 a (zs.map V.int)->(∀H',Q (.bl true) H') ->
   tt { nx:=λ_ H'=>Q .non H',rt:=Q } [some (.ref a),some (.ref p),some (.ref na),v3,v4,v5,some (.ref wa),some (.ref ka),v8,v9,v10,v11,v12,v13,v14] H1):
 ∃tt,Hs (Em Jh P w K mg base Rg "law" (Ae Ey) f cdv A outer s H E).nox ((Bg Ey).drop 5) tt /\
  ∀(H1:Hp)(a p d na:IN)(L:List Ent)(zs:List Int)(v3 v4 v5:Option V),Ay CB CH H1 p d L->Gw L->0 < L.length->L.length<=40->(∀e∈L,e.bd=[])->H1 na=some (.lst (Az (L.map (·.nm))))->Av K H1 a (zs.map V.int)->(∀H',Q (.bl true) H') ->
   tt { nx:=λ_ H'=>Q .non H',rt:=Q } [some (.ref a),some (.ref p),some (.ref na),v3,v4,v5,none,none,none,none,none,none,none,none,none] H1:=by
 have hr1:=hr.mono (j:=1) (by decide)
 have hr7:=hr.mono (j:=7) (by decide)
 obtain⟨t7,h7,p7⟩:=h7
 refine⟨_,Ac (Ed (i:=6) (Ae Ey) Rg ["_law_k"] [("_law_script", 0)] rfl Eu.nd rfl rfl (Fl rfl Tx.range (Dc (Ak Bv Ad (Ak Bi (Ck GC hr1 mC kC bC (Ea (pv 0) Ad)) Ad)))) (Bs (i:=0) (by decide)) (λ_ _ _ _ _ _=>⟨Cq 0 FY,Dx,
  Ck GN hr1 mN kN bN (Ea (pv 0) (Ck GC hr1 mC kC bC (Ea (pv 1) Ad)))⟩))
  (Ac (Bj 7 Eu.nd (Ck GK hr7 mK kK bK (Qz (pv 1) (pv 2) (pv 6) (Ak Bv (Ck GC hr1 mC kC bC (Ea (pv 0) Ad)) (Ck GC hr1 mC kC bC (Ea (pv 0) Ad)))))) h7),?_⟩
 intro H1 a p d na L zs v3 v4 v5 B O hL0 hL hbd ena esa q
 have hq0:0<=zs.getD 4 0 % 5:=KJ _ (by decide)
 have hq1:zs.getD 4 0 % 5 < 5:=JZ _ (by decide)
 obtain⟨m,hm⟩:=LW (show 0<=2+zs.getD 4 0 % 5 by omega)
 refine⟨_,rfl,a,zs,4,rfl,esa,_,_,rfl,rfl,(by show (0:Int) < 5;decide),_,_,rfl,rfl,(m:Int),by show [V.int (2+zs.getD 4 0 % 5)]=_;rw[hm],by omega,by omega,Il (k:=(m:Int).toNat) (λi ys H5=>H5=H1/\ys=Az (row (zs.getD 3 0) i)) ⟨rfl,rfl⟩ ?_ ?_⟩
 ·rintro i ys H5 hi ⟨rfl,rfl⟩
  rw[LR] at hi
  have e0:(0:Int)+(i:Int)=(i:Int):=by omega
  rw[e0]
  refine⟨_,rfl,_,rfl,a,zs,3,rfl,esa,_,_,rfl,?_,rfl,lW _ _⟩
  rw[Aw,Vh,JB]
  omega
 rintro ys H5 ⟨rfl,rfl⟩ wa hwa
 rw[LR]
 have s2:=Af hwa (.lst (Az (row (zs.getD 3 0) m)))
 have ewa:(upd H5 wa (.lst (Az (row (zs.getD 3 0) m)))) wa=some (.lst (Az (row (zs.getD 3 0) m))):=Aa
 have wl:(row (zs.getD 3 0) m).length=m:=Vh _ _
 have wnd:(row (zs.getD 3 0) m).Nodup:=AA (by omega)
 have wok:∀y∈row (zs.getD 3 0) m,Fb y=true:=λy hy=>Iq (xG hy)
 generalize row (zs.getD 3 0) m=ws at *
 generalize upd H5 wa (.lst (Az ws))=H6 at *
 have esa6:=s2.seq esa
 refine⟨_,rfl,_,rfl,_,rfl,_,rfl,a,zs,2,rfl,esa6,_,rfl,a,zs,4,rfl,esa6,_,_,rfl,rfl,p,d,na,wa,L,ws,_,rfl,B.same s2,O,hL,hbd,s2 _ _ ena,ewa,by omega,wok,λka H7 S7=>?_⟩
 have k7:=S7.kp
 exact p7 H7 a p d ka na wa _ ws 300 zs _ _ _ _ _ _ _ _ _ _ S7.re (by decide) (by rw[IM];exact hL0) (by rw[IM];exact hL) (k7.lst (s2 _ _ ena)) (k7.lst ewa) wnd (by omega) (by omega) wok (k7.seq esa6) q
theorem Zs(T:Fo K mg CB CH)(Tx:Txt mg)(GC:Aj P w K mg base Bh 1 fC dC ["_law_script","_law_k"] (Jb K))(kC:IR K (.ref fC)=true)(bC:Binds K dC ["_law_script","_law_k"] [])(mC:mg "_law_cell_at" = some (.ref fC))(GN:Aj P w K mg base Bh 1 fN dN ["_law_k","_law_cell"] Mp)(kN:IR K (.ref fN)=true)(bN:Binds K dN ["_law_k","_law_cell"] [])(mN:mg "_law_name_by" = some (.ref fN))(GF:Aj P w K mg base Jh 6 fF dF ["_law_book","_law_names","_law_name","_law_cell"] (Kj CB CH))(kF:IR K (.ref fF)=true)(bF4:Binds K dF ["_law_book","_law_names","_law_name","_law_cell"] [])(mF:mg "_law_founded" = some (.ref fF))(cdv:II)(A:KG)(outer:List Env)(s:IL)(H:Hp)(E:XK)(hr:Cj 170 (A.deeper (LK "law" (Ae Ey) s.heap.objs.size f cdv)))(Q:VK)(h5:∃tt,Hs (Em Jh P w K mg base Rg "law" (Ae Ey) f cdv A outer s H E).nox ((Bg Ey).drop 5) tt /\
  ∀(H1:Hp)(a p d na:IN)(L:List Ent)(zs:List Int)(v3 v4 v5:Option V),Ay CB CH H1 p d L->Gw L->0 < L.length->L.length<=40->(∀e∈L,e.bd=[])->H1 na=some (.lst (Az (L.map (·.nm))))->Av K H1 a (zs.map V.int)->(∀H',Q (.bl true) H') ->
   tt { nx:=λ_ H'=>Q .non H',rt:=Q } [some (.ref a),some (.ref p),some (.ref na),v3,v4,v5,none,none,none,none,none,none,none,none,none] H1):
 ∃tt,Hs (Em Jh P w K mg base Rg "law" (Ae Ey) f cdv A outer s H E).nox ((Bg Ey).drop 4) tt /\
  ∀(H0 H1:Hp)(a p d na:IN)(n:Nat)(zs:List Int),Ay CB CH (mask1 H1 na) p d []->Am H0 H1->H0 d=none->H0 na=none->0 < n->n<=40->H1 na=some (.lst [])->Av K H0 a (zs.map V.int)->(∀H',Q (.bl true) H') ->
   tt { nx:=λ_ H'=>Q .non H',rt:=Q } [some (.ref a),some (.ref p),some (.ref na),some (.int (n:Int)),none,none,none,none,none,none,none,none,none,none,none] H1:=by
 have hr1:=hr.mono (j:=1) (by decide)
 have hr6:=hr.mono (j:=6) (by decide)
 obtain⟨t5,h5,p5⟩:=h5
 refine⟨_,Ac (Eb LB rfl (Fl rfl Tx.range (Dc (pv 3))) (Cq 4 Eu.nd)
  (Ac (Bj 5 Eu.nd (Ck GN hr1 mN kN bN (Ea (pv 4) (Ck GC hr1 mC kC bC (Ea (pv 0) Ad)))))
  (Ac (Ca (Dl GF hr6 rfl mF kF bF4 .nil Wy (Qz (pv 1) (pv 2) (pv 5) (Ak Bv (Ck GC hr1 mC kC bC (Ea (pv 0) Ad)) (Ak Jt Ad (pv 4))))))
  (Ag (Ca (Kq KQ MF ME Et (pv 2) (Dc (pv 5)))))))) h5,?_⟩
 intro H0 H1 a p d na n zs B0 s0 fd0 fna hn0 hn ena esa q
 refine⟨_,rfl,_,rfl,by omega,by omega,Gq (n:=(n:Int).toNat) (λi σ H7=>∃(L:List Ent)(v4 v5:Option V),σ=[some (.ref a),some (.ref p),some (.ref na),some (.int (n:Int)),v4,v5,none,none,none,none,none,none,none,none,none]/\Ay CB CH (mask1 H7 na) p d L/\Gw L/\L.length=i/\(∀(j:Nat)(e:Ent),L[j]? = some e->e.nm=nameBy (j:Int) (zs.getD 1 0)/\e.bd=[])/\H7 na=some (.lst (Az (L.map (·.nm))))/\Am H0 H7)
  ⟨[],none,none,rfl,B0,(λe he=>nomatch he),rfl,(λj e h=>by simp at h),ena,s0⟩ ?_ ?_⟩
 ·rintro i σ H7 hi ⟨L,v4,v5,rfl,B,O,hLl,hL,ena7,s7⟩
  rw[LR] at hi
  have e0:(0:Int)+(i:Int)=(i:Int):=by omega
  rw[e0]
  have esa7:=s7.seq esa
  have hnx:=Jz (i:Int) (zs.getD 1 0)
  have hnew:Ik L (nameBy (i:Int) (zs.getD 1 0))=none:=nK λe he z=>by
   obtain⟨j,hj⟩:=LD he
   have hjl:j < L.length:=(IH.mp hj).1
   rw[(hL j e hj).1] at z
   have:=Ye (by omega) (by omega) (by omega) (by omega) z
   omega
  refine⟨_,rfl,_,rfl,a,zs,1,rfl,esa7,_,_,rfl,?_⟩
  have Bf:Ay CB CH H7 p d L:=B.same Hz
  refine⟨_,rfl,_,rfl,_,rfl,_,rfl,a,zs,2,rfl,esa7,_,rfl,_,_,rfl,rfl,.inl ⟨by decide,by decide⟩,_,_,rfl,rfl,p,d,na,L,_,_,rfl,Bf,ena7,O,by omega,hnx,hnew,λH8 e B8 hnm hbd O8 fr k8=>?_⟩
  have nad:na≠d:=Cd ena7 Bf.dc (by intro z;cases z)
  have ena8:=k8 _ _ ena7 nad
  refine⟨_,rfl,.inl ⟨rfl,_,Av.of ena8⟩,_,rfl,na,_,_,rfl,rfl,ena8,?_,?_⟩
  ·show (Az (L.map (·.nm))).length < IK
   rw[Aw,IM,JB]
   omega
  refine⟨L++[e],_,_,rfl,?_,O8,by rw[IV,hLl];rfl,λj e' he'=>?_,?_,λb o hb=>?_⟩
  ·rw[pZ]
   exact B.maskAdd B8 fr ena7
  ·by_cases hj:j < L.length
   ·rw[KA hj] at he'
    exact hL j e' he'
   ·have hjl:j < (L++[e]).length:=(IH.mp he').1
    rw[IV,JH] at hjl
    obtain rfl:j=L.length:=by omega
    rw[JY] at he'
    cases he'
    exact⟨by rw[hnm,hLl],hbd⟩
  ·rw[Aa,JE]
   unfold Az
   rw[JE]
   show some (HO.lst (_++[V.str _]))=some (HO.lst (_++[V.str e.nm]))
   rw[hnm]
  ·rw[Ai (Ah hb fna)]
   exact k8 b o (s7 _ _ hb) (Ah hb fd0)
 ·rintro σ H7 ⟨L,v4,v5,rfl,B,O,hLl,hL,ena7,s7⟩
  rw[LR] at hLl
  refine p5 H7 a p d na L zs _ _ _ (B.same Hz) O (by omega) (by omega) (λe he=>?_) ena7 (s7.seq esa) q
  obtain⟨j,hj⟩:=LD he
  exact(hL j e hj).2
end
section
variable {P:JJ} {w:KL} {K:IG} {mg:Str->Option II} {base:LO} {f fO fC fD fL fG fT fB fE fN fK fF fI CB CH:IN} {fd dO dC dD dL dG dT dB dE dN dK dF dI:JW} {ks:List (Str×IN×List Str)}
theorem zK(F:Dp K "law" "law" Ey f fd)(T:Fo K mg CB CH)(Tx:Txt mg)(Tp:Ri ks)(GO:Aj P w K mg base Bh 2 fO dO ["self","name"] (Ep CB CH))(bO:Binds K dO ["self","name"] [])(mO:Cr K CB "order" fO)(GC:Aj P w K mg base Bh 1 fC dC ["_law_script","_law_k"] (Jb K))(kC:IR K (.ref fC)=true)(bC:Binds K dC ["_law_script","_law_k"] [])(mC:mg "_law_cell_at" = some (.ref fC))(GD:Aj P w K mg base Bh 3 fD dD ["_law_known","_law_line","_law_word","_law_number","_law_count"] Po)(kD:IR K (.ref fD)=true)(bD:Binds K dD ["_law_known","_law_line","_law_word","_law_number","_law_count"] [])(mD:mg "_law_due" = some (.ref fD))(GL:Aj P w K mg base Jh 169 fL dL ["_law_book","_law_name","_law_word","_law_number","_law_count"] (Lb CB CH))(kL:IR K (.ref fL)=true)(bL:Binds K dL ["_law_book","_law_name","_law_word","_law_number","_law_count"] [])(mL:mg "_law_told" = some (.ref fL))(GG:Aj P w K mg base Bh 2 fG dG ["self","name","word"] (Hw CB CH))(bG:Binds K dG ["self","name","word"] [])(mG:Cr K CB "forget" fG)(GT:Aj P w K mg base Jh 170 fT dT ["_law_book","_law_known","_law_names","_law_script"] (Ls K CB CH))(kT:IR K (.ref fT)=true)(bT:Binds K dT ["_law_book","_law_known","_law_names","_law_script"] [])(mT:mg "_law_tries_right" = some (.ref fT))(GB:Aj P w K mg base Bh 3 fB dB ["_law_words","_law_first","_law_cell"] Jv)(kB:IR K (.ref fB)=true)(bB:Binds K dB ["_law_words","_law_first","_law_cell"] [])(mB:mg "_law_body_by" = some (.ref fB))(GE:Aj P w K mg base Bh 6 fE dE ["self","name","word","body"] (Hj CB CH ks))(bE:Binds K dE ["self","name","word","body"] [])(mE:Cr K CB "teach" fE)(GN:Aj P w K mg base Bh 1 fN dN ["_law_k","_law_cell"] Mp)(kN:IR K (.ref fN)=true)(bN:Binds K dN ["_law_k","_law_cell"] [])(mN:mg "_law_name_by" = some (.ref fN))(GK:Aj P w K mg base Bh 7 fK dK ["_law_book","_law_names","_law_words","_law_seed"] (Kg CB CH))(kK:IR K (.ref fK)=true)(bK:Binds K dK ["_law_book","_law_names","_law_words","_law_seed"] [])(mK:mg "_law_taught" = some (.ref fK))(GF:Aj P w K mg base Jh 6 fF dF ["_law_book","_law_names","_law_name","_law_cell"] (Kj CB CH))(kF:IR K (.ref fF)=true)(bF4:Binds K dF ["_law_book","_law_names","_law_name","_law_cell"] [])(mF:mg "_law_founded" = some (.ref fF))(GI:Aj P w K mg base Bh 1 fI dI ["self"] (Ug CB))(bI:Binds K dI ["self"] [])(MB:Mk K CB fI):Aj P w K mg base Jh 171 f fd ["_law_script"] (eA K):=by
 refine F.ok1 Eu (λvs H Q E h=>?_) (λcdv A outer s H vs Q E hr h=>?_)
 ·obtain⟨a,zs,rfl,_⟩:=h
  rfl
 obtain⟨a,zs,rfl,S,h63,q⟩:=h
 have hr1:=hr.mono (j:=1) (by decide)
 have hr2:=hr.mono (j:=2) (by decide)
 obtain⟨t4,h4,p4⟩:=Zs (f:=f) T Tx GC kC bC mC GN kN bN mN GF kF bF4 mF cdv A outer s H E hr Q
  (gW (f:=f) T Tx Tp GC kC bC mC GN kN bN mN GK kK bK mK cdv A outer s H E hr Q
   (cL (f:=f) T Tx Tp GO bO mO GC kC bC mC GD kD bD mD GL kL bL mL GG bG mG GT kT bT mT GB kB bB mB GE bE mE cdv A outer s H E hr Q))
 refine⟨_,Ac (Bj 1 Eu.nd (oJ MB GI hr2 rfl T.mgB bI .nil Cw))
  (Ac (Bj 2 Eu.nd (Bt Hn))
  (Ac (Bj 3 Eu.nd (Ak Bv Ad (Ak Bi (Ck GC hr1 mC kC bC (Ea (pv 0) Ad)) Ad)))
  (Ac (Ax (Ao Bp (Ak Bi (Ak Ce (Ck GC hr1 mC kC bC (Ea (pv 0) Ad)) Ad) Ad) Ad (As _)) (Ag (Bj 3 Eu.nd (Ak Bv Ad (Ak Bi (Ak Ce (Ck GC hr1 mC kC bC (Ea (pv 0) Ad)) Ad) Ad)))) Al) h4))),?_⟩
 -- Book()
 intro p dx np ndx nex
 refine⟨p,dx,rfl,Aa,λd hd=>⟨rfl,?_⟩⟩
 have hd1:d≠p:=λz=>by rw[z,Aa] at hd;cases hd
 have fd0:H d=none:=Ni (Ni hd)
 have sb:Am H (upd (upd (upd (upd H dx (.own p)) p (.ins CB dx [])) d (.dK [])) p (.ins CB dx (bF d))):=λb o e=>by
  rw[Ai (Ah e np),Ai (Ah e fd0),Ai (Ah e np),Ai (Ah e ndx)]
  exact e
 have ep:(upd (upd (upd (upd H dx (.own p)) p (.ins CB dx [])) d (.dK [])) p (.ins CB dx (bF d))) p=some (.ins CB dx (bF d)):=Aa
 have ed:(upd (upd (upd (upd H dx (.own p)) p (.ins CB dx [])) d (.dK [])) p (.ins CB dx (bF d))) d=some (.dK []):=by rw[Ai hd1];exact Aa
 generalize upd (upd (upd (upd H dx (.own p)) p (.ins CB dx [])) d (.dK [])) p (.ins CB dx (bF d))=H1 at *
 have B0:Ay CB CH H1 p d []:=⟨⟨dx,ep⟩,ed,(λe he=>nomatch he),(λe he=>nomatch he),QG,QG⟩
 -- names
 refine⟨by show 0<=IK;decide,λna hna=>?_⟩
 obtain⟨H2,zz,s2,ena⟩:=lay hna (.lst [])
 rw[zz]
 have sA:=sb.trans s2
 have S2:=sA.seq S
 have B2:Ay CB CH (mask1 H2 na) p d []:=B0.same (Am.mask1 s2 hna)
 have m0:0<=zs.getD 0 0 % 7:=KJ _ (by decide)
 have m1:zs.getD 0 0 % 7 < 7:=JZ _ (by decide)
 have m2:0<=zs.getD 0 0 / 56 % 30:=KJ _ (by decide)
 have m3:zs.getD 0 0 / 56 % 30 < 30:=JZ _ (by decide)
 refine⟨_,rfl,a,zs,0,rfl,S2,_,_,rfl,rfl,(by show (0:Int) < 7;decide),_,_,rfl,rfl,?_⟩
 refine⟨_,rfl,a,zs,0,rfl,S2,_,_,rfl,rfl,⟨by decide,by decide⟩,_,_,rfl,rfl,(by show (0:Int) < 8;decide),rfl,_,rfl,Br (λe=>?_) (λe=>?_)⟩
 ·obtain⟨n,hn⟩:=LW (show 0<=8+zs.getD 0 0 / 56 % 30 by omega)
  have z:=p4 H H2 a p d na n zs B2 sA fd0 (sb.free hna) (by omega) (by omega) ena S q
  rw[<- hn] at z
  exact⟨_,rfl,a,zs,0,rfl,S2,_,_,rfl,rfl,⟨by decide,by decide⟩,_,_,rfl,rfl,(by show (0:Int) < 30;decide),_,_,rfl,rfl,z⟩
 ·obtain⟨n,hn⟩:=LW (show 0<=1+zs.getD 0 0 % 7 by omega)
  have z:=p4 H H2 a p d na n zs B2 sA fd0 (sb.free hna) (by omega) (by omega) ena S q
  rw[<- hn] at z
  exact z
end
end Bk
namespace Bk
open PySem L2 Mg Nm
def wA(w:KL)(p:Str×Tok×IN):DictEntry:=⟨MD w.params p.1,.str p.1 p.2.1,.ref p.2.2⟩
theorem jP{P:JJ}{w:KL}:∀ents:List (Str×Tok×IN),Pairs (Bz P w) (ents.map (wA w)) (ents.map λp=>((IW p.1:Key),JD p.2.2)):=by
 intro ents
 induction ents with
 | nil=>exact .nil
 | cons p ents ih=>exact .cons (Ms p.1 p.2.1) rfl ih
theorem uP{P:JJ}{w:KL}{K:IG}{aP:IN}{es:Array DictEntry}{ep:Nat}(ents:List (Str×Tok×IN))(l:K.lookup aP=some ⟨.type "dict", none,.dict es ep,#[]⟩)(hes:es.toList=ents.map (wA w))(nd:(ents.map (·.1)).Nodup)(sm:(aP == NG)=false):Ys P w K aP (ents.map λp=>((IW p.1:Key),V.ref p.2.2)):=by
 refine⟨_,es,ep,ents.map λp=>((IW p.1:Key),JD p.2.2),l,⟨rfl,rfl,rfl⟩,rfl,λe he=>?_,by rw[hes];exact jP ents,?_,?_,sm⟩
 ·have he':e∈es.toList:=by simpa using he
  rw[hes] at he'
  obtain⟨p,hp,rfl⟩:=KZ.mp he'
  exact⟨IW p.1,Ms p.1 p.2.1,rfl⟩
 ·rw[List.map_map]
  have:((λq:Key×II=>q.1) ∘ λp:Str×Tok×IN=>((IW p.1:Key),JD p.2.2))=λp=>(IW p.1:Key):=rfl
  rw[this]
  have h2:(ents.map λp=>(IW p.1:Key))=(ents.map (·.1)).map IW:=by rw[List.map_map];rfl
  rw[h2]
  exact List.pairwise_map.mpr (nd.imp λh z=>h (IW.inj z))
 ·clear l hes nd
  induction ents with
  | nil=>exact .nil
  | cons p ents ih=>exact .cons ⟨rfl,rfl⟩ ih
theorem Fg{K:IG}{H:Hp}{a:IN}{od:Option IN}{its:Array II}{n:Nat}{sl:Array (Option II)}{r:List Str}(l:K.lookup a=some ⟨.type "tuple", od,.seq its n,sl⟩)(v:Be (Az r) its.toList)(hl:its.size<=IK):Cc K H a (Az r):=.inr ⟨_,its,n,l,rfl,rfl,hl,v⟩
section
variable {P:JJ} {w:KL} {K:IG} {mg:Str->Option II} {base:LO} {f:IN} {fd:JW}
theorem To:Ap ["_law_k","_law_cell","_law_letters","_law_fill","_law_place"] ["_law_k","_law_cell"] (Ae nF):=Fv (by decide +kernel)
theorem uH(F:Dp K "_law_name_by" "_law_name_by" nF f fd)(T:Txt mg):Aj P w K mg base Bh 1 f fd ["_law_k","_law_cell"] Mp:=by
 refine F.ok To (λvs H Q E h=>?_) (λcdv A outer s H vs Q E hr h=>?_)
 ·obtain⟨k,c,rfl,_⟩:=h
  rfl
 obtain⟨k,c,rfl,q⟩:=h
 refine⟨_,Ac (Bj 2 To.nd Ar)
  (Ac (Bj 3 To.nd (Co cO (Ak Ir (pv 2) (pv 2)) (Cy (Ak Bi (pv 1) Ad)) (Cy (Ak Bv (Ak Bi (pv 1) Ad) (Ak Bi (Ak Ce (pv 1) Ad) Ad)))))
  (Ac (Bj 4 To.nd (Ak Bi (Ak Ce (pv 1) Ad) (Ak Bv (Bq Ih rfl T.len RD (Dc (pv 3))) Ad)))
  (Ag (An (Ak Ir (Ak Ir (Ak Ir (Co cO (pv 3) Dy (Cy (pv 4))) (Aq lT (pv 2) (Ak Bi (Ak Ce (pv 0) Ad) Ad) (λ_ _=>rfl))) (Aq lT (pv 2) (Ak Bi (pv 0) Ad) (λ_ _=>rfl))) (Co cO (pv 3) (Cy (pv 4)) Dy)))))),?_⟩
 have ll:=Nf
 have l52:=sl52
 have fl:(fill c).length<=52:=JR (Ww c) (by decide)
 have lz:Eo.length<=IK:=by omega
 refine⟨_,rfl,_,rfl,Eo,Eo,rfl,rfl,by omega,?_⟩
 refine⟨_,rfl,_,_,rfl,rfl,(by show (0:Int) < 26;decide),_,rfl,?_⟩
 refine⟨_,rfl,_,_,rfl,rfl,(by show (0:Int) < 26;decide),_,rfl,_,_,rfl,rfl,⟨by decide,by decide⟩,_,_,rfl,rfl,(by show (0:Int) < 19;decide),_,_,rfl,rfl,_,rfl,?_⟩
 refine⟨_,rfl,by rw[len_app];omega,?_⟩
 refine⟨_,rfl,_,_,rfl,rfl,⟨by decide,by decide⟩,_,rfl,fill c,rfl,by omega,_,_,rfl,rfl,_,_,rfl,rfl,(by show (0:Int) < ((fill c).length:Int)+1;omega),?_⟩
 have z1:(RH (fill c) none (some (place c))).length<=52:=JR (Txt.slice_le _ _ _) fl
 have z2:(RH (fill c) (some (place c)) none).length<=52:=JR (Txt.slice_le _ _ _) fl
 have zs:∀i:Int,(sign i).length=1:=λi=>rfl
 have zl:(200:Nat)<=IK:=by rw[JB];decide
 refine⟨_,rfl,_,rfl,_,rfl,fill c,rfl,by omega,?_⟩
 refine⟨_,rfl,_,rfl,_,_,rfl,rfl,⟨by decide,by decide⟩,_,_,rfl,rfl,(by show (0:Int) < 26;decide),Eo,_,_,rfl,rfl,lz,Td (KJ _ (by decide)) (JZ _ (by decide)),?_⟩
 refine⟨_,sign (k / 26 % 26),rfl,rfl,by rw[zs];exact JR (Nat.add_le_add_right z1 1) (by omega),?_⟩
 refine⟨_,rfl,_,rfl,_,_,rfl,rfl,(by show (0:Int) < 26;decide),Eo,_,_,rfl,rfl,lz,Td (KJ _ (by decide)) (JZ _ (by decide)),?_⟩
 have z1':(RH (fill c) none (some (c / 494 % (((fill c).length:Int)+1)))).length<=52:=z1
 have z2':(RH (fill c) (some (c / 494 % (((fill c).length:Int)+1))) none).length<=52:=z2
 refine⟨_,sign (k % 26),rfl,rfl,by rw[len_app,zs,zs];omega,?_⟩
 refine⟨_,rfl,_,rfl,_,rfl,fill c,rfl,by omega,?_⟩
 refine⟨_,_,rfl,rfl,by rw[len_app,len_app,zs,zs];omega,?_⟩
 exact q
end
section
variable {P:JJ} {w:KL} {K:IG} {mg:Str->Option II} {base:LO} {f fH fN fB CB CH:IN} {fd dH dN dB:JW} {ks:List (Str×IN×List Str)}
theorem Yj:Ap ["self","name","word","bodies"] ["self","name","word"] (Ae Uo):=Fv (by decide +kernel)
theorem iS(F:Dp K "forget" "Book.forget" Uo f fd)(T:Fo K mg CB CH)(Tx:Txt mg)(GH:Aj P w K mg base Bh 1 fH dH ["self","name"] (Ic CB CH))(bH:Binds K dH ["self","name"] [])(mH:Cr K CB "house" fH):Aj P w K mg base Bh 2 f fd ["self","name","word"] (Hw CB CH):=by
 refine F.ok Yj (λvs H Q E h=>?_) (λcdv A outer s H vs Q E hr h=>?_)
 ·obtain⟨p,d,L,x,y,e,rfl,_⟩:=h
  rfl
 obtain⟨p,d,L,x,y,e,rfl,B,he,q⟩:=h
 obtain⟨dx,hp⟩:=B.ob
 have hu:=Gd hr
 have E:=B.en e (Hf he).1
 refine⟨_,Ac (Bj 3 Yj.nd (Cp (Dv (pv 0) T.clB mH GH hr bH .nil Cw (Dc (pv 1))) rfl))
  (Ac (Ax (Fj (Ki hu (pv 2) (pv 3))) (Ag (An nP)) Al)
  (Ac (Ca (qL (pv 3) (pv 2) ⟨rfl,rfl,rfl,rfl⟩))
  (Ag (An nP)))),?_⟩
 refine⟨_,rfl,p,dx,_,rfl,hp,Fx d (by decide +kernel),_,rfl,p,d,L,x,e,rfl,B,he,e.at_,CH,e.dx,_,_,rfl,E.ob,T.clH,T.nBd,oY _ _ _,?_⟩
 refine⟨_,rfl,_,rfl,e.ba,_,rfl,Fc.k (k:=IW y) E.bd,_,rfl,?_⟩
 cases hv:valV e.bd (IW y:Key) with
 | none=>
  refine He ?_
  rw[hv] at q
  exact q H (by rw[gY hv];exact E.bd) λb o hb _=>hb
 | some v=>
  refine Di ?_
  refine⟨_,rfl,e.ba,rfl,.inl ⟨_,.inl E.bd⟩,_,rfl,e.bd,IW y,v,E.bd,rfl,hv,?_⟩
  rw[hv] at q
  exact q _ Aa λb o hb hne=>by rw[Ai hne];exact hb
end
end Bk
namespace Bk
open PySem L2 Mg PySem.W
theorem Uj{K:Frag}{cls:II}{C:IN}(h1:isClsIn K C=true)(h2:typeIn K (.ref C)=some (.type "type"))(h3:subIn K (.ref C) (.type "BaseException")=some true){b:Bool}(h4:subIn K cls (.ref C)=some b):exmOne K cls (.ref C)=some b:=by
 have e1:(clsIn K C).isSome=true:=h1
 unfold exmOne kitCls
 simp only[h2,h3,h4,e1]
 rfl
end Bk
namespace Bk
open PySem L2 Mg Nm Rk PySem.W
abbrev AL(p0 p1 p2 p3 p4 p5 p6 p7 p8 p9 p10 p11 p12 p13:IN):List (Str×IN×List Str):=[(("say" : Str),p0,([]:List Str)),(("put" : Str),p1,([("amount" : Str)]:List Str)),(("plus" : Str),p2,([("amount" : Str)]:List Str)),(("times" : Str),p3,([("amount" : Str)]:List Str)),(("both" : Str),p4,([("amount" : Str)]:List Str)),(("any" : Str),p5,([("amount" : Str)]:List Str)),(("odd" : Str),p6,([("amount" : Str)]:List Str)),(("over" : Str),p7,([("divisor" : Str)]:List Str)),(("part" : Str),p8,([("divisor" : Str)]:List Str)),(("up" : Str),p9,([("shift" : Str)]:List Str)),(("down" : Str),p10,([("shift" : Str)]:List Str)),(("onwards" : Str),p11,([]:List Str)),(("ask" : Str),p12,([("word" : Str)]:List Str)),(("try" : Str),p13,([("word" : Str),("word" : Str)]:List Str))]
theorem tI{us:List II}(h:us.length=1):∃a,us=[a]:=match us,h with | [a],_=>⟨a,rfl⟩
theorem ln2{us:List II}(h:us.length=2):∃a b,us=[a,b]:=match us,h with | [a,b],_=>⟨a,b,rfl⟩
theorem jN{us:List II}(h:us.length=3):∃a b c,us=[a,b,c]:=match us,h with | [a,b,c],_=>⟨a,b,c,rfl⟩
theorem jL{us:List II}(h:us.length=4):∃a b c d,us=[a,b,c,d]:=match us,h with | [a,b,c,d],_=>⟨a,b,c,d,rfl⟩
theorem AZ{us:List II}(h:us.length=5):∃a b c d e,us=[a,b,c,d,e]:=match us,h with | [a,b,c,d,e],_=>⟨a,b,c,d,e,rfl⟩
theorem HR{us:List II}(h:us.length=6):∃a b c d e g,us=[a,b,c,d,e,g]:=match us,h with | [a,b,c,d,e,g],_=>⟨a,b,c,d,e,g,rfl⟩
abbrev aU(K:Frag)(f:IN)(oc:II)(od:Option IN)(x q:Str)(st:NW)(kV dc pm:II)(an:Option IN)(cd ct:II)(sl:Array (Option II)):Prop:=K.lookup f=some ⟨oc,od,.func (fnOf x q (Dz st) (Bg st) (Ae st) .none kV dc pm an cd ct),sl⟩/\codeIn K cd q=true/\keepIn K (.ref f)=true
abbrev aN(K:Frag)(x:Str)(f:IN):Prop:=nsIn K KE x=some (some (.ref f))
abbrev aM(K:Frag)(C:IN)(x:Str)(f:IN):Prop:=QY K (.ref C) x=some (some (.ref f))/\isFn K (.ref f)=true
abbrev aK(K:Frag)(C:IN):Prop:=plainGet K C Str.empty=true/\hasDictIn K C=true/\plainOver K C=true/\QY K (.ref C) "__setattr__" = some (some (.builtin "object.__setattr__"))/\makesIn K C=true/\keepIn K (.ref C)=true
theorem Bl{K:Frag}{f:IN}{oc:II}{od:Option IN}{x q:Str}{st:NW}{kV dc pm:II}{an:Option IN}{cd ct:II}{sl:Array (Option II)}(h:aU K f oc od x q st kV dc pm an cd ct sl):Dp K x q st f (fnOf x q (Dz st) (Bg st) (Ae st) .none kV dc pm an cd ct):=lK h.1 h.2.1 h.2.2
theorem xI{l:PySem.W.OpenLaw}{w:KL}{K:IG}{h:LO}{mg:Str->Option II}{fa f1 f2 f3 f4 f5 f6 f7 f8 f11 f12 f13 f14 f16 f18 f19 f20 f21 f22 f23 f26 f27 f28 f30 f31 f32 f40 f41 f42 f43 f44 f45 f46 f47 f50 f48 f51 f52 f60 f61 f62 f63 f64 f65 f66 f67 f68 f69 f70 f71 f72 f73 CB CH CA CL T14 T43:IN}(X:K.In h)(G:h.Ns KE mg)(hfa:mg "law" = some (.ref fa)){od1 an1 od2 an2 od3 an3 od4 an4 od5 an5 od6 an6 od7 an7 od8 an8 od11 an11 od12 an12 od13 an13 od14 an14 od16 an16 od18 an18 od19 an19 od20 an20 od21 an21 od22 an22 od23 an23 od26 an26 od27 an27 od28 an28 od30 an30 od31 an31 od32 an32 od40 an40 od41 an41 od42 an42 od43 an43 od44 an44 od45 an45 od46 an46 od47 an47 od50 an50 od48 an48 od51 an51 od52 an52 od60 an60 od61 an61 od62 an62 od63 an63 od64 an64 od65 an65 od66 an66 od67 an67 od68 an68 od69 an69 od70 an70 od71 an71 od72 an72 od73 an73:Option IN}{sl1 sl2 sl3 sl4 sl5 sl6 sl7 sl8 sl11 sl12 sl13 sl14 sl16 sl18 sl19 sl20 sl21 sl22 sl23 sl26 sl27 sl28 sl30 sl31 sl32 sl40 sl41 sl42 sl43 sl44 sl45 sl46 sl47 sl50 sl48 sl51 sl52 sl60 sl61 sl62 sl63 sl64 sl65 sl66 sl67 sl68 sl69 sl70 sl71 sl72 sl73:Array (Option II)}{oc1 kV1 dc1 pm1 cd1 ct1 oc2 kV2 dc2 pm2 cd2 ct2 oc3 kV3 dc3 pm3 cd3 ct3 oc4 kV4 dc4 pm4 cd4 ct4 oc5 kV5 dc5 pm5 cd5 ct5 oc6 kV6 dc6 pm6 cd6 ct6 oc7 kV7 dc7 pm7 cd7 ct7 oc8 kV8 dc8 pm8 cd8 ct8 oc11 kV11 dc11 pm11 cd11 ct11 oc12 kV12 dc12 pm12 cd12 ct12 oc13 kV13 dc13 pm13 cd13 ct13 oc14 kV14 dc14 pm14 cd14 ct14 oc16 kV16 dc16 pm16 cd16 ct16 oc18 kV18 dc18 pm18 cd18 ct18 oc19 kV19 dc19 pm19 cd19 ct19 oc20 kV20 dc20 pm20 cd20 ct20 oc21 kV21 dc21 pm21 cd21 ct21 oc22 kV22 dc22 pm22 cd22 ct22 oc23 kV23 dc23 pm23 cd23 ct23 oc26 kV26 dc26 pm26 cd26 ct26 oc27 kV27 dc27 pm27 cd27 ct27 oc28 kV28 dc28 pm28 cd28 ct28 oc30 kV30 dc30 pm30 cd30 ct30 oc31 kV31 dc31 pm31 cd31 ct31 oc32 kV32 dc32 pm32 cd32 ct32 oc40 kV40 dc40 pm40 cd40 ct40 oc41 kV41 dc41 pm41 cd41 ct41 oc42 kV42 dc42 pm42 cd42 ct42 oc43 kV43 dc43 pm43 cd43 ct43 oc44 kV44 dc44 pm44 cd44 ct44 oc45 kV45 dc45 pm45 cd45 ct45 oc46 kV46 dc46 pm46 cd46 ct46 oc47 kV47 dc47 pm47 cd47 ct47 oc50 kV50 dc50 pm50 cd50 ct50 oc48 kV48 dc48 pm48 cd48 ct48 oc51 kV51 dc51 pm51 cd51 ct51 oc52 kV52 dc52 pm52 cd52 ct52 oc60 kV60 dc60 pm60 cd60 ct60 oc61 kV61 dc61 pm61 cd61 ct61 oc62 kV62 dc62 pm62 cd62 ct62 oc63 kV63 dc63 pm63 cd63 ct63 oc64 kV64 dc64 pm64 cd64 ct64 oc65 kV65 dc65 pm65 cd65 ct65 oc66 kV66 dc66 pm66 cd66 ct66 oc67 kV67 dc67 pm67 cd67 ct67 oc68 kV68 dc68 pm68 cd68 ct68 oc69 kV69 dc69 pm69 cd69 ct69 oc70 kV70 dc70 pm70 cd70 ct70 oc71 kV71 dc71 pm71 cd71 ct71 oc72 kV72 dc72 pm72 cd72 ct72 oc73 kV73 dc73 pm73 cd73 ct73:II}{ocT14:II}{odT14:Option IN}{slT14:Array (Option II)}{nT14:Nat}{ocT43:II}{odT43:Option IN}{slT43:Array (Option II)}{nT43:Nat}{aP:IN}{esP:Array DictEntry}{epP:Nat}{t0 t1 t2 t3 t4 t5 t6 t7 t8 t9 t10 t11 t12 t13:Tok}{p0 p1 p2 p3 p4 p5 p6 p7 p8 p9 p10 p11 p12 p13:IN}{oq0 oq1 oq2 oq3 oq4 oq5 oq6 oq7 oq8 oq9 oq10 oq11 oq12 oq13:Option IN}{nq0 nq1 nq2 nq3 nq4 nq5 nq6 nq7 nq8 nq9 nq10 nq11 nq12 nq13:Nat}{sq0 sq1 sq2 sq3 sq4 sq5 sq6 sq7 sq8 sq9 sq10 sq11 sq12 sq13:Array (Option II)}{u1_0 u2_0 u3_0 u4_0 u5_0 u6_0 u7_0 u8_0 u9_0 u10_0 u12_0 u13_0 u13_1:Tok}{tkA tkB:Tok}{CO CU CS CE f99 NB:IN}{ocB ocN oc99 kV99 dc99 pm99 cd99 ct99:II}{odB odN od99 an99:Option IN}{cdB:ClassData}{slB slN sl99:Array (Option II)}{esN:Array DictEntry}{epN:Nat}{NO:IN}{bmO bsO subO:List II}{nmO qnO:Str}{hdctO abO:Bool}{snO:List Str}{colO:Option Bool}{ddO:Option IN}{y0O y1O y2O y3O y5O:Option II}{NU:IN}{bmU bsU subU:List II}{nmU qnU:Str}{hdctU abU:Bool}{snU:List Str}{colU:Option Bool}{ddU:Option IN}{y0U y1U y2U y3U y5U:Option II}{NS:IN}{bmS bsS subS:List II}{nmS qnS:Str}{hdctS abS:Bool}{snS:List Str}{colS:Option Bool}{ddS:Option IN}{y0S y1S y2S y3S y5S:Option II}(aCB:nsIn K KE "Book" = some (some (.ref CB)))(pkB:aK K CB)(nB_by_name:QY K (.ref CB) "by_name" = some none)(aCH:nsIn K KE "House" = some (some (.ref CH)))(pkH:aK K CH)(nH_elder_row:QY K (.ref CH) "elder_row" = some none)(nH_order_row:QY K (.ref CH) "order_row" = some none)(nH_bodies:QY K (.ref CH) "bodies" = some none)(aCA:nsIn K KE "Asking" = some (some (.ref CA)))(pkA:aK K CA)(nA_book:QY K (.ref CA) "book" = some none)(nA_row:QY K (.ref CA) "row" = some none)(nA_tally:QY K (.ref CA) "tally" = some none)(aCL:nsIn K KE "Tally" = some (some (.ref CL)))(pkL:aK K CL)(nL_left:QY K (.ref CL) "left" = some none)(nL_said:QY K (.ref CL) "said" = some none)(a1:aN K "merged" f1)(u1:aU K f1 oc1 od1 "merged" "merged" Gf kV1 dc1 pm1 an1 cd1 ct1 sl1)(a2:aN K "counts_behind" f2)(u2:aU K f2 oc2 od2 "counts_behind" "counts_behind" Ll kV2 dc2 pm2 an2 cd2 ct2 sl2)(a3:aN K "free_name" f3)(u3:aU K f3 oc3 od3 "free_name" "free_name" Xs kV3 dc3 pm3 an3 cd3 ct3 sl3)(a4:aN K "take_out" f4)(u4:aU K f4 oc4 od4 "take_out" "take_out" Wg kV4 dc4 pm4 an4 cd4 ct4 sl4)(a5:aN K "made_order" f5)(u5:aU K f5 oc5 od5 "made_order" "made_order" Xp kV5 dc5 pm5 an5 cd5 ct5 sl5)(a6:aN K "is_name" f6)(u6:aU K f6 oc6 od6 "is_name" "is_name" Oa kV6 dc6 pm6 an6 cd6 ct6 sl6)(a7:aN K "_law_cell_at" f7)(u7:aU K f7 oc7 od7 "_law_cell_at" "_law_cell_at" lD kV7 dc7 pm7 an7 cd7 ct7 sl7)(a8:aN K "_law_name_by" f8)(u8:aU K f8 oc8 od8 "_law_name_by" "_law_name_by" nF kV8 dc8 pm8 an8 cd8 ct8 sl8)(a11:aN K "law" f11)(u11:aU K f11 oc11 od11 "law" "law" Ey kV11 dc11 pm11 an11 cd11 ct11 sl11)(m12:aM K CH "__init__" f12)(u12:aU K f12 oc12 od12 "__init__" "House.__init__" cH kV12 dc12 pm12 an12 cd12 ct12 sl12)(m13:aM K CB "__init__" f13)(u13:aU K f13 oc13 od13 "__init__" "Book.__init__" cB kV13 dc13 pm13 an13 cd13 ct13 sl13)(m14:aM K CB "found" f14)(l14:K.lookup f14=some ⟨oc14,od14,.func (fnOf "found" "Book.found" (Dz Ja) (Bg Ja) (Ae Ja) (.ref T14) kV14 dc14 pm14 an14 cd14 ct14),sl14⟩)(c14:codeIn K cd14 "Book.found" = true)(k14:keepIn K (.ref f14)=true)(lT14:K.lookup T14=some ⟨ocT14,odT14,.seq #[.none] nT14,slT14⟩)(m16:aM K CB "order" f16)(u16:aU K f16 oc16 od16 "order" "Book.order" Zn kV16 dc16 pm16 an16 cd16 ct16 sl16)(m18:aM K CB "house" f18)(u18:aU K f18 oc18 od18 "house" "Book.house" cY kV18 dc18 pm18 an18 cd18 ct18 sl18)(a19:aN K "is_whole" f19)(u19:aU K f19 oc19 od19 "is_whole" "is_whole" Yo kV19 dc19 pm19 an19 cd19 ct19 sl19)(a20:aN K "is_amount" f20)(u20:aU K f20 oc20 od20 "is_amount" "is_amount" Ud kV20 dc20 pm20 an20 cd20 ct20 sl20)(a21:aN K "is_body" f21)(u21:aU K f21 oc21 od21 "is_body" "is_body" Nw kV21 dc21 pm21 an21 cd21 ct21 sl21)(a22:aN K "is_step" f22)(u22:aU K f22 oc22 od22 "is_step" "is_step" Od kV22 dc22 pm22 an22 cd22 ct22 sl22)(a23:aN K "is_part" f23)(u23:aU K f23 oc23 od23 "is_part" "is_part" Ve kV23 dc23 pm23 an23 cd23 ct23 sl23)(m26:aM K CB "teach" f26)(u26:aU K f26 oc26 od26 "teach" "Book.teach" cJ kV26 dc26 pm26 an26 cd26 ct26 sl26)(m27:aM K CB "forget" f27)(u27:aU K f27 oc27 od27 "forget" "Book.forget" Uo kV27 dc27 pm27 an27 cd27 ct27 sl27)(m28:aM K CB "body" f28)(u28:aU K f28 oc28 od28 "body" "Book.body" pQ kV28 dc28 pm28 an28 cd28 ct28 sl28)(a30:aN K "ring_of" f30)(u30:aU K f30 oc30 od30 "ring_of" "ring_of" jU kV30 dc30 pm30 an30 cd30 ct30 sl30)(a31:aN K "first_name" f31)(u31:aU K f31 oc31 od31 "first_name" "first_name" Qs kV31 dc31 pm31 an31 cd31 ct31 sl31)(a32:aN K "leaning_against" f32)(u32:aU K f32 oc32 od32 "leaning_against" "leaning_against" Xr kV32 dc32 pm32 an32 cd32 ct32 sl32)(a40:aN K "check_question" f40)(u40:aU K f40 oc40 od40 "check_question" "check_question" Zc kV40 dc40 pm40 an40 cd40 ct40 sl40)(a41:aN K "reckoned" f41)(u41:aU K f41 oc41 od41 "reckoned" "reckoned" lI kV41 dc41 pm41 an41 cd41 ct41 sl41)(a42:aN K "changed" f42)(u42:aU K f42 oc42 od42 "changed" "changed" Pe kV42 dc42 pm42 an42 cd42 ct42 sl42)(a43:aN K "answered" f43)(l43:K.lookup f43=some ⟨oc43,od43,.func (fnOf "answered" "answered" (Dz Gm) (Bg Gm) (Ae Gm) (.ref T43) kV43 dc43 pm43 an43 cd43 ct43),sl43⟩)(c43:codeIn K cd43 "answered" = true)(k43:keepIn K (.ref f43)=true)(lT43:K.lookup T43=some ⟨ocT43,odT43,.seq #[.int 0 tkA,.int 40 tkB] nT43,slT43⟩)(m44:aM K CA "__init__" f44)(u44:aU K f44 oc44 od44 "__init__" "Asking.__init__" cC kV44 dc44 pm44 an44 cd44 ct44 sl44)(m45:aM K CA "asked" f45)(u45:aU K f45 oc45 od45 "asked" "Asking.asked" Qo kV45 dc45 pm45 an45 cd45 ct45 sl45)(m46:aM K CA "entered" f46)(u46:aU K f46 oc46 od46 "entered" "Asking.entered" Li kV46 dc46 pm46 an46 cd46 ct46 sl46)(m47:aM K CA "behind" f47)(u47:aU K f47 oc47 od47 "behind" "Asking.behind" Nr kV47 dc47 pm47 an47 cd47 ct47 sl47)(m50:aM K CA "tried" f50)(u50:aU K f50 oc50 od50 "tried" "Asking.tried" Ox kV50 dc50 pm50 an50 cd50 ct50 sl50)(m48:aM K CL "__init__" f48)(u48:aU K f48 oc48 od48 "__init__" "Tally.__init__" aO kV48 dc48 pm48 an48 cd48 ct48 sl48)(m51:aM K CL "enter" f51)(u51:aU K f51 oc51 od51 "enter" "Tally.enter" Ze kV51 dc51 pm51 an51 cd51 ct51 sl51)(m52:aM K CL "take_back" f52)(u52:aU K f52 oc52 od52 "take_back" "Tally.take_back" mU kV52 dc52 pm52 an52 cd52 ct52 sl52)(a60:aN K "_law_founded" f60)(u60:aU K f60 oc60 od60 "_law_founded" "_law_founded" El kV60 dc60 pm60 an60 cd60 ct60 sl60)(a61:aN K "_law_mixed" f61)(u61:aU K f61 oc61 od61 "_law_mixed" "_law_mixed" Zh kV61 dc61 pm61 an61 cd61 ct61 sl61)(a62:aN K "_law_step_by" f62)(u62:aU K f62 oc62 od62 "_law_step_by" "_law_step_by" Hl kV62 dc62 pm62 an62 cd62 ct62 sl62)(a63:aN K "_law_body_by" f63)(u63:aU K f63 oc63 od63 "_law_body_by" "_law_body_by" Nv kV63 dc63 pm63 an63 cd63 ct63 sl63)(a64:aN K "_law_taught" f64)(u64:aU K f64 oc64 od64 "_law_taught" "_law_taught" Uh kV64 dc64 pm64 an64 cd64 ct64 sl64)(a65:aN K "_law_fallen" f65)(u65:aU K f65 oc65 od65 "_law_fallen" "_law_fallen" Ua kV65 dc65 pm65 an65 cd65 ct65 sl65)(a66:aN K "_law_found_at" f66)(u66:aU K f66 oc66 od66 "_law_found_at" "_law_found_at" Pu kV66 dc66 pm66 an66 cd66 ct66 sl66)(a67:aN K "_law_enter" f67)(u67:aU K f67 oc67 od67 "_law_enter" "_law_enter" Og kV67 dc67 pm67 an67 cd67 ct67 sl67)(a68:aN K "_law_behind" f68)(u68:aU K f68 oc68 od68 "_law_behind" "_law_behind" Qe kV68 dc68 pm68 an68 cd68 ct68 sl68)(a69:aN K "_law_done" f69)(u69:aU K f69 oc69 od69 "_law_done" "_law_done" pA kV69 dc69 pm69 an69 cd69 ct69 sl69)(a70:aN K "_law_due" f70)(u70:aU K f70 oc70 od70 "_law_due" "_law_due" zM kV70 dc70 pm70 an70 cd70 ct70 sl70)(a71:aN K "_law_told" f71)(u71:aU K f71 oc71 od71 "_law_told" "_law_told" eI kV71 dc71 pm71 an71 cd71 ct71 sl71)(a72:aN K "_law_tried" f72)(u72:aU K f72 oc72 od72 "_law_tried" "_law_tried" Fw kV72 dc72 pm72 an72 cd72 ct72 sl72)(a73:aN K "_law_tries_right" f73)(u73:aU K f73 oc73 od73 "_law_tries_right" "_law_tries_right" Uv kV73 dc73 pm73 an73 cd73 ct73 sl73)(z1:nsIn K KE "len" = some none)(z2:nsIn K KE "zip" = some none)(z3:nsIn K KE "enumerate" = some none)(z4:nsIn K KE "any" = some none)(z5:nsIn K KE "range" = some none)(z6:nsIn K KE "isinstance" = some none)(z7:nsIn K KE "list" = some none)(z8:nsIn K KE "str" = some none)(z9:nsIn K KE "all" = some none)(z10:nsIn K KE "reversed" = some none)(z11:nsIn K KE "set" = some none)(z12:nsIn K KE "tuple" = some none)(z13:nsIn K KE "int" = some none)(z14:nsIn K KE "bool" = some none)(z15:nsIn K KE "ValueError" = some none)(gP:nsIn K KE "PARTS" = some (some (.ref aP)))(aXO:nsIn K KE "AtOdds" = some (some (.ref CO)))(aXU:nsIn K KE "Unanswered" = some (some (.ref CU)))(aXS:nsIn K KE "Spent" = some (some (.ref CS)))(zab:nsIn K KE "abs" = some none)(aE:nsIn K KE "BookError" = some (some (.ref CE)))(lP:K.lookup aP=some ⟨.type "dict", none,.dict esP epP,#[]⟩)(hes:esP.toList=[⟨MD w.params "say", .str "say" t0,.ref p0⟩,⟨MD w.params "put", .str "put" t1,.ref p1⟩,⟨MD w.params "plus", .str "plus" t2,.ref p2⟩,⟨MD w.params "times", .str "times" t3,.ref p3⟩,⟨MD w.params "both", .str "both" t4,.ref p4⟩,⟨MD w.params "any", .str "any" t5,.ref p5⟩,⟨MD w.params "odd", .str "odd" t6,.ref p6⟩,⟨MD w.params "over", .str "over" t7,.ref p7⟩,⟨MD w.params "part", .str "part" t8,.ref p8⟩,⟨MD w.params "up", .str "up" t9,.ref p9⟩,⟨MD w.params "down", .str "down" t10,.ref p10⟩,⟨MD w.params "onwards", .str "onwards" t11,.ref p11⟩,⟨MD w.params "ask", .str "ask" t12,.ref p12⟩,⟨MD w.params "try", .str "try" t13,.ref p13⟩])(smP:(aP == NG)=false)(q0:K.lookup p0=some ⟨.type "tuple", oq0,.seq #[] nq0,sq0⟩)(q1:K.lookup p1=some ⟨.type "tuple", oq1,.seq #[.str "amount" u1_0] nq1,sq1⟩)(q2:K.lookup p2=some ⟨.type "tuple", oq2,.seq #[.str "amount" u2_0] nq2,sq2⟩)(q3:K.lookup p3=some ⟨.type "tuple", oq3,.seq #[.str "amount" u3_0] nq3,sq3⟩)(q4:K.lookup p4=some ⟨.type "tuple", oq4,.seq #[.str "amount" u4_0] nq4,sq4⟩)(q5:K.lookup p5=some ⟨.type "tuple", oq5,.seq #[.str "amount" u5_0] nq5,sq5⟩)(q6:K.lookup p6=some ⟨.type "tuple", oq6,.seq #[.str "amount" u6_0] nq6,sq6⟩)(q7:K.lookup p7=some ⟨.type "tuple", oq7,.seq #[.str "divisor" u7_0] nq7,sq7⟩)(q8:K.lookup p8=some ⟨.type "tuple", oq8,.seq #[.str "divisor" u8_0] nq8,sq8⟩)(q9:K.lookup p9=some ⟨.type "tuple", oq9,.seq #[.str "shift" u9_0] nq9,sq9⟩)(q10:K.lookup p10=some ⟨.type "tuple", oq10,.seq #[.str "shift" u10_0] nq10,sq10⟩)(q11:K.lookup p11=some ⟨.type "tuple", oq11,.seq #[] nq11,sq11⟩)(q12:K.lookup p12=some ⟨.type "tuple", oq12,.seq #[.str "word" u12_0] nq12,sq12⟩)(q13:K.lookup p13=some ⟨.type "tuple", oq13,.seq #[.str "word" u13_0,.str "word" u13_1] nq13,sq13⟩)(lXO:K.lookup CO=some (excClassObj nmO qnO CO NO bsO bmO hdctO snO subO abO colO ddO y0O y1O y2O y3O y5O "ValueError.__new__"))(kXO:keepIn K (.ref CO)=true)(hbmO:bmO=.ref CE::Np)(lXU:K.lookup CU=some (excClassObj nmU qnU CU NU bsU bmU hdctU snU subU abU colU ddU y0U y1U y2U y3U y5U "ValueError.__new__"))(kXU:keepIn K (.ref CU)=true)(hbmU:bmU=.ref CE::Np)(ixU:QY K (.ref CU) "__init__" = some (some (.builtin "ValueError.__init__")))(lXS:K.lookup CS=some (excClassObj nmS qnS CS NS bsS bmS hdctS snS subS abS colS ddS y0S y1S y2S y3S y5S "ValueError.__new__"))(kXS:keepIn K (.ref CS)=true)(hbmS:bmS=.ref CE::Np)(ixS:QY K (.ref CS) "__init__" = some (some (.builtin "ValueError.__init__")))(csO:isClsIn K CO=true)(tyO:typeIn K (.ref CO)=some (.type "type"))(beO:subIn K (.ref CO) (.type "BaseException")=some true)(sOO:subIn K (.ref CO) (.ref CO)=some true)(csU:isClsIn K CU=true)(tyU:typeIn K (.ref CU)=some (.type "type"))(beU:subIn K (.ref CU) (.type "BaseException")=some true)(sUU:subIn K (.ref CU) (.ref CU)=some true)(csS:isClsIn K CS=true)(tyS:typeIn K (.ref CS)=some (.type "type"))(beS:subIn K (.ref CS) (.type "BaseException")=some true)(sSS:subIn K (.ref CS) (.ref CS)=some true)(sSU:subIn K (.ref CS) (.ref CU)=some false)(lB:K.lookup CE=some ⟨ocB,odB,.cls cdB,slB⟩)(hB:cdB.ns=NB)(lN:K.lookup NB=some ⟨ocN,odN,.dict esN epN,slN⟩)(uN:Tv esN.toList=true)(iN:nsIn K NB "__init__" = some none)(iC:QY K (.ref CO) "__init__" = some (some (.ref f99)))(nC:isFn K (.ref f99)=true)(l99:K.lookup f99=some ⟨oc99,od99,.func (fnOf "__init__" "AtOdds.__init__" (Dz Pk) (Bg Pk) (Ae Pk) .none kV99 dc99 pm99 an99 cd99 ct99),sl99⟩)(c99:codeIn K cd99 "AtOdds.__init__" = true)(k99:keepIn K (.ref f99)=true)(x1:QY K (.ref CO) "__setattr__" = some (some (.builtin "object.__setattr__")))(x2:QY K (.ref CO) "ring" = some none)(x3:hasDictIn K CO=true)(g1O:QY K (.ref CO) "__getattribute__" = some (some (.builtin "BaseException.__getattribute__")))(g2O:QY K (.ref CO) "__getattr__" = some none)(g3O:mroIn K CO (.type "BaseException")=some true):
 ∃fd:JW,(∀(s:IL)(v:II),BindsTo s fd ⟨[v],[]⟩ [("_law_script", v)])/\∀base:LO,K.In base->base.Ns KE mg->Aj l.prog w K mg base Jh 171 fa fd ["_law_script"] (eA K):=by
 have e:=hfa.symm.trans (MX X G a11)
 cases e
 have Tx:Txt mg:=⟨NV X G z1,NV X G z2,NV X G z3,NV X G z4,NV X G z5,NV X G z6,NV X G z7,NV X G z8,NV X G z9,NV X G z10,NV X G z11,NV X G z12,NV X G z13,NV X G z14,NV X G z15⟩
 have F1:=Bl u1
 have b1:=F1.binds (ps:=["rows","labels"]) λ_ _ _ _ _ _ us hl=>by obtain⟨_,_,rfl⟩:=ln2 hl;rfl
 have F2:=Bl u2
 have b2:=F2.binds (ps:=["rows"]) λ_ _ _ _ _ _ us hl=>by obtain⟨_,rfl⟩:=tI hl;rfl
 have F3:=Bl u3
 have b3:=F3.binds (ps:=["rows","starts","behind"]) λ_ _ _ _ _ _ us hl=>by obtain⟨_,_,_,rfl⟩:=jN hl;rfl
 have F4:=Bl u4
 have b4:=F4.binds (ps:=["name","rows","starts","behind"]) λ_ _ _ _ _ _ us hl=>by obtain⟨_,_,_,_,rfl⟩:=jL hl;rfl
 have F5:=Bl u5
 have b5:=F5.binds (ps:=["name","elders","orders"]) λ_ _ _ _ _ _ us hl=>by obtain⟨_,_,_,rfl⟩:=jN hl;rfl
 have F6:=Bl u6
 have b6:=F6.binds (ps:=["value"]) λ_ _ _ _ _ _ us hl=>by obtain⟨_,rfl⟩:=tI hl;rfl
 have F7:=Bl u7
 have b7:=F7.binds (ps:=["_law_script","_law_k"]) λ_ _ _ _ _ _ us hl=>by obtain⟨_,_,rfl⟩:=ln2 hl;rfl
 have F8:=Bl u8
 have b8:=F8.binds (ps:=["_law_k","_law_cell"]) λ_ _ _ _ _ _ us hl=>by obtain⟨_,_,rfl⟩:=ln2 hl;rfl
 have F11:=Bl u11
 have F12:=Bl u12
 have b12:=F12.binds (ps:=["self","elder_row","order_row"]) λ_ _ _ _ _ _ us hl=>by obtain⟨_,_,_,rfl⟩:=jN hl;rfl
 have F13:=Bl u13
 have b13:=F13.binds (ps:=["self"]) λ_ _ _ _ _ _ us hl=>by obtain⟨_,rfl⟩:=tI hl;rfl
 have F14:=gG (st:=Ja) l14 c14 k14
 have b14_3:=F14.binds (ps:=["self","name","elders"]) (ds:=[]) lT14 rfl 3 rfl λ_ _ _ _ _ _ us hl=>by obtain⟨_,_,_,rfl⟩:=jN hl;exact⟨_,rfl,rfl⟩
 have F16:=Bl u16
 have b16:=F16.binds (ps:=["self","name"]) λ_ _ _ _ _ _ us hl=>by obtain⟨_,_,rfl⟩:=ln2 hl;rfl
 have F18:=Bl u18
 have b18:=F18.binds (ps:=["self","name"]) λ_ _ _ _ _ _ us hl=>by obtain⟨_,_,rfl⟩:=ln2 hl;rfl
 have F19:=Bl u19
 have b19:=F19.binds (ps:=["value","least","most"]) λ_ _ _ _ _ _ us hl=>by obtain⟨_,_,_,rfl⟩:=jN hl;rfl
 have F20:=Bl u20
 have b20:=F20.binds (ps:=["value"]) λ_ _ _ _ _ _ us hl=>by obtain⟨_,rfl⟩:=tI hl;rfl
 have F21:=Bl u21
 have b21:=F21.binds (ps:=["value"]) λ_ _ _ _ _ _ us hl=>by obtain⟨_,rfl⟩:=tI hl;rfl
 have F22:=Bl u22
 have b22:=F22.binds (ps:=["value"]) λ_ _ _ _ _ _ us hl=>by obtain⟨_,rfl⟩:=tI hl;rfl
 have F23:=Bl u23
 have b23:=F23.binds (ps:=["part","kind"]) λ_ _ _ _ _ _ us hl=>by obtain⟨_,_,rfl⟩:=ln2 hl;rfl
 have F26:=Bl u26
 have b26:=F26.binds (ps:=["self","name","word","body"]) λ_ _ _ _ _ _ us hl=>by obtain⟨_,_,_,_,rfl⟩:=jL hl;rfl
 have F27:=Bl u27
 have b27:=F27.binds (ps:=["self","name","word"]) λ_ _ _ _ _ _ us hl=>by obtain⟨_,_,_,rfl⟩:=jN hl;rfl
 have F28:=Bl u28
 have b28:=F28.binds (ps:=["self","name","word"]) λ_ _ _ _ _ _ us hl=>by obtain⟨_,_,_,rfl⟩:=jN hl;rfl
 have F30:=Bl u30
 have b30:=F30.binds (ps:=["rests","labels"]) λ_ _ _ _ _ _ us hl=>by obtain⟨_,_,rfl⟩:=ln2 hl;rfl
 have F31:=Bl u31
 have b31:=F31.binds (ps:=["rests"]) λ_ _ _ _ _ _ us hl=>by obtain⟨_,rfl⟩:=tI hl;rfl
 have F32:=Bl u32
 have b32:=F32.binds (ps:=["name","rests","labels"]) λ_ _ _ _ _ _ us hl=>by obtain⟨_,_,_,rfl⟩:=jN hl;rfl
 have F40:=Bl u40
 have b40:=F40.binds (ps:=["number","count"]) λ_ _ _ _ _ _ us hl=>by obtain⟨_,_,rfl⟩:=ln2 hl;rfl
 have F41:=Bl u41
 have b41:=F41.binds (ps:=["step","number","said"]) λ_ _ _ _ _ _ us hl=>by obtain⟨_,_,_,rfl⟩:=jN hl;rfl
 have F42:=Bl u42
 have b42:=F42.binds (ps:=["number","sort","amount"]) λ_ _ _ _ _ _ us hl=>by obtain⟨_,_,_,rfl⟩:=jN hl;rfl
 have F43:=gG (st:=Gm) l43 c43 k43
 have b43_4:=F43.binds (ps:=["book","name","word","number","count"]) (ds:=[.int 40 tkB]) lT43 rfl 4 rfl λ_ _ _ _ _ _ us hl=>by obtain⟨_,_,_,_,rfl⟩:=jL hl;exact⟨_,rfl,rfl⟩
 have b43_5:=F43.binds (ps:=["book","name","word","number","count"]) (ds:=[]) lT43 rfl 5 rfl λ_ _ _ _ _ _ us hl=>by obtain⟨_,_,_,_,_,rfl⟩:=AZ hl;exact⟨_,rfl,rfl⟩
 have F44:=Bl u44
 have b44:=F44.binds (ps:=["self","book","row","tally"]) λ_ _ _ _ _ _ us hl=>by obtain⟨_,_,_,_,rfl⟩:=jL hl;rfl
 have F45:=Bl u45
 have b45:=F45.binds (ps:=["self","word","place","number"]) λ_ _ _ _ _ _ us hl=>by obtain⟨_,_,_,_,rfl⟩:=jL hl;rfl
 have F46:=Bl u46
 have b46:=F46.binds (ps:=["self","body","word","index","number"]) λ_ _ _ _ _ _ us hl=>by obtain⟨_,_,_,_,_,rfl⟩:=AZ hl;rfl
 have F47:=Bl u47
 have b47:=F47.binds (ps:=["self","step","word","index","number"]) λ_ _ _ _ _ _ us hl=>by obtain⟨_,_,_,_,_,rfl⟩:=AZ hl;rfl
 have F50:=Bl u50
 have b50:=F50.binds (ps:=["self","word","other","number"]) λ_ _ _ _ _ _ us hl=>by obtain⟨_,_,_,_,rfl⟩:=jL hl;rfl
 have F48:=Bl u48
 have b48:=F48.binds (ps:=["self","left"]) λ_ _ _ _ _ _ us hl=>by obtain⟨_,_,rfl⟩:=ln2 hl;rfl
 have F51:=Bl u51
 have b51:=F51.binds (ps:=["self"]) λ_ _ _ _ _ _ us hl=>by obtain⟨_,rfl⟩:=tI hl;rfl
 have F52:=Bl u52
 have b52:=F52.binds (ps:=["self","length"]) λ_ _ _ _ _ _ us hl=>by obtain⟨_,_,rfl⟩:=ln2 hl;rfl
 have F60:=Bl u60
 have b60:=F60.binds (ps:=["_law_book","_law_names","_law_name","_law_cell"]) λ_ _ _ _ _ _ us hl=>by obtain⟨_,_,_,_,rfl⟩:=jL hl;rfl
 have F61:=Bl u61
 have b61:=F61.binds (ps:=["_law_cell","_law_k"]) λ_ _ _ _ _ _ us hl=>by obtain⟨_,_,rfl⟩:=ln2 hl;rfl
 have F62:=Bl u62
 have b62:=F62.binds (ps:=["_law_words","_law_first","_law_mixed_here"]) λ_ _ _ _ _ _ us hl=>by obtain⟨_,_,_,rfl⟩:=jN hl;rfl
 have F63:=Bl u63
 have b63:=F63.binds (ps:=["_law_words","_law_first","_law_cell"]) λ_ _ _ _ _ _ us hl=>by obtain⟨_,_,_,rfl⟩:=jN hl;rfl
 have F64:=Bl u64
 have b64:=F64.binds (ps:=["_law_book","_law_names","_law_words","_law_seed"]) λ_ _ _ _ _ _ us hl=>by obtain⟨_,_,_,_,rfl⟩:=jL hl;rfl
 have F65:=Bl u65
 have b65:=F65.binds (ps:=["_law_todo"]) λ_ _ _ _ _ _ us hl=>by obtain⟨_,rfl⟩:=tI hl;rfl
 have F66:=Bl u66
 have b66:=F66.binds (ps:=["_law_known","_law_line","_law_word","_law_start"]) λ_ _ _ _ _ _ us hl=>by obtain⟨_,_,_,_,rfl⟩:=jL hl;rfl
 have F67:=Bl u67
 have b67:=F67.binds (ps:=["_law_known","_law_line","_law_step","_law_todo"]) λ_ _ _ _ _ _ us hl=>by obtain⟨_,_,_,_,rfl⟩:=jL hl;rfl
 have F68:=Bl u68
 have b68:=F68.binds (ps:=["_law_step","_law_number"]) λ_ _ _ _ _ _ us hl=>by obtain⟨_,_,rfl⟩:=ln2 hl;rfl
 have F69:=Bl u69
 have b69:=F69.binds (ps:=["_law_step","_law_word","_law_at","_law_number","_law_said","_law_todo"]) λ_ _ _ _ _ _ us hl=>by obtain⟨_,_,_,_,_,_,rfl⟩:=HR hl;rfl
 have F70:=Bl u70
 have b70:=F70.binds (ps:=["_law_known","_law_line","_law_word","_law_number","_law_count"]) λ_ _ _ _ _ _ us hl=>by obtain⟨_,_,_,_,_,rfl⟩:=AZ hl;rfl
 have F71:=Bl u71
 have b71:=F71.binds (ps:=["_law_book","_law_name","_law_word","_law_number","_law_count"]) λ_ _ _ _ _ _ us hl=>by obtain⟨_,_,_,_,_,rfl⟩:=AZ hl;rfl
 have F72:=Bl u72
 have b72:=F72.binds (ps:=["_law_book","_law_known","_law_name","_law_cell"]) λ_ _ _ _ _ _ us hl=>by obtain⟨_,_,_,_,rfl⟩:=jL hl;rfl
 have F73:=Bl u73
 have b73:=F73.binds (ps:=["_law_book","_law_known","_law_names","_law_script"]) λ_ _ _ _ _ _ us hl=>by obtain⟨_,_,_,_,rfl⟩:=jL hl;rfl
 have T:Fo K mg CB CH:=⟨⟨pkB.1,pkB.2.1,pkB.2.2.1,pkB.2.2.2.1⟩,⟨pkH.1,pkH.2.1,pkH.2.2.1,pkH.2.2.2.1⟩,nB_by_name,nH_elder_row,nH_order_row,nH_bodies,MX X G aCB,MX X G aCH⟩
 have TA:Wt K mg CA:=⟨⟨pkA.1,pkA.2.1,pkA.2.2.1,pkA.2.2.2.1⟩,nA_book,nA_row,nA_tally,MX X G aCA⟩
 have TT:Vg K mg CL:=⟨⟨pkL.1,pkL.2.1,pkL.2.2.1,pkL.2.2.2.1⟩,nL_left,nL_said,MX X G aCL⟩
 have F99:=lK (st:=Pk) l99 c99 k99
 have b99:=F99.binds (ps:=["self","ring"]) λ_ _ _ _ _ _ us hl=>by obtain⟨_,_,rfl⟩:=ln2 hl;rfl
 have Tb:Tab l.prog w K aP (AL p0 p1 p2 p3 p4 p5 p6 p7 p8 p9 p10 p11 p12 p13):=by
  refine⟨uP [(("say" : Str),t0,p0),(("put" : Str),t1,p1),(("plus" : Str),t2,p2),(("times" : Str),t3,p3),(("both" : Str),t4,p4),(("any" : Str),t5,p5),(("odd" : Str),t6,p6),(("over" : Str),t7,p7),(("part" : Str),t8,p8),(("up" : Str),t9,p9),(("down" : Str),t10,p10),(("onwards" : Str),t11,p11),(("ask" : Str),t12,p12),(("try" : Str),t13,p13)] lP hes (show ([("say" : Str),("put" : Str),("plus" : Str),("times" : Str),("both" : Str),("any" : Str),("odd" : Str),("over" : Str),("part" : Str),("up" : Str),("down" : Str),("onwards" : Str),("ask" : Str),("try" : Str)]:List Str).Nodup by decide +kernel) smP,λp hp H=>?_⟩
  simp only[AL,IQ,JG,or_false] at hp
  rcases hp with rfl | rfl | rfl | rfl | rfl | rfl | rfl | rfl | rfl | rfl | rfl | rfl | rfl | rfl
  ·exact Fg q0 .nil (by show 0<=IK;decide)
  ·exact Fg q1 (.cons ⟨_,rfl⟩ .nil) (by show 1<=IK;decide)
  ·exact Fg q2 (.cons ⟨_,rfl⟩ .nil) (by show 1<=IK;decide)
  ·exact Fg q3 (.cons ⟨_,rfl⟩ .nil) (by show 1<=IK;decide)
  ·exact Fg q4 (.cons ⟨_,rfl⟩ .nil) (by show 1<=IK;decide)
  ·exact Fg q5 (.cons ⟨_,rfl⟩ .nil) (by show 1<=IK;decide)
  ·exact Fg q6 (.cons ⟨_,rfl⟩ .nil) (by show 1<=IK;decide)
  ·exact Fg q7 (.cons ⟨_,rfl⟩ .nil) (by show 1<=IK;decide)
  ·exact Fg q8 (.cons ⟨_,rfl⟩ .nil) (by show 1<=IK;decide)
  ·exact Fg q9 (.cons ⟨_,rfl⟩ .nil) (by show 1<=IK;decide)
  ·exact Fg q10 (.cons ⟨_,rfl⟩ .nil) (by show 1<=IK;decide)
  ·exact Fg q11 .nil (by show 0<=IK;decide)
  ·exact Fg q12 (.cons ⟨_,rfl⟩ .nil) (by show 1<=IK;decide)
  ·exact Fg q13 (.cons ⟨_,rfl⟩ (.cons ⟨_,rfl⟩ .nil)) (by show 2<=IK;decide)
 have Tp:Ri (AL p0 p1 p2 p3 p4 p5 p6 p7 p8 p9 p10 p11 p12 p13):=⟨λkd h=>by
  simp only[IQ,JG,or_false] at h
  rcases h with rfl | rfl
  ·exact⟨p0,rfl⟩
  ·exact⟨p11,rfl⟩,λkd h=>by
  simp only[IQ,JG,or_false] at h
  rcases h with rfl | rfl | rfl | rfl | rfl | rfl
  ·exact⟨p1,rfl⟩
  ·exact⟨p2,rfl⟩
  ·exact⟨p3,rfl⟩
  ·exact⟨p4,rfl⟩
  ·exact⟨p5,rfl⟩
  ·exact⟨p6,rfl⟩,λkd h=>by
  simp only[IQ,JG,or_false] at h
  rcases h with rfl | rfl
  ·exact⟨p7,rfl⟩
  ·exact⟨p8,rfl⟩,λkd h=>by
  simp only[IQ,JG,or_false] at h
  rcases h with rfl | rfl
  ·exact⟨p9,rfl⟩
  ·exact⟨p10,rfl⟩,⟨p12,rfl⟩,⟨p13,rfl⟩⟩
 subst hB
 have bE:(JD CE::Np).contains (.type "BaseException")=true:=by rw[List.contains_cons,show Np.contains (.type "BaseException")=true by decide +kernel,Bool.or_true]
 subst hbmO
 have exO:Lc K CO (.ref CE::Np):=by
  refine⟨⟨nmO,qnO,NO,bsO,hdctO,snO,subO,abO,colO,ddO,y0O,y1O,y2O,y3O,y5O,lXO⟩,λh' X'=>?_,kXO⟩
  exact .own (X' CE _ lB) (Tf X' lN uN) (ns_none_of X' (Tf X' lN uN) iN) .base
 subst hbmU
 have exU:Lc K CU (.ref CE::Np):=by
  refine⟨⟨nmU,qnU,NU,bsU,hdctU,snU,subU,abU,colU,ddU,y0U,y1U,y2U,y3U,y5U,lXU⟩,λh' X'=>?_,kXU⟩
  exact .own (X' CE _ lB) (Tf X' lN uN) (ns_none_of X' (Tf X' lN uN) iN) .base
 subst hbmS
 have exS:Lc K CS (.ref CE::Np):=by
  refine⟨⟨nmS,qnS,NS,bsS,hdctS,snS,subS,abS,colS,ddS,y0S,y1S,y2S,y3S,y5S,lXS⟩,λh' X'=>?_,kXS⟩
  exact .own (X' CE _ lB) (Tf X' lN uN) (ns_none_of X' (Tf X' lN uN) iN) .base
 have hf:sR K CO "ring" := ⟨x1,x2,x3,g1O,g2O,g3O⟩
 have CX:cS K mg CU CS (.ref CE::Np) (.ref CE::Np):=⟨exU,bE,ixU,MX X G aXU,exS,bE,ixS,MX X G aXS,Uj csU tyU beU sUU,Uj csU tyU beU sSU⟩
 have GF4:Wq l.prog w K mg 4 f14 _ ["self","name","elders"] (Oe CB CH):=λbase _ _=>by
  have GM:Aj l.prog w K mg base Bh 2 f1 _ ["rows","labels"] Qi:=iB F1 Tx F2 b2 (MX X G a2) F3 b3 (MX X G a3) F4 b4 (MX X G a4)
  have G5:Aj l.prog w K mg base Bh 3 f5 _ ["name","elders","orders"] Yu:=rT F5 Tx GM u1.2.2 b1 (MX X G a1)
  have G6:Aj l.prog w K mg base Bh 1 f6 _ ["value"] Hb:=Sf F6 Tx
  have G12:Aj l.prog w K mg base Bh 1 f12 _ ["self","elder_row","order_row"] (Ma CH):=Xu F12 T
  have G18:Aj l.prog w K mg base Bh 1 f18 _ ["self","name"] (Ic CB CH):=Xq F18 T
  have G16:Aj l.prog w K mg base Bh 2 f16 _ ["self","name"] (Ep CB CH):=Wf F16 T Tx G18 b18 ⟨m18.1,m18.2,u18.2.2⟩
  exact jQ F14 T Tx G16 b16 ⟨m16.1,m16.2,u16.2.2⟩ G6 u6.2.2 b6 (MX X G a6) G5 u5.2.2 b5 (MX X G a5) G12 b12 ⟨pkH.2.2.2.2.1,m12.1,m12.2,pkH.2.2.2.2.2⟩
 refine⟨fnOf "law" "law" (Dz Ey) (Bg Ey) (Ae Ey) .none kV11 dc11 pm11 an11 cd11 ct11,λs v=>.of_eq rfl,λbase _ _=>?_⟩
 have G30:Aj l.prog w K mg base Jh 2 f30 _ ["rests","labels"] aY:=vD F30 Tx F31 b31 (MX X G a31) F32 b32 (MX X G a32)
 have GM:Aj l.prog w K mg base (Hc l.prog w) 3 f1 _ ["rows","labels"] (Ml CO):=Yz F1 Tx F2 b2 (MX X G a2) F3 b3 (MX X G a3) F4 b4 (MX X G a4) G30 u30.2.2 b30 (MX X G a30) F99 b99 (MX X G aXO) exO hf bE iC nC
 have G5:Aj l.prog w K mg base (Hc l.prog w) 4 f5 _ ["name","elders","orders"] (Ul CO):=oQ F5 Tx GM u1.2.2 b1 (MX X G a1)
 have G6:Aj l.prog w K mg base Bh 1 f6 _ ["value"] Hb:=Sf F6 Tx
 have G12:Aj l.prog w K mg base Bh 1 f12 _ ["self","elder_row","order_row"] (Ma CH):=Xu F12 T
 have G13:Aj l.prog w K mg base Bh 1 f13 _ ["self"] (Ug CB):=pX F13 T
 have G18:Aj l.prog w K mg base Bh 1 f18 _ ["self","name"] (Ic CB CH):=Xq F18 T
 have G16:Aj l.prog w K mg base Bh 2 f16 _ ["self","name"] (Ep CB CH):=Wf F16 T Tx G18 b18 ⟨m18.1,m18.2,u18.2.2⟩
 have G14:Aj l.prog w K mg base (Hc l.prog w) 5 f14 _ ["self","name","elders"] (Ly CB CH CO):=iQ F14 T Tx G16 b16 ⟨m16.1,m16.2,u16.2.2⟩ G6 u6.2.2 b6 (MX X G a6) G5 u5.2.2 b5 (MX X G a5) G12 b12 ⟨pkH.2.2.2.2.1,m12.1,m12.2,pkH.2.2.2.2.2⟩
 have G7:Aj l.prog w K mg base Bh 1 f7 _ ["_law_script","_law_k"] (Jb K):=vC F7 Tx
 have G8:Aj l.prog w K mg base Bh 1 f8 _ ["_law_k","_law_cell"] Mp:=uH F8 Tx
 have G19:Aj l.prog w K mg base Bh 1 f19 _ ["value","least","most"] Mf:=nN F19 Tx
 have G20:Aj l.prog w K mg base Bh 2 f20 _ ["value"] Lj:=gT F20 Tx G19 u19.2.2 b19 (MX X G a19)
 have G23:Aj l.prog w K mg base Bh 3 f23 _ ["part","kind"] Zx:=uF F23 Tx G19 u19.2.2 b19 (MX X G a19) G20 u20.2.2 b20 (MX X G a20) G6 u6.2.2 b6 (MX X G a6)
 have G22:Aj l.prog w K mg base Bh 4 f22 _ ["value"] (cK K (AL p0 p1 p2 p3 p4 p5 p6 p7 p8 p9 p10 p11 p12 p13)):=sG F22 Tx Tb (MX X G gP) G23 u23.2.2 b23 (MX X G a23)
 have G21:Aj l.prog w K mg base Bh 5 f21 _ ["value"] (Ps (AL p0 p1 p2 p3 p4 p5 p6 p7 p8 p9 p10 p11 p12 p13)):=jH F21 Tx G22 u22.2.2 b22 (MX X G a22)
 have G26:Aj l.prog w K mg base Bh 6 f26 _ ["self","name","word","body"] (Hj CB CH (AL p0 p1 p2 p3 p4 p5 p6 p7 p8 p9 p10 p11 p12 p13)):=oR F26 T Tx G18 b18 ⟨m18.1,m18.2,u18.2.2⟩ G6 u6.2.2 b6 (MX X G a6) G21 u21.2.2 b21 (MX X G a21)
 have G27:Aj l.prog w K mg base Bh 2 f27 _ ["self","name","word"] (Hw CB CH):=iS F27 T Tx G18 b18 ⟨m18.1,m18.2,u18.2.2⟩
 have G28:Aj l.prog w K mg base Bh 2 f28 _ ["self","name","word"] (Uw CB CH):=vV F28 T Tx G18 b18 ⟨m18.1,m18.2,u18.2.2⟩
 have G40:Aj l.prog w K mg base Bh 3 f40 _ ["number","count"] Ur:=lX F40 Tx G19 u19.2.2 b19 (MX X G a19) G20 u20.2.2 b20 (MX X G a20)
 have G42:Aj l.prog w K mg base Bh 1 f42 _ ["number","sort","amount"] Mo:=Zu F42 Tx
 have G41:Aj l.prog w K mg base Bh 2 f41 _ ["step","number","said"] Vc:=rV F41 Tx G42 u42.2.2 b42 (MX X G a42)
 have G44:Aj l.prog w K mg base Bh 1 f44 _ ["self","book","row","tally"] (Tw CA):=pM F44 TA
 have G48:Aj l.prog w K mg base Bh 1 f48 _ ["self","left"] (Uq CL):=nL F48 TT
 have G51:Aj l.prog w K mg base (Hc l.prog w) 1 f51 _ ["self"] (Oi CL CS):=mX F51 TT CX
 have G52:Sb l.prog w K mg base 1 f52 _ ["self","length"] (Ti CL):=sJ F52 TT
 have G45:Aj l.prog w K mg base (Hc l.prog w) (4 * 41+3) f45 _ ["self","word","place","number"] (Qf CA CL CB CH CU CS 41):=eK F45 b45 ⟨m45.1,m45.2,u45.2.2⟩ F46 b46 ⟨m46.1,m46.2,u46.2.2⟩ F47 b47 ⟨m47.1,m47.2,u47.2.2⟩ F50 b50 ⟨m50.1,m50.2,u50.2.2⟩ G52 b52 ⟨m52.1,m52.2,u52.2.2⟩ G51 b51 ⟨m51.1,m51.2,u51.2.2⟩ TA TT T Tx CX G41 u41.2.2 b41 (MX X G a41) G28 b28 ⟨m28.1,m28.2,u28.2.2⟩ 41
 have G43:Aj l.prog w K mg base (Hc l.prog w) 168 f43 _ ["book","name","word","number","count"] (lJ CB CH CU CS):=zN F43 TA TT T G16 b16 ⟨m16.1,m16.2,u16.2.2⟩ G40 u40.2.2 b40 (MX X G a40) G44 b44 ⟨pkA.2.2.2.2.1,m44.1,m44.2,pkA.2.2.2.2.2⟩ G48 b48 ⟨pkL.2.2.2.2.1,m48.1,m48.2,pkL.2.2.2.2.2⟩ G45 b45 ⟨m45.1,m45.2,u45.2.2⟩
 have G61:Aj l.prog w K mg base Bh 1 f61 _ ["_law_cell","_law_k"] Nt:=nJ F61
 have G62:Aj l.prog w K mg base Bh 1 f62 _ ["_law_words","_law_first","_law_mixed_here"] Qt:=AV F62 Tx (NV X G zab)
 have G63:Aj l.prog w K mg base Bh 3 f63 _ ["_law_words","_law_first","_law_cell"] Jv:=(BI F63 Tx G61 u61.2.2 b61 (MX X G a61) G62 u62.2.2 b62 (MX X G a62)).mono (by decide)
 have G64:Aj l.prog w K mg base Bh 7 f64 _ ["_law_book","_law_names","_law_words","_law_seed"] (Kg CB CH):=cD F64 T Tx Tp G61 u61.2.2 b61 (MX X G a61) G63 u63.2.2 b63 (MX X G a63) G26 b26 ⟨m26.1,m26.2,u26.2.2⟩
 have G60:Aj l.prog w K mg base Jh 6 f60 _ ["_law_book","_law_names","_law_name","_law_cell"] (Kj CB CH):=Zg F60 T Tx (MX X G aXO) (Uj csO tyO beO sOO) G14 GF4 b14_3 ⟨m14.1,m14.2,k14⟩
 have G65:Aj l.prog w K mg base Bh 1 f65 _ ["_law_todo"] Qw:=iZ F65 Tx
 have G66:Aj l.prog w K mg base Bh 1 f66 _ ["_law_known","_law_line","_law_word","_law_start"] Ka:=aC F66 Tx
 have G67:Aj l.prog w K mg base Bh 2 f67 _ ["_law_known","_law_line","_law_step","_law_todo"] Pg:=jJ F67 Tx G66 u66.2.2 b66 (MX X G a66)
 have G68:Aj l.prog w K mg base Bh 1 f68 _ ["_law_step","_law_number"] cF:=uI F68
 have G69:Aj l.prog w K mg base Bh 2 f69 _ ["_law_step","_law_word","_law_at","_law_number","_law_said","_law_todo"] aX:=sW F69 G68 u68.2.2 b68 (MX X G a68)
 have G70:Aj l.prog w K mg base Bh 3 f70 _ ["_law_known","_law_line","_law_word","_law_number","_law_count"] Po:=xM F70 Tx G66 u66.2.2 b66 (MX X G a66) G69 u69.2.2 b69 (MX X G a69) G67 u67.2.2 b67 (MX X G a67) G65 u65.2.2 b65 (MX X G a65)
 have G71:Aj l.prog w K mg base Jh 169 f71 _ ["_law_book","_law_name","_law_word","_law_number","_law_count"] (Lb CB CH):=uZ F71 Tx CX (Uj csS tyS beS sSS) G43 k43 b43_4 b43_5 (MX X G a43)
 have G72:Aj l.prog w K mg base Bh 7 f72 _ ["_law_book","_law_known","_law_name","_law_cell"] (Oy CB CH):=gN F72 T Tx Tp G16 b16 ⟨m16.1,m16.2,u16.2.2⟩ G8 u8.2.2 b8 (MX X G a8) G26 b26 ⟨m26.1,m26.2,u26.2.2⟩
 have G73:Aj l.prog w K mg base Jh 170 f73 _ ["_law_book","_law_known","_law_names","_law_script"] (Ls K CB CH):=pS F73 T Tx G16 b16 ⟨m16.1,m16.2,u16.2.2⟩ G7 u7.2.2 b7 (MX X G a7) G72 u72.2.2 b72 (MX X G a72) G70 u70.2.2 b70 (MX X G a70) G71 u71.2.2 b71 (MX X G a71)
 exact zK F11 T Tx Tp G16 b16 ⟨m16.1,m16.2,u16.2.2⟩ G7 u7.2.2 b7 (MX X G a7) G70 u70.2.2 b70 (MX X G a70) G71 u71.2.2 b71 (MX X G a71) G27 b27 ⟨m27.1,m27.2,u27.2.2⟩ G73 u73.2.2 b73 (MX X G a73) G63 u63.2.2 b63 (MX X G a63) G26 b26 ⟨m26.1,m26.2,u26.2.2⟩ G8 u8.2.2 b8 (MX X G a8) G64 u64.2.2 b64 (MX X G a64) G60 u60.2.2 b60 (MX X G a60) G13 b13 ⟨pkB.2.2.2.2.1,m13.1,m13.2,pkB.2.2.2.2.2⟩
theorem walk{l:PySem.W.OpenLaw}{q:JJ}{loose:List Str}{XP:(Str->Option II)->LO->Prop}{YP:KL->LO->Prop}{d:DefRec}{K:Params->IG}(hn:l.most=some 63)(hdf:d.params.defaults=[])(hY:∀(w:KL)(h:LO),YP w h->(K w.params).In h)(F:∀(w:KL)(mg:Str->Option II)(fa:IN)(h:LO),(K w.params).In h->h.Ns KE mg->mg d.name=some (.ref fa) ->
  ∃fd:JW,(∀(s:IL)(u:II),BindsTo s fd ⟨[u],[]⟩ [("_law_script", u)])/\∀base:LO,(K w.params).In base->base.Ns KE mg->Aj l.prog w (K w.params) mg base Jh 171 fa fd ["_law_script"] (eA (K w.params))):
 PySem.W.WalkO q loose XP YP l.row.toRowW d [] (λf vs=>PySem.call f vs):=
 L2.uU (n:=63) (k:=171) (x := "_law_script") (CX:=λ_=>Jh) (sp:=λw=>eA (K w.params)) hn (by decide) hdf ⟨by decide,by decide⟩ hY F (λ_ _ a ns hl _ hS=>⟨a,ns,rfl,hS,hl,λ_=>rfl⟩) λ_ _ _ _ _ z=>z
end Bk
end
set_option Elab.async false
set_option linter.all false
namespace PySem.W.Fast
theorem tw6707589741393311782:True:=⟨⟩
theorem tw4300136874184903528:True:=⟨⟩
theorem tw72093680840722308:True:=⟨⟩
theorem tw1095829126749006546:True:=⟨⟩
theorem tw8613422473977031461:True:=⟨⟩
theorem tw4686078580470576621:True:=⟨⟩
theorem tw16528815947956863543:True:=⟨⟩
theorem tw16112543822815585220:True:=⟨⟩
theorem tw6954618239268002959:True:=⟨⟩
theorem tw12438323965039852588:True:=⟨⟩
theorem tw12848393484778471163:True:=⟨⟩
theorem tw3757282239822508131:True:=⟨⟩
theorem tw12120739903246486086:True:=⟨⟩
theorem tw16837786693757415228:True:=⟨⟩
theorem tw10996238498566114590:True:=⟨⟩
theorem tw9623426180449074337:True:=⟨⟩
theorem tw18435895453385399741:True:=⟨⟩
theorem tw12864194060287746168:True:=⟨⟩
theorem tw18399302654007541305:True:=⟨⟩
theorem tw2604365590654398853:True:=⟨⟩
theorem tw1807814002053093793:True:=⟨⟩
theorem tw4783836901023515402:True:=⟨⟩
theorem tw11519633922547890626:True:=⟨⟩
theorem tw17987815872428772128:True:=⟨⟩
theorem tw11360293229533415367:True:=⟨⟩
theorem tw9260647727534390511:True:=⟨⟩
theorem tw13480811136363068252:True:=⟨⟩
theorem tw15038303307142502497:True:=⟨⟩
theorem tw12309456617231298463:True:=⟨⟩
theorem tw2134098312838362292:True:=⟨⟩
theorem tw17678902912958960460:True:=⟨⟩
theorem tw6841221711584725455:True:=⟨⟩
theorem tw7378897863820438117:True:=⟨⟩
theorem tw17523697741120595709:True:=⟨⟩
theorem tw4192589944387795482:True:=⟨⟩
theorem tw13403560260349197259:True:=⟨⟩
theorem tw15218084584504153559:True:=⟨⟩
theorem tw7351413186377616003:True:=⟨⟩
theorem tw1756468942293490600:True:=⟨⟩
theorem tw14768318768224059414:True:=⟨⟩
theorem tw11742395252451423060:True:=⟨⟩
theorem tw11983964954297980380:True:=⟨⟩
theorem tw2627458877430156874:True:=⟨⟩
theorem tw6500883987765512604:True:=⟨⟩
theorem tw16329769545246803596:True:=⟨⟩
theorem tw3507104775663087901:True:=⟨⟩
theorem tw8617071899511845707:True:=⟨⟩
theorem tw1560765548071000318:True:=⟨⟩
theorem tw12924785699158058171:True:=⟨⟩
theorem tw14668541890576910732:True:=⟨⟩
theorem tw3055504169737925850:True:=⟨⟩
theorem tw8952383265790096642:True:=⟨⟩
theorem tw3483132206837964934:True:=⟨⟩
theorem tw15170665366603994622:True:=⟨⟩
theorem tw2339071444687727928:True:=⟨⟩
theorem tw15999080268651945947:True:=⟨⟩
theorem tw4241595015547066127:True:=⟨⟩
theorem tw16954394367731889008:True:=⟨⟩
theorem tw16868322039587444702:True:=⟨⟩
theorem tw12447255085392069474:True:=⟨⟩
theorem tw16859987518053536977:True:=⟨⟩
theorem tw9589793231172075999:True:=⟨⟩
theorem tw15457650687176502324:True:=⟨⟩
theorem tw12463602025644538693:True:=⟨⟩
theorem tw2408839809594361635:True:=⟨⟩
theorem tw16164460455688087205:True:=⟨⟩
theorem tw8748732745873844536:True:=⟨⟩
theorem tw2390851823445310225:True:=⟨⟩
theorem tw3789830542097020060:True:=⟨⟩
theorem tw11000212127770912359:True:=⟨⟩
theorem tw5977432966742390168:True:=⟨⟩
theorem tw2096455451114077666:True:=⟨⟩
theorem tw3355771470919190796:True:=⟨⟩
theorem tw1135200151522236848:True:=⟨⟩
theorem tw15439528376116714376:True:=⟨⟩
theorem tw6877614980560913436:True:=⟨⟩
theorem tw14319900119497573308:True:=⟨⟩
theorem tw16061202631357572215:True:=⟨⟩
theorem tw863998178065074122:True:=⟨⟩
theorem tw6158484189973715483:True:=⟨⟩
theorem tw4829559409138071203:True:=⟨⟩
theorem tw17579689566430799420:True:=⟨⟩
theorem tw6307338976017777480:True:=⟨⟩
theorem tw10848386030232203812:True:=⟨⟩
theorem tw3801963523681098914:True:=⟨⟩
theorem tw2618856098238489918:True:=⟨⟩
theorem tw15729197983966619635:True:=⟨⟩
theorem tw8451001413345863101:True:=⟨⟩
theorem tw17884061675806578006:True:=⟨⟩
theorem tw16689663735964621795:True:=⟨⟩
theorem tw18071257672651125018:True:=⟨⟩
theorem tw3380354353598017024:True:=⟨⟩
theorem tw7364239809574820441:True:=⟨⟩
theorem tw2755484220598575099:True:=⟨⟩
theorem tw12823050107885486438:True:=⟨⟩
theorem tw16272814356686553727:True:=⟨⟩
theorem tw552746601891880115:True:=⟨⟩
theorem tw8192031781753478909:True:=⟨⟩
theorem tw18064452573741464597:True:=⟨⟩
theorem tw11194016785325914899:True:=⟨⟩
theorem tw12931084748015211582:True:=⟨⟩
theorem tw11062420661203360431:True:=⟨⟩
theorem tw1094825703604126128:True:=⟨⟩
theorem tw16549930084281057585:True:=⟨⟩
theorem tw12568916858341275354:True:=⟨⟩
theorem tw5921212959373963953:True:=⟨⟩
theorem tw14899938354098515031:True:=⟨⟩
theorem tw552107522296947089:True:=⟨⟩
theorem tw14807246695829900031:True:=⟨⟩
theorem tw163619514251753251:True:=⟨⟩
theorem tw11987540161455297020:True:=⟨⟩
theorem tw4965070920690026894:True:=⟨⟩
theorem tw15777525005007127254:True:=⟨⟩
theorem tw16779667242186337240:True:=⟨⟩
theorem tw12878376991534596689:True:=⟨⟩
theorem tw11703307890000485554:True:=⟨⟩
theorem tw9514295634099180277:True:=⟨⟩
theorem tw16754938413064426965:True:=⟨⟩
theorem tw16531913431729744293:True:=⟨⟩
theorem tw10454613961072082676:True:=⟨⟩
theorem tw12296142445975141460:True:=⟨⟩
theorem tw16871529793252695209:True:=⟨⟩
theorem tw10721715108179760005:True:=⟨⟩
theorem tw3605345811855648761:True:=⟨⟩
theorem tw15723823599592550673:True:=⟨⟩
theorem tw5108420559744172232:True:=⟨⟩
theorem tw12041751250409125699:True:=⟨⟩
theorem tw8408046040936886370:True:=⟨⟩
theorem tw13659416958587438669:True:=⟨⟩
theorem tw5893592988426714833:True:=⟨⟩
theorem tw5142830377508548492:True:=⟨⟩
theorem tw6011059121402741310:True:=⟨⟩
theorem tw2622413666887434505:True:=⟨⟩
theorem tw6139755086774238425:True:=⟨⟩
theorem tw10873574861916332093:True:=⟨⟩
theorem tw2172493119853690205:True:=⟨⟩
theorem tw7167041849354541858:True:=⟨⟩
theorem tw5430548290714042304:True:=⟨⟩
theorem tw17637685374101669933:True:=⟨⟩
theorem tw11370400536545012195:True:=⟨⟩
theorem tw13403043955916013859:True:=⟨⟩
theorem tw11936949922089250469:True:=⟨⟩
theorem tw4629599919539517604:True:=⟨⟩
theorem tw2914109304488656437:True:=⟨⟩
theorem tw1194916186633016998:True:=⟨⟩
theorem tw865885865620062821:True:=⟨⟩
theorem tw7383086432458080062:True:=⟨⟩
theorem tw96233629386552008:True:=⟨⟩
theorem tw14678832975230932655:True:=⟨⟩
theorem tw13607925700254379932:True:=⟨⟩
theorem tw6292865295134514357:True:=⟨⟩
theorem tw3776517039285853192:True:=⟨⟩
theorem tw11995171787269940054:True:=⟨⟩
theorem tw14602651277621440067:True:=⟨⟩
theorem tw15089143450629993469:True:=⟨⟩
theorem tw944902544805313681:True:=⟨⟩
theorem tw13571481871203337748:True:=⟨⟩
theorem tw3974007762565484252:True:=⟨⟩
theorem tw1017257838224872282:True:=⟨⟩
theorem tw8380119194235467064:True:=⟨⟩
theorem tw4756046329821940084:True:=⟨⟩
theorem tw8783676355967534444:True:=⟨⟩
theorem tw12875384734807177969:True:=⟨⟩
theorem tw10914437115543732263:True:=⟨⟩
theorem tw10523037984747281245:True:=⟨⟩
theorem tw12480936906471244948:True:=⟨⟩
theorem tw5289771825059040078:True:=⟨⟩
theorem tw14388078864814444779:True:=⟨⟩
theorem tw17988213501983819268:True:=⟨⟩
theorem tw16246955008021025205:True:=⟨⟩
theorem tw17760449770606666396:True:=⟨⟩
theorem tw10461990868394633474:True:=⟨⟩
theorem tw16447433421530584387:True:=⟨⟩
theorem tw9552149484508927862:True:=⟨⟩
theorem tw12685987435354978043:True:=⟨⟩
theorem tw17206270831360125413:True:=⟨⟩
theorem tw2027597305575874474:True:=⟨⟩
theorem tw584842132270757230:True:=⟨⟩
theorem tw2830721006122540232:True:=⟨⟩
theorem tw15962670417866688954:True:=⟨⟩
theorem tw15004232594043717551:True:=⟨⟩
theorem tw10701093766795083134:True:=⟨⟩
theorem tw11040747309740547154:True:=⟨⟩
theorem tw12435471333229621616:True:=⟨⟩
theorem tw615586800797394311:True:=⟨⟩
theorem tw10311787721035669980:True:=⟨⟩
theorem tw8612410577533748858:True:=⟨⟩
theorem tw9475880349695458964:True:=⟨⟩
theorem tw16257084594837816528:True:=⟨⟩
theorem tw863987189086408798:True:=⟨⟩
theorem tw7194308521319336034:True:=⟨⟩
theorem tw17489659087059317891:True:=⟨⟩
theorem tw10377060954614318293:True:=⟨⟩
theorem tw14718809690630437574:True:=⟨⟩
theorem tw10355525999401066635:True:=⟨⟩
theorem tw15321037289801490599:True:=⟨⟩
theorem tw2784685351550563069:True:=⟨⟩
theorem tw3024052107639883689:True:=⟨⟩
theorem tw2781612365746402948:True:=⟨⟩
theorem tw9508323798780244627:True:=⟨⟩
theorem tw7810302855969344822:True:=⟨⟩
theorem tw1757447946286532909:True:=⟨⟩
theorem tw7851124552655967478:True:=⟨⟩
theorem tw8482679027493012192:True:=⟨⟩
theorem tw650465085278650635:True:=⟨⟩
theorem tw11570248408135394418:True:=⟨⟩
theorem tw12940116025509809329:True:=⟨⟩
theorem tw9438183993026449190:True:=⟨⟩
theorem tw8365564892227769504:True:=⟨⟩
theorem tw29357900348853259:True:=⟨⟩
theorem tw17227356100980259831:True:=⟨⟩
theorem tw11145187066163631910:True:=⟨⟩
theorem tw9347588567458120374:True:=⟨⟩
theorem tw6187911388444058146:True:=⟨⟩
theorem tw11627847876808576399:True:=⟨⟩
theorem tw10100398813415667458:True:=⟨⟩
theorem tw6706397573704530340:True:=⟨⟩
theorem tw1535528518725164399:True:=⟨⟩
theorem tw14641888004389958448:True:=⟨⟩
theorem tw17837208338136108384:True:=⟨⟩
theorem tw4181548490065025354:True:=⟨⟩
theorem tw12051170192003900386:True:=⟨⟩
theorem tw5698143977006065964:True:=⟨⟩
theorem tw8516330832632499537:True:=⟨⟩
theorem tw13010346086235235089:True:=⟨⟩
theorem tw2177345048269414681:True:=⟨⟩
theorem tw16287655496104369323:True:=⟨⟩
theorem tw18126327269425173583:True:=⟨⟩
theorem tw5360263947971754589:True:=⟨⟩
theorem tw8976893531960517578:True:=⟨⟩
theorem tw17058629564504268102:True:=⟨⟩
theorem tw18278803128229749373:True:=⟨⟩
theorem tw9155544886322105472:True:=⟨⟩
theorem tw17104531205548104706:True:=⟨⟩
theorem tw5551767729790229838:True:=⟨⟩
theorem tw10282131185443412821:True:=⟨⟩
theorem tw12994923374019990879:True:=⟨⟩
theorem tw17808400230204542533:True:=⟨⟩
theorem tw4465034011944072292:True:=⟨⟩
theorem tw7049037988418855099:True:=⟨⟩
theorem tw17881951133415145786:True:=⟨⟩
theorem tw12351094126956370123:True:=⟨⟩
theorem tw12113219557585124091:True:=⟨⟩
theorem tw10267583508684171575:True:=⟨⟩
theorem tw13536920902585193327:True:=⟨⟩
theorem tw1992876542829707954:True:=⟨⟩
theorem tw7713161603239766161:True:=⟨⟩
theorem tw4336648115075993605:True:=⟨⟩
theorem tw8016757315378089476:True:=⟨⟩
theorem tw742761808606860110:True:=⟨⟩
theorem tw4004672160375270016:True:=⟨⟩
theorem tw1841477656930655803:True:=⟨⟩
theorem tw8148189122029090429:True:=⟨⟩
theorem tw14758570312719881367:True:=⟨⟩
theorem tw7592618118217424041:True:=⟨⟩
theorem tw7044588535674827003:True:=⟨⟩
theorem tw14888246723281223242:True:=⟨⟩
theorem tw14661653627249006822:True:=⟨⟩
theorem tw9150884274012379722:True:=⟨⟩
theorem tw2296586369079402269:True:=⟨⟩
theorem tw2828756900901333953:True:=⟨⟩
theorem tw4662869974986858986:True:=⟨⟩
theorem tw10231255042625606072:True:=⟨⟩
theorem tw10535621706812374396:True:=⟨⟩
theorem tw15327470743878310687:True:=⟨⟩
theorem tw7994072128676272686:True:=⟨⟩
theorem tw3393603080263298273:True:=⟨⟩
theorem tw5613911403799378152:True:=⟨⟩
theorem tw9555197096107140257:True:=⟨⟩
theorem tw10124780399690190539:True:=⟨⟩
theorem tw15781737212803968298:True:=⟨⟩
theorem tw18049875673965105155:True:=⟨⟩
theorem tw14279289868573903332:True:=⟨⟩
theorem tw10875476250700235311:True:=⟨⟩
theorem tw13186141999502924031:True:=⟨⟩
theorem tw6921939337583162812:True:=⟨⟩
theorem tw13826650278123492534:True:=⟨⟩
theorem tw3631370011501380824:True:=⟨⟩
theorem tw17609178031428473476:True:=⟨⟩
theorem tw13082393506768221359:True:=⟨⟩
theorem tw6700459454257826842:True:=⟨⟩
theorem tw1666161386662613526:True:=⟨⟩
theorem tw13061177930315132039:True:=⟨⟩
theorem tw1662926320025358761:True:=⟨⟩
theorem tw15517700389451173996:True:=⟨⟩
theorem tw10108900954582699683:True:=⟨⟩
theorem tw14218442110819351112:True:=⟨⟩
theorem tw12454119056924758509:True:=⟨⟩
theorem tw12212155441982559388:True:=⟨⟩
theorem tw3419241837719130957:True:=⟨⟩
theorem tw13879750269386796705:True:=⟨⟩
theorem tw4403421904107292070:True:=⟨⟩
theorem tw4865394896443465546:True:=⟨⟩
theorem tw10933511882083252387:True:=⟨⟩
theorem tw2691668061199745123:True:=⟨⟩
theorem tw14507382671596616655:True:=⟨⟩
theorem tw798697041017191241:True:=⟨⟩
theorem tw7396549399036580066:True:=⟨⟩
theorem tw11486475468083688458:True:=⟨⟩
theorem tw8771495492077173871:True:=⟨⟩
theorem tw6300548690969283253:True:=⟨⟩
theorem tw2420342095702532366:True:=⟨⟩
theorem tw6966588061845329592:True:=⟨⟩
theorem tw8555531624987713046:True:=⟨⟩
theorem tw5908889302039084231:True:=⟨⟩
theorem tw4892368749269231368:True:=⟨⟩
theorem tw7481200977726558634:True:=⟨⟩
theorem tw13269334025952133356:True:=⟨⟩
theorem tw8062454018716919069:True:=⟨⟩
theorem tw1309791315467801596:True:=⟨⟩
theorem tw13184932127833280228:True:=⟨⟩
theorem tw10042325570863259843:True:=⟨⟩
theorem tw14725935080964069357:True:=⟨⟩
theorem tw17725273604892269299:True:=⟨⟩
theorem tw14157133233665290785:True:=⟨⟩
theorem tw11900513534048456248:True:=⟨⟩
theorem tw2237292882828261909:True:=⟨⟩
theorem tw8648468742142151586:True:=⟨⟩
theorem tw5298071243251958418:True:=⟨⟩
theorem tw15629494966486191912:True:=⟨⟩
theorem tw6741205421555662237:True:=⟨⟩
theorem tw16473813836568271325:True:=⟨⟩
theorem tw4298102134190784077:True:=⟨⟩
theorem tw7412125241615759599:True:=⟨⟩
theorem tw14615650263686330680:True:=⟨⟩
theorem tw1837992020720304317:True:=⟨⟩
theorem tw9615338865544063323:True:=⟨⟩
theorem tw3139999960208925946:True:=⟨⟩
theorem tw12047688171798952729:True:=⟨⟩
end PySem.W.Fast
open PySem PySem.W PyProof.Rows
set_option maxHeartbeats 0 in
theorem PySem.Challenge.cw_elderline_k07_asked_holds : PySem.Challenge.rw_elderline_k07_asked.Holds := by
  w_on; o_law; k_head; (case hw => w_witness2)
  k_fill
  refine Bk.walk (l := PySem.Challenge.rw_elderline_k07_asked) rfl rfl (fun w h Y => PySem.W.kIn_of Y) ?F
  case F =>
    intro w mg fa h KX G hmg
    refine' Bk.xI KX G hmg ?aCB ?pkB ?nB_by_name ?aCH ?pkH ?nH_elder_row ?nH_order_row ?nH_bodies ?aCA ?pkA ?nA_book ?nA_row ?nA_tally ?aCL ?pkL ?nL_left ?nL_said ?a1 ?u1 ?a2 ?u2 ?a3 ?u3 ?a4 ?u4 ?a5 ?u5 ?a6 ?u6 ?a7 ?u7 ?a8 ?u8 ?a11 ?u11 ?m12 ?u12 ?m13 ?u13 ?m14 ?l14 ?c14 ?k14 ?lT14 ?m16 ?u16 ?m18 ?u18 ?a19 ?u19 ?a20 ?u20 ?a21 ?u21 ?a22 ?u22 ?a23 ?u23 ?m26 ?u26 ?m27 ?u27 ?m28 ?u28 ?a30 ?u30 ?a31 ?u31 ?a32 ?u32 ?a40 ?u40 ?a41 ?u41 ?a42 ?u42 ?a43 ?l43 ?c43 ?k43 ?lT43 ?m44 ?u44 ?m45 ?u45 ?m46 ?u46 ?m47 ?u47 ?m50 ?u50 ?m48 ?u48 ?m51 ?u51 ?m52 ?u52 ?a60 ?u60 ?a61 ?u61 ?a62 ?u62 ?a63 ?u63 ?a64 ?u64 ?a65 ?u65 ?a66 ?u66 ?a67 ?u67 ?a68 ?u68 ?a69 ?u69 ?a70 ?u70 ?a71 ?u71 ?a72 ?u72 ?a73 ?u73 ?z1 ?z2 ?z3 ?z4 ?z5 ?z6 ?z7 ?z8 ?z9 ?z10 ?z11 ?z12 ?z13 ?z14 ?z15 ?gP ?aXO ?aXU ?aXS ?zab ?aE ?lP ?hes ?smP ?q0 ?q1 ?q2 ?q3 ?q4 ?q5 ?q6 ?q7 ?q8 ?q9 ?q10 ?q11 ?q12 ?q13 ?lXO ?kXO ?hbmO ?lXU ?kXU ?hbmU ?ixU ?lXS ?kXS ?hbmS ?ixS ?csO ?tyO ?beO ?sOO ?csU ?tyU ?beU ?sUU ?csS ?tyS ?beS ?sSS ?sSU ?lB ?hB ?lN ?uN ?iN ?iC ?nC ?l99 ?c99 ?k99 ?x1 ?x2 ?x3 ?g1O ?g2O ?g3O
    (case aCB => k_is)
    (case pkB => exact ⟨by k_is, by k_is, by k_is, by k_is, by k_is, by k_is⟩)
    (case nB_by_name | aCH => k_is)
    (case pkH => exact ⟨by k_is, by k_is, by k_is, by k_is, by k_is, by k_is⟩)
    (case nH_elder_row | nH_order_row | nH_bodies | aCA => k_is)
    (case pkA => exact ⟨by k_is, by k_is, by k_is, by k_is, by k_is, by k_is⟩)
    (case nA_book | nA_row | nA_tally | aCL => k_is)
    (case pkL => exact ⟨by k_is, by k_is, by k_is, by k_is, by k_is, by k_is⟩)
    (case nL_left | nL_said => k_is)
    (case a1 => show _ = _; k_is)
    (case u1 => exact ⟨by k_is, by k_is, by k_is⟩)
    (case a2 => show _ = _; k_is)
    (case u2 => exact ⟨by k_is, by k_is, by k_is⟩)
    (case a3 => show _ = _; k_is)
    (case u3 => exact ⟨by k_is, by k_is, by k_is⟩)
    (case a4 => show _ = _; k_is)
    (case u4 => exact ⟨by k_is, by k_is, by k_is⟩)
    (case a5 => show _ = _; k_is)
    (case u5 => exact ⟨by k_is, by k_is, by k_is⟩)
    (case a6 => show _ = _; k_is)
    (case u6 => exact ⟨by k_is, by k_is, by k_is⟩)
    (case a7 => show _ = _; k_is)
    (case u7 => exact ⟨by k_is, by k_is, by k_is⟩)
    (case a8 => show _ = _; k_is)
    (case u8 => exact ⟨by k_is, by k_is, by k_is⟩)
    (case a11 => show _ = _; k_is)
    (case u11 => exact ⟨by k_is, by k_is, by k_is⟩)
    (case m12 => exact ⟨by k_is, by k_is⟩)
    (case u12 => exact ⟨by k_is, by k_is, by k_is⟩)
    (case m13 => exact ⟨by k_is, by k_is⟩)
    (case u13 => exact ⟨by k_is, by k_is, by k_is⟩)
    (case m14 => exact ⟨by k_is, by k_is⟩)
    (case l14 | c14 | k14 | lT14 => k_is)
    (case m16 => exact ⟨by k_is, by k_is⟩)
    (case u16 => exact ⟨by k_is, by k_is, by k_is⟩)
    (case m18 => exact ⟨by k_is, by k_is⟩)
    (case u18 => exact ⟨by k_is, by k_is, by k_is⟩)
    (case a19 => show _ = _; k_is)
    (case u19 => exact ⟨by k_is, by k_is, by k_is⟩)
    (case a20 => show _ = _; k_is)
    (case u20 => exact ⟨by k_is, by k_is, by k_is⟩)
    (case a21 => show _ = _; k_is)
    (case u21 => exact ⟨by k_is, by k_is, by k_is⟩)
    (case a22 => show _ = _; k_is)
    (case u22 => exact ⟨by k_is, by k_is, by k_is⟩)
    (case a23 => show _ = _; k_is)
    (case u23 => exact ⟨by k_is, by k_is, by k_is⟩)
    (case m26 => exact ⟨by k_is, by k_is⟩)
    (case u26 => exact ⟨by k_is, by k_is, by k_is⟩)
    (case m27 => exact ⟨by k_is, by k_is⟩)
    (case u27 => exact ⟨by k_is, by k_is, by k_is⟩)
    (case m28 => exact ⟨by k_is, by k_is⟩)
    (case u28 => exact ⟨by k_is, by k_is, by k_is⟩)
    (case a30 => show _ = _; k_is)
    (case u30 => exact ⟨by k_is, by k_is, by k_is⟩)
    (case a31 => show _ = _; k_is)
    (case u31 => exact ⟨by k_is, by k_is, by k_is⟩)
    (case a32 => show _ = _; k_is)
    (case u32 => exact ⟨by k_is, by k_is, by k_is⟩)
    (case a40 => show _ = _; k_is)
    (case u40 => exact ⟨by k_is, by k_is, by k_is⟩)
    (case a41 => show _ = _; k_is)
    (case u41 => exact ⟨by k_is, by k_is, by k_is⟩)
    (case a42 => show _ = _; k_is)
    (case u42 => exact ⟨by k_is, by k_is, by k_is⟩)
    (case a43 => show _ = _; k_is)
    (case l43 | c43 | k43 | lT43 => k_is)
    (case m44 => exact ⟨by k_is, by k_is⟩)
    (case u44 => exact ⟨by k_is, by k_is, by k_is⟩)
    (case m45 => exact ⟨by k_is, by k_is⟩)
    (case u45 => exact ⟨by k_is, by k_is, by k_is⟩)
    (case m46 => exact ⟨by k_is, by k_is⟩)
    (case u46 => exact ⟨by k_is, by k_is, by k_is⟩)
    (case m47 => exact ⟨by k_is, by k_is⟩)
    (case u47 => exact ⟨by k_is, by k_is, by k_is⟩)
    (case m50 => exact ⟨by k_is, by k_is⟩)
    (case u50 => exact ⟨by k_is, by k_is, by k_is⟩)
    (case m48 => exact ⟨by k_is, by k_is⟩)
    (case u48 => exact ⟨by k_is, by k_is, by k_is⟩)
    (case m51 => exact ⟨by k_is, by k_is⟩)
    (case u51 => exact ⟨by k_is, by k_is, by k_is⟩)
    (case m52 => exact ⟨by k_is, by k_is⟩)
    (case u52 => exact ⟨by k_is, by k_is, by k_is⟩)
    (case a60 => show _ = _; k_is)
    (case u60 => exact ⟨by k_is, by k_is, by k_is⟩)
    (case a61 => show _ = _; k_is)
    (case u61 => exact ⟨by k_is, by k_is, by k_is⟩)
    (case a62 => show _ = _; k_is)
    (case u62 => exact ⟨by k_is, by k_is, by k_is⟩)
    (case a63 => show _ = _; k_is)
    (case u63 => exact ⟨by k_is, by k_is, by k_is⟩)
    (case a64 => show _ = _; k_is)
    (case u64 => exact ⟨by k_is, by k_is, by k_is⟩)
    (case a65 => show _ = _; k_is)
    (case u65 => exact ⟨by k_is, by k_is, by k_is⟩)
    (case a66 => show _ = _; k_is)
    (case u66 => exact ⟨by k_is, by k_is, by k_is⟩)
    (case a67 => show _ = _; k_is)
    (case u67 => exact ⟨by k_is, by k_is, by k_is⟩)
    (case a68 => show _ = _; k_is)
    (case u68 => exact ⟨by k_is, by k_is, by k_is⟩)
    (case a69 => show _ = _; k_is)
    (case u69 => exact ⟨by k_is, by k_is, by k_is⟩)
    (case a70 => show _ = _; k_is)
    (case u70 => exact ⟨by k_is, by k_is, by k_is⟩)
    (case a71 => show _ = _; k_is)
    (case u71 => exact ⟨by k_is, by k_is, by k_is⟩)
    (case a72 => show _ = _; k_is)
    (case u72 => exact ⟨by k_is, by k_is, by k_is⟩)
    (case a73 => show _ = _; k_is)
    (case u73 => exact ⟨by k_is, by k_is, by k_is⟩)
    (case z1 | z2 | z3 | z4 | z5 | z6 | z7 | z8 | z9 | z10 | z11 | z12 | z13 | z14 | z15 | gP | aXO | aXU | aXS | zab | aE | lP => k_is)
    (case hes => rfl)
    (case smP => rfl)
    (case q0 | q1 | q2 | q3 | q4 | q5 | q6 | q7 | q8 | q9 | q10 | q11 | q12 | q13 | lXO | kXO => k_is)
    (case hbmO => rfl)
    (case lXU | kXU => k_is)
    (case hbmU => rfl)
    (case ixU | lXS | kXS => k_is)
    (case hbmS => rfl)
    (case ixS | csO | tyO | beO | sOO | csU | tyU | beU | sUU | csS | tyS | beS | sSS | sSU | lB => k_is)
    (case hB => rfl)
    (case lN => k_is)
    (case uN => rfl)
    (case iN | iC | nC | l99 | c99 | k99 | x1 | x2 | x3 | g1O | g2O | g3O => k_is)

